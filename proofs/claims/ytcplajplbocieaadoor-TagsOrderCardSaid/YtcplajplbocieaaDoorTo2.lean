/- TagsOrder: called with any arguments. Conditions: the listed table. -/
import Derived.Test.YtcplajplbocieaaDoorTo1
namespace Go.Proofs.YtcplajplbocieaaDoor
open Go.RowKit Go.Sort Go.Lib
set_option maxRecDepth 100000 in
theorem order_long (a b c : Tg) (ao : Option Addr) (n cap : Nat) (hl : 20 < n) (w : World) (ht : Tabs w) :
    Calls Tryd.prog 4 #[.agg (encT a).toArray, .agg (encT b).toArray, .agg (encT c).toArray, .slice ao n cap] w (Grew (.bool true) w) := by
  obtain ⟨ak, sa, an⟩ := a
  obtain ⟨bk, sb, bn⟩ := b
  obtain ⟨ck, sc, cn⟩ := c
  simp only [encT]
  have H0 := Lib.hid (fun (w' : World) (hb : Below w.heap.size w w') => first_any w' (var_below hb (g := 1) (by kernel_rfl) ht))
  have HB : Hid (Below w.heap.size w (((w.alloc (.cells #[.int .i64 ak, .string sa, .int .i64 an] 23)).alloc (.cells #[.int .i64 bk, .string sb, .int .i64 bn] 23)).alloc (.cells #[.int .i64 ck, .string sc, .int .i64 cn] 23))) := Lib.hid ((((Below.refl _ w).alloc (Nat.le_refl _) _).alloc (by simp) _).alloc (by simp; omega) _)
  have hlz : (20 : Int) < (n : Int) := by omega
  clear hl
  go_enter Tryd.func4, Tryd.ntmps4
  go_wp2_with (go_at_call 7; refine (H0.out _ HB.out).mono ?_; rintro e w0 ⟨rfl, hb0⟩)
  apply bodyPost_ret
  case hr => exact results_tmp rfl _ _ _
  case hd => rfl
  case hR => exact ⟨rfl, HB.out.trans (hb0.mono HB.out.size)⟩
theorem tagsOrder_any (v0 v1 v2 : Value) (ao : Option Addr) (l : List Tg) (cap : Nat) (hx : (ao = none → cap = 0) ∧ l.length ≤ reach ∧ ∀ x ∈ l, okT x) (W : World) (h0 : ∃ y : Tg, v0 = .agg (encT y).toArray ∧ okT y) (h1 : ∃ y : Tg, v1 = .agg (encT y).toArray ∧ okT y) (h2 : ∃ y : Tg, v2 = .agg (encT y).toArray ∧ okT y) (h3 : TgAt W ao l) (ht : Tabs W) :
    Calls Tryd.prog 4 #[v0, v1, v2, .slice ao l.length cap] W (Grew (.bool true) W) := by
  obtain ⟨⟨ak, sa, an⟩, rfl, ha⟩ := h0
  obtain ⟨⟨bk, sb, bn⟩, rfl, hb⟩ := h1
  obtain ⟨⟨ck, sc, cn⟩, rfl, _⟩ := h2
  rcases Nat.lt_or_ge 20 l.length with hl | hl
  · exact order_long _ _ _ ao l.length cap hl W ht
  · exact order_core ak an bk bn ck cn sa sb sc ao cap l hl ha hb hx.1 W h3 ht
end Go.Proofs.YtcplajplbocieaaDoor
