/- TagsSay: called with any arguments. Conditions: the listed table. -/
import Derived.Test.YtcplajplbocieaaDoorTr7
namespace Go.Proofs.YtcplajplbocieaaDoor
open Go.RowKit Go.Sort Go.Lib
set_option maxRecDepth 100000 in
theorem say_long (a b : Tg) (ao : Option Addr) (n cap : Nat) (hl : 30 < n ∨ 60 < a.s.size ∨ 60 < b.s.size) (w : World) (ht : Tabs w) :
    Calls Tryd.prog 3 #[.agg (encT a).toArray, .agg (encT b).toArray, .slice ao n cap] w (Grew (.bool true) w) := by
  obtain ⟨ak, sa, an⟩ := a
  obtain ⟨bk, sb, bn⟩ := b
  simp only [encT] at *
  obtain ⟨W2, hW2⟩ : ∃ W2, W2 = ((w.alloc (.cells #[.int .i64 ak, .string sa, .int .i64 an] 23)).alloc (.cells #[.int .i64 bk, .string sb, .int .i64 bn] 23)) := ⟨_, rfl⟩
  have HB0 : Hid (Below w.heap.size w W2) := Lib.hid (by rw [hW2]; exact ((Below.refl _ w).alloc (Nat.le_refl _) _).alloc (by simp) _)
  have HV : Hid (∀ w', Below W2.heap.size W2 w' → w'.cell? ⟨w.heap.size, 1, none⟩ = some (.string sa) ∧ w'.cell? ⟨w.heap.size + 1, 1, none⟩ = some (.string sb)) := Lib.hid fun w' hb => by
    have hs : W2.heap.size = w.heap.size + 2 := by rw [hW2]; simp
    refine ⟨?_, ?_⟩
    · rw [hb.cell (p := ⟨w.heap.size, 1, none⟩) (by show w.heap.size < _; omega), hW2]; simp
    · rw [hb.cell (p := ⟨w.heap.size + 1, 1, none⟩) (by show w.heap.size + 1 < _; omega), hW2]; simp
  have H0 := Lib.hid (first_any W2 (var_below HB0.out (g := 1) (by kernel_rfl) ht))
  have HW := Lib.hid hW2
  by_cases h1 : 30 < n
  · have hz : (30 : Int) < (n : Int) := by omega
    clear hl h1 ht hW2
    go_enter Tryd.func3, Tryd.ntmps3
    go_wp2_with fail
    rw [← HW.out]
    refine H0.out.mono ?_
    rintro e w0 ⟨rfl, hb0⟩
    obtain ⟨c1, c2⟩ := HV.out w0 hb0
    go_wp2_with fail
    apply bodyPost_ret
    case hr => exact results_tmp rfl _ _ _
    case hd => rfl
    case hR => exact ⟨rfl, HB0.out.trans (hb0.mono HB0.out.size)⟩
  · have hz : ¬ (30 : Int) < (n : Int) := by omega
    by_cases h2 : 60 < sa.size
    · have hz2 : (60 : Int) < (sa.size : Int) := by omega
      clear hl h1 h2 ht hW2
      go_enter Tryd.func3, Tryd.ntmps3
      go_wp2_with fail
      rw [← HW.out]
      refine H0.out.mono ?_
      rintro e w0 ⟨rfl, hb0⟩
      obtain ⟨c1, c2⟩ := HV.out w0 hb0
      go_wp2_with fail
      apply bodyPost_ret
      case hr => exact results_tmp rfl _ _ _
      case hd => rfl
      case hR => exact ⟨rfl, HB0.out.trans (hb0.mono HB0.out.size)⟩
    · have hz2 : ¬ (60 : Int) < (sa.size : Int) := by omega
      have hz3 : (60 : Int) < (sb.size : Int) := by omega
      clear hl h1 h2 ht hW2
      go_enter Tryd.func3, Tryd.ntmps3
      go_wp2_with fail
      rw [← HW.out]
      refine H0.out.mono ?_
      rintro e w0 ⟨rfl, hb0⟩
      obtain ⟨c1, c2⟩ := HV.out w0 hb0
      go_wp2_with fail
      apply bodyPost_ret
      case hr => exact results_tmp rfl _ _ _
      case hd => rfl
      case hR => exact ⟨rfl, HB0.out.trans (hb0.mono HB0.out.size)⟩
theorem tagsSay_any (v0 v1 : Value) (ao : Option Addr) (l : List Tg) (cap : Nat) (hx : (ao = none → cap = 0) ∧ l.length ≤ reach ∧ ∀ x ∈ l, okT x) (W : World) (h0 : ∃ y : Tg, v0 = .agg (encT y).toArray ∧ okT y) (h1 : ∃ y : Tg, v1 = .agg (encT y).toArray ∧ okT y) (h3 : TgAt W ao l) (ht : Tabs W) :
    Calls Tryd.prog 3 #[v0, v1, .slice ao l.length cap] W (Grew (.bool true) W) := by
  obtain ⟨⟨ak, sa, an⟩, rfl, ha⟩ := h0
  obtain ⟨⟨bk, sb, bn⟩, rfl, _⟩ := h1
  by_cases hl : 30 < l.length ∨ 60 < sa.size ∨ 60 < sb.size
  · exact say_long _ _ ao l.length cap hl W ht
  · exact say_core ak an bk bn sa sb l ao cap (by omega) (by omega) (by omega) ha hx.1 W h3 ht
end Go.Proofs.YtcplajplbocieaaDoor
