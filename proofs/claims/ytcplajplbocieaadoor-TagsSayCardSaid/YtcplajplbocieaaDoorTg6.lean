/- Tags: their texts. Conditions: the name's length; 64 bits. -/
import Derived.Test.YtcplajplbocieaaDoorTg4
import Derived.RegionTactic
import Derived.Shelf.SlSortCmp.QuietGrown
import Derived.Lib.ItoaLen
namespace Go.Proofs.YtcplajplbocieaaDoor
open Go.RowKit Go.Sort Go.Lib

def letT (k : Int) : ByteArray := if k = 1 then ⟨#[67]⟩ else if k = 2 then ⟨#[70]⟩ else if k = 3 then ⟨#[80]⟩ else if k = 4 then ⟨#[65]⟩ else if k = 5 then ⟨#[73]⟩ else if k = 6 then ⟨#[68]⟩ else ⟨#[]⟩
def textT (x : Tg) : ByteArray := if 1 ≤ x.k ∧ x.k ≤ 6 then letT x.k ++ x.s ++ ⟨#[47]⟩ ++ ⟨(Lib.itoa x.n).toArray⟩ else ⟨#[]⟩
def Tabs (w : World) : Prop := Lib.TabIs Tryd.prog w "internal/strconv.uint64pow10" .u64 Lib.pow10Tab
set_option maxRecDepth 100000 in
theorem letter_any (k : Int) (w : World) : Calls Tryd.prog 32 #[.int .i64 k] w fun e w' => e = .returned (.string (letT k)) ∧ w = w' := by
  unfold letT
  by_cases h1 : k = 1
  · subst h1
    go_enter Tryd.func32, Tryd.ntmps32
    go_wp2_with fail
    go_ret
    exact ⟨rfl, rfl⟩
  by_cases h2 : k = 2
  · subst h2
    go_enter Tryd.func32, Tryd.ntmps32
    go_wp2_with fail
    go_ret
    exact ⟨rfl, rfl⟩
  by_cases h3 : k = 3
  · subst h3
    go_enter Tryd.func32, Tryd.ntmps32
    go_wp2_with fail
    go_ret
    exact ⟨rfl, rfl⟩
  by_cases h4 : k = 4
  · subst h4
    go_enter Tryd.func32, Tryd.ntmps32
    go_wp2_with fail
    go_ret
    exact ⟨rfl, rfl⟩
  by_cases h5 : k = 5
  · subst h5
    go_enter Tryd.func32, Tryd.ntmps32
    go_wp2_with fail
    go_ret
    exact ⟨rfl, rfl⟩
  by_cases h6 : k = 6
  · subst h6
    go_enter Tryd.func32, Tryd.ntmps32
    go_wp2_with fail
    go_ret
    exact ⟨rfl, rfl⟩
  rw [if_neg h1, if_neg h2, if_neg h3, if_neg h4, if_neg h5, if_neg h6]
  have g1 : (k == 1) = false := by simpa using h1
  have g2 : (k == 2) = false := by simpa using h2
  have g3 : (k == 3) = false := by simpa using h3
  have g4 : (k == 4) = false := by simpa using h4
  have g5 : (k == 5) = false := by simpa using h5
  have g6 : (k == 6) = false := by simpa using h6
  go_enter Tryd.func32, Tryd.ntmps32
  go_wp2_with fail
  go_ret
  exact ⟨rfl, rfl⟩
set_option maxRecDepth 100000 in
set_option maxHeartbeats 4000000 in
theorem text_core (k n : Int) (s t d : ByteArray) (ht : ¬ t.size = 0) (w : World) (HL : Hid (∀ w, Calls Tryd.prog 32 #[.int .i64 k] w fun e w' => e = .returned (.string t) ∧ w = w'))
    (HI : Hid (∀ w', Below w.heap.size w w' → Calls Tryd.prog 33 #[.int .i64 n] w' fun e w'' => e = .returned (.string d) ∧ ∃ k os, w'' = grow (w'.drewN k) os)) (hlen : t.size + s.size + d.size ≤ 2000000000000000000) :
    Calls Tryd.prog 21 #[.agg #[.int .i64 k, .string s, .int .i64 n]] w (Grew (.string (t ++ s ++ ⟨#[47]⟩ ++ d)) w) := by
  have e : t.toList.isEmpty = false ∧ ¬ t.toList = [] := by
    have : ¬ t.toList = [] := fun e => ht (by rw [ByteArray.toList_eq] at e; rw [Lib.size_eq, e]; rfl)
    exact ⟨by cases hl : t.toList with | nil => exact absurd hl this | cons a b => rfl, this⟩
  obtain ⟨hE, hne⟩ := e
  have HB : Hid (Below w.heap.size w (w.alloc (.cells #[.int .i64 k, .string s, .int .i64 n] 23))) := Lib.hid ((Below.refl _ w).alloc (Nat.le_refl _) _)
  go_enter Tryd.func21, Tryd.ntmps21
  go_wp2_with (go_at_call 32; refine (HL.out _).mono ?_; rintro e w' ⟨rfl, rfl⟩)
  have mixed : Tryd.prog.follows .mixedOrders = true := by kernel_rfl
  have c1 : ∀ q os, (grow ((w.alloc (.cells #[.int .i64 k, .string s, .int .i64 n] 23)).drewN q) os).cell? ⟨w.heap.size, 1, none⟩ = some (.string s) := fun q os => cell_grown (by simp) (by simp) q os
  have c2 : ∀ q os, (grow ((w.alloc (.cells #[.int .i64 k, .string s, .int .i64 n] 23)).drewN q) os).cell? ⟨w.heap.size, 2, none⟩ = some (.int .i64 n) := fun q os => cell_grown (by simp) (by simp) q os
  have l1 : (t ++ s).size = t.size + s.size := ByteArray.size_append
  have l2 : (t ++ s ++ ⟨#[47]⟩).size = t.size + s.size + 1 := by rw [ByteArray.size_append, l1]; rfl
  have z1 : ¬ 9223372036854775807 < t.size + s.size := by omega
  have z2 : ¬ 9223372036854775807 < (t ++ s).size + (⟨#[47]⟩ : ByteArray).size := by rw [l1]; show ¬ _ < t.size + s.size + 1; omega
  have z3 : ¬ 9223372036854775807 < (t ++ s ++ ⟨#[47]⟩).size + d.size := by omega
  have z4 : ¬ 9223372036854775807 < t.size + s.size + 1 := by omega
  have z5 : ¬ 9223372036854775807 < t.size + s.size + 1 + d.size := by omega
  clear l1 l2
  have HB2 : Hid (∀ q os, Below w.heap.size w (grow ((w.alloc (.cells #[.int .i64 k, .string s, .int .i64 n] 23)).drewN q) os)) := Lib.hid fun q os => HB.out.trans ((grow_below _ q os).mono HB.out.size)
  have HI2 : Hid (∀ q os, Calls Tryd.prog 33 #[.int .i64 n] (grow ((w.alloc (.cells #[.int .i64 k, .string s, .int .i64 n] 23)).drewN q) os) fun e w'' => e = .returned (.string d) ∧ ∃ p : GrownBy, w'' = grow ((w.alloc (.cells #[.int .i64 k, .string s, .int .i64 n] 23)).drewN p.n) p.os) := Lib.hid fun q os => Calls.grown_of (HI.out _ (HB2.out q os))
  go_quiet_grown (exact HI2.out _ _)
  go_wp2_with fail
  go_ret
  exact ⟨rfl, HB2.out _ _⟩
theorem text_any (x : Tg) (hs : x.s.size ≤ 1000000000000000000) (h0 : -9223372036854775808 ≤ x.n) (h1 : x.n ≤ 9223372036854775807) (hk : 1 ≤ x.k ∧ x.k ≤ 6) (w : World) (ht : Tabs w) : Calls Tryd.prog 21 #[.agg (encT x).toArray] w (Grew (.string (textT x)) w) := by
  obtain ⟨k, s, n⟩ := x
  unfold textT
  simp only at hs h0 h1 hk ⊢
  rw [if_pos hk]
  have hl : (letT k).size = 1 := by
    have : k = 1 ∨ k = 2 ∨ k = 3 ∨ k = 4 ∨ k = 5 ∨ k = 6 := by omega
    rcases this with rfl | rfl | rfl | rfl | rfl | rfl <;> rfl
  have hd : (⟨(Lib.itoa n).toArray⟩ : ByteArray).size ≤ 21 := by
    have := Lib.itoa_length_le n h0 h1
    rw [Lib.size_eq]; simpa using this
  exact text_core k n s (letT k) _ (by omega) w (Lib.hid fun w => letter_any k w) (Lib.hid fun w' hb => Tryd.strconv_Itoa n h0 h1 w' (var_below hb (g := 1) (by kernel_rfl) ht)) (by omega)
end Go.Proofs.YtcplajplbocieaaDoor
