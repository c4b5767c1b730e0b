/- num.Text and gristmillref1.NumText; the law's first(). Conditions: the table of powers of ten as start-up lays it; 64 bits. -/
import Derived.Test.YtmpkgbpnejajpaaDoorShelf
import Derived.Test.YtmpkgbpnejajpaaDoorNum3
import Derived.Lib.AppendIntMem
import Derived.Lib.AtoiErrMem
import Derived.ShutString
namespace Go.Proofs.YtmpkgbpnejajpaaDoor
open Go.RowKit

/-- What lay below stands. -/
def Grew (v : Value) (w : World) (e : Ending) (w' : World) : Prop := e = .returned v ∧ Below w.heap.size w w'
theorem Grew.same {v : Value} {w w' : World} {e : Ending} (h : e = .returned v ∧ w = w') : Grew v w e w' := ⟨h.1, by rw [h.2]; exact Below.refl _ _⟩

theorem var_below {w w' : World} (hb : Below w.heap.size w w') {n : String} {g : Nat} {cs : Array Value} (hg : Tryd.prog.globalNamed n = some g) (h : w.var? Tryd.prog n = some cs) : w'.var? Tryd.prog n = some cs := by
  unfold World.var? at *
  rw [hg] at h ⊢
  simp only [Option.bind_some] at h ⊢
  have hlt : g < w.heap.size := by
    rcases Nat.lt_or_ge g w.heap.size with h' | h'
    · exact h'
    · rw [Array.getElem?_eq_none h'] at h; simp at h
  rw [hb.block g hlt]
  exact h

/-- The table of powers of ten. -/
def Tabs (w : World) : Prop := Lib.TabIs Tryd.prog w "internal/strconv.uint64pow10" .u64 Lib.pow10Tab
theorem globPow : Tryd.prog.globalNamed "internal/strconv.uint64pow10" = some 4 := by kernel_rfl
theorem Tabs.below {w w' : World} (h : Tabs w) (hb : Below w.heap.size w w') : Tabs w' := var_below hb globPow h

theorem text_any (n : Int) (h0 : -9223372036854775808 ≤ n) (h1 : n ≤ 9223372036854775807) (w : World) (ht : Tabs w) :
    Calls Tryd.prog 15 #[.int .i64 n] w (Grew (.string ⟨(Lib.itoa n).toArray⟩) w) := by
  have H := Lib.hid (Tryd.strconv_FormatInt_10 n h0 h1 w ht)
  clear ht
  go_enter Tryd.func15, Tryd.ntmps15
  go_wp2_with fail
  refine H.out.mono ?_
  rintro e w' ⟨rfl, k, os, rfl⟩
  go_wp2_with fail
  go_ret
  exact ⟨rfl, Lib.below_grow _ _ (Nat.le_refl _) _ _⟩
theorem rtext_any (n : Int) (h0 : -9223372036854775808 ≤ n) (h1 : n ≤ 9223372036854775807) (w : World) (ht : Tabs w) :
    Calls Tryd.prog 16 #[.int .i64 n] w (Grew (.string ⟨(Lib.itoa n).toArray⟩) w) := by
  have H := Lib.hid (Tryd.strconv_FormatInt_10 n h0 h1 w ht)
  clear ht
  go_enter Tryd.func16, Tryd.ntmps16
  go_wp2_with fail
  refine H.out.mono ?_
  rintro e w' ⟨rfl, k, os, rfl⟩
  go_wp2_with fail
  go_ret
  exact ⟨rfl, Lib.below_grow _ _ (Nat.le_refl _) _ _⟩

theorem itoa_m5 : Lib.itoa (-5) = [45, 53] := by
  rw [itoa_lt _ (by decide), show (-5 : Int).natAbs = 5 from rfl, Lib.decDigits_one (by omega)]
  rfl

/-- The law's first(). -/
theorem first_any (w : World) (ht : Tabs w) : Calls Tryd.prog 8 #[] w (Grew (.bool true) w) := by
  have h := text_any (-5) (by decide) (by decide) w ht
  rw [itoa_m5] at h
  have H := Lib.hid h
  clear h ht
  go_enter Tryd.func8, Tryd.ntmps8
  go_wp2_with fail
  refine (do_div0 1 _).mono ?_
  rintro e w' ⟨rfl, rfl⟩
  go_wp2_with fail
  refine H.out.mono ?_
  rintro e w' ⟨rfl, hb⟩
  go_wp2_with fail
  go_ret
  exact ⟨rfl, hb⟩
end Go.Proofs.YtmpkgbpnejajpaaDoor
