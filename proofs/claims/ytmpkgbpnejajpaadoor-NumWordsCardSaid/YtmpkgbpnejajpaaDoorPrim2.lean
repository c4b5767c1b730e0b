/- num.Prims and gristmillref1's Prims, Arity and Floaty; Arity and Floaty of any name, the program's and the document's. Conditions: the table as start-up lays it. -/
import Derived.Test.YtmpkgbpnejajpaaDoorPrim
import Derived.Test.YtmpkgbpnejajpaaDoorTexts2
namespace Go.Proofs.YtmpkgbpnejajpaaDoor
open Go.RowKit

theorem below_drewN {B : Nat} {a w : World} (h : Below B a w) (n : Nat) : Below B a (w.drewN n) := h.trans ⟨rfl, rfl, rfl, Nat.le_refl _, fun _ _ => rfl⟩

def nmC : Array Value := #[.string ⟨#[43]⟩, .string ⟨#[45]⟩, .string ⟨#[42]⟩, .string ⟨#[100, 105, 118]⟩, .string ⟨#[109, 111, 100]⟩, .string ⟨#[60]⟩, .string ⟨#[61]⟩, .string ⟨#[102, 43]⟩, .string ⟨#[102, 45]⟩, .string ⟨#[102, 42]⟩, .string ⟨#[102, 47]⟩, .string ⟨#[102, 60]⟩, .string ⟨#[102, 61]⟩, .string ⟨#[102, 108, 111, 97, 116]⟩, .string ⟨#[119, 104, 111, 108, 101]⟩, .string ⟨#[115, 101, 113]⟩]
theorem nmC_get (i : Nat) (hi : i < 16) : nmC[i]? = some (.string (nmA i)) := by
  rcases i with _ | _ | _ | _ | _ | _ | _ | _ | _ | _ | _ | _ | _ | _ | _ | _ | i
  all_goals first | (exfalso; omega) | rfl

set_option maxRecDepth 100000 in
theorem rprims_run (w : World) :
    Calls Tryd.prog 22 #[] w fun e w' => e = .returned (.slice (some ⟨w.heap.size, 0, none⟩) 16 16) ∧ w' = w.alloc (Obj.cells nmC 9) := by
  go_enter Tryd.func22, Tryd.ntmps22
  go_wp2_with fail
  go_ret
  exact ⟨rfl, rfl⟩

theorem nmL_len : nmL.length = 16 := rfl
theorem nmL_get (i : Nat) (hi : i < nmL.length) : nmL[i] = nmA i := by
  unfold nmA
  rw [List.getD_eq_getElem?_getD, List.getElem?_eq_getElem hi]
  rfl

/-- A new list of the prims' names. -/
def NewNames (w : World) (e : Ending) (w' : World) : Prop := ∃ nb, e = .returned (.slice (some ⟨nb, 0, none⟩) 16 16) ∧ w.heap.size ≤ nb ∧ Txts w' nb 0 nmL ∧ nb < w'.heap.size ∧ Below w.heap.size w w'

theorem rprims_any (w : World) : Calls Tryd.prog 22 #[] w (NewNames w) :=
  (rprims_run w).mono fun _ _ ⟨he, hw⟩ => ⟨_, he, Nat.le_refl _, fun k hk => by rw [hw, World.cell?_alloc_new, Nat.zero_add, nmC_get k hk, nmL_get k hk], by rw [hw]; simp, by rw [hw]; exact (Below.refl _ _).alloc (Nat.le_refl _) _⟩

/-- The list that Prims fills, so far. -/
structure NmAt (nb k : Nat) (w : World) : Prop where
  done : ∀ j, j < k → w.cell? ⟨nb, j, none⟩ = some (.string (nmA j))
  held : ∀ j, j < 16 → ∃ v, w.cell? ⟨nb, j, none⟩ = some v
  froz : ∀ j, w.frozen? ⟨nb, j, none⟩ = false
  lt : nb < w.heap.size
theorem NmAt.step {nb k : Nat} {w : World} (h : NmAt nb k w) (hk : k < 16) (o : Obj) : NmAt nb (k + 1) ((w.setCell ⟨nb, k, none⟩ (.string (nmA k))).alloc o) := by
  have hlt : nb < (w.setCell ⟨nb, k, none⟩ (.string (nmA k))).heap.size := by simpa using h.lt
  have e : ∀ j, ((w.setCell ⟨nb, k, none⟩ (.string (nmA k))).alloc o).cell? ⟨nb, j, none⟩ = (w.setCell ⟨nb, k, none⟩ (.string (nmA k))).cell? ⟨nb, j, none⟩ := fun j => World.cell?_alloc_old _ _ _ (Nat.ne_of_lt hlt)
  refine ⟨fun j hj => ?_, fun j hj => ?_, fun j => ?_, by simp; exact Nat.lt_succ_of_lt h.lt⟩
  · rw [e]
    by_cases hjk : j = k
    · subst hjk
      obtain ⟨v, hv⟩ := h.held j hk
      exact World.cell?_setCell_same _ _ _ hv
    · rw [World.cell?_setCell_other _ _ _ _ (by intro hh; injection hh; omega)]
      exact h.done j (by omega)
  · rw [e]
    obtain ⟨v, hv⟩ := h.held j hj
    by_cases hjk : j = k
    · subst hjk
      exact ⟨_, World.cell?_setCell_same _ _ _ hv⟩
    · exact ⟨v, by rw [World.cell?_setCell_other _ _ _ _ (by intro hh; injection hh; omega)]; exact hv⟩
  · have := h.froz j
    rw [World.frozen?_alloc_past _ _ _ hlt]
    simpa using this

def emp16 : Array Value := #[.string ⟨#[]⟩, .string ⟨#[]⟩, .string ⟨#[]⟩, .string ⟨#[]⟩, .string ⟨#[]⟩, .string ⟨#[]⟩, .string ⟨#[]⟩, .string ⟨#[]⟩, .string ⟨#[]⟩, .string ⟨#[]⟩, .string ⟨#[]⟩, .string ⟨#[]⟩, .string ⟨#[]⟩, .string ⟨#[]⟩, .string ⟨#[]⟩, .string ⟨#[]⟩]
theorem emp16_get (i : Nat) (hi : i < 16) : emp16[i]? = some (.string ⟨#[]⟩) := by
  rcases i with _ | _ | _ | _ | _ | _ | _ | _ | _ | _ | _ | _ | _ | _ | _ | _ | i
  all_goals first | (exfalso; omega) | rfl
set_option maxRecDepth 100000 in
theorem make16 (w : World) : (Instr.makeSlice 38 (.int .i64 16) (.int .i64 16)).run Tryd.prog w = .ok (.slice (some ⟨w.heap.size, 0, none⟩) 16 16) (w.alloc (Obj.cells emp16 9)) := by kernel_rfl

set_option maxRecDepth 100000 in
set_option maxHeartbeats 4000000 in
theorem prims_any (w : World) (ht : PrimsIs w) : Calls Tryd.prog 21 #[] w (NewNames w) := by
  obtain ⟨tt, fr, hg⟩ := block_of_var globPrims ht
  have hlt : 1 < w.heap.size := by
    rcases Nat.lt_or_ge 1 w.heap.size with h' | h'
    · exact h'
    · rw [Array.getElem?_eq_none h'] at hg; cases hg
  have HG := Lib.hid fun (o : Obj) => (heap_alloc_old w o hlt).trans hg
  have hmk := make16
  have H0 : Hid (NmAt w.heap.size 0 (w.alloc (Obj.cells emp16 9))) := Lib.hid ⟨fun j hj => absurd hj (by omega), fun j hj => ⟨_, by rw [World.cell?_alloc_new]; exact emp16_get j hj⟩, fun j => World.frozen?_alloc_new _ _ _ _, by simp⟩
  have HB0 : Hid (Below w.heap.size w (w.alloc (Obj.cells emp16 9))) := Lib.hid ((Below.refl _ _).alloc (Nat.le_refl _) _)
  clear hg ht hlt
  go_enter Tryd.func21, Tryd.ntmps21
  go_wp2_with (refine wpList_load_row rfl 58 (.global 1) rfl 1 rfl _ primA _ _ (HG.out _) Tryd.underlying58 rfl infoT ?_)
  obtain ⟨nb, hnb⟩ : ∃ nb, nb = w.heap.size := ⟨_, rfl⟩
  rw [← hnb] at H0
  rw [← hnb]
  have HNB : Hid (w.heap.size ≤ nb) := Lib.hid (by omega)
  clear hnb hmk
  go_loopw [6] (fun vi wr => ∃ k : Nat, k ≤ 16 ∧ vi = .int .i64 k ∧ Hid (NmAt nb k wr ∧ Below w.heap.size w wr)) (fun vi _ => 17 - (intOf vi).toNat)
  case atStart => exact ⟨0, by omega, rfl, Lib.hid ⟨H0.out, HB0.out⟩⟩
  case round =>
    obtain ⟨k, hk, rfl, hR⟩ := hrel
    have hsz : nb < wr.heap.size := hR.out.1.lt
    by_cases hki : k < 16
    · have hix := idx_at k (by omega)
      obtain ⟨v, hv⟩ := hR.out.1.held k hki
      have hz := hR.out.1.froz k
      go_wp2_with fail
      go_roundw
      case rel => exact ⟨k + 1, by omega, by go_num, Lib.hid ⟨hR.out.1.step hki _, (hR.out.2.setCell (p := ⟨nb, k, none⟩) HNB.out _).alloc (by simp; exact hR.out.2.size) _⟩⟩
      case measure => simp [intOf]; omega
    · have HT : Hid (Txts wr nb 0 nmL) := Lib.hid fun j hj => by rw [Nat.zero_add, nmL_get j hj]; exact hR.out.1.done j (by rw [nmL_len] at hj; omega)
      go_wp2_with fail
      go_ret
      exact ⟨nb, rfl, HNB.out, HT.out, hsz, hR.out.2⟩

theorem name_at (name : ByteArray) : ∃ i, i ≤ 16 ∧ (∀ k (_ : k < i), ((nmA k).toList == name.toList) = false) ∧ (i < 16 → ((nmA i).toList == name.toList) = true) := by
  obtain ⟨i, h1, h2, h3⟩ := first_place nmL name
  refine ⟨i, h1, fun k hk => ?_, fun hi => ?_⟩
  · have hk' : k < nmL.length := by omega
    have := h2 k hk hk'
    rw [nmL_get k hk'] at this
    exact this
  · have := h3 hi
    rw [nmL_get i hi] at this
    exact this

theorem hasB_at (name : ByteArray) (i : Nat) (hi : i < 16) (h : ((nmA i).toList == name.toList) = true) : hasB nmL name = true := by
  unfold hasB
  rw [List.any_eq_true]
  exact ⟨nmL[i]'hi, List.getElem_mem _, by rw [nmL_get i hi]; exact h⟩
theorem hasB_none (name : ByteArray) (h : ∀ k (_ : k < 16), ((nmA k).toList == name.toList) = false) : hasB nmL name = false := by
  unfold hasB
  rw [List.any_eq_false]
  intro x hx
  obtain ⟨k, hk, rfl⟩ := List.getElem_of_mem hx
  rw [nmL_get k hk, h k hk]
  simp

set_option maxRecDepth 100000 in
theorem rarity_one (name : ByteArray) (h : (name.toList == [102, 108, 111, 97, 116]) = true) (w : World) :
    Calls Tryd.prog 17 #[.string name] w (Grew (.int .i64 1) w) := by
  go_enter Tryd.func17, Tryd.ntmps17
  go_wp2_with fail
  go_ret
  exact ⟨rfl, Below.refl _ _⟩
set_option maxRecDepth 100000 in
theorem rarity_whole (name : ByteArray) (h : (name.toList == [102, 108, 111, 97, 116]) = false) (h2 : (name.toList == [119, 104, 111, 108, 101]) = true) (w : World) :
    Calls Tryd.prog 17 #[.string name] w (Grew (.int .i64 1) w) := by
  go_enter Tryd.func17, Tryd.ntmps17
  go_wp2_with fail
  go_ret
  exact ⟨rfl, Below.refl _ _⟩
set_option maxRecDepth 100000 in
theorem rarity_two (name : ByteArray) (h : (name.toList == [102, 108, 111, 97, 116]) = false) (h2 : (name.toList == [119, 104, 111, 108, 101]) = false) (c : Bool) (hc : hasB nmL name = c) (w : World) :
    Calls Tryd.prog 17 #[.string name] w (Grew (.int .i64 (if c then 2 else 0)) w) := by
  have H := Lib.hid (fun nb w1 (ht : Txts w1 nb 0 nmL) => has_any nmL 16 nb 0 name w1 (by rw [nmL_len]; omega) ht)
  rw [hc] at H
  clear hc
  cases c
  all_goals
    go_enter Tryd.func17, Tryd.ntmps17
    go_wp2_with fail
    refine (rprims_any _).mono ?_
    rintro e w1 ⟨nb, rfl, h3, h4, h5, h6⟩
    have HB := Lib.hid h6
    have HT := Lib.hid h4
    clear h6 h4 h3
    go_wp2_with fail
    refine (H.out nb w1 HT.out).mono ?_
    rintro e w2 ⟨rfl, rfl⟩
    go_wp2_with fail
    go_ret
    exact ⟨rfl, HB.out⟩

set_option maxRecDepth 100000 in
theorem rfloaty_any (name : ByteArray) (b1 b2 b3 b4 b5 : Bool) (h1 : (name.toList == [102, 43]) = b1) (h2 : (name.toList == [102, 45]) = b2) (h3 : (name.toList == [102, 42]) = b3) (h4 : (name.toList == [102, 47]) = b4) (h5 : (name.toList == [102, 108, 111, 97, 116]) = b5) (w : World) :
    Calls Tryd.prog 19 #[.string name] w fun e w' => e = .returned (.bool (b1 || b2 || b3 || b4 || b5)) ∧ w = w' := by
  cases b1
  case true =>
    go_enter Tryd.func19, Tryd.ntmps19
    go_wp2_with fail
    go_ret
    exact ⟨rfl, rfl⟩
  cases b2
  case true =>
    go_enter Tryd.func19, Tryd.ntmps19
    go_wp2_with fail
    go_ret
    exact ⟨rfl, rfl⟩
  cases b3
  case true =>
    go_enter Tryd.func19, Tryd.ntmps19
    go_wp2_with fail
    go_ret
    exact ⟨rfl, rfl⟩
  cases b4
  case true =>
    go_enter Tryd.func19, Tryd.ntmps19
    go_wp2_with fail
    go_ret
    exact ⟨rfl, rfl⟩
  cases b5
  all_goals
    go_enter Tryd.func19, Tryd.ntmps19
    go_wp2_with fail
    go_ret
    exact ⟨rfl, rfl⟩

theorem name_eq (name : ByteArray) (i : Nat) (h : ((nmA i).toList == name.toList) = true) : name = nmA i := by
  rw [ByteArray.toList_eq, ByteArray.toList_eq, beq_iff_eq] at h
  apply ByteArray.ext
  exact (Array.toList_inj.1 h).symm
theorem name_ne (name : ByteArray) (i : Nat) (l : List UInt8) (hl : (nmA i).toList = l) (h : ((nmA i).toList == name.toList) = false) : (name.toList == l) = false := by
  rw [hl] at h
  rw [beq_eq_false_iff_ne] at *
  exact fun e => h e.symm

/-- ARITY, of any name: the program's and the document's. -/
theorem arity_both (name : ByteArray) : ∃ (n : Int) (b : Bool), b = decide (0 < n) ∧ (∀ w, PrimsIs w → Calls Tryd.prog 13 #[.string name] w (Grew (.tuple #[.int .i64 n, .bool b]) w)) ∧ ∀ w, Calls Tryd.prog 17 #[.string name] w (Grew (.int .i64 n) w) := by
  obtain ⟨i, h1, h2, h3⟩ := name_at name
  by_cases hi : i < 16
  · have hy := h3 hi
    refine ⟨arA i, true, ?_, fun w ht => arity_at name i hi w ht h2 hy, fun w => ?_⟩
    · rcases i with _ | _ | _ | _ | _ | _ | _ | _ | _ | _ | _ | _ | _ | _ | _ | _ | i
      all_goals first | (exfalso; omega) | rfl
    · have hn := name_eq name i hy
      have hh := hasB_at name i hi hy
      have two : (name.toList == [102, 108, 111, 97, 116]) = false → (name.toList == [119, 104, 111, 108, 101]) = false → arA i = 2 → Calls Tryd.prog 17 #[.string name] w (Grew (.int .i64 (arA i)) w) := fun g1 g2 e => by
        rw [e]; exact rarity_two name g1 g2 true hh w
      clear h2 h3 hy hh
      subst hn
      rcases i with _ | _ | _ | _ | _ | _ | _ | _ | _ | _ | _ | _ | _ | _ | _ | _ | i
      case succ => exfalso; omega
      all_goals first | (refine two ?_ ?_ rfl <;> (rw [ByteArray.toList_eq]; decide)) | (refine rarity_one _ ?_ w; rw [ByteArray.toList_eq]; decide) | (refine rarity_whole _ ?_ ?_ w <;> (rw [ByteArray.toList_eq]; decide))
  · have hno : ∀ k (_ : k < 16), ((nmA k).toList == name.toList) = false := fun k hk => h2 k (by omega)
    exact ⟨0, false, rfl, fun w ht => arity_none name w ht hno, fun w => rarity_two name (name_ne name 13 [102, 108, 111, 97, 116] (by rw [ByteArray.toList_eq]; rfl) (hno 13 (by omega))) (name_ne name 14 [119, 104, 111, 108, 101] (by rw [ByteArray.toList_eq]; rfl) (hno 14 (by omega))) false (hasB_none name hno) w⟩

/-- FLOATY, of any name: the program's and the document's. -/
theorem floaty_both (name : ByteArray) : ∃ b : Bool, (∀ w, PrimsIs w → Calls Tryd.prog 18 #[.string name] w (Grew (.bool b) w)) ∧ ∀ w, Calls Tryd.prog 19 #[.string name] w fun e w' => e = .returned (.bool b) ∧ w = w' := by
  obtain ⟨i, h1, h2, h3⟩ := name_at name
  by_cases hi : i < 16
  · have hy := h3 hi
    refine ⟨flA i, fun w ht => floaty_at name i hi w ht h2 hy, fun w => ?_⟩
    have hn := name_eq name i hy
    clear h2 h3 hy
    subst hn
    have h := rfloaty_any (nmA i) _ _ _ _ _ rfl rfl rfl rfl rfl w
    have e : ((nmA i).toList == [102, 43] || (nmA i).toList == [102, 45] || (nmA i).toList == [102, 42] || (nmA i).toList == [102, 47] || (nmA i).toList == [102, 108, 111, 97, 116]) = flA i := by
      rcases i with _ | _ | _ | _ | _ | _ | _ | _ | _ | _ | _ | _ | _ | _ | _ | _ | i
      all_goals first | (exfalso; omega) | (rw [ByteArray.toList_eq]; decide)
    rw [e] at h
    exact h
  · have hno : ∀ k (_ : k < 16), ((nmA k).toList == name.toList) = false := fun k hk => h2 k (by omega)
    exact ⟨false, fun w ht => floaty_none name w ht hno, fun w => rfloaty_any name false false false false false (name_ne name 7 [102, 43] (by rw [ByteArray.toList_eq]; rfl) (hno 7 (by omega))) (name_ne name 8 [102, 45] (by rw [ByteArray.toList_eq]; rfl) (hno 8 (by omega))) (name_ne name 9 [102, 42] (by rw [ByteArray.toList_eq]; rfl) (hno 9 (by omega))) (name_ne name 10 [102, 47] (by rw [ByteArray.toList_eq]; rfl) (hno 10 (by omega))) (name_ne name 13 [102, 108, 111, 97, 116] (by rw [ByteArray.toList_eq]; rfl) (hno 13 (by omega))) w⟩
end Go.Proofs.YtmpkgbpnejajpaaDoor
