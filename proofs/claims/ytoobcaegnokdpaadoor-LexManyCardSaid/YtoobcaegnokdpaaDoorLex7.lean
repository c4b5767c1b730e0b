/- LexMany: the walk of the law, out of the contracts of what it calls. Conditions: api's errors are eighteen errors, unlike one another. -/
import Derived.Test.YtoobcaegnokdpaaDoorLexF
import Derived.Test.YtoobcaegnokdpaaDoorNumber
import Derived.Test.YtoobcaegnokdpaaDoorSee2
import Derived.Test.YtoobcaegnokdpaaDoorSent
import Derived.Laws.IdiomStrings
namespace Go.Proofs.YtoobcaegnokdpaaDoor
open Go.RowKit

set_option maxRecDepth 100000 in
set_option maxHeartbeats 1000000 in
/-- Too many bytes. -/
theorem words_many (s : ByteArray) (hs : 65536 < s.size) (hs2 : s.size ≤ 1000000000) (tp : TypeId) (p : Value) (w : World) (hv : w.cell? ⟨0, 0, none⟩ = some (.iface tp p)) :
    Calls Tryd.prog 9 #[.string s] w fun e w' => e = .returned (.tuple #[.slice none 0 0, .iface tp p]) ∧ Below w.heap.size w w' := by
  have hz : (65536 : Int) < (s.size : Int) := by omega
  go_enter Tryd.func9, Tryd.ntmps9
  go_wp2_with fail
  go_region
  all_goals
    go_wp2
    go_ret2
    exact ⟨rfl, Below.drew (Below.refl _ _)⟩

/-- A letter, then so many in all. -/
def abs' (m : Nat) : ByteArray := ⟨(97 :: List.replicate (m - 1) 98).toArray⟩
theorem abs_size (m : Nat) (h : 1 ≤ m) : (abs' m).size = m := by
  rw [Lib.size_eq]
  show (97 :: List.replicate (m - 1) 98).length = m
  rw [List.length_cons, List.length_replicate]
  omega
theorem abs_next (m : Nat) (h : 1 ≤ m) : abs' m ++ ⟨#[98]⟩ = abs' (m + 1) := by
  apply ByteArray.ext
  apply Array.toList_inj.1
  rw [ByteArray.data_append, Array.toList_append]
  show (97 :: List.replicate (m - 1) 98) ++ [98] = 97 :: List.replicate (m + 1 - 1) 98
  rw [List.cons_append, ← List.replicate_succ', show m - 1 + 1 = m + 1 - 1 by omega]
theorem abs_hbn (m : Nat) (h : 1 ≤ m) : hbnB (abs' m) = decide (m ≤ 40) := by
  unfold hbnB
  rw [abs_size m h, decide_eq_false (show ¬ m = 0 by omega)]
  have : tlL (abs' m).data.toList = true := by
    show (97 :: List.replicate (m - 1) 98 : List UInt8).all (fun c => tlI (c.toNat : Int)) = true
    rw [List.all_cons, List.all_replicate, show tlI (((97 : UInt8).toNat : Nat) : Int) = true by decide, show tlI (((98 : UInt8).toNat : Nat) : Int) = true by decide]
    simp
  rw [this]
  simp
theorem abs_hd (m : Nat) : hdI (abs' m) = 97 := rfl
theorem abs_kw (m : Nat) (h : 6 ≤ m) : kwB (abs' m) = false := by
  have hl : (abs' m).toList.length = m := by
    rw [ByteArray.toList_eq, ← Lib.size_eq]; exact abs_size m (by omega)
  have hne : ∀ l : List UInt8, l.length ≤ 5 → ((abs' m).toList == l) = false := fun l h5 => by
    rw [beq_eq_false_iff_ne]
    intro e
    rw [e] at hl
    omega
  unfold kwB
  simp only [hne _ (show ([_, _] : List UInt8).length ≤ 5 by simp), hne _ (show ([_, _, _] : List UInt8).length ≤ 5 by simp), hne _ (show ([_, _, _, _] : List UInt8).length ≤ 5 by simp), hne _ (show ([_, _, _, _, _] : List UInt8).length ≤ 5 by simp)]
  rfl
theorem abs_name (m : Nat) (h : 6 ≤ m) : nameB (abs' m) = decide (m ≤ 40) := by
  unfold nameB
  rw [abs_hbn m (by omega), abs_hd, abs_kw m h, show smI 97 = true by decide]
  simp
theorem abs_upper (m : Nat) : upperB (abs' m) = false := by
  unfold upperB
  rw [abs_hd]
  have : grI 97 = false := by decide
  rw [this]
  simp
theorem nm_fn : nameB ⟨#[102, 110]⟩ = false := by
  have h : kwB ⟨#[102, 110]⟩ = true := by unfold kwB; rw [ByteArray.toList_eq]; rfl
  unfold nameB
  rw [h]
  simp
theorem nm_nan : nameB ⟨#[110, 97, 110]⟩ = false := by
  have h : kwB ⟨#[110, 97, 110]⟩ = true := by unfold kwB; rw [ByteArray.toList_eq]; rfl
  unfold nameB
  rw [h]
  simp

/-- A row of bytes, spaces up to a place. -/
def RowN (nb N i : Nat) (w : World) : Prop := ∃ cur, w.heap[nb]? = some (.cells cur 5 (0, 0)) ∧ cur.size = N ∧ ∀ j, j < i → cur[j]? = some (.int .u8 32)
theorem RowN.set {nb N i : Nat} {w : World} (h : RowN nb N i w) (hi : i < N) : RowN nb N (i + 1) (w.setCell ⟨nb, i, none⟩ (.int .u8 32)) := by
  obtain ⟨cur, h1, h2, h3⟩ := h
  refine ⟨_, heap_setCell_same w nb i _ _ _ h1, by simpa using h2, fun j hj => ?_⟩
  by_cases hji : j = i
  · subst hji
    rw [Array.getElem?_setIfInBounds_self_of_lt (by omega)]
  · rw [Array.getElem?_setIfInBounds_ne (by omega)]
    exact h3 j (by omega)
theorem RowN.cell {nb N i : Nat} {w : World} (h : RowN nb N i w) (k : Nat) (hk : k < N) : ∃ x, w.cell? ⟨nb, k, none⟩ = some x := by
  obtain ⟨cur, h1, h2, h3⟩ := h
  rw [cell_of_row w nb k cur _ (0, 0) h1]
  exact ⟨_, Array.getElem?_eq_getElem (by omega)⟩
theorem RowN.frozen {nb N i : Nat} {w : World} (h : RowN nb N i w) (k : Nat) : w.frozen? ⟨nb, k, none⟩ = false := by
  obtain ⟨cur, h1, h2, h3⟩ := h
  exact frozen_of_row w nb k _ _ h1
theorem RowN.read {nb N : Nat} {w : World} (h : RowN nb N N w) (cap : Nat) :
    (convert 40 9 (.slice (some ⟨nb, 0, none⟩) N cap)).run Tryd.prog w = .ok (.string ⟨(List.replicate N 32).toArray⟩) w := by
  obtain ⟨cur, h1, h2, h3⟩ := h
  have e := run_convert_bytes_back (P := Tryd.prog) w 40 9 5 ⟨nb, 0, none⟩ cap (List.replicate N 32) Tryd.underlying40 Tryd.underlying5 Tryd.underlying9 (fun j hj => by
    rw [List.length_replicate] at hj
    rw [addr_add, cell_of_row w nb j cur _ (0, 0) h1, h3 j hj, List.getElem_replicate]
    rfl)
  rw [List.length_replicate] at e
  exact e
theorem infoU8 : (Tryd.prog.info? 5).map (fun i => (i.zero, i.size, i.bytes)) = some (some (.int .u8 0), 1, 1) := by kernel_rfl


set_option maxRecDepth 100000 in
set_option maxHeartbeats 8000000 in
theorem many_few (k r : Int) (N M : Nat) (sp : ByteArray) (w : World) (hr0 : 0 ≤ r) (hr7 : r < 7) (hN : (N : Int) = 65536 + (r - 3)) (hM : (M : Int) = 40 + (r - 3)) (hsp : sp = ⟨(List.replicate N 32).toArray⟩) (hr : r - 3 ≤ 0)
    (H0 : Hid (Calls Tryd.prog 8 #[] w (Grew (.bool true) w)))
    (HK : Hid (∀ w, Calls Tryd.prog 15 #[.int .i64 k, .int .i64 7] w fun e w' => e = .returned (.int .i64 r) ∧ w = w'))
    (HW : Hid (∀ w', Below w.heap.size w w' → Calls Tryd.prog 9 #[.string sp] w' fun e w'' => ∃ ao cap, e = .returned (.tuple #[.slice ao 0 cap, .nilIface]) ∧ Below w'.heap.size w' w''))
    (HI : Hid (∀ w', Below w.heap.size w w' → Calls Tryd.prog 16 #[.nilIface, .int .i64 104] w' (Grew (.bool false) w'))) :
    Calls Tryd.prog 5 #[.int .i64 k] w (Grew (.bool true) w) := by
  obtain ⟨i0, hi, hz0, hz1, hz2⟩ := info_parts infoU8
  obtain ⟨C, hC⟩ : ∃ C, C = madeCells (Value.int .u8 0).cells (((N : Nat) : Int).toNat * i0.size) := ⟨_, rfl⟩
  have hCs : C.size = N := by rw [hC, size_madeCells, hz1]; simp
  have hmk : ∀ W : World, (Instr.makeSlice 40 (.int .i64 (65536 + (r - 3))) (.int .i64 (65536 + (r - 3)))).run Tryd.prog W = .ok (.slice (some ⟨W.heap.size, 0, none⟩) N N) (W.alloc (.cells C 5)) := fun W => by
    have h := run_make (P := Tryd.prog) W 40 5 i0 (.int .u8 0) Tryd.underlying40 hi hz0 .i64 .i64 (N : Int) (N : Int) (by omega) (by omega) (by rw [hz2]; omega) (by omega)
    rw [← hC] at h
    rw [← hN]
    simpa using h
  have hN1 : N ≤ 70000 := by omega
  have hM1 : M ≤ 50 := by omega
  have hM6 : 6 ≤ M := by omega
  have HC := Lib.hid hCs
  have HSP := Lib.hid hsp
  clear hC hCs hsp hz0 hz1 hz2 hi
  have hnm : ∀ w, Calls Tryd.prog 11 #[.string (abs' M)] w fun e w' => e = .returned (.bool true) ∧ w = w' := fun w => by
    have h := name_any (abs' M) (by rw [abs_size M (by omega)]; omega) w
    rw [abs_name M hM6, decide_eq_true (show M ≤ 40 by omega)] at h
    exact h
  have hup : ∀ w, Calls Tryd.prog 13 #[.string (abs' M)] w fun e w' => e = .returned (.bool false) ∧ w = w' := fun w => by
    have h := upper_any (abs' M) (by rw [abs_size M (by omega)]; omega) w
    rw [abs_upper M] at h
    exact h
  have hfn : ∀ w, Calls Tryd.prog 11 #[.string ⟨#[102, 110]⟩] w fun e w' => e = .returned (.bool false) ∧ w = w' := fun w => by
    have h := name_any ⟨#[102, 110]⟩ (by decide) w
    rw [nm_fn] at h
    exact h
  have hnan : ∀ w, Calls Tryd.prog 11 #[.string ⟨#[110, 97, 110]⟩] w fun e w' => e = .returned (.bool false) ∧ w = w' := fun w => by
    have h := name_any ⟨#[110, 97, 110]⟩ (by decide) w
    rw [nm_nan] at h
    exact h
  have HNM := Lib.hid hnm
  have HUP := Lib.hid hup
  have HFN := Lib.hid hfn
  have HNAN := Lib.hid hnan
  clear hnm hup hfn hnan
  have HN := Lib.hid hN
  have HM := Lib.hid hM
  clear hN hM
  unfold errI at *
  go_enter Tryd.func5, Tryd.ntmps5
  go_wp2_with fail
  refine H0.out.mono ?_
  rintro e w0 ⟨rfl, hb0⟩
  have HB0 := Lib.hid hb0
  clear hb0
  go_wp2_with fail
  refine (HK.out w0).mono ?_
  rintro e w' ⟨rfl, rfl⟩
  go_wp2_with fail
  have hb1 : Below w.heap.size w (w0.alloc (.cells C 5)) := HB0.out.alloc HB0.out.size _
  have hrow : RowN w0.heap.size N 0 (w0.alloc (.cells C 5)) := ⟨C, heap_alloc_new w0 _, HC.out, fun j hj => by omega⟩
  have hnb : w.heap.size ≤ w0.heap.size := HB0.out.size
  have HB1 := Lib.hid hb1
  have HR1 := Lib.hid hrow
  clear hb1 hrow hmk
  generalize w0.alloc (.cells C 5) = w1 at *
  generalize w0.heap.size = nb at *
  go_loopw [5] (fun vi wr => ∃ i : Nat, i ≤ N ∧ vi = .int .i64 i ∧ Hid (Below w.heap.size w wr ∧ RowN nb N i wr)) (fun vi _ => N + 1 - (intOf vi).toNat)
  case atStart => exact ⟨0, by omega, rfl, Lib.hid ⟨HB1.out, HR1.out⟩⟩
  case round =>
    obtain ⟨i, hi, rfl, hR⟩ := hrel
    by_cases hin : i < N
    · obtain ⟨x, c0⟩ := hR.out.2.cell i hin
      have f0 := hR.out.2.frozen i
      have hiz : (i : Int) < (N : Int) := by omega
      have hi0 : (0 : Int) ≤ (i : Int) := by omega
      go_wp2_with fail
      go_roundw
      case rel => exact ⟨i + 1, by omega, by go_num, Lib.hid ⟨hR.out.1.setCell (p := ⟨nb, i, none⟩) hnb _, hR.out.2.set hin⟩⟩
      case measure => simp [intOf]; omega
    · obtain rfl : i = N := by omega
      have hcv := hR.out.2.read i
      rw [← HSP.out] at hcv
      go_wp2_with fail
      refine (HW.out wr hR.out.1).mono ?_
      rintro e w2 ⟨ao, cap, rfl, hb2⟩
      have HB2 := Lib.hid (hR.out.1.trans (hb2.mono hR.out.1.size))
      clear hb2 hcv
      go_wp2_with fail
      go_loopw [8, 9] (fun vs vi wq => ∃ j : Nat, 1 ≤ j ∧ j ≤ M ∧ vi = .int .i64 j ∧ vs = .string (abs' j) ∧ wq = w2) (fun _ vi _ => M + 1 - (intOf vi).toNat)
      case atStart => exact ⟨1, by omega, by omega, rfl, rfl, rfl⟩
      case round =>
        obtain ⟨j, hj1, hjM, rfl, rfl, rfl⟩ := hrel
        by_cases hlt : j < M
        · have hjz : (j : Int) < 40 + (r - 3) := by have := HM.out; omega
          have hsz := abs_size j hj1
          go_wp2_with fail
          go_roundw
          case rel => exact ⟨j + 1, by omega, by omega, by go_num, by rw [abs_next j hj1], by first | trivial | rfl⟩
          case measure => simp [intOf]; omega
        · obtain rfl : j = M := by omega
          have hjz : ¬ (j : Int) < 40 + (r - 3) := by have := HM.out; omega
          go_wp2_with fail
          refine (HI.out _ HB2.out).mono ?_
          rintro e w3 ⟨rfl, hb3⟩
          have HB3 := Lib.hid (HB2.out.trans (hb3.mono HB2.out.size))
          clear hb3
          go_wp2_with fail
          refine (HNM.out _).mono ?_
          rintro e w' ⟨rfl, rfl⟩
          go_wp2_with fail
          refine (HFN.out _).mono ?_
          rintro e w' ⟨rfl, rfl⟩
          go_wp2_with fail
          refine (HNAN.out _).mono ?_
          rintro e w' ⟨rfl, rfl⟩
          go_wp2_with fail
          refine (HUP.out _).mono ?_
          rintro e w' ⟨rfl, rfl⟩
          go_wp2_with fail
          go_ret
          refine ⟨?_, HB3.out⟩
          show Ending.returned (Value.bool (!decide (3 < r))) = _
          rw [decide_eq_false (by omega)]
          rfl


set_option maxRecDepth 100000 in
set_option maxHeartbeats 8000000 in
theorem many_many (k r : Int) (N M : Nat) (sp : ByteArray) (A : Nat → Addr) (w : World) (hr0 : 0 ≤ r) (hr7 : r < 7) (hN : (N : Int) = 65536 + (r - 3)) (hM : (M : Int) = 40 + (r - 3)) (hsp : sp = ⟨(List.replicate N 32).toArray⟩) (hr : 0 < r - 3)
    (H0 : Hid (Calls Tryd.prog 8 #[] w (Grew (.bool true) w)))
    (HK : Hid (∀ w, Calls Tryd.prog 15 #[.int .i64 k, .int .i64 7] w fun e w' => e = .returned (.int .i64 r) ∧ w = w'))
    (HW : Hid (∀ w', Below w.heap.size w w' → Calls Tryd.prog 9 #[.string sp] w' fun e w'' => ∃ ao cap, e = .returned (.tuple #[.slice ao 0 cap, errI A 3]) ∧ Below w'.heap.size w' w''))
    (HI : Hid (∀ w', Below w.heap.size w w' → Calls Tryd.prog 16 #[errI A 3, .int .i64 104] w' (Grew (.bool true) w'))) :
    Calls Tryd.prog 5 #[.int .i64 k] w (Grew (.bool true) w) := by
  obtain ⟨i0, hi, hz0, hz1, hz2⟩ := info_parts infoU8
  obtain ⟨C, hC⟩ : ∃ C, C = madeCells (Value.int .u8 0).cells (((N : Nat) : Int).toNat * i0.size) := ⟨_, rfl⟩
  have hCs : C.size = N := by rw [hC, size_madeCells, hz1]; simp
  have hmk : ∀ W : World, (Instr.makeSlice 40 (.int .i64 (65536 + (r - 3))) (.int .i64 (65536 + (r - 3)))).run Tryd.prog W = .ok (.slice (some ⟨W.heap.size, 0, none⟩) N N) (W.alloc (.cells C 5)) := fun W => by
    have h := run_make (P := Tryd.prog) W 40 5 i0 (.int .u8 0) Tryd.underlying40 hi hz0 .i64 .i64 (N : Int) (N : Int) (by omega) (by omega) (by rw [hz2]; omega) (by omega)
    rw [← hC] at h
    rw [← hN]
    simpa using h
  have hN1 : N ≤ 70000 := by omega
  have hM1 : M ≤ 50 := by omega
  have hM6 : 6 ≤ M := by omega
  have HC := Lib.hid hCs
  have HSP := Lib.hid hsp
  clear hC hCs hsp hz0 hz1 hz2 hi
  have hnm : ∀ w, Calls Tryd.prog 11 #[.string (abs' M)] w fun e w' => e = .returned (.bool false) ∧ w = w' := fun w => by
    have h := name_any (abs' M) (by rw [abs_size M (by omega)]; omega) w
    rw [abs_name M hM6, decide_eq_false (show ¬ M ≤ 40 by omega)] at h
    exact h
  have hup : ∀ w, Calls Tryd.prog 13 #[.string (abs' M)] w fun e w' => e = .returned (.bool false) ∧ w = w' := fun w => by
    have h := upper_any (abs' M) (by rw [abs_size M (by omega)]; omega) w
    rw [abs_upper M] at h
    exact h
  have hfn : ∀ w, Calls Tryd.prog 11 #[.string ⟨#[102, 110]⟩] w fun e w' => e = .returned (.bool false) ∧ w = w' := fun w => by
    have h := name_any ⟨#[102, 110]⟩ (by decide) w
    rw [nm_fn] at h
    exact h
  have hnan : ∀ w, Calls Tryd.prog 11 #[.string ⟨#[110, 97, 110]⟩] w fun e w' => e = .returned (.bool false) ∧ w = w' := fun w => by
    have h := name_any ⟨#[110, 97, 110]⟩ (by decide) w
    rw [nm_nan] at h
    exact h
  have HNM := Lib.hid hnm
  have HUP := Lib.hid hup
  have HFN := Lib.hid hfn
  have HNAN := Lib.hid hnan
  clear hnm hup hfn hnan
  have HN := Lib.hid hN
  have HM := Lib.hid hM
  clear hN hM
  unfold errI at *
  go_enter Tryd.func5, Tryd.ntmps5
  go_wp2_with fail
  refine H0.out.mono ?_
  rintro e w0 ⟨rfl, hb0⟩
  have HB0 := Lib.hid hb0
  clear hb0
  go_wp2_with fail
  refine (HK.out w0).mono ?_
  rintro e w' ⟨rfl, rfl⟩
  go_wp2_with fail
  have hb1 : Below w.heap.size w (w0.alloc (.cells C 5)) := HB0.out.alloc HB0.out.size _
  have hrow : RowN w0.heap.size N 0 (w0.alloc (.cells C 5)) := ⟨C, heap_alloc_new w0 _, HC.out, fun j hj => by omega⟩
  have hnb : w.heap.size ≤ w0.heap.size := HB0.out.size
  have HB1 := Lib.hid hb1
  have HR1 := Lib.hid hrow
  clear hb1 hrow hmk
  generalize w0.alloc (.cells C 5) = w1 at *
  generalize w0.heap.size = nb at *
  go_loopw [5] (fun vi wr => ∃ i : Nat, i ≤ N ∧ vi = .int .i64 i ∧ Hid (Below w.heap.size w wr ∧ RowN nb N i wr)) (fun vi _ => N + 1 - (intOf vi).toNat)
  case atStart => exact ⟨0, by omega, rfl, Lib.hid ⟨HB1.out, HR1.out⟩⟩
  case round =>
    obtain ⟨i, hi, rfl, hR⟩ := hrel
    by_cases hin : i < N
    · obtain ⟨x, c0⟩ := hR.out.2.cell i hin
      have f0 := hR.out.2.frozen i
      have hiz : (i : Int) < (N : Int) := by omega
      have hi0 : (0 : Int) ≤ (i : Int) := by omega
      go_wp2_with fail
      go_roundw
      case rel => exact ⟨i + 1, by omega, by go_num, Lib.hid ⟨hR.out.1.setCell (p := ⟨nb, i, none⟩) hnb _, hR.out.2.set hin⟩⟩
      case measure => simp [intOf]; omega
    · obtain rfl : i = N := by omega
      have hcv := hR.out.2.read i
      rw [← HSP.out] at hcv
      go_wp2_with fail
      refine (HW.out wr hR.out.1).mono ?_
      rintro e w2 ⟨ao, cap, rfl, hb2⟩
      have HB2 := Lib.hid (hR.out.1.trans (hb2.mono hR.out.1.size))
      clear hb2 hcv
      go_wp2_with fail
      go_loopw [8, 9] (fun vs vi wq => ∃ j : Nat, 1 ≤ j ∧ j ≤ M ∧ vi = .int .i64 j ∧ vs = .string (abs' j) ∧ wq = w2) (fun _ vi _ => M + 1 - (intOf vi).toNat)
      case atStart => exact ⟨1, by omega, by omega, rfl, rfl, rfl⟩
      case round =>
        obtain ⟨j, hj1, hjM, rfl, rfl, rfl⟩ := hrel
        by_cases hlt : j < M
        · have hjz : (j : Int) < 40 + (r - 3) := by have := HM.out; omega
          have hsz := abs_size j hj1
          go_wp2_with fail
          go_roundw
          case rel => exact ⟨j + 1, by omega, by omega, by go_num, by rw [abs_next j hj1], by first | trivial | rfl⟩
          case measure => simp [intOf]; omega
        · obtain rfl : j = M := by omega
          have hjz : ¬ (j : Int) < 40 + (r - 3) := by have := HM.out; omega
          go_wp2_with fail
          refine (HI.out _ HB2.out).mono ?_
          rintro e w3 ⟨rfl, hb3⟩
          have HB3 := Lib.hid (HB2.out.trans (hb3.mono HB2.out.size))
          clear hb3
          go_wp2_with fail
          refine (HNM.out _).mono ?_
          rintro e w' ⟨rfl, rfl⟩
          go_wp2_with fail
          refine (HFN.out _).mono ?_
          rintro e w' ⟨rfl, rfl⟩
          go_wp2_with fail
          refine (HNAN.out _).mono ?_
          rintro e w' ⟨rfl, rfl⟩
          go_wp2_with fail
          refine (HUP.out _).mono ?_
          rintro e w' ⟨rfl, rfl⟩
          go_wp2_with fail
          go_ret
          refine ⟨?_, HB3.out⟩
          show Ending.returned (Value.bool (!decide (r - 3 ≤ 0))) = _
          rw [decide_eq_false (by omega)]
          rfl


theorem rep_list (N : Nat) : (ByteArray.mk (List.replicate N 32).toArray).data.toList = List.replicate N 32 := rfl
theorem rep_size (N : Nat) : (ByteArray.mk (List.replicate N 32).toArray).size = N := by rw [Lib.size_eq, rep_list, List.length_replicate]
theorem lexMany_any (k : Int) (_ : (Lit.int .i64 k).wf = true) (w : World) (h : ∃ A, Sents A w) :
    Calls Tryd.prog 5 #[.int .i64 k] w (Grew (.bool true) w) := by
  obtain ⟨A, hA⟩ := h
  have h0 : 0 ≤ k % 7 := Int.emod_nonneg k (by decide)
  have h7 : k % 7 < 7 := Int.emod_lt_of_pos k (by decide)
  have HK := Lib.hid (number_any k 7 (by decide) (by decide))
  generalize k % 7 = r at h0 h7 HK
  obtain ⟨N, hN⟩ : ∃ N : Nat, (N : Int) = 65536 + (r - 3) := ⟨(65536 + (r - 3)).toNat, by omega⟩
  obtain ⟨M, hM⟩ : ∃ M : Nat, (M : Int) = 40 + (r - 3) := ⟨(40 + (r - 3)).toNat, by omega⟩
  by_cases hr : r - 3 ≤ 0
  · refine many_few k r N M _ w h0 h7 hN hM rfl hr (Lib.hid (first_any w)) HK (Lib.hid fun w' _ => ?_) (Lib.hid fun w' _ => is_gen .nilIface 0 104 false 0 w' (Lib.hid fun w1 _ => fault_nil w1))
    refine (words_any _ (by rw [rep_size]; omega) w').mono ?_
    rw [rep_list, words_spaces]
    rintro e w2 ⟨ao, cap, rfl, _, hb⟩
    exact ⟨ao, cap, rfl, hb⟩
  · refine many_many k r N M _ A w h0 h7 hN hM rfl (by omega) (Lib.hid (first_any w)) HK (Lib.hid fun w' hb => ?_) (Lib.hid fun w' hb => is_any A 3 (by omega) 104 (by decide) w' (hA.below hb))
    refine (words_many _ (by rw [rep_size]; omega) (by rw [rep_size]; omega) _ _ w' ((hA.below hb).cell 3 (by omega))).mono ?_
    rintro e w2 ⟨rfl, hb2⟩
    exact ⟨none, 0, rfl, hb2⟩
end Go.Proofs.YtoobcaegnokdpaaDoor
