/- strings.Clone: a copy of a text is that text, and nothing that lay in memory turns. Conditions: the text has at most 2 to the 48 bytes. -/
import Derived.Test.YtledjcplbldokaaGreatDoorRows
import Derived.WalkKit
import Derived.WalkSpells
import Derived.WalkLawsBesides
import Derived.Lib.Hide
import Derived.Lib.Strings
import Derived.Lib.BufferWrite
import Derived.Lib.UnsafeStr
import Derived.Laws.MakeOwn
namespace Go.Proofs.YtledjcplbldokaaGreatDoor
open Go.RowKit

theorem cl_info : ∃ i, Tryz.prog.info? 5 = some i ∧ i.zero = some (.int .u8 0) ∧ i.size = 1 ∧ i.bytes = 1 := by
  have a : (Tryz.prog.info? 5).map (·.zero) = some (some (.int .u8 0)) := by kernel_rfl
  have b : (Tryz.prog.info? 5).map (·.size) = some 1 := by kernel_rfl
  have c : (Tryz.prog.info? 5).map (·.bytes) = some 1 := by kernel_rfl
  cases h : Tryz.prog.info? 5 with
  | none => rw [h] at a; simp at a
  | some i => rw [h] at a b c; simp at a b c; exact ⟨i, rfl, a, b, c⟩
theorem cl_one : Tryz.prog.cellsOf 5 = 1 := by kernel_rfl
theorem cl_size : (Tryz.prog.info? 5).map (·.size) = some 1 := by kernel_rfl
/-- a row of n bytes that is made anew -/
theorem cl_make (n : Nat) (hn : n ≤ 281474976710656) : ∃ M : Array Value, M.size = n ∧ ∀ W : World,
    (Instr.makeSlice 73 (.int .i64 (n : Int)) (.int .i64 (n : Int))).run Tryz.prog W = .ok (.slice (some ⟨W.heap.size, 0, none⟩) n n) (W.alloc (.cells M 5)) := by
  obtain ⟨i, h1, h2, h3, h4⟩ := cl_info
  refine ⟨madeCells (Value.int .u8 0).cells ((n : Int).toNat * i.size), by rw [size_madeCells, h3]; simp, fun W => ?_⟩
  simpa using run_make (P := Tryz.prog) W 73 5 i (.int .u8 0) Tryz.underlying73 h1 h2 .i64 .i64 (n : Int) (n : Int) (by omega) (by omega) (by rw [h4]; omega) (by omega)
/-- what is behind the text's bytes, laid over a row as long as the text -/
theorem cl_laid (s : ByteArray) (M Y : Array Value) (hM : M.size = s.size) (hY : Y = (M.toList.take 0 ++ Lib.byteCells s.data.toList ++ M.toList.drop (0 + s.size)).toArray) : Y.toList = Lib.byteCells s.data.toList ∧ Y.size = s.size := by
  have h : Y.toList = Lib.byteCells s.data.toList := by
    subst hY
    simp [List.drop_eq_nil_of_le, hM]
  exact ⟨h, by rw [← Array.length_toList, h, Lib.byteCells_length, ← Lib.size_eq]⟩

set_option maxHeartbeats 4000000 in
set_option maxRecDepth 100000 in
theorem lite_clone (s : ByteArray) (w : World) (hlim : s.size ≤ 281474976710656) :
    Calls Tryz.prog 113 #[.string s] w fun e w' => e = .returned (.string s) ∧ Below w.heap.size w w' := by
  rcases Nat.eq_zero_or_pos s.size with h0 | h0
  · obtain rfl : s = ⟨#[]⟩ := ByteArray.ext (Array.eq_empty_of_size_eq_zero h0)
    go_enter Tryz.func113, Tryz.ntmps113
    go_wp2
    go_ret
    exact ⟨rfl, Below.refl _ _⟩
  · obtain ⟨M, hM, hmk⟩ := cl_make s.size hlim
    have hnew := heap_alloc_new w (.cells M 5)
    have hcp := Lib.run_copy_row_string (P := Tryz.prog) (w.alloc (.cells M 5)) 73 9 3 5 w.heap.size 0 s.size s.size s M 5 Tryz.underlying73 cl_size hnew (Nat.le_refl _) (by omega)
    generalize hY : (M.toList.take 0 ++ Lib.byteCells s.data.toList ++ M.toList.drop (0 + s.size)).toArray = Y at hcp
    obtain ⟨y1, y2⟩ := cl_laid s M Y hM hY.symm
    clear hY
    have hrow : ((w.alloc (.cells M 5)).setRow w.heap.size Y).heap[w.heap.size]? = some (.cells Y 5 (0, 0)) := setRow_heap _ _ M _ 5 (0, 0) hnew
    have hus := Lib.run_unsafeString_row (P := Tryz.prog) ((w.alloc (.cells M 5)).setRow w.heap.size Y) 121 3 9 5 Tryz.underlying121 cl_one w.heap.size Y.size (by unfold World.shape?; rw [hrow]) s.data.toList
      (fun e => by rw [Lib.size_eq, e] at h0; simp at h0) (by rw [← Lib.size_eq]; omega) (by rw [← Lib.size_eq]; omega)
      (fun j x hx => Lib.cells_of_row hrow Y.size j _ (by rw [List.take_of_length_le (by simp), y1]; simp [Lib.byteCells, hx]))
    rw [← Lib.size_eq] at hus
    go_enter Tryz.func113, Tryz.ntmps113
    go_wp2
    go_ret
    have hb1 : Below w.heap.size w (w.alloc (.cells M 5)) := (Below.refl _ w).alloc (Nat.le_refl _) _
    have hb2 : Below w.heap.size w ((w.alloc (.cells M 5)).setRow w.heap.size Y) := hb1.trans ⟨rfl, rfl, rfl, by simp, fun k hk => setRow_other _ _ _ _ (by omega)⟩
    exact ⟨rfl, Lib.below_freeze hb2 (p := ⟨w.heap.size, 0, none⟩) (Nat.le_refl _) _⟩
theorem clone_any (s : ByteArray) (w : World) (hlim : s.size ≤ 281474976710656) :
    Calls Tryz.prog 75 #[.string s] w fun e w' => e = .returned (.string s) ∧ Below w.heap.size w w' := by
  have H := Lib.hid (lite_clone s w hlim)
  go_enter Tryz.func75, Tryz.ntmps75
  go_wp2_with fail
  refine H.out.mono ?_
  rintro e w' ⟨rfl, hb⟩
  go_wp2_with fail
  go_ret
  exact ⟨rfl, hb⟩
end Go.Proofs.YtledjcplbldokaaGreatDoor
