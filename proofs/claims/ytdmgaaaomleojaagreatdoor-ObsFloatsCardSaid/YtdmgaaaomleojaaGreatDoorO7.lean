/- A Builder that is written once and read. Conditions: the text is short and not empty. -/
import Derived.Test.YtdmgaaaomleojaaGreatDoorO6
import Derived.Test.YtdmgaaaomleojaaGreatDoorBld
import Derived.Deep.AppendSrc
import Derived.Lib.AppendZeros
namespace Go.Proofs.YtdmgaaaomleojaaGreatDoor
open Go.RowKit

theorem infoU8 : (Tryz.prog.info? 5).map (fun i => (i.zero, i.size, i.bytes)) = some (some (.int .u8 0), 1, 1) := by kernel_rfl
/-- append(nil, s...) -/
theorem append_text (s : ByteArray) (ty : TypeId) (h0 : s.size ≠ 0) (hs : s.size ≤ 1000000) (w : World) : ∃ c rest, s.size ≤ c ∧ (Builtin.append_ #[53, 9] ty #[.slice none 0 0, .string s]).run Tryz.prog w =
    .ok (.slice (some ⟨w.heap.size, 0, none⟩) s.size c) (w.drew.alloc (.cells ((s.data.toList.map fun b => Value.int .u8 b.toNat).toArray ++ rest) 5)) := by
  obtain ⟨i, hi, hz⟩ : ∃ i, Tryz.prog.info? 5 = some i ∧ (i.zero, i.size, i.bytes) = (some (.int .u8 0), 1, 1) := by
    have := infoU8
    cases hx : Tryz.prog.info? 5 with
    | none => rw [hx] at this; simp at this
    | some i => rw [hx] at this; exact ⟨i, rfl, by simpa using this⟩
  obtain ⟨z0, z1, z2⟩ : i.zero = some (.int .u8 0) ∧ i.size = 1 ∧ i.bytes = 1 := by simpa using hz
  have hsrc := Src.ofString (P := Tryz.prog) w Tryz.underlying9 s
  rw [← z1] at hsrc
  have hcap : Builtin.nextslicecap s.size 0 = s.size := nextslicecap_zero (by omega)
  have := run_append_grow_src (P := Tryz.prog) w 53 9 ty 5 i (.int .u8 0) Tryz.underlying53 hi z0 none 0 0 [] (by simp [Builtin.firstCells]) (.string s) s.size _ hsrc (by omega) (by omega) (by rw [Nat.zero_add, hcap, z2]; omega)
  rw [Nat.zero_add] at this
  exact ⟨_, _, by unfold grownCap; simp [Question.cut], this⟩

/-- what a Builder holds behind one text -/
structure Held (s : ByteArray) (b B : Nat) (w w' : World) : Prop where
  below : Below B w w'
  row : ∃ g c cells, w'.cell? ⟨b, 1, none⟩ = some (.slice (some ⟨g, 0, none⟩) s.size c) ∧ w'.shape? g = some (5, cells) ∧ s.size ≤ cells ∧ s.size ≤ c ∧ B ≤ g ∧
    ∀ (j : Nat) (x : UInt8), s.data.toList[j]? = some x → w'.cell? ((⟨g, 0, none⟩ : Addr).add j) = some (.int .u8 (x.toNat : Int))

set_option maxRecDepth 100000 in
set_option maxHeartbeats 2000000 in
theorem ws_fresh (b B : Nat) (s : ByteArray) (w : World) (hB : B ≤ b) (hb : w.heap[b]? = some (.cells #[.pointer none, .slice none 0 0] 55 (0, 0))) (h0 : s.size ≠ 0) (hs : s.size ≤ 1000000) :
    Calls Tryz.prog 36 #[.pointer (some ⟨b, 0, none⟩), .string s] w fun e w' => e = .returned (.tuple #[.int .i64 s.size, .nilIface]) ∧ Held s b B w w' := by
  have hblt : b < w.heap.size := by
    rcases Nat.lt_or_ge b w.heap.size with h | h
    · exact h
    · rw [Array.getElem?_eq_none h] at hb; simp at hb
  have h1 := copy_fresh b w (by simp [World.cell?, hb]) (by simp [World.shape?, hb]) (by simp [World.frozen?, hb])
  obtain ⟨v, hv⟩ : ∃ v, v = Value.pointer (some (⟨b, 0, none⟩ : Addr)) := ⟨_, rfl⟩
  have hw1 : (w.setCell ⟨b, 0, none⟩ v).heap[b]? = some (.cells #[v, .slice none 0 0] 55 (0, 0)) := row_set (i := 0) v hb
  obtain ⟨w1, hw⟩ : ∃ w1, w1 = w.setCell ⟨b, 0, none⟩ v := ⟨_, rfl⟩
  rw [← hw] at hw1
  have H1 : Hid (Calls Tryz.prog 54 #[.pointer (some ⟨b, 0, none⟩)] w fun e w' => e = .returned (.tuple #[]) ∧ w' = w1) := Lib.hid (by rw [hw, hv]; exact h1)
  have hb1 : Below B w w1 := by rw [hw]; exact (Below.refl B w).setCell (p := ⟨b, 0, none⟩) hB v
  have hz1 : w1.heap.size = w.heap.size := by rw [hw]; simp [World.setCell]
  clear hw
  obtain ⟨c, rest, hc, hrun⟩ := append_text s 53 h0 hs w1
  have c1 : w1.cell? ⟨b, 1, none⟩ = some (.slice none 0 0) := by simp [World.cell?, hw1]
  obtain ⟨W2, hW2⟩ : ∃ W2, W2 = w1.drew.alloc (.cells ((s.data.toList.map fun b => Value.int .u8 b.toNat).toArray ++ rest) 5) := ⟨_, rfl⟩
  have hr2 : W2.heap[w1.heap.size]? = some (.cells ((s.data.toList.map fun b => Value.int .u8 b.toNat).toArray ++ rest) 5 (0, 0)) := by rw [hW2]; exact heap_alloc_new w1.drew _
  have hb2 : Below w1.heap.size w1 W2 := by rw [hW2]; exact ((Below.refl _ w1).drew).alloc (Nat.le_refl _) _
  rw [← hW2] at hrun
  clear hW2
  have c2 : W2.cell? ⟨b, 1, none⟩ = some (.slice none 0 0) := by rw [hb2.cell (show b < w1.heap.size by omega)]; exact c1
  have f2 : W2.frozen? ⟨b, 1, none⟩ = false := by rw [hb2.frozen (show b < w1.heap.size by omega)]; simp [World.frozen?, hw1]
  rw [hz1] at hr2
  have HR := Lib.hid hr2
  have HB := Lib.hid (hb1.trans (hb2.mono (by omega)))
  have HS := Lib.hid hrun
  clear hr2 hb2 hb1 hw1 hb hrun hv h1
  go_enter Tryz.func36, Tryz.ntmps36
  go_wp2_with fail
  refine H1.out.mono ?_
  rintro e w' ⟨rfl, rfl⟩
  go_wp2_with (at_builtin; refine Lib.wpList_append_run _ rfl _ _ _ _ rfl _ _ rfl rfl _ _ HS.out ?_)
  go_ret2
  have hr := HR.out
  have hgb : w.heap.size ≠ b := by omega
  have hrow : (W2.setCell ⟨b, 1, none⟩ (.slice (some ⟨w.heap.size, 0, none⟩) s.size c)).heap[w.heap.size]? = some (.cells ((s.data.toList.map fun b => Value.int .u8 b.toNat).toArray ++ rest) 5 (0, 0)) := by
    rw [Below.heap_setCell _ _ _ _ hgb]; exact hr
  refine ⟨rfl, HB.out.setCell (p := ⟨b, 1, none⟩) hB _, w.heap.size, c, ((s.data.toList.map fun b => Value.int .u8 b.toNat).toArray ++ rest).size, World.cell?_setCell_same' _ _ _ (by rw [c2]; rfl), ?_, ?_, hc, by omega, ?_⟩
  · unfold World.shape?; rw [hrow]
  · rw [Array.size_append]
    have := Lib.size_eq s
    simp
  · intro j x hx
    have hj := (List.getElem?_eq_some_iff.1 hx).1
    rw [Go.Ex.addr_add]
    simp only [World.cell?, hrow, Nat.zero_add]
    show (_ : Array Value)[j]? = _
    rw [Array.getElem?_append_left (by simpa using hj)]
    simp [hx]
end Go.Proofs.YtdmgaaaomleojaaGreatDoor
