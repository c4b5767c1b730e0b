/- ObsFloats: the walk of the law, out of the contracts of what it calls. Conditions: as each says. -/
import Derived.Test.YtdmgaaaomleojaaGreatDoorO12
import Derived.Test.YtdmgaaaomleojaaGreatDoorFlR1
import Derived.BigQuiet
namespace Go.Proofs.YtdmgaaaomleojaaGreatDoor
open Go.RowKit

abbrev leafA (k n : Int) : Array Value := #[.int .i64 k, .int .i64 n, .string ⟨#[]⟩, .slice none 0 0]
/-- an observation in a row of its own -/
def ObsAt (w : World) (b : Nat) (k n : Int) : Prop := w.heap[b]? = some (.cells (leafA k n) 27 (0, 0))
theorem ObsAt.below {w w' : World} {b : Nat} {k n : Int} (h : ObsAt w b k n) (hb : Below w.heap.size w w') : ObsAt w' b k n := by
  have hlt : b < w.heap.size := by
    rcases Nat.lt_or_ge b w.heap.size with h' | h'
    · exact h'
    · unfold ObsAt at h; rw [Array.getElem?_eq_none h'] at h; simp at h
  exact (hb.block b hlt).trans h
theorem ObsAt.cells {w : World} {b : Nat} {k n : Int} (h : ObsAt w b k n) : w.cell? ⟨b, 0, none⟩ = some (.int .i64 k) ∧ w.cell? ⟨b, 1, none⟩ = some (.int .i64 n) ∧ w.cell? ⟨b, 2, none⟩ = some (.string ⟨#[]⟩) ∧ w.cell? ⟨b, 3, none⟩ = some (.slice none 0 0) :=
  ⟨cell_of_row w b 0 _ _ _ h, cell_of_row w b 1 _ _ _ h, cell_of_row w b 2 _ _ _ h, cell_of_row w b 3 _ _ _ h⟩

/-- a world behind another, with all its rows -/
structure Aft (W : World) where
  «at» : World
  below : Below W.heap.size W «at»
instance (W : World) : Nonempty (Aft W) := ⟨⟨W, Below.refl _ _⟩⟩
theorem call_ok {P : Program} {f : FuncId} {args : Array Value} {v : Value} {W : World} {s : Aft W} (h : Calls P f args s.at (Grew v s.at)) : Calls P f args s.at fun e w'' => e = .returned v ∧ ∃ s' : Aft W, w'' = s'.at :=
  h.mono fun _ w'' ⟨h1, h2⟩ => ⟨h1, ⟨w'', s.below.trans (h2.mono s.below.size)⟩, rfl⟩
theorem region_quiet_lit {P : Program} {C : World → Prop} {id : Nat} {Q : Exit → Act → World → Prop} {a : Act} {w : World} {l : List Oper} (hm : P.follows .mixedOrders = true) (hB : Region.lexB .any l.toArray = true) (hC : C w.drew)
    (h : wpQuiet P l.toArray C (fun a' => ∀ w', C w' → Q .normal a' w') l a) : (Code.region id l.toArray true).wp P Q a w :=
  wp_region_quiet (C := C) hm hB hC (by simpa using h)

set_option maxRecDepth 100000 in
set_option maxHeartbeats 0 in
theorem floats_core (a b A C : Nat) (nA nB : Int) (tA tB iA : ByteArray) (D : Bool) (w : World)
    (hA : ∀ w, Calls Tryz.prog 5 #[.int .u64 a] w fun e w' => e = .returned (.int .u64 A) ∧ w = w')
    (hB : ∀ w, Calls Tryz.prog 5 #[.int .u64 b] w fun e w' => e = .returned (.int .u64 C) ∧ w = w')
    (cA : IntKind.i64.wrap (A : Int) = nA) (cB : IntKind.i64.wrap (C : Int) = nB)
    (hD : ((A : Int) == (C : Int)) = D) (hT : (tA.toList == tB.toList) = D) (hI : (tA.toList == iA.toList) = false)
    (h0 : Calls Tryz.prog 4 #[] w (Grew (.bool true) w))
    (t1 : ∀ w1, Below w.heap.size w w1 → Calls Tryz.prog 7 #[leafV 2 nA] w1 (Grew (.string tA) w1))
    (t2 : ∀ w1, Below w.heap.size w w1 → Calls Tryz.prog 7 #[leafV 1 nA] w1 (Grew (.string iA) w1))
    (t3 : ∀ w1, Below w.heap.size w w1 → Calls Tryz.prog 7 #[leafV 2 nB] w1 (Grew (.string tB) w1))
    (p1 : ∀ w1, Below w.heap.size w w1 → Calls Tryz.prog 6 #[.string tA] w1 (Grew (.tuple #[leafV 2 nA, .nilIface]) w1))
    (p2 : ∀ w1, Below w.heap.size w w1 → Calls Tryz.prog 6 #[.string iA] w1 (Grew (.tuple #[leafV 1 nA, .nilIface]) w1))
    (s1 : ∀ w1, Calls Tryz.prog 8 #[leafV 2 nA, leafV 2 nA] w1 (Grew (.bool true) w1))
    (s2 : ∀ w1, Calls Tryz.prog 8 #[leafV 1 nA, leafV 1 nA] w1 (Grew (.bool true) w1))
    (s3 : ∀ w1, Calls Tryz.prog 8 #[leafV 2 nA, leafV 2 nB] w1 (Grew (.bool D) w1))
    (s4 : ∀ w1, Calls Tryz.prog 8 #[leafV 2 nA, leafV 1 nA] w1 (Grew (.bool false) w1))
    (v1 : ∀ w1, Calls Tryz.prog 9 #[leafV 2 9218868437227405313] w1 (Grew (.bool false) w1))
    (v2 : ∀ w1, Calls Tryz.prog 9 #[leafV 2 nA] w1 (Grew (.bool true) w1)) :
    Calls Tryz.prog 3 #[.int .u64 a, .int .u64 b] w (Grew (.bool true) w) := by
  have HA := Lib.hid hA
  have HC := Lib.hid hB
  have H0 := Lib.hid h0
  have T1 := Lib.hid t1
  have T2 := Lib.hid t2
  have T3 := Lib.hid t3
  have P1 := Lib.hid p1
  have P2 := Lib.hid p2
  have S1 := Lib.hid s1
  have S2 := Lib.hid s2
  have S3 := Lib.hid s3
  have S4 := Lib.hid s4
  have V1 := Lib.hid v1
  have V2 := Lib.hid v2
  clear hA hB h0 t1 t2 t3 p1 p2 s1 s2 s3 s4 v1 v2
  unfold leafV at *
  go_enter Tryz.func3, Tryz.ntmps3
  go_wp2_with fail
  refine (H0.out).mono ?_
  rintro e w0 ⟨rfl, hb0⟩
  have HB0 := Lib.hid hb0
  clear hb0
  go_wp2_with fail
  refine (HA.out _).mono ?_
  rintro e w1 ⟨rfl, rfl⟩
  go_wp2_with fail
  refine (HC.out _).mono ?_
  rintro e w1 ⟨rfl, rfl⟩
  go_wp2_with fail
  obtain ⟨W1, hW1⟩ : ∃ W1, W1 = (((w0.alloc (.cells #[.int .i64 2, .int .i64 nA, .string ⟨#[]⟩, .slice none 0 0] 27)).alloc (.cells #[.int .i64 2, .int .i64 nB, .string ⟨#[]⟩, .slice none 0 0] 27)).alloc (.cells #[.int .i64 1, .int .i64 nA, .string ⟨#[]⟩, .slice none 0 0] 27)) := ⟨_, rfl⟩
  have x1 : ObsAt W1 w0.heap.size 2 nA := by
    unfold ObsAt; rw [hW1, Below.heap_alloc _ _ _ (by simp; omega), Below.heap_alloc _ _ _ (by simp)]; exact heap_alloc_new w0 _
  have y1 : ObsAt W1 (w0.heap.size + 1) 2 nB := by
    unfold ObsAt
    rw [hW1, Below.heap_alloc _ _ _ (by simp)]
    have := heap_alloc_new (w0.alloc (.cells #[.int .i64 2, .int .i64 nA, .string ⟨#[]⟩, .slice none 0 0] 27)) (.cells #[.int .i64 2, .int .i64 nB, .string ⟨#[]⟩, .slice none 0 0] 27)
    simpa using this
  have z1 : ObsAt W1 (w0.heap.size + 1 + 1) 1 nA := by
    unfold ObsAt
    rw [hW1]
    have := heap_alloc_new ((w0.alloc (.cells #[.int .i64 2, .int .i64 nA, .string ⟨#[]⟩, .slice none 0 0] 27)).alloc (.cells #[.int .i64 2, .int .i64 nB, .string ⟨#[]⟩, .slice none 0 0] 27)) (.cells #[.int .i64 1, .int .i64 nA, .string ⟨#[]⟩, .slice none 0 0] 27)
    simpa using this
  have hb1 : Below w.heap.size w W1 := by
    have h0 := HB0.out
    rw [hW1]; exact ((h0.alloc h0.size _).alloc (by have := h0.size; simp; omega) _).alloc (by have := h0.size; simp; omega) _
  rw [← hW1]
  clear hW1
  refine (T1.out _ hb1).mono ?_
  rintro e w2 ⟨rfl, hc2⟩
  have hb2 := hb1.trans (hc2.mono hb1.size)
  have x2 := x1.below hc2
  have y2 := y1.below hc2
  have z2 := z1.below hc2
  clear x1 y1 z1 hb1 hc2
  go_wp2_with fail
  refine (P1.out _ hb2).mono ?_
  rintro e w3 ⟨rfl, hc3⟩
  obtain ⟨W3, hW3⟩ : ∃ W3, W3 = w3.alloc (.cells #[.int .i64 2, .int .i64 nA, .string ⟨#[]⟩, .slice none 0 0] 27) := ⟨_, rfl⟩
  have hd3 : Below w2.heap.size w2 W3 := by rw [hW3]; exact hc3.alloc hc3.size _
  have hb3 := hb2.trans (hd3.mono hb2.size)
  have x3 := x2.below hd3
  have y3 := y2.below hd3
  have z3 := z2.below hd3
  have p3 : ObsAt W3 w3.heap.size 2 nA := by unfold ObsAt; rw [hW3]; exact heap_alloc_new w3 _
  obtain ⟨c0, c1, c2, c3⟩ := z3.cells
  have HX3 := Lib.hid (And.intro x3 (And.intro y3 (And.intro z3 p3)))
  have HB3 := Lib.hid hb3
  clear x2 y2 z2 hb2 hc3 hd3 x3 y3 z3 p3 hb3
  subst hW3
  go_wp2_with fail
  refine (T2.out _ HB3.out).mono ?_
  rintro e w4 ⟨rfl, hc4⟩
  have hb4 := HB3.out.trans (hc4.mono HB3.out.size)
  obtain ⟨x3, y3, z3, p3⟩ := HX3.out
  have x4 := x3.below hc4
  have y4 := y3.below hc4
  have z4 := z3.below hc4
  have p4 := p3.below hc4
  clear c0 c1 c2 c3 HX3 HB3 x3 y3 z3 p3 hc4
  go_wp2_with fail
  refine (P2.out _ hb4).mono ?_
  rintro e w5 ⟨rfl, hc5⟩
  obtain ⟨W5, hW5⟩ : ∃ W5, W5 = (w5.alloc (.cells #[.int .i64 1, .int .i64 nA, .string ⟨#[]⟩, .slice none 0 0] 27)).alloc (.cells #[.int .i64 2, .int .i64 9218868437227405313, .string ⟨#[]⟩, .slice none 0 0] 27) := ⟨_, rfl⟩
  have hd5 : Below w4.heap.size w4 W5 := by rw [hW5]; exact (hc5.alloc hc5.size _).alloc (by have := hc5.size; simp; omega) _
  have hb5 := hb4.trans (hd5.mono hb4.size)
  have x5 := x4.below hd5
  have y5 := y4.below hd5
  have z5 := z4.below hd5
  have p5 := p4.below hd5
  have q5 : ObsAt W5 w5.heap.size 1 nA := by unfold ObsAt; rw [hW5, Below.heap_alloc _ _ _ (by simp)]; exact heap_alloc_new w5 _
  have d5 : ObsAt W5 (w5.heap.size + 1) 2 9218868437227405313 := by
    unfold ObsAt; rw [hW5]
    have := heap_alloc_new (w5.alloc (.cells #[.int .i64 1, .int .i64 nA, .string ⟨#[]⟩, .slice none 0 0] 27)) (.cells #[.int .i64 2, .int .i64 9218868437227405313, .string ⟨#[]⟩, .slice none 0 0] 27)
    simpa using this
  have KV := Lib.hid (fun (w' : World) (hb : Below W5.heap.size W5 w') => And.intro (x5.below hb) (And.intro (y5.below hb) (And.intro (z5.below hb) (And.intro (p5.below hb) (And.intro (q5.below hb) (d5.below hb))))))
  have KB := Lib.hid hb5
  clear x4 y4 z4 p4 hb4 hc5 hd5 hb5 x5 y5 z5 p5 q5 d5
  go_wp2_with fail
  rw [← hW5]
  clear hW5
  have fx0 := fun s : Aft W5 => (KV.out s.at s.below).1.cells.1
  have fx1 := fun s : Aft W5 => (KV.out s.at s.below).1.cells.2.1
  have fx2 := fun s : Aft W5 => (KV.out s.at s.below).1.cells.2.2.1
  have fx3 := fun s : Aft W5 => (KV.out s.at s.below).1.cells.2.2.2
  have fy0 := fun s : Aft W5 => (KV.out s.at s.below).2.1.cells.1
  have fy1 := fun s : Aft W5 => (KV.out s.at s.below).2.1.cells.2.1
  have fy2 := fun s : Aft W5 => (KV.out s.at s.below).2.1.cells.2.2.1
  have fy3 := fun s : Aft W5 => (KV.out s.at s.below).2.1.cells.2.2.2
  have fz0 := fun s : Aft W5 => (KV.out s.at s.below).2.2.1.cells.1
  have fz1 := fun s : Aft W5 => (KV.out s.at s.below).2.2.1.cells.2.1
  have fz2 := fun s : Aft W5 => (KV.out s.at s.below).2.2.1.cells.2.2.1
  have fz3 := fun s : Aft W5 => (KV.out s.at s.below).2.2.1.cells.2.2.2
  have fp0 := fun s : Aft W5 => (KV.out s.at s.below).2.2.2.1.cells.1
  have fp1 := fun s : Aft W5 => (KV.out s.at s.below).2.2.2.1.cells.2.1
  have fp2 := fun s : Aft W5 => (KV.out s.at s.below).2.2.2.1.cells.2.2.1
  have fp3 := fun s : Aft W5 => (KV.out s.at s.below).2.2.2.1.cells.2.2.2
  have fq0 := fun s : Aft W5 => (KV.out s.at s.below).2.2.2.2.1.cells.1
  have fq1 := fun s : Aft W5 => (KV.out s.at s.below).2.2.2.2.1.cells.2.1
  have fq2 := fun s : Aft W5 => (KV.out s.at s.below).2.2.2.2.1.cells.2.2.1
  have fq3 := fun s : Aft W5 => (KV.out s.at s.below).2.2.2.2.1.cells.2.2.2
  have fd0 := fun s : Aft W5 => (KV.out s.at s.below).2.2.2.2.2.cells.1
  have fd1 := fun s : Aft W5 => (KV.out s.at s.below).2.2.2.2.2.cells.2.1
  have fd2 := fun s : Aft W5 => (KV.out s.at s.below).2.2.2.2.2.cells.2.2.1
  have fd3 := fun s : Aft W5 => (KV.out s.at s.below).2.2.2.2.2.cells.2.2.2
  cases D
  all_goals
    refine region_quiet_lit (C := fun w' => ∃ s : Aft W5, w' = s.at) (by kernel_rfl) (by kernel_rfl) ⟨⟨W5.drew, Below.drew (Below.refl _ _)⟩, rfl⟩ ?_
    repeat (go_big_quiet_step (first
        | with_reducible exact call_ok (S1.out _)
        | with_reducible exact call_ok (S2.out _)
        | with_reducible exact call_ok (S3.out _)
        | with_reducible exact call_ok (S4.out _)
        | with_reducible exact call_ok (T1.out _ (KB.out.trans ((Aft.below _).mono KB.out.size)))
        | with_reducible exact call_ok (T3.out _ (KB.out.trans ((Aft.below _).mono KB.out.size)))
        | with_reducible exact call_ok (T2.out _ (KB.out.trans ((Aft.below _).mono KB.out.size)))
        | with_reducible exact call_ok (V1.out _)
        | with_reducible exact call_ok (V2.out _)))
    refine wpQuiet_nil ?_
    rintro w' ⟨s, rfl⟩
    go_wp2_with fail
    go_ret
    exact ⟨rfl, KB.out.trans (s.below.mono KB.out.size)⟩
end Go.Proofs.YtdmgaaaomleojaaGreatDoor
