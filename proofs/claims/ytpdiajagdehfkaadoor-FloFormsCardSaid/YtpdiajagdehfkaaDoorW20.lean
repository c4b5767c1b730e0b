/- FloForms: the walk of the law, out of the contracts of what it calls. Conditions: the two tables and the errors' variables as start-up lays them. -/
import Derived.Test.YtpdiajagdehfkaaDoorW18
import Derived.Test.YtpdiajagdehfkaaDoorFm
import Derived.Test.YtpdiajagdehfkaaDoorShelf3
namespace Go.Proofs.YtpdiajagdehfkaaDoor
open Go.RowKit Ieee

set_option maxRecDepth 100000 in
set_option maxHeartbeats 400000 in
theorem ntext_any (n : Int) (h0 : -9223372036854775808 ≤ n) (h1 : n ≤ 9223372036854775807) (w : World) (ht : Tabs w) :
    Calls Tryd.prog 30 #[.int .i64 n] w (Grew (.string ⟨(Lib.itoa n).toArray⟩) w) := by
  have H := Lib.hid (Tryd.strconv_FormatInt_10 n h0 h1 w ht.pow)
  clear h0 h1
  go_enter Tryd.func30, Tryd.ntmps30
  go_wp2_with fail
  refine H.out.mono ?_
  rintro e w' ⟨rfl, k, os, rfl⟩
  go_wp2_with fail
  go_ret
  exact ⟨rfl, Lib.below_grow _ _ (Nat.le_refl _) _ _⟩

theorem mask16 (m : Int) : ∃ q : Nat, q < 65536 ∧ bits BinOp.and IntKind.i64 m 65535 = q := by
  refine ⟨((BitVec.ofInt 64 m) &&& (BitVec.ofInt 64 65535)).toNat, ?_, ?_⟩
  · rw [BitVec.toNat_and]
    exact Nat.lt_of_le_of_lt Nat.and_le_right (by decide)
  · have h : ((BitVec.ofInt 64 m) &&& (BitVec.ofInt 64 65535)).toNat < 65536 := by
      rw [BitVec.toNat_and]
      exact Nat.lt_of_le_of_lt Nat.and_le_right (by decide)
    show IntKind.i64.wrap (((BitVec.ofInt 64 m) &&& (BitVec.ofInt 64 65535)).toNat : Int) = _
    exact IntWalk.i64_in _ (by omega)

/-- The texts that the law holds to be none. -/
def formsA (x y z : ByteArray) : Array Value := #[Value.string (z ++ { data := #[112, 49] }), Value.string ({ data := #[48] } ++ (x ++ { data := #[112] } ++ y)),
    Value.string ({ data := #[43] } ++ (x ++ { data := #[112] } ++ y)),
    Value.string ({ data := #[45, 45] } ++ (x ++ { data := #[112] } ++ y)),
    Value.string (x ++ { data := #[112] } ++ y ++ { data := #[48, 48, 48, 48] }),
    Value.string (x ++ { data := #[112, 48, 49] }), Value.string x, Value.string { data := #[112, 49] },
    Value.string (x ++ { data := #[112] }), Value.string { data := #[48, 112, 49] },
    Value.string { data := #[45, 110, 97, 110] }, Value.string { data := #[73, 110, 102] },
    Value.string { data := #[57, 48, 48, 55, 49, 57, 57, 50, 53, 52, 55, 52, 48, 57, 57, 51, 112, 48] }]

set_option maxRecDepth 100000 in
set_option maxHeartbeats 4000000 in
theorem forms_neg (m e t : Int) (q v : Nat) (x y z g : ByteArray) (S : Nat → ByteArray) (tp : TypeId) (p : Value) (w : World) (hm : bits BinOp.and IntKind.i64 m 65535 = q) (hq : q < 65536) (ht : e.tmod 900 = t) (ht0 : t < 0) (ht1 : -900 < t)
    (hx : x.size ≤ 30) (hy : y.size ≤ 30) (hz : z.size ≤ 30) (hS : ∀ k, k < 13 → (formsA x y z)[k]? = some (.string (S k))) (hg : (g.toList == (x ++ { data := #[112] } ++ y).toList) = true)
    (h0 : Calls Tryd.prog 10 #[] w (Grew (.bool true) w))
    (h1 : ∀ w1, Below w.heap.size w w1 → Calls Tryd.prog 30 #[.int .i64 (2 * q + 1)] w1 (Grew (.string x) w1))
    (h2 : ∀ w1, Below w.heap.size w w1 → Calls Tryd.prog 30 #[.int .i64 (-t)] w1 (Grew (.string y) w1))
    (h3 : ∀ w1, Below w.heap.size w w1 → Calls Tryd.prog 30 #[.int .i64 (2 * (2 * q + 1))] w1 (Grew (.string z) w1))
    (h4 : ∀ k, k < 13 → ∀ w1, Below w.heap.size w w1 → Calls Tryd.prog 17 #[.string (S k)] w1 (Ret2 (.int .u64 0) (.iface tp p) w1))
    (h5 : ∀ w1, Below w.heap.size w w1 → Calls Tryd.prog 17 #[.string (x ++ { data := #[112] } ++ y)] w1 (Ret2 (.int .u64 v) .nilIface w1))
    (h6 : ∀ w1, Below w.heap.size w w1 → Calls Tryd.prog 24 #[.int .u64 v] w1 (Grew (.string g) w1)) :
    Calls Tryd.prog 9 #[.int .i64 m, .int .i64 e] w (Grew (.bool true) w) := by
  have H0 := Lib.hid h0
  have H1 := Lib.hid h1
  have H2 := Lib.hid h2
  have H3 := Lib.hid h3
  have H4 := Lib.hid h4
  have H5 := Lib.hid h5
  have H6 := Lib.hid h6
  have HS := Lib.hid hS
  clear h0 h1 h2 h3 h4 h5 h6 hS
  go_enter Tryd.func9, Tryd.ntmps9
  go_wp2_with fail
  refine H0.out.mono ?_
  rintro e w0 ⟨rfl, hb0⟩
  go_wp2_with fail
  refine (H1.out w0 hb0).mono ?_
  rintro e w1 ⟨rfl, hc1⟩
  have hb1 := hb0.trans (hc1.mono hb0.size)
  clear hc1
  go_wp2_with fail
  refine (H2.out w1 hb1).mono ?_
  rintro e w2 ⟨rfl, hc2⟩
  have hb2 := hb1.trans (hc2.mono hb1.size)
  clear hc2
  go_wp2_with fail
  refine (H3.out w2 hb2).mono ?_
  rintro e w3 ⟨rfl, hc3⟩
  have hb3 := hb2.trans (hc3.mono hb2.size)
  clear hc3
  go_wp2_with fail
  refine (H1.out w3 hb3).mono ?_
  rintro e w4 ⟨rfl, hc4⟩
  have hb4 := hb3.trans (hc4.mono hb3.size)
  clear hc4
  go_wp2_with fail
  refine (H1.out w4 hb4).mono ?_
  rintro e w5 ⟨rfl, hc5⟩
  have hb5 := hb4.trans (hc5.mono hb4.size)
  clear hc5
  go_wp2_with fail
  refine (H1.out w5 hb5).mono ?_
  rintro e w6 ⟨rfl, hc6⟩
  have hb6 := hb5.trans (hc6.mono hb5.size)
  clear hc6 hb0 hb1 hb2 hb3 hb4 hb5
  go_wp2_with fail
  have ew : w6.alloc (Obj.cells #[Value.string (z ++ { data := #[112, 49] }), Value.string ({ data := #[48] } ++ (x ++ { data := #[112] } ++ y)),
    Value.string ({ data := #[43] } ++ (x ++ { data := #[112] } ++ y)),
    Value.string ({ data := #[45, 45] } ++ (x ++ { data := #[112] } ++ y)),
    Value.string (x ++ { data := #[112] } ++ y ++ { data := #[48, 48, 48, 48] }),
    Value.string (x ++ { data := #[112, 48, 49] }), Value.string x, Value.string { data := #[112, 49] },
    Value.string (x ++ { data := #[112] }), Value.string { data := #[48, 112, 49] },
    Value.string { data := #[45, 110, 97, 110] }, Value.string { data := #[73, 110, 102] },
    Value.string { data := #[57, 48, 48, 55, 49, 57, 57, 50, 53, 52, 55, 52, 48, 57, 57, 51, 112, 48] }] 9) = w6.alloc (Obj.cells (formsA x y z) 9) := rfl
  rw [ew]
  clear ew
  have hcell : ∀ k, k < 13 → (w6.alloc (Obj.cells (formsA x y z) 9)).cell? ⟨w6.heap.size, k, none⟩ = some (.string (S k)) := fun k hk => by
    rw [World.cell?_alloc_new]; exact HS.out k hk
  have hbB : Below w.heap.size w (w6.alloc (Obj.cells (formsA x y z) 9)) := hb6.alloc hb6.size _
  have hsB : (w6.alloc (Obj.cells (formsA x y z) 9)).heap.size = w6.heap.size + 1 := by simp
  obtain ⟨wB, hwB⟩ : ∃ wB, wB = w6.alloc (Obj.cells (formsA x y z) 9) := ⟨_, rfl⟩
  rw [← hwB] at hcell hbB hsB ⊢
  clear hwB hb6
  have HC := Lib.hid hcell
  have HB := Lib.hid hsB
  clear hcell hsB HS
  obtain ⟨nb, hnb⟩ : ∃ nb, nb = w6.heap.size := ⟨_, rfl⟩
  rw [← hnb] at HC HB ⊢
  clear hnb
  go_loopw [8] (fun vi wr => ∃ k : Nat, k ≤ 13 ∧ vi = .int .i64 k ∧ Below wB.heap.size wB wr) (fun vi _ => 13 - (intOf vi).toNat)
  case atStart => exact ⟨0, by omega, rfl, Below.refl _ _⟩
  case round =>
    obtain ⟨k, hk, rfl, hbr⟩ := hrel
    by_cases hk13 : k < 13
    · have hc : wr.cell? ⟨nb, k, none⟩ = some (.string (S k)) := by
        rw [hbr.cell (p := ⟨nb, k, none⟩) (by show nb < wB.heap.size; rw [HB.out]; omega)]
        exact HC.out k hk13
      have hbw := hbB.trans (hbr.mono hbB.size)
      go_wp2_with fail
      refine (H4.out k hk13 _ hbw).mono ?_
      rintro e w7 ⟨rfl, hb7⟩
      go_wp2_with fail
      go_roundw
      case rel => exact ⟨k + 1, by omega, by go_num, hbr.trans (hb7.mono hbr.size)⟩
      case measure => simp [intOf]; omega
    · obtain rfl : k = 13 := by omega
      have hbw := hbB.trans (hbr.mono hbB.size)
      go_wp2_with fail
      refine (H5.out _ hbw).mono ?_
      rintro e w7 ⟨rfl, hb7⟩
      have hbx := hbw.trans (hb7.mono hbw.size)
      go_wp2_with fail
      refine (H6.out _ hbx).mono ?_
      rintro e w8 ⟨rfl, hb8⟩
      go_wp2_with fail
      go_ret
      exact ⟨rfl, hbx.trans (hb8.mono hbx.size)⟩

set_option maxRecDepth 100000 in
set_option maxHeartbeats 4000000 in
theorem forms_pos (m e t : Int) (q v : Nat) (x y z g : ByteArray) (S : Nat → ByteArray) (tp : TypeId) (p : Value) (w : World) (hm : bits BinOp.and IntKind.i64 m 65535 = q) (hq : q < 65536) (ht : e.tmod 900 = t) (ht0 : 0 ≤ t) (ht1 : t < 900)
    (hx : x.size ≤ 30) (hy : y.size ≤ 30) (hz : z.size ≤ 30) (hS : ∀ k, k < 13 → (formsA x y z)[k]? = some (.string (S k))) (hg : (g.toList == (x ++ { data := #[112] } ++ y).toList) = true)
    (h0 : Calls Tryd.prog 10 #[] w (Grew (.bool true) w))
    (h1 : ∀ w1, Below w.heap.size w w1 → Calls Tryd.prog 30 #[.int .i64 (2 * q + 1)] w1 (Grew (.string x) w1))
    (h2 : ∀ w1, Below w.heap.size w w1 → Calls Tryd.prog 30 #[.int .i64 t] w1 (Grew (.string y) w1))
    (h3 : ∀ w1, Below w.heap.size w w1 → Calls Tryd.prog 30 #[.int .i64 (2 * (2 * q + 1))] w1 (Grew (.string z) w1))
    (h4 : ∀ k, k < 13 → ∀ w1, Below w.heap.size w w1 → Calls Tryd.prog 17 #[.string (S k)] w1 (Ret2 (.int .u64 0) (.iface tp p) w1))
    (h5 : ∀ w1, Below w.heap.size w w1 → Calls Tryd.prog 17 #[.string (x ++ { data := #[112] } ++ y)] w1 (Ret2 (.int .u64 v) .nilIface w1))
    (h6 : ∀ w1, Below w.heap.size w w1 → Calls Tryd.prog 24 #[.int .u64 v] w1 (Grew (.string g) w1)) :
    Calls Tryd.prog 9 #[.int .i64 m, .int .i64 e] w (Grew (.bool true) w) := by
  have H0 := Lib.hid h0
  have H1 := Lib.hid h1
  have H2 := Lib.hid h2
  have H3 := Lib.hid h3
  have H4 := Lib.hid h4
  have H5 := Lib.hid h5
  have H6 := Lib.hid h6
  have HS := Lib.hid hS
  clear h0 h1 h2 h3 h4 h5 h6 hS
  go_enter Tryd.func9, Tryd.ntmps9
  go_wp2_with fail
  refine H0.out.mono ?_
  rintro e w0 ⟨rfl, hb0⟩
  go_wp2_with fail
  refine (H1.out w0 hb0).mono ?_
  rintro e w1 ⟨rfl, hc1⟩
  have hb1 := hb0.trans (hc1.mono hb0.size)
  clear hc1
  go_wp2_with fail
  refine (H2.out w1 hb1).mono ?_
  rintro e w2 ⟨rfl, hc2⟩
  have hb2 := hb1.trans (hc2.mono hb1.size)
  clear hc2
  go_wp2_with fail
  refine (H3.out w2 hb2).mono ?_
  rintro e w3 ⟨rfl, hc3⟩
  have hb3 := hb2.trans (hc3.mono hb2.size)
  clear hc3
  go_wp2_with fail
  refine (H1.out w3 hb3).mono ?_
  rintro e w4 ⟨rfl, hc4⟩
  have hb4 := hb3.trans (hc4.mono hb3.size)
  clear hc4
  go_wp2_with fail
  refine (H1.out w4 hb4).mono ?_
  rintro e w5 ⟨rfl, hc5⟩
  have hb5 := hb4.trans (hc5.mono hb4.size)
  clear hc5
  go_wp2_with fail
  refine (H1.out w5 hb5).mono ?_
  rintro e w6 ⟨rfl, hc6⟩
  have hb6 := hb5.trans (hc6.mono hb5.size)
  clear hc6 hb0 hb1 hb2 hb3 hb4 hb5
  go_wp2_with fail
  have ew : w6.alloc (Obj.cells #[Value.string (z ++ { data := #[112, 49] }), Value.string ({ data := #[48] } ++ (x ++ { data := #[112] } ++ y)),
    Value.string ({ data := #[43] } ++ (x ++ { data := #[112] } ++ y)),
    Value.string ({ data := #[45, 45] } ++ (x ++ { data := #[112] } ++ y)),
    Value.string (x ++ { data := #[112] } ++ y ++ { data := #[48, 48, 48, 48] }),
    Value.string (x ++ { data := #[112, 48, 49] }), Value.string x, Value.string { data := #[112, 49] },
    Value.string (x ++ { data := #[112] }), Value.string { data := #[48, 112, 49] },
    Value.string { data := #[45, 110, 97, 110] }, Value.string { data := #[73, 110, 102] },
    Value.string { data := #[57, 48, 48, 55, 49, 57, 57, 50, 53, 52, 55, 52, 48, 57, 57, 51, 112, 48] }] 9) = w6.alloc (Obj.cells (formsA x y z) 9) := rfl
  rw [ew]
  clear ew
  have hcell : ∀ k, k < 13 → (w6.alloc (Obj.cells (formsA x y z) 9)).cell? ⟨w6.heap.size, k, none⟩ = some (.string (S k)) := fun k hk => by
    rw [World.cell?_alloc_new]; exact HS.out k hk
  have hbB : Below w.heap.size w (w6.alloc (Obj.cells (formsA x y z) 9)) := hb6.alloc hb6.size _
  have hsB : (w6.alloc (Obj.cells (formsA x y z) 9)).heap.size = w6.heap.size + 1 := by simp
  obtain ⟨wB, hwB⟩ : ∃ wB, wB = w6.alloc (Obj.cells (formsA x y z) 9) := ⟨_, rfl⟩
  rw [← hwB] at hcell hbB hsB ⊢
  clear hwB hb6
  have HC := Lib.hid hcell
  have HB := Lib.hid hsB
  clear hcell hsB HS
  obtain ⟨nb, hnb⟩ : ∃ nb, nb = w6.heap.size := ⟨_, rfl⟩
  rw [← hnb] at HC HB ⊢
  clear hnb
  go_loopw [8] (fun vi wr => ∃ k : Nat, k ≤ 13 ∧ vi = .int .i64 k ∧ Below wB.heap.size wB wr) (fun vi _ => 13 - (intOf vi).toNat)
  case atStart => exact ⟨0, by omega, rfl, Below.refl _ _⟩
  case round =>
    obtain ⟨k, hk, rfl, hbr⟩ := hrel
    by_cases hk13 : k < 13
    · have hc : wr.cell? ⟨nb, k, none⟩ = some (.string (S k)) := by
        rw [hbr.cell (p := ⟨nb, k, none⟩) (by show nb < wB.heap.size; rw [HB.out]; omega)]
        exact HC.out k hk13
      have hbw := hbB.trans (hbr.mono hbB.size)
      go_wp2_with fail
      refine (H4.out k hk13 _ hbw).mono ?_
      rintro e w7 ⟨rfl, hb7⟩
      go_wp2_with fail
      go_roundw
      case rel => exact ⟨k + 1, by omega, by go_num, hbr.trans (hb7.mono hbr.size)⟩
      case measure => simp [intOf]; omega
    · obtain rfl : k = 13 := by omega
      have hbw := hbB.trans (hbr.mono hbB.size)
      go_wp2_with fail
      refine (H5.out _ hbw).mono ?_
      rintro e w7 ⟨rfl, hb7⟩
      have hbx := hbw.trans (hb7.mono hbw.size)
      go_wp2_with fail
      refine (H6.out _ hbx).mono ?_
      rintro e w8 ⟨rfl, hb8⟩
      go_wp2_with fail
      go_ret
      exact ⟨rfl, hbx.trans (hb8.mono hbx.size)⟩

theorem ba_eq (b : ByteArray) (l : List UInt8) (h : b.data.toList = l) : b = ⟨l.toArray⟩ := by
  apply ByteArray.ext
  rw [← h]

theorem forms_cells (M E k : Nat) (hk : k < 13) : (formsA ⟨(Lib.decDigits M).toArray⟩ ⟨(Lib.decDigits E).toArray⟩ ⟨(Lib.decDigits (2 * M)).toArray⟩)[k]? = some (.string ⟨((badL M E).getD k []).toArray⟩) := by
  have h : ∀ (a b : ByteArray), a.data.toList = b.data.toList → some (Value.string a) = some (Value.string b) := fun a b e => by
    rw [show a = b from ByteArray.ext (Array.ext' e)]
  match k, hk with
  | 0, _ => exact h _ _ (by simp [ByteArray.data_append, badL])
  | 1, _ => exact h _ _ (by simp [ByteArray.data_append, badL, goodL])
  | 2, _ => exact h _ _ (by simp [ByteArray.data_append, badL, goodL])
  | 3, _ => exact h _ _ (by simp [ByteArray.data_append, badL, goodL])
  | 4, _ => exact h _ _ (by simp [ByteArray.data_append, badL, goodL])
  | 5, _ => exact h _ _ (by simp [ByteArray.data_append, badL])
  | 6, _ => exact h _ _ (by simp [badL])
  | 7, _ => exact h _ _ (by simp [badL])
  | 8, _ => exact h _ _ (by simp [ByteArray.data_append, badL])
  | 9, _ => exact h _ _ (by simp [badL])
  | 10, _ => exact h _ _ (by simp [badL])
  | 11, _ => exact h _ _ (by simp [badL])
  | 12, _ => exact h _ _ (by simp [badL])

theorem dd_size (u : Nat) (h : u < 18446744073709551616) : (⟨(Lib.decDigits u).toArray⟩ : ByteArray).size ≤ 30 := by
  rw [size_of_list, Lib.decDigits_length]
  have := nDigits_le u h
  omega

theorem floForms_any (m e : Int) (_hm : (Lit.int .i64 m).wf = true) (_he : (Lit.int .i64 e).wf = true) (w : World) (h : All w) :
    Calls Tryd.prog 9 #[.int .i64 m, .int .i64 e] w (Grew (.bool true) w) := by
  obtain ⟨q, hq, hmask⟩ := mask16 m
  obtain ⟨M, hM⟩ : ∃ M : Nat, M = 2 * q + 1 := ⟨_, rfl⟩
  obtain ⟨t, ht⟩ : ∃ t, e.tmod 900 = t := ⟨_, rfl⟩
  have hlo : -900 < t := by
    rw [← ht]
    have := Int.lt_tmod_of_pos e (show (0 : Int) < 900 by omega)
    omega
  have hhi : t < 900 := by
    rw [← ht]
    exact Int.tmod_lt_of_pos e (by omega)
  have hodd : M % 2 = 1 := by omega
  obtain ⟨tp, p, ep⟩ := h.errs.num
  have e1 : Lib.itoa (2 * (q : Int) + 1) = Lib.decDigits M := by
    rw [show (2 * (q : Int) + 1) = (M : Int) by omega]; exact Lib.itoa_nonneg M
  have e3 : Lib.itoa (2 * (2 * (q : Int) + 1)) = Lib.decDigits (2 * M) := by
    rw [show (2 * (2 * (q : Int) + 1)) = ((2 * M : Nat) : Int) by omega]; exact Lib.itoa_nonneg (2 * M)
  have c1 : ∀ w1, Below w.heap.size w w1 → Calls Tryd.prog 30 #[.int .i64 (2 * q + 1)] w1 (Grew (.string ⟨(Lib.decDigits M).toArray⟩) w1) := fun w1 hb => by
    rw [← e1]; exact ntext_any _ (by omega) (by omega) w1 (h.below hb).tabs
  have c3 : ∀ w1, Below w.heap.size w w1 → Calls Tryd.prog 30 #[.int .i64 (2 * (2 * q + 1))] w1 (Grew (.string ⟨(Lib.decDigits (2 * M)).toArray⟩) w1) := fun w1 hb => by
    rw [← e3]; exact ntext_any _ (by omega) (by omega) w1 (h.below hb).tabs
  obtain ⟨E, hE⟩ : ∃ E : Nat, E = t.natAbs := ⟨_, rfl⟩
  obtain ⟨a, ha, hga⟩ := good_text M E hodd (by omega) (by omega)
  have ha' : a < 18446744073709551616 := by omega
  have hgood : ((⟨(Lib.decDigits M).toArray⟩ ++ ⟨#[112]⟩ ++ ⟨(Lib.decDigits E).toArray⟩ : ByteArray)).data.toList = textL a := by
    rw [hga]; simp [ByteArray.data_append, goodL]
  have c4 : ∀ k, k < 13 → ∀ w1, Below w.heap.size w w1 → Calls Tryd.prog 17 #[.string ⟨((badL M E).getD k []).toArray⟩] w1 (Ret2 (.int .u64 0) (.iface tp p) w1) := fun k hk w1 hb => by
    refine parse_none _ (fun b hb' => ?_) tp p w1 (h.below hb) (var_below hb glob0 ep)
    refine bad_none M E hodd _ ?_ b hb'
    have hl : k < (badL M E).length := hk
    simp only [List.getD_eq_getElem?_getD, List.getElem?_eq_getElem hl, Option.getD_some]
    exact List.getElem_mem hl
  have c5 : ∀ w1, Below w.heap.size w w1 → Calls Tryd.prog 17 #[.string (⟨(Lib.decDigits M).toArray⟩ ++ ⟨#[112]⟩ ++ ⟨(Lib.decDigits E).toArray⟩)] w1 (Ret2 (.int .u64 (canonN a : Nat)) .nilIface w1) := fun w1 hb => parse_yes _ a ha' hgood w1 (h.below hb)
  have c6 : ∀ w1, Below w.heap.size w w1 → Calls Tryd.prog 24 #[.int .u64 (canonN a : Nat)] w1 (Grew (.string ⟨(textL (canonN a)).toArray⟩) w1) := fun w1 hb => text_any _ (canon_lt a ha') w1 (h.below hb).tabs
  have hsame : ((⟨(textL (canonN a)).toArray⟩ : ByteArray).toList == ((⟨(Lib.decDigits M).toArray⟩ ++ ⟨#[112]⟩ ++ ⟨(Lib.decDigits E).toArray⟩ : ByteArray)).toList) = true := by
    rw [ByteArray.toList_eq, ByteArray.toList_eq, hgood, text_canon, beq_iff_eq]
  by_cases hneg : t < 0
  · have e2 : Lib.itoa (-t) = Lib.decDigits E := by
      rw [show -t = (E : Int) by omega]; exact Lib.itoa_nonneg E
    refine forms_neg m e t q (canonN a) _ _ _ _ _ tp p w hmask hq ht hneg hlo (dd_size M (by omega)) (dd_size E (by omega)) (dd_size (2 * M) (by omega)) (fun k hk => forms_cells M E k hk) hsame (first_any w h.tabs) c1 (fun w1 hb => ?_) c3 c4 c5 c6
    rw [← e2]; exact ntext_any _ (by omega) (by omega) w1 (h.below hb).tabs
  · have e2 : Lib.itoa t = Lib.decDigits E := by
      rw [show t = (E : Int) by omega]; exact Lib.itoa_nonneg E
    refine forms_pos m e t q (canonN a) _ _ _ _ _ tp p w hmask hq ht (by omega) hhi (dd_size M (by omega)) (dd_size E (by omega)) (dd_size (2 * M) (by omega)) (fun k hk => forms_cells M E k hk) hsame (first_any w h.tabs) c1 (fun w1 hb => ?_) c3 c4 c5 c6
    rw [← e2]; exact ntext_any _ (by omega) (by omega) w1 (h.below hb).tabs

end Go.Proofs.YtpdiajagdehfkaaDoor
