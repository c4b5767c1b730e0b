/- Tags: the document's own TagText: its contract. Conditions: lengths; 64 bits; the listed table. -/
import Derived.Test.YtcplajplbocieaaDoorTr1
import Derived.Shelf.SlSortCmp.QuietGrown
namespace Go.Proofs.YtcplajplbocieaaDoor
open Go.RowKit Go.Sort Go.Lib

set_option maxRecDepth 100000 in
set_option maxHeartbeats 4000000 in
theorem tagText_1 (n : Int) (s d : ByteArray) (w : World) (hlen : s.size + d.size ≤ 2000000000000000000)
    (HI : Hid (∀ w', Below w.heap.size w w' → Calls Tryd.prog 33 #[.int .i64 n] w' fun e w'' => e = .returned (.string d) ∧ ∃ k os, w'' = grow (w'.drewN k) os)) :
    Calls Tryd.prog 22 #[.agg #[.int .i64 1, .string s, .int .i64 n]] w (Grew (.string ((⟨#[67]⟩ : ByteArray) ++ s ++ ⟨#[47]⟩ ++ d)) w) := by
  have HB : Hid (Below w.heap.size w (w.alloc (.cells #[.int .i64 1, .string s, .int .i64 n] 23))) := Lib.hid ((Below.refl _ w).alloc (Nat.le_refl _) _)
  have mixed : Tryd.prog.follows .mixedOrders = true := by kernel_rfl
  have c0 : ∀ q os, (grow ((w.alloc (.cells #[.int .i64 1, .string s, .int .i64 n] 23)).drewN q) os).cell? ⟨w.heap.size, 0, none⟩ = some (.int .i64 1) := fun q os => cell_grown (by simp) (by simp) q os
  have c1 : ∀ q os, (grow ((w.alloc (.cells #[.int .i64 1, .string s, .int .i64 n] 23)).drewN q) os).cell? ⟨w.heap.size, 1, none⟩ = some (.string s) := fun q os => cell_grown (by simp) (by simp) q os
  have c2 : ∀ q os, (grow ((w.alloc (.cells #[.int .i64 1, .string s, .int .i64 n] 23)).drewN q) os).cell? ⟨w.heap.size, 2, none⟩ = some (.int .i64 n) := fun q os => cell_grown (by simp) (by simp) q os
  have hw : IntKind.i64.wrap 2 = 2 := by decide
  have hx : (⟨#[32, 67, 70, 80, 65, 73, 68]⟩ : ByteArray).extract 1 2 = ⟨#[67]⟩ := by rfl
  have z1 : ¬ 9223372036854775807 < (⟨#[67]⟩ : ByteArray).size + s.size := by show ¬ _ < 1 + s.size; omega
  have z4 : ¬ 9223372036854775807 < 1 + s.size := by omega
  have z5 : ¬ 9223372036854775807 < 1 + s.size + 1 := by omega
  have z6 : ¬ 9223372036854775807 < 1 + s.size + 1 + d.size := by omega
  have z7 : ¬ 9223372036854775807 < (⟨#[67]⟩ : ByteArray).size + s.size + 1 := by show ¬ _ < 1 + s.size + 1; omega
  have z8 : ¬ 9223372036854775807 < (⟨#[67]⟩ : ByteArray).size + s.size + 1 + d.size := by show ¬ _ < 1 + s.size + 1 + d.size; omega
  have HB2 : Hid (∀ q os, Below w.heap.size w (grow ((w.alloc (.cells #[.int .i64 1, .string s, .int .i64 n] 23)).drewN q) os)) := Lib.hid fun q os => HB.out.trans ((grow_below _ q os).mono HB.out.size)
  have HI2 : Hid (∀ q os, Calls Tryd.prog 33 #[.int .i64 n] (grow ((w.alloc (.cells #[.int .i64 1, .string s, .int .i64 n] 23)).drewN q) os) fun e w'' => e = .returned (.string d) ∧ ∃ p : GrownBy, w'' = grow ((w.alloc (.cells #[.int .i64 1, .string s, .int .i64 n] 23)).drewN p.n) p.os) := Lib.hid fun q os => Calls.grown_of (HI.out _ (HB2.out q os))
  go_enter Tryd.func22, Tryd.ntmps22
  go_wp2_with fail
  go_quiet_grown (exact HI2.out _ _)
  go_wp2_with fail
  go_ret
  exact ⟨rfl, HB2.out _ _⟩
set_option maxRecDepth 100000 in
set_option maxHeartbeats 4000000 in
theorem tagText_2 (n : Int) (s d : ByteArray) (w : World) (hlen : s.size + d.size ≤ 2000000000000000000)
    (HI : Hid (∀ w', Below w.heap.size w w' → Calls Tryd.prog 33 #[.int .i64 n] w' fun e w'' => e = .returned (.string d) ∧ ∃ k os, w'' = grow (w'.drewN k) os)) :
    Calls Tryd.prog 22 #[.agg #[.int .i64 2, .string s, .int .i64 n]] w (Grew (.string ((⟨#[70]⟩ : ByteArray) ++ s ++ ⟨#[47]⟩ ++ d)) w) := by
  have HB : Hid (Below w.heap.size w (w.alloc (.cells #[.int .i64 2, .string s, .int .i64 n] 23))) := Lib.hid ((Below.refl _ w).alloc (Nat.le_refl _) _)
  have mixed : Tryd.prog.follows .mixedOrders = true := by kernel_rfl
  have c0 : ∀ q os, (grow ((w.alloc (.cells #[.int .i64 2, .string s, .int .i64 n] 23)).drewN q) os).cell? ⟨w.heap.size, 0, none⟩ = some (.int .i64 2) := fun q os => cell_grown (by simp) (by simp) q os
  have c1 : ∀ q os, (grow ((w.alloc (.cells #[.int .i64 2, .string s, .int .i64 n] 23)).drewN q) os).cell? ⟨w.heap.size, 1, none⟩ = some (.string s) := fun q os => cell_grown (by simp) (by simp) q os
  have c2 : ∀ q os, (grow ((w.alloc (.cells #[.int .i64 2, .string s, .int .i64 n] 23)).drewN q) os).cell? ⟨w.heap.size, 2, none⟩ = some (.int .i64 n) := fun q os => cell_grown (by simp) (by simp) q os
  have hw : IntKind.i64.wrap 3 = 3 := by decide
  have hx : (⟨#[32, 67, 70, 80, 65, 73, 68]⟩ : ByteArray).extract 2 3 = ⟨#[70]⟩ := by rfl
  have z1 : ¬ 9223372036854775807 < (⟨#[70]⟩ : ByteArray).size + s.size := by show ¬ _ < 1 + s.size; omega
  have z4 : ¬ 9223372036854775807 < 1 + s.size := by omega
  have z5 : ¬ 9223372036854775807 < 1 + s.size + 1 := by omega
  have z6 : ¬ 9223372036854775807 < 1 + s.size + 1 + d.size := by omega
  have z7 : ¬ 9223372036854775807 < (⟨#[70]⟩ : ByteArray).size + s.size + 1 := by show ¬ _ < 1 + s.size + 1; omega
  have z8 : ¬ 9223372036854775807 < (⟨#[70]⟩ : ByteArray).size + s.size + 1 + d.size := by show ¬ _ < 1 + s.size + 1 + d.size; omega
  have HB2 : Hid (∀ q os, Below w.heap.size w (grow ((w.alloc (.cells #[.int .i64 2, .string s, .int .i64 n] 23)).drewN q) os)) := Lib.hid fun q os => HB.out.trans ((grow_below _ q os).mono HB.out.size)
  have HI2 : Hid (∀ q os, Calls Tryd.prog 33 #[.int .i64 n] (grow ((w.alloc (.cells #[.int .i64 2, .string s, .int .i64 n] 23)).drewN q) os) fun e w'' => e = .returned (.string d) ∧ ∃ p : GrownBy, w'' = grow ((w.alloc (.cells #[.int .i64 2, .string s, .int .i64 n] 23)).drewN p.n) p.os) := Lib.hid fun q os => Calls.grown_of (HI.out _ (HB2.out q os))
  go_enter Tryd.func22, Tryd.ntmps22
  go_wp2_with fail
  go_quiet_grown (exact HI2.out _ _)
  go_wp2_with fail
  go_ret
  exact ⟨rfl, HB2.out _ _⟩
set_option maxRecDepth 100000 in
set_option maxHeartbeats 4000000 in
theorem tagText_3 (n : Int) (s d : ByteArray) (w : World) (hlen : s.size + d.size ≤ 2000000000000000000)
    (HI : Hid (∀ w', Below w.heap.size w w' → Calls Tryd.prog 33 #[.int .i64 n] w' fun e w'' => e = .returned (.string d) ∧ ∃ k os, w'' = grow (w'.drewN k) os)) :
    Calls Tryd.prog 22 #[.agg #[.int .i64 3, .string s, .int .i64 n]] w (Grew (.string ((⟨#[80]⟩ : ByteArray) ++ s ++ ⟨#[47]⟩ ++ d)) w) := by
  have HB : Hid (Below w.heap.size w (w.alloc (.cells #[.int .i64 3, .string s, .int .i64 n] 23))) := Lib.hid ((Below.refl _ w).alloc (Nat.le_refl _) _)
  have mixed : Tryd.prog.follows .mixedOrders = true := by kernel_rfl
  have c0 : ∀ q os, (grow ((w.alloc (.cells #[.int .i64 3, .string s, .int .i64 n] 23)).drewN q) os).cell? ⟨w.heap.size, 0, none⟩ = some (.int .i64 3) := fun q os => cell_grown (by simp) (by simp) q os
  have c1 : ∀ q os, (grow ((w.alloc (.cells #[.int .i64 3, .string s, .int .i64 n] 23)).drewN q) os).cell? ⟨w.heap.size, 1, none⟩ = some (.string s) := fun q os => cell_grown (by simp) (by simp) q os
  have c2 : ∀ q os, (grow ((w.alloc (.cells #[.int .i64 3, .string s, .int .i64 n] 23)).drewN q) os).cell? ⟨w.heap.size, 2, none⟩ = some (.int .i64 n) := fun q os => cell_grown (by simp) (by simp) q os
  have hw : IntKind.i64.wrap 4 = 4 := by decide
  have hx : (⟨#[32, 67, 70, 80, 65, 73, 68]⟩ : ByteArray).extract 3 4 = ⟨#[80]⟩ := by rfl
  have z1 : ¬ 9223372036854775807 < (⟨#[80]⟩ : ByteArray).size + s.size := by show ¬ _ < 1 + s.size; omega
  have z4 : ¬ 9223372036854775807 < 1 + s.size := by omega
  have z5 : ¬ 9223372036854775807 < 1 + s.size + 1 := by omega
  have z6 : ¬ 9223372036854775807 < 1 + s.size + 1 + d.size := by omega
  have z7 : ¬ 9223372036854775807 < (⟨#[80]⟩ : ByteArray).size + s.size + 1 := by show ¬ _ < 1 + s.size + 1; omega
  have z8 : ¬ 9223372036854775807 < (⟨#[80]⟩ : ByteArray).size + s.size + 1 + d.size := by show ¬ _ < 1 + s.size + 1 + d.size; omega
  have HB2 : Hid (∀ q os, Below w.heap.size w (grow ((w.alloc (.cells #[.int .i64 3, .string s, .int .i64 n] 23)).drewN q) os)) := Lib.hid fun q os => HB.out.trans ((grow_below _ q os).mono HB.out.size)
  have HI2 : Hid (∀ q os, Calls Tryd.prog 33 #[.int .i64 n] (grow ((w.alloc (.cells #[.int .i64 3, .string s, .int .i64 n] 23)).drewN q) os) fun e w'' => e = .returned (.string d) ∧ ∃ p : GrownBy, w'' = grow ((w.alloc (.cells #[.int .i64 3, .string s, .int .i64 n] 23)).drewN p.n) p.os) := Lib.hid fun q os => Calls.grown_of (HI.out _ (HB2.out q os))
  go_enter Tryd.func22, Tryd.ntmps22
  go_wp2_with fail
  go_quiet_grown (exact HI2.out _ _)
  go_wp2_with fail
  go_ret
  exact ⟨rfl, HB2.out _ _⟩
set_option maxRecDepth 100000 in
set_option maxHeartbeats 4000000 in
theorem tagText_4 (n : Int) (s d : ByteArray) (w : World) (hlen : s.size + d.size ≤ 2000000000000000000)
    (HI : Hid (∀ w', Below w.heap.size w w' → Calls Tryd.prog 33 #[.int .i64 n] w' fun e w'' => e = .returned (.string d) ∧ ∃ k os, w'' = grow (w'.drewN k) os)) :
    Calls Tryd.prog 22 #[.agg #[.int .i64 4, .string s, .int .i64 n]] w (Grew (.string ((⟨#[65]⟩ : ByteArray) ++ s ++ ⟨#[47]⟩ ++ d)) w) := by
  have HB : Hid (Below w.heap.size w (w.alloc (.cells #[.int .i64 4, .string s, .int .i64 n] 23))) := Lib.hid ((Below.refl _ w).alloc (Nat.le_refl _) _)
  have mixed : Tryd.prog.follows .mixedOrders = true := by kernel_rfl
  have c0 : ∀ q os, (grow ((w.alloc (.cells #[.int .i64 4, .string s, .int .i64 n] 23)).drewN q) os).cell? ⟨w.heap.size, 0, none⟩ = some (.int .i64 4) := fun q os => cell_grown (by simp) (by simp) q os
  have c1 : ∀ q os, (grow ((w.alloc (.cells #[.int .i64 4, .string s, .int .i64 n] 23)).drewN q) os).cell? ⟨w.heap.size, 1, none⟩ = some (.string s) := fun q os => cell_grown (by simp) (by simp) q os
  have c2 : ∀ q os, (grow ((w.alloc (.cells #[.int .i64 4, .string s, .int .i64 n] 23)).drewN q) os).cell? ⟨w.heap.size, 2, none⟩ = some (.int .i64 n) := fun q os => cell_grown (by simp) (by simp) q os
  have hw : IntKind.i64.wrap 5 = 5 := by decide
  have hx : (⟨#[32, 67, 70, 80, 65, 73, 68]⟩ : ByteArray).extract 4 5 = ⟨#[65]⟩ := by rfl
  have z1 : ¬ 9223372036854775807 < (⟨#[65]⟩ : ByteArray).size + s.size := by show ¬ _ < 1 + s.size; omega
  have z4 : ¬ 9223372036854775807 < 1 + s.size := by omega
  have z5 : ¬ 9223372036854775807 < 1 + s.size + 1 := by omega
  have z6 : ¬ 9223372036854775807 < 1 + s.size + 1 + d.size := by omega
  have z7 : ¬ 9223372036854775807 < (⟨#[65]⟩ : ByteArray).size + s.size + 1 := by show ¬ _ < 1 + s.size + 1; omega
  have z8 : ¬ 9223372036854775807 < (⟨#[65]⟩ : ByteArray).size + s.size + 1 + d.size := by show ¬ _ < 1 + s.size + 1 + d.size; omega
  have HB2 : Hid (∀ q os, Below w.heap.size w (grow ((w.alloc (.cells #[.int .i64 4, .string s, .int .i64 n] 23)).drewN q) os)) := Lib.hid fun q os => HB.out.trans ((grow_below _ q os).mono HB.out.size)
  have HI2 : Hid (∀ q os, Calls Tryd.prog 33 #[.int .i64 n] (grow ((w.alloc (.cells #[.int .i64 4, .string s, .int .i64 n] 23)).drewN q) os) fun e w'' => e = .returned (.string d) ∧ ∃ p : GrownBy, w'' = grow ((w.alloc (.cells #[.int .i64 4, .string s, .int .i64 n] 23)).drewN p.n) p.os) := Lib.hid fun q os => Calls.grown_of (HI.out _ (HB2.out q os))
  go_enter Tryd.func22, Tryd.ntmps22
  go_wp2_with fail
  go_quiet_grown (exact HI2.out _ _)
  go_wp2_with fail
  go_ret
  exact ⟨rfl, HB2.out _ _⟩
set_option maxRecDepth 100000 in
set_option maxHeartbeats 4000000 in
theorem tagText_5 (n : Int) (s d : ByteArray) (w : World) (hlen : s.size + d.size ≤ 2000000000000000000)
    (HI : Hid (∀ w', Below w.heap.size w w' → Calls Tryd.prog 33 #[.int .i64 n] w' fun e w'' => e = .returned (.string d) ∧ ∃ k os, w'' = grow (w'.drewN k) os)) :
    Calls Tryd.prog 22 #[.agg #[.int .i64 5, .string s, .int .i64 n]] w (Grew (.string ((⟨#[73]⟩ : ByteArray) ++ s ++ ⟨#[47]⟩ ++ d)) w) := by
  have HB : Hid (Below w.heap.size w (w.alloc (.cells #[.int .i64 5, .string s, .int .i64 n] 23))) := Lib.hid ((Below.refl _ w).alloc (Nat.le_refl _) _)
  have mixed : Tryd.prog.follows .mixedOrders = true := by kernel_rfl
  have c0 : ∀ q os, (grow ((w.alloc (.cells #[.int .i64 5, .string s, .int .i64 n] 23)).drewN q) os).cell? ⟨w.heap.size, 0, none⟩ = some (.int .i64 5) := fun q os => cell_grown (by simp) (by simp) q os
  have c1 : ∀ q os, (grow ((w.alloc (.cells #[.int .i64 5, .string s, .int .i64 n] 23)).drewN q) os).cell? ⟨w.heap.size, 1, none⟩ = some (.string s) := fun q os => cell_grown (by simp) (by simp) q os
  have c2 : ∀ q os, (grow ((w.alloc (.cells #[.int .i64 5, .string s, .int .i64 n] 23)).drewN q) os).cell? ⟨w.heap.size, 2, none⟩ = some (.int .i64 n) := fun q os => cell_grown (by simp) (by simp) q os
  have hw : IntKind.i64.wrap 6 = 6 := by decide
  have hx : (⟨#[32, 67, 70, 80, 65, 73, 68]⟩ : ByteArray).extract 5 6 = ⟨#[73]⟩ := by rfl
  have z1 : ¬ 9223372036854775807 < (⟨#[73]⟩ : ByteArray).size + s.size := by show ¬ _ < 1 + s.size; omega
  have z4 : ¬ 9223372036854775807 < 1 + s.size := by omega
  have z5 : ¬ 9223372036854775807 < 1 + s.size + 1 := by omega
  have z6 : ¬ 9223372036854775807 < 1 + s.size + 1 + d.size := by omega
  have z7 : ¬ 9223372036854775807 < (⟨#[73]⟩ : ByteArray).size + s.size + 1 := by show ¬ _ < 1 + s.size + 1; omega
  have z8 : ¬ 9223372036854775807 < (⟨#[73]⟩ : ByteArray).size + s.size + 1 + d.size := by show ¬ _ < 1 + s.size + 1 + d.size; omega
  have HB2 : Hid (∀ q os, Below w.heap.size w (grow ((w.alloc (.cells #[.int .i64 5, .string s, .int .i64 n] 23)).drewN q) os)) := Lib.hid fun q os => HB.out.trans ((grow_below _ q os).mono HB.out.size)
  have HI2 : Hid (∀ q os, Calls Tryd.prog 33 #[.int .i64 n] (grow ((w.alloc (.cells #[.int .i64 5, .string s, .int .i64 n] 23)).drewN q) os) fun e w'' => e = .returned (.string d) ∧ ∃ p : GrownBy, w'' = grow ((w.alloc (.cells #[.int .i64 5, .string s, .int .i64 n] 23)).drewN p.n) p.os) := Lib.hid fun q os => Calls.grown_of (HI.out _ (HB2.out q os))
  go_enter Tryd.func22, Tryd.ntmps22
  go_wp2_with fail
  go_quiet_grown (exact HI2.out _ _)
  go_wp2_with fail
  go_ret
  exact ⟨rfl, HB2.out _ _⟩
set_option maxRecDepth 100000 in
set_option maxHeartbeats 4000000 in
theorem tagText_6 (n : Int) (s d : ByteArray) (w : World) (hlen : s.size + d.size ≤ 2000000000000000000)
    (HI : Hid (∀ w', Below w.heap.size w w' → Calls Tryd.prog 33 #[.int .i64 n] w' fun e w'' => e = .returned (.string d) ∧ ∃ k os, w'' = grow (w'.drewN k) os)) :
    Calls Tryd.prog 22 #[.agg #[.int .i64 6, .string s, .int .i64 n]] w (Grew (.string ((⟨#[68]⟩ : ByteArray) ++ s ++ ⟨#[47]⟩ ++ d)) w) := by
  have HB : Hid (Below w.heap.size w (w.alloc (.cells #[.int .i64 6, .string s, .int .i64 n] 23))) := Lib.hid ((Below.refl _ w).alloc (Nat.le_refl _) _)
  have mixed : Tryd.prog.follows .mixedOrders = true := by kernel_rfl
  have c0 : ∀ q os, (grow ((w.alloc (.cells #[.int .i64 6, .string s, .int .i64 n] 23)).drewN q) os).cell? ⟨w.heap.size, 0, none⟩ = some (.int .i64 6) := fun q os => cell_grown (by simp) (by simp) q os
  have c1 : ∀ q os, (grow ((w.alloc (.cells #[.int .i64 6, .string s, .int .i64 n] 23)).drewN q) os).cell? ⟨w.heap.size, 1, none⟩ = some (.string s) := fun q os => cell_grown (by simp) (by simp) q os
  have c2 : ∀ q os, (grow ((w.alloc (.cells #[.int .i64 6, .string s, .int .i64 n] 23)).drewN q) os).cell? ⟨w.heap.size, 2, none⟩ = some (.int .i64 n) := fun q os => cell_grown (by simp) (by simp) q os
  have hw : IntKind.i64.wrap 7 = 7 := by decide
  have hx : (⟨#[32, 67, 70, 80, 65, 73, 68]⟩ : ByteArray).extract 6 7 = ⟨#[68]⟩ := by rfl
  have z1 : ¬ 9223372036854775807 < (⟨#[68]⟩ : ByteArray).size + s.size := by show ¬ _ < 1 + s.size; omega
  have z4 : ¬ 9223372036854775807 < 1 + s.size := by omega
  have z5 : ¬ 9223372036854775807 < 1 + s.size + 1 := by omega
  have z6 : ¬ 9223372036854775807 < 1 + s.size + 1 + d.size := by omega
  have z7 : ¬ 9223372036854775807 < (⟨#[68]⟩ : ByteArray).size + s.size + 1 := by show ¬ _ < 1 + s.size + 1; omega
  have z8 : ¬ 9223372036854775807 < (⟨#[68]⟩ : ByteArray).size + s.size + 1 + d.size := by show ¬ _ < 1 + s.size + 1 + d.size; omega
  have HB2 : Hid (∀ q os, Below w.heap.size w (grow ((w.alloc (.cells #[.int .i64 6, .string s, .int .i64 n] 23)).drewN q) os)) := Lib.hid fun q os => HB.out.trans ((grow_below _ q os).mono HB.out.size)
  have HI2 : Hid (∀ q os, Calls Tryd.prog 33 #[.int .i64 n] (grow ((w.alloc (.cells #[.int .i64 6, .string s, .int .i64 n] 23)).drewN q) os) fun e w'' => e = .returned (.string d) ∧ ∃ p : GrownBy, w'' = grow ((w.alloc (.cells #[.int .i64 6, .string s, .int .i64 n] 23)).drewN p.n) p.os) := Lib.hid fun q os => Calls.grown_of (HI.out _ (HB2.out q os))
  go_enter Tryd.func22, Tryd.ntmps22
  go_wp2_with fail
  go_quiet_grown (exact HI2.out _ _)
  go_wp2_with fail
  go_ret
  exact ⟨rfl, HB2.out _ _⟩
theorem tagText_any (x : Tg) (hs : x.s.size ≤ 1000000000000000000) (h0 : -9223372036854775808 ≤ x.n) (h1 : x.n ≤ 9223372036854775807) (hk : 1 ≤ x.k ∧ x.k ≤ 6) (w : World) (ht : Tabs w) : Calls Tryd.prog 22 #[.agg (encT x).toArray] w (Grew (.string (textT x)) w) := by
  obtain ⟨k, s, n⟩ := x
  unfold textT
  simp only at hs h0 h1 hk ⊢
  rw [if_pos hk]
  have hd : (⟨(Lib.itoa n).toArray⟩ : ByteArray).size ≤ 21 := by
    have := Lib.itoa_length_le n h0 h1
    rw [Lib.size_eq]; simpa using this
  have HIT : Hid (∀ w', Below w.heap.size w w' → Calls Tryd.prog 33 #[.int .i64 n] w' fun e w'' => e = .returned (.string ⟨(Lib.itoa n).toArray⟩) ∧ ∃ k os, w'' = grow (w'.drewN k) os) := Lib.hid fun w' hb => Tryd.strconv_Itoa n h0 h1 w' (var_below hb (g := 1) (by kernel_rfl) ht)
  have hk6 : k = 1 ∨ k = 2 ∨ k = 3 ∨ k = 4 ∨ k = 5 ∨ k = 6 := by omega
  rcases hk6 with rfl | rfl | rfl | rfl | rfl | rfl
  · exact tagText_1 n s _ w (by omega) HIT
  · exact tagText_2 n s _ w (by omega) HIT
  · exact tagText_3 n s _ w (by omega) HIT
  · exact tagText_4 n s _ w (by omega) HIT
  · exact tagText_5 n s _ w (by omega) HIT
  · exact tagText_6 n s _ w (by omega) HIT
end Go.Proofs.YtcplajplbocieaaDoor
