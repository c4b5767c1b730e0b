/- gristmillsee.Is: what it calls. Conditions: as each says. -/
import Derived.Test.YtpdiajagdehfkaaDoorW18
import Derived.LaidEql
import Derived.Laws.Rows
namespace Go.Proofs.YtpdiajagdehfkaaDoor
open Go.RowKit

theorem isComp : (Tryd.prog.info? 121).map (·.comparable) = some true := by kernel_rfl
theorem isSize : ((Tryd.prog.info? 123).map (·.size)).map (fun n => n != 0) = some true := by kernel_rfl

theorem eql_err {W : World} (x a : Addr) {cx ca : Array Value} {tx ta : TypeId} (hx : W.heap[x.block]? = some (.cells cx tx (0, 0))) (ha : W.heap[a.block]? = some (.cells ca ta (0, 0))) :
    (binOp .eql 31 (.iface 121 (.pointer (some x))) (.iface 121 (.pointer (some a)))).run Tryd.prog W = .ok (.bool (decide (x = a))) W := by
  obtain ⟨i, hi, hcmp⟩ := Option.map_eq_some_iff.1 isComp
  obtain ⟨n, hn, hjs⟩ := Option.map_eq_some_iff.1 isSize
  obtain ⟨j, hj, rfl⟩ := Option.map_eq_some_iff.1 hn
  by_cases h : x = a
  · subst h
    simpa using run_eql_iface_ptr_same (P := Tryd.prog) W x Tryd.underlying31 Tryd.underlying121 hi hcmp hj
  · simpa [h] using run_eql_iface_ptr_other (P := Tryd.prog) W Tryd.underlying31 Tryd.underlying121 hi hcmp hj (by simpa using hjs) h hx ha

/-- A fault, bare. -/
def bareV (c : Int) : Value := .agg #[.int .i64 c, .bool false, .int .i64 0]

theorem info58 (c : Int) : (Tryd.prog.info? 58).map (·.size) = some (#[Value.int .i64 c, .bool false, .int .i64 0]).size := by
  show _ = some 3
  kernel_rfl

set_option maxRecDepth 100000 in
theorem bare_any (c : Int) (w : World) :
    Calls Tryd.prog 35 #[.int .i64 c] w (Grew (bareV c) w) := by
  go_enter Tryd.func35, Tryd.ntmps35
  go_wp2_with fail
  refine bodyPost_ret (results_cell_row rfl _ _ w.heap.size 58 _ (0, 0) _ rfl (heap_alloc_new w _) Tryd.underlying58 rfl (info58 c)) rfl ?_
  exact ⟨rfl, (Below.refl _ _).alloc (Nat.le_refl _) _⟩
set_option maxRecDepth 100000 in
theorem samef_any (c : Int) (w : World) :
    Calls Tryd.prog 49 #[bareV c, bareV c] w (Grew (.bool true) w) := by
  unfold bareV
  go_enter Tryd.func49, Tryd.ntmps49
  go_wp2_with fail
  go_ret
  exact ⟨rfl, ((Below.refl _ _).alloc (Nat.le_refl _) _).alloc (by simp) _⟩
set_option maxRecDepth 100000 in
theorem alike_any (x a : Addr) (w : World) {cx ca : Array Value} {tx ta : TypeId} (hx : w.heap[x.block]? = some (.cells cx tx (0, 0))) (ha : w.heap[a.block]? = some (.cells ca ta (0, 0))) :
    Calls Tryd.prog 81 #[.iface 121 (.pointer (some x)), .iface 121 (.pointer (some a))] w fun e w' => e = .returned (.bool (decide (x = a))) ∧ w = w' := by
  have he := eql_err x a hx ha
  clear hx ha
  go_enter Tryd.func81, Tryd.ntmps81
  go_wp2_with fail
  go_ret
  exact ⟨rfl, rfl⟩

/-- Where api's errors lie: the variable of each, in the order of gristmillsee's list. -/
def errG (i : Nat) : Nat := if i = 17 then 0 else i + 7
def errI (A : Nat → Addr) (i : Nat) : Value := .iface 121 (.pointer (some (A i)))
def errA (A : Nat → Addr) : Array Value := #[errI A 0, errI A 1, errI A 2, errI A 3, errI A 4, errI A 5, errI A 6, errI A 7, errI A 8, errI A 9, errI A 10, errI A 11, errI A 12, errI A 13, errI A 14, errI A 15, errI A 16, errI A 17]

set_option maxRecDepth 100000 in
set_option maxHeartbeats 4000000 in
theorem sentinels_any (A : Nat → Addr) (w : World) (h : ∀ i, i < 18 → w.cell? ⟨errG i, 0, none⟩ = some (errI A i)) :
    Calls Tryd.prog 80 #[] w fun e w' => e = .returned (.slice (some ⟨w.heap.size, 0, none⟩) 18 18) ∧ w' = w.alloc (Obj.cells (errA A) 31) := by
  have h0 : w.cell? ⟨7, 0, none⟩ = some (.iface 121 (.pointer (some (A 0)))) := h 0 (by omega)
  have h1 : w.cell? ⟨8, 0, none⟩ = some (.iface 121 (.pointer (some (A 1)))) := h 1 (by omega)
  have h2 : w.cell? ⟨9, 0, none⟩ = some (.iface 121 (.pointer (some (A 2)))) := h 2 (by omega)
  have h3 : w.cell? ⟨10, 0, none⟩ = some (.iface 121 (.pointer (some (A 3)))) := h 3 (by omega)
  have h4 : w.cell? ⟨11, 0, none⟩ = some (.iface 121 (.pointer (some (A 4)))) := h 4 (by omega)
  have h5 : w.cell? ⟨12, 0, none⟩ = some (.iface 121 (.pointer (some (A 5)))) := h 5 (by omega)
  have h6 : w.cell? ⟨13, 0, none⟩ = some (.iface 121 (.pointer (some (A 6)))) := h 6 (by omega)
  have h7 : w.cell? ⟨14, 0, none⟩ = some (.iface 121 (.pointer (some (A 7)))) := h 7 (by omega)
  have h8 : w.cell? ⟨15, 0, none⟩ = some (.iface 121 (.pointer (some (A 8)))) := h 8 (by omega)
  have h9 : w.cell? ⟨16, 0, none⟩ = some (.iface 121 (.pointer (some (A 9)))) := h 9 (by omega)
  have h10 : w.cell? ⟨17, 0, none⟩ = some (.iface 121 (.pointer (some (A 10)))) := h 10 (by omega)
  have h11 : w.cell? ⟨18, 0, none⟩ = some (.iface 121 (.pointer (some (A 11)))) := h 11 (by omega)
  have h12 : w.cell? ⟨19, 0, none⟩ = some (.iface 121 (.pointer (some (A 12)))) := h 12 (by omega)
  have h13 : w.cell? ⟨20, 0, none⟩ = some (.iface 121 (.pointer (some (A 13)))) := h 13 (by omega)
  have h14 : w.cell? ⟨21, 0, none⟩ = some (.iface 121 (.pointer (some (A 14)))) := h 14 (by omega)
  have h15 : w.cell? ⟨22, 0, none⟩ = some (.iface 121 (.pointer (some (A 15)))) := h 15 (by omega)
  have h16 : w.cell? ⟨23, 0, none⟩ = some (.iface 121 (.pointer (some (A 16)))) := h 16 (by omega)
  have h17 : w.cell? ⟨0, 0, none⟩ = some (.iface 121 (.pointer (some (A 17)))) := h 17 (by omega)
  clear h
  go_enter Tryd.func80, Tryd.ntmps80
  go_wp2_with fail
  go_ret
  exact ⟨rfl, rfl⟩
end Go.Proofs.YtpdiajagdehfkaaDoor
