/- The reader's take: a word read. Conditions: the errors' variables hold errors. -/
import Derived.Test.YtlblhlnpmdfblaaDoorRd6
namespace Go.Proofs.YtlblhlnpmdfblaaDoor
open Go.RowKit

/-- One word further, as the plain reading has it; none: an error. -/
def rdS (st : List (Fo × Nat)) (cur : Fo) (t : ByteArray) (p : Nat) : Option (List (Fo × Nat) × Fo) :=
  if isOpen t then (if 200 ≤ st.length then none else some ((cur, p) :: st, .nil))
  else if isClose t then (match st with | [] => none | x :: st' => some (st', x.1.app (.list cur x.2 .nil)))
  else some (st, cur.app (.word t p .nil))
theorem rdW_some {st st' : List (Fo × Nat)} {cur cur' : Fo} {t : ByteArray} {p : Nat} (h : rdS st cur t p = some (st', cur')) (ws : List (ByteArray × Nat)) : rdW st cur ((t, p) :: ws) = rdW st' cur' ws := by
  unfold rdS at h
  rw [rdW.eq_def]
  simp only
  split at h
  · rename_i ho
    rw [if_pos ho]
    split at h
    · simp at h
    · rename_i hn
      rw [if_neg hn]
      simp only [Option.some.injEq, Prod.mk.injEq] at h
      rw [h.1, h.2]
  · rename_i ho
    rw [if_neg ho]
    split at h
    · rename_i hc
      rw [if_pos hc]
      cases st with
      | nil => simp at h
      | cons x st =>
        simp only [Option.some.injEq, Prod.mk.injEq] at h
        rw [← h.1, ← h.2]
    · rename_i hc
      rw [if_neg hc]
      simp only [Option.some.injEq, Prod.mk.injEq] at h
      rw [h.1, h.2]
theorem rdW_none {st : List (Fo × Nat)} {cur : Fo} {t : ByteArray} {p : Nat} (h : rdS st cur t p = none) (ws : List (ByteArray × Nat)) : (rdW st cur ((t, p) :: ws)).fo = none := by
  unfold rdS at h
  rw [rdW.eq_def]
  simp only
  split at h
  · rename_i ho
    rw [if_pos ho]
    split at h
    · rename_i hn
      rw [if_pos hn]; rfl
    · simp at h
  · rename_i ho
    rw [if_neg ho]
    split at h
    · rename_i hc
      rw [if_pos hc]
      cases st with
      | nil => rfl
      | cons x st => simp at h
    · simp at h
theorem open_eq {t : ByteArray} (h : isOpen t = true) : t = ⟨#[40]⟩ := by
  unfold isOpen at h
  rw [ByteArray.toList_eq] at h
  apply ByteArray.ext
  apply Array.toList_inj.1
  simpa using h
theorem close_eq {t : ByteArray} (h : isClose t = true) : t = ⟨#[41]⟩ := by
  unfold isClose at h
  rw [ByteArray.toList_eq] at h
  apply ByteArray.ext
  apply Array.toList_inj.1
  simpa using h

/-- The word as a value. -/
def wdV (t : ByteArray) (p : Nat) : Value := .agg #[.string t, .int .i64 (p : Int)]
def TkP (B R n : Nat) (r : Option (List (Fo × Nat) × Fo)) (w : World) (e : Ending) (w' : World) : Prop := match r with
  | some x => e = .returned .nilIface ∧ Next B R n x.1 x.2 w w'
  | none => Errs B w e w'

theorem TkP.val {B R n : Nat} {r : Option (List (Fo × Nat) × Fo)} {w w' : World} {e : Ending} (h : TkP B R n r w e w') : ∃ v, e = .returned v := by
  unfold TkP at h
  split at h
  · exact ⟨_, h.1⟩
  · obtain ⟨tp, p, h1, _⟩ := h
    exact ⟨_, h1⟩
theorem TkP.from {B R n : Nat} {r : Option (List (Fo × Nat) × Fo)} {w w0 w' : World} {e : Ending} (h : TkP B R n r w0 e w') (hb : Below B w w0) : TkP B R n r w e w' := by
  unfold TkP at h ⊢
  split at h
  · exact ⟨h.1, h.2.from hb⟩
  · obtain ⟨tp, p, h1, h2⟩ := h
    exact ⟨tp, p, h1, hb.trans h2⟩
set_option maxRecDepth 100000 in
set_option maxHeartbeats 4000000 in
theorem take_open (B R : Nat) (p : Nat) (r : Option (List (Fo × Nat) × Fo)) (n : Nat) (w : World) (hBw : B ≤ w.heap.size)
    (H : Calls Tryd.prog 28 #[.pointer (some ⟨R, 0, none⟩), .int .i64 p] (w.alloc (.cells #[.string ⟨#[40]⟩, .int .i64 p] 48)) (TkP B R n r (w.alloc (.cells #[.string ⟨#[40]⟩, .int .i64 p] 48)))) :
    Calls Tryd.prog 16 #[.pointer (some ⟨R, 0, none⟩), wdV ⟨#[40]⟩ p] w (TkP B R n r w) := by
  have HH := Lib.hid H
  clear H
  unfold wdV
  go_enter Tryd.func16, Tryd.ntmps16
  go_wp2_with fail
  refine HH.out.mono ?_
  intro e w' h
  obtain ⟨v, rfl⟩ := h.val
  have HT := Lib.hid (h.from ((Below.refl B w).alloc hBw _))
  clear h
  go_wp2_with fail
  go_ret
  exact HT.out
set_option maxRecDepth 100000 in
set_option maxHeartbeats 4000000 in
theorem take_close (B R : Nat) (p : Nat) (r : Option (List (Fo × Nat) × Fo)) (n : Nat) (w : World) (hBw : B ≤ w.heap.size)
    (H : Calls Tryd.prog 29 #[.pointer (some ⟨R, 0, none⟩), .int .i64 p] (w.alloc (.cells #[.string ⟨#[41]⟩, .int .i64 p] 48)) (TkP B R n r (w.alloc (.cells #[.string ⟨#[41]⟩, .int .i64 p] 48)))) :
    Calls Tryd.prog 16 #[.pointer (some ⟨R, 0, none⟩), wdV ⟨#[41]⟩ p] w (TkP B R n r w) := by
  have HH := Lib.hid H
  clear H
  unfold wdV
  go_enter Tryd.func16, Tryd.ntmps16
  go_wp2_with fail
  refine HH.out.mono ?_
  intro e w' h
  obtain ⟨v, rfl⟩ := h.val
  have HT := Lib.hid (h.from ((Below.refl B w).alloc hBw _))
  clear h
  go_wp2_with fail
  go_ret
  exact HT.out
set_option maxRecDepth 100000 in
set_option maxHeartbeats 4000000 in
theorem take_word (B R : Nat) (t : ByteArray) (p : Nat) (n : Nat) (st : List (Fo × Nat)) (cur : Fo) (w : World) (hBw : B ≤ w.heap.size) (h1 : (t.toList == [40]) = false) (h2 : (t.toList == [41]) = false)
    (H : Calls Tryd.prog 30 #[.pointer (some ⟨R, 0, none⟩), ndV t (.slice none 0 0) p] (w.alloc (.cells #[.string t, .int .i64 p] 48)) fun e w' => e = .returned (.tuple #[]) ∧ Next B R n st cur (w.alloc (.cells #[.string t, .int .i64 p] 48)) w') :
    Calls Tryd.prog 16 #[.pointer (some ⟨R, 0, none⟩), wdV t p] w (TkP B R n (some (st, cur)) w) := by
  have HH := Lib.hid H
  clear H
  unfold wdV
  go_enter Tryd.func16, Tryd.ntmps16
  go_wp2_with fail
  refine HH.out.mono ?_
  rintro e w' ⟨rfl, h⟩
  have HT := Lib.hid (h.from ((Below.refl B w).alloc hBw _))
  clear h
  go_wp2_with fail
  go_ret
  exact ⟨rfl, HT.out⟩

theorem take_any (B R : Nat) (lab : Nat → Nat) (vD vO : Value) (f0 : Fo) (os : Os) (t : ByteArray) (p n : Nat) (te tc : TypeId) (pe pc : Value) (w : World) (hn : n ≤ 100000) (hb : Bnd n f0 os) (h : St w B R lab vD vO f0 os)
    (he : w.cell? ⟨2, 0, none⟩ = some (.iface te pe)) (hc : w.cell? ⟨3, 0, none⟩ = some (.iface tc pc)) :
    Calls Tryd.prog 16 #[.pointer (some ⟨R, 0, none⟩), wdV t p] w (TkP B R (n + 1) (rdS (stOf [] f0 os).1 (stOf [] f0 os).2 t p) w) := by
  have hBw : B ≤ w.heap.size := by have := h.ge; have := h.lt; omega
  have hbw : ∀ o, Below w.heap.size w (w.alloc o) := fun o => (Below.refl _ w).alloc (Nat.le_refl _) o
  have hlen := stOf_len os [] f0
  simp only [List.length_nil, Nat.zero_add] at hlen
  have cellA : ∀ {g : Nat} {x : Value} (o : Obj), w.cell? ⟨g, 0, none⟩ = some x → (w.alloc o).cell? ⟨g, 0, none⟩ = some x := fun o hx => ((hbw o).cell (p := ⟨_, 0, none⟩) (World.block_lt_of_cell? w _ hx)).trans hx
  unfold rdS
  by_cases ho : isOpen t = true
  · rw [if_pos ho]
    obtain rfl := open_eq ho
    refine take_open B R p _ (n + 1) w hBw ?_
    by_cases hk : 200 ≤ (stOf [] f0 os).1.length
    · rw [if_pos hk]
      exact (open_err B R lab vD vO f0 os p te pe _ (h.alloc _) (by have := hb.2.1; omega) (cellA _ he)).mono fun e w' q => q
    · rw [if_neg hk]
      exact (open_ok B R lab vD vO f0 os p (n + 1) _ ⟨Nat.le_succ_of_le hb.1, hb.2.1, fun x hx => Nat.le_succ_of_le (hb.2.2 x hx)⟩ (h.alloc _) (by omega)).mono fun e w' q => q
  · rw [if_neg ho]
    by_cases hcl : isClose t = true
    · rw [if_pos hcl]
      obtain rfl := close_eq hcl
      refine take_close B R p _ (n + 1) w hBw ?_
      cases hst : (stOf [] f0 os).1 with
      | nil =>
        rw [hst] at hlen
        have : os = [] := List.eq_nil_of_length_eq_zero hlen.symm
        subst this
        exact (close_err B R lab vD vO f0 p tc pc _ (h.alloc _) (cellA _ hc)).mono fun e w' q => q
      | cons x st => exact (close_ok B R lab vD vO f0 os p n x.2 st x.1 (stOf [] f0 os).2 _ hn hb (h.alloc _) (by rw [← hst])).mono fun e w' q => q
    · rw [if_neg hcl]
      have e1 : (t.toList == [40]) = false := by
        cases hq : (t.toList == [40]) with
        | false => rfl
        | true => exact absurd hq ho
      have e2 : (t.toList == [41]) = false := by
        cases hq : (t.toList == [41]) with
        | false => rfl
        | true => exact absurd hq hcl
      refine take_word B R t p (n + 1) _ _ w hBw e1 e2 ?_
      exact add_any B R lab vD vO f0 (.word t p .nil) os t none 0 0 p n _ hn hb (h.alloc _) ⟨none, 0, [], rfl, rfl⟩ rfl
end Go.Proofs.YtlblhlnpmdfblaaDoor
