/- TreePlaces: the walk of the law, out of the contracts of what it calls. No conditions. -/
import Derived.Test.YtlblhlnpmdfblaaDoorFit
namespace Go.Proofs.YtlblhlnpmdfblaaDoor
open Go.RowKit

/-- What reading tells: nodes, or an error and no nodes. -/
def ReadsAs (r : Rd) (w : World) (e : Ending) (w' : World) : Prop := match r with
  | .ok f => ∃ ao cap, e = .returned (.tuple #[.slice ao f.len cap, .nilIface]) ∧ (ao = none → cap = 0) ∧ FoAt w' f ao 0 ∧ Below w.heap.size w w'
  | _ => ∃ ao cap tp p, e = .returned (.tuple #[.slice ao 0 cap, .iface tp p]) ∧ Below w.heap.size w w'
theorem ReadsAs.ok {f : Fo} {w w' : World} {e : Ending} (h : ReadsAs (.ok f) w e w') : ∃ ao cap, e = .returned (.tuple #[.slice ao f.len cap, .nilIface]) ∧ (ao = none → cap = 0) ∧ FoAt w' f ao 0 ∧ Below w.heap.size w w' := h
theorem ReadsAs.no {r : Rd} (hr : r.fo = none) {w w' : World} {e : Ending} (h : ReadsAs r w e w') : ∃ ao cap tp p, e = .returned (.tuple #[.slice ao 0 cap, .iface tp p]) ∧ Below w.heap.size w w' := by
  cases r with
  | ok f => cases hr
  | deepAt p => exact h
  | openAt p => exact h
  | closeAt p => exact h
theorem rd_cases (r : Rd) : (∃ f, r = .ok f) ∨ r.fo = none := by
  cases r with
  | ok f => exact Or.inl ⟨f, rfl⟩
  | deepAt p => exact Or.inr rfl
  | openAt p => exact Or.inr rfl
  | closeAt p => exact Or.inr rfl
def sizeS : List (Fo × Nat) → Nat
  | [] => 0
  | x :: st => x.1.size + sizeS st
theorem size_app (a b : Fo) : (a.app b).size = a.size + b.size := by induction a <;> simp_all [Fo.app, Fo.size] <;> omega
theorem rdW_size (ws : List (ByteArray × Nat)) : ∀ (st : List (Fo × Nat)) (cur f : Fo), rdW st cur ws = .ok f → f.size ≤ sizeS st + cur.size + ws.length := by
  induction ws with
  | nil =>
    intro st cur f h
    cases st with
    | nil => rw [rdW] at h; injection h with h; subst h; simp [sizeS]
    | cons x st => rw [rdW] at h; cases h
  | cons w ws ih =>
    intro st cur f h
    rw [rdW.eq_def] at h
    simp only at h
    rw [List.length_cons]
    split at h
    · split at h
      · cases h
      · have := ih _ _ _ h
        simp only [sizeS, Fo.size] at this
        omega
    · split at h
      · cases st with
        | nil => cases h
        | cons x st =>
          have := ih _ _ _ h
          rw [size_app] at this
          simp only [sizeS, Fo.size] at this ⊢
          omega
      · have := ih _ _ _ h
        rw [size_app] at this
        simp only [Fo.size] at this
        omega
theorem parse_size (l : List UInt8) (f : Fo) (h : parseF l = .ok f) : f.size ≤ l.length := by
  have h1 := rdW_size _ _ _ _ h
  have h2 := words_len l
  simp only [sizeS, Fo.size] at h1
  omega

set_option maxRecDepth 100000 in
set_option maxHeartbeats 1000000 in
theorem places_core (s : ByteArray) (w : World)
    (H0 : Hid (Calls Tryd.prog 6 #[] w (Grew (.bool true) w)))
    (HP : Hid (∀ (s : ByteArray) (w1 : World), s.size ≤ 65536 → Below w.heap.size w w1 → Calls Tryd.prog 8 #[.string s] w1 (ReadsAs (parseF s.data.toList) w1))) :
    Calls Tryd.prog 4 #[.string s] w (Grew (.bool true) w) := by
  by_cases hl : 500 < s.size
  · have hl' : (500 : Int) < (s.size : Int) := by omega
    go_enter Tryd.func4, Tryd.ntmps4
    go_wp2_with fail
    refine H0.out.mono ?_
    rintro e w0 ⟨rfl, hb0⟩
    go_wp2_with fail
    go_ret
    exact ⟨rfl, hb0⟩
  have hs : s.size ≤ 500 := by omega
  have hsz : (s.size : Int) ≤ 500 := by omega
  rcases rd_cases (parseF s.data.toList) with ⟨f, hf⟩ | hf
  · have hsize := parse_size _ _ hf
    rw [← Lib.size_eq] at hsize
    have hfit := parse_fit s f hf
    have HP' : Hid (∀ w1 : World, Below w.heap.size w w1 → Calls Tryd.prog 8 #[.string s] w1 (ReadsAs (.ok f) w1)) := Lib.hid fun w1 hb => by
      have := HP.out s w1 (by omega) hb
      rw [hf] at this
      exact this
    have HI := Lib.hid (fun (ao : Option Addr) (cap : Nat) (w2 : World) (ha : FoAt w2 f ao 0) => within_any s (by omega) f.size (by omega) f (Nat.le_refl _) 0 s.size ao cap f.len w2 rfl (by omega) (Nat.le_refl _) ha hfit)
    clear HP hf hsize hfit
    go_enter Tryd.func4, Tryd.ntmps4
    go_wp2_with fail
    refine H0.out.mono ?_
    rintro e w0 ⟨rfl, hb0⟩
    have HB0 := Lib.hid hb0
    go_wp2_with fail
    refine (HP'.out w0 hb0).mono ?_
    rintro e w1 ⟨ao, cap, rfl, _, ha, hb1⟩
    have HC := Lib.hid (HI.out ao cap w1 ha)
    have HB1 := Lib.hid hb1
    clear ha hb1 hb0
    go_wp2_with fail
    refine HC.out.mono ?_
    rintro e w' ⟨rfl, rfl⟩
    go_wp2_with fail
    go_ret
    exact ⟨rfl, HB0.out.trans (HB1.out.mono HB0.out.size)⟩
  · have HP' : Hid (∀ w1 : World, Below w.heap.size w w1 → Calls Tryd.prog 8 #[.string s] w1 fun e w' => ∃ ao cap tp p, e = .returned (.tuple #[.slice ao 0 cap, .iface tp p]) ∧ Below w1.heap.size w1 w') := Lib.hid fun w1 hb =>
      (HP.out s w1 (by omega) hb).mono fun e w' h => h.no hf
    clear HP hf
    go_enter Tryd.func4, Tryd.ntmps4
    go_wp2_with fail
    refine H0.out.mono ?_
    rintro e w0 ⟨rfl, hb0⟩
    have HB0 := Lib.hid hb0
    go_wp2_with fail
    refine (HP'.out w0 hb0).mono ?_
    rintro e w1 ⟨ao, cap, tp, p, rfl, hb1⟩
    have HB1 := Lib.hid hb1
    clear hb1 hb0
    go_wp2_with fail
    go_ret
    exact ⟨rfl, HB0.out.trans (HB1.out.mono HB0.out.size)⟩
end Go.Proofs.YtlblhlnpmdfblaaDoor
