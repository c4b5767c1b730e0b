/- LiftNests: what the told calls share. No conditions. -/
import Derived.Test.YtgpiepdkcpkokaaGreatDoorLiftNestsD
namespace Go.Proofs.YtgpiepdkcpkokaaGreatDoor
open Go.Ex
theorem liftNests_en4 : Enters Tryz.prog 4 := ⟨_, Tryz.func4, by kernel_rfl, by kernel_rfl⟩
theorem liftNests_nil {p : Ent → Prop} : ∀ e ∈ ([] : List Ent), p e := fun _ h => absurd h (by simp)
theorem liftNests_cons {p : Ent → Prop} {a : Ent} {l : List Ent} (h : p a) (hl : ∀ e ∈ l, p e) : ∀ e ∈ a :: l, p e := fun e he => by
  rcases List.mem_cons.1 he with rfl | he
  · exact h
  · exact hl e he
theorem liftNests_told {sy : Nat → Value} {P : Program} {ov : OV} (ho : OvOk sy P ov) {mk : Nat → Nat} {n f : Nat} {es : List Ent} (hE : Enters P f) (hr : ∀ e ∈ es, ∃ ov', OvOk sy P ov' ∧ entRun P ov' mk n f e = true) : OvOk sy P (T.set ov f (hSub es)) := by
  have key : ∀ e ∈ es, ∃ ov' t', OvOk sy P ov' ∧ topF P ov' mk n f e.args e.before.st = some (e.ans, t') ∧ SubSt e.after.st t' := by
    intro e he
    obtain ⟨ov', k, q⟩ := hr e he
    obtain ⟨⟨v, t'⟩, h1, h2⟩ := isO_some q
    rw [and_true'] at h2
    have := eqArg_eq h2.1
    simp only at this
    exact ⟨ov', t', k, by rw [h1, this], subB_sub h2.2⟩
  refine ho.set (fun ρ args s s' v w vs hS hl hfr hh => ?_) hE fun args s v s' hh => ?_
  · obtain ⟨e, he, rfl, hsub, hres⟩ := hSub_some hh
    obtain ⟨ov', t', ho', h1, h2⟩ := key e he
    simp only [Prod.mk.injEq] at hres
    obtain ⟨rfl, rfl⟩ := hres
    refine (topF_ok ho' h1 (hsub.sat hS) hl (by rw [hsub.next, ← h2.next]; exact hfr)).mono fun x w' ⟨ρ', u, g1, g2, g3⟩ => ⟨ρ', u, g1, (hsub.out h2 g2).setDs_r _, g3⟩
  · obtain ⟨e, he, rfl, hsub, hres⟩ := hSub_some hh
    obtain ⟨ov', t', ho', h1, h2⟩ := key e he
    simp only [Prod.mk.injEq] at hres
    obtain ⟨rfl, rfl⟩ := hres
    refine ⟨?_, rfl⟩
    show s.next ≤ e.after.st.next
    rw [h2.next, ← hsub.next]
    exact (callNF_grows (runF_ok (sy := sy) ho' n).2 _ _ _ _ _ h1).next
end Go.Proofs.YtgpiepdkcpkokaaGreatDoor
