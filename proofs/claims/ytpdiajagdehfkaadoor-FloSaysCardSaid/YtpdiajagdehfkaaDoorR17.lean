/- What the listed variables' condition gives FloSays: the two tables, the errors of strconv, and api's eighteen errors, the last other than those ahead of it. Conditions: the listed variables read as start-up lays them. -/
import Derived.Test.YtpdiajagdehfkaaDoorFrame2
import Derived.Test.YtpdiajagdehfkaaDoorR16
import Derived.Stop.LaidTwo
namespace Go.Proofs.YtpdiajagdehfkaaDoor
open Go.ChangeShapes Go.WideShapes Go.ChangeAt Go.RowKit

/-- An error's variable, the error, its text. -/
def SentAt (n : String) (t : List UInt8) (a : Addr) (W : World) : Prop :=
  W.var? Tryd.prog n = some #[.iface 121 (.pointer (some a))] ∧ (∃ s, W.cell? a = some (.string s) ∧ s.data.toList = t) ∧ ∃ c u, W.heap[a.block]? = some (.cells c u (0, 0))

theorem sent2 {n0 n1 : String} {g0 g1 : Nat} {t0 t1 : List UInt8} {r : List (String × DataW Unit)} {W : World}
    (h : laidMet Tryd.prog ((n0, .iface "*errors.errorString" (.ptr (.agg [.lit (.string t0)]))) :: (n1, .iface "*errors.errorString" (.ptr (.agg [.lit (.string t1)]))) :: r) W)
    (hg0 : Tryd.prog.globalNamed n0 = some g0) (ht0 : (Tryd.prog.globals[g0]?).map (·.type) = some 31) (hg1 : Tryd.prog.globalNamed n1 = some g1) (ht1 : (Tryd.prog.globals[g1]?).map (·.type) = some 31) :
    ∃ a0 a1, SentAt n0 t0 a0 W ∧ SentAt n1 t1 a1 W := by
  obtain ⟨a0, a1, s0, s1, c0, c1, u0, u1, v0, v1, x0, y0, _, x1, y1, _, _, b0, b1⟩ := laid_sentinels2 h hg0 ht0 hg1 ht1 Tryd.underlying31 row121 Tryd.underlying121 Tryd.underlying123 rfl rfl Tryd.underlying9 (by kernel_rfl) (by kernel_rfl)
  exact ⟨a0, a1, ⟨v0, ⟨s0, x0, y0⟩, ⟨c0, u0, b0⟩⟩, ⟨v1, ⟨s1, x1, y1⟩, ⟨c1, u1, b1⟩⟩⟩

theorem SentAt.apart {n m : String} {t u : List UInt8} {a b : Addr} {W : World} (h : SentAt n t a W) (k : SentAt m u b W) (hne : t ≠ u) : a ≠ b := by
  rintro rfl
  obtain ⟨_, ⟨s, x, y⟩, _⟩ := h
  obtain ⟨_, ⟨s', x', y'⟩, _⟩ := k
  rw [x] at x'
  injection x' with x'
  injection x' with x'
  subst x'
  exact hne (y.symm.trans y')

theorem globE0 : Tryd.prog.globalNamed "gristmill/api.ErrEnd" = some 7 := by kernel_rfl
theorem globE1 : Tryd.prog.globalNamed "gristmill/api.ErrShape" = some 8 := by kernel_rfl
theorem globE2 : Tryd.prog.globalNamed "gristmill/api.ErrRange" = some 9 := by kernel_rfl
theorem globE3 : Tryd.prog.globalNamed "gristmill/api.ErrMany" = some 10 := by kernel_rfl
theorem globE4 : Tryd.prog.globalNamed "gristmill/api.ErrDeep" = some 11 := by kernel_rfl
theorem globE5 : Tryd.prog.globalNamed "gristmill/api.ErrOpen" = some 12 := by kernel_rfl
theorem globE6 : Tryd.prog.globalNamed "gristmill/api.ErrClose" = some 13 := by kernel_rfl
theorem globE7 : Tryd.prog.globalNamed "gristmill/api.ErrForm" = some 14 := by kernel_rfl
theorem globE8 : Tryd.prog.globalNamed "gristmill/api.ErrName" = some 15 := by kernel_rfl
theorem globE9 : Tryd.prog.globalNamed "gristmill/api.ErrTwice" = some 16 := by kernel_rfl
theorem globE10 : Tryd.prog.globalNamed "gristmill/api.ErrNone" = some 17 := by kernel_rfl
theorem globE11 : Tryd.prog.globalNamed "gristmill/api.ErrArity" = some 18 := by kernel_rfl
theorem globE12 : Tryd.prog.globalNamed "gristmill/api.ErrMain" = some 19 := by kernel_rfl
theorem globE13 : Tryd.prog.globalNamed "gristmill/api.ErrType" = some 20 := by kernel_rfl
theorem globE14 : Tryd.prog.globalNamed "gristmill/api.ErrBound" = some 21 := by kernel_rfl
theorem globE15 : Tryd.prog.globalNamed "gristmill/api.ErrTag" = some 22 := by kernel_rfl
theorem globE16 : Tryd.prog.globalNamed "gristmill/api.ErrWord" = some 23 := by kernel_rfl
theorem globE17 : Tryd.prog.globalNamed "gristmill/api.ErrNumber" = some 0 := by kernel_rfl

/-- A function of eighteen places. -/
def addrs (l : List Addr) (d : Addr) (i : Nat) : Addr := l.getD i d

set_option maxRecDepth 100000 in
theorem errs_of_laid {W : World} (h : laidMet Tryd.prog Rows.floSaysRow.laid W) : ∃ A, All W ∧ Sents A W ∧ W.var? Tryd.prog "gristmill/api.ErrNumber" = some #[errI A 17] := by
  have ht := tabs_of_laid h
  have h3 := h.tail.tail.tail
  obtain ⟨x, e1⟩ := sent h3 glob6 (by kernel_rfl)
  obtain ⟨y, e2⟩ := sent h3.tail glob5 (by kernel_rfl)
  have k0 := h3.tail.tail
  obtain ⟨a0, a1, s0, s1⟩ := sent2 k0 globE0 (by kernel_rfl) globE1 (by kernel_rfl)
  have k1 := k0.tail.tail
  obtain ⟨a2, a3, s2, s3⟩ := sent2 k1 globE2 (by kernel_rfl) globE3 (by kernel_rfl)
  have k2 := k1.tail.tail
  obtain ⟨a4, a5, s4, s5⟩ := sent2 k2 globE4 (by kernel_rfl) globE5 (by kernel_rfl)
  have k3 := k2.tail.tail
  obtain ⟨a6, a7, s6, s7⟩ := sent2 k3 globE6 (by kernel_rfl) globE7 (by kernel_rfl)
  have k4 := k3.tail.tail
  obtain ⟨a8, a9, s8, s9⟩ := sent2 k4 globE8 (by kernel_rfl) globE9 (by kernel_rfl)
  have k5 := k4.tail.tail
  obtain ⟨a10, a11, s10, s11⟩ := sent2 k5 globE10 (by kernel_rfl) globE11 (by kernel_rfl)
  have k6 := k5.tail.tail
  obtain ⟨a12, a13, s12, s13⟩ := sent2 k6 globE12 (by kernel_rfl) globE13 (by kernel_rfl)
  have k7 := k6.tail.tail
  obtain ⟨a14, a15, s14, s15⟩ := sent2 k7 globE14 (by kernel_rfl) globE15 (by kernel_rfl)
  have k8 := k7.tail.tail
  obtain ⟨a16, a17, s16, s17⟩ := sent2 k8 globE16 (by kernel_rfl) globE17 (by kernel_rfl)
  refine ⟨addrs [a0, a1, a2, a3, a4, a5, a6, a7, a8, a9, a10, a11, a12, a13, a14, a15, a16, a17] a0, ⟨ht, ⟨⟨_, _, e2⟩, ⟨_, _, e1⟩, ⟨_, _, s17.1⟩⟩⟩, ⟨fun i hi => ?_, fun i hi => ?_, fun i hi => ?_⟩, s17.1⟩
  · rcases i with _ | _ | _ | _ | _ | _ | _ | _ | _ | _ | _ | _ | _ | _ | _ | _ | _ | _ | _
    · exact cell_of_var globE0 s0.1
    · exact cell_of_var globE1 s1.1
    · exact cell_of_var globE2 s2.1
    · exact cell_of_var globE3 s3.1
    · exact cell_of_var globE4 s4.1
    · exact cell_of_var globE5 s5.1
    · exact cell_of_var globE6 s6.1
    · exact cell_of_var globE7 s7.1
    · exact cell_of_var globE8 s8.1
    · exact cell_of_var globE9 s9.1
    · exact cell_of_var globE10 s10.1
    · exact cell_of_var globE11 s11.1
    · exact cell_of_var globE12 s12.1
    · exact cell_of_var globE13 s13.1
    · exact cell_of_var globE14 s14.1
    · exact cell_of_var globE15 s15.1
    · exact cell_of_var globE16 s16.1
    · exact cell_of_var globE17 s17.1
    · omega
  · rcases i with _ | _ | _ | _ | _ | _ | _ | _ | _ | _ | _ | _ | _ | _ | _ | _ | _ | _ | _
    · exact s0.2.2
    · exact s1.2.2
    · exact s2.2.2
    · exact s3.2.2
    · exact s4.2.2
    · exact s5.2.2
    · exact s6.2.2
    · exact s7.2.2
    · exact s8.2.2
    · exact s9.2.2
    · exact s10.2.2
    · exact s11.2.2
    · exact s12.2.2
    · exact s13.2.2
    · exact s14.2.2
    · exact s15.2.2
    · exact s16.2.2
    · exact s17.2.2
    · omega
  · rcases i with _ | _ | _ | _ | _ | _ | _ | _ | _ | _ | _ | _ | _ | _ | _ | _ | _ | _
    · exact s17.apart s0 (by decide)
    · exact s17.apart s1 (by decide)
    · exact s17.apart s2 (by decide)
    · exact s17.apart s3 (by decide)
    · exact s17.apart s4 (by decide)
    · exact s17.apart s5 (by decide)
    · exact s17.apart s6 (by decide)
    · exact s17.apart s7 (by decide)
    · exact s17.apart s8 (by decide)
    · exact s17.apart s9 (by decide)
    · exact s17.apart s10 (by decide)
    · exact s17.apart s11 (by decide)
    · exact s17.apart s12 (by decide)
    · exact s17.apart s13 (by decide)
    · exact s17.apart s14 (by decide)
    · exact s17.apart s15 (by decide)
    · exact s17.apart s16 (by decide)
    · omega

end Go.Proofs.YtpdiajagdehfkaaDoor
