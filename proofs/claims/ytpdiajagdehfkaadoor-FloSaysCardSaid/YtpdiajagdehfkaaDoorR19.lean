/- FloSays, of any arguments, under what the listed variables' condition gives; five arguments opened. Conditions: as each says. -/
import Derived.Test.YtpdiajagdehfkaaDoorR17
import Derived.Test.YtpdiajagdehfkaaDoorR18
namespace Go.Proofs.YtpdiajagdehfkaaDoor
open Go.ChangeShapes Go.WideShapes Go.ChangeAt Go.RowKit

theorem trodAll_five {H : Type} {enc : TypeId × Value → H} {P : Program} {w : World} {base : Nat} {spare : Nat → Bool} {held : Bool} {t0 t1 t2 t3 t4 : TypeId} {args : Array Value} {ds : List (DataW H)} {ps : List MemPlace}
    (h : DataW.TrodAll enc P w base spare held [t0, t1, t2, t3, t4] args.toList ds ps) :
    ∃ v0 v1 v2 v3 v4 d0 d1 d2 d3 d4 p0 p1 p2 p3 p4, args = #[v0, v1, v2, v3, v4] ∧ ds = [d0, d1, d2, d3, d4] ∧ ps = p0 ++ (p1 ++ (p2 ++ (p3 ++ p4))) ∧ DataW.Trod enc P w base spare held t0 v0 d0 p0 ∧ DataW.Trod enc P w base spare held t1 v1 d1 p1 ∧
      DataW.Trod enc P w base spare held t2 v2 d2 p2 ∧ DataW.Trod enc P w base spare held t3 v3 d3 p3 ∧ DataW.Trod enc P w base spare held t4 v4 d4 p4 := by
  obtain ⟨v0, vs0, d0, ds0, p0, q0, hargs, rfl, rfl, h0, r0⟩ := trodAll_cons h
  obtain ⟨v1, v2, v3, v4, d1, d2, d3, d4, p1, p2, p3, p4, e1, rfl, rfl, h1, h2, h3, h4⟩ := trodAll_four (args := vs0.toArray) (by simpa using r0)
  refine ⟨v0, v1, v2, v3, v4, d0, d1, d2, d3, d4, p0, p1, p2, p3, p4, ?_, rfl, by simp, h0, h1, h2, h3, h4⟩
  have e2 := congrArg Array.toList e1
  simp only at e2
  obtain ⟨l⟩ := args
  simp only at hargs
  rw [hargs, e2]

/-- What FloSays reads of memory. -/
def SaysIn (W : World) : Prop := ∃ A, All W ∧ Sents A W ∧ W.var? Tryd.prog "gristmill/api.ErrNumber" = some #[errI A 17]

theorem floSays_any (name s : ByteArray) (a b : Nat) (n : Int) (_h0 : name.size ≤ maxLen) (_h1 : s.size ≤ maxLen) (ha : a < 18446744073709551616) (_hb : b < 18446744073709551616) (_hn : (Lit.int .i64 n).wf = true) (W : World) (h : SaysIn W) :
    Calls Tryd.prog 3 #[.string name, .string s, .int .u64 a, .int .u64 b, .int .i64 n] W (Grew (.bool true) W) := by
  obtain ⟨A, h1, h2, h3⟩ := h
  exact floSays_walk name s a b n ha A W h1 h2 h3

end Go.Proofs.YtpdiajagdehfkaaDoor
