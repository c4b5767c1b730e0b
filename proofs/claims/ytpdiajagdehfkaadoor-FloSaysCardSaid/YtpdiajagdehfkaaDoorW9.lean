/- FloEdges: what the floats' laws give its walk: how two words stand, sums and products the other way round. -/
import Derived.Test.YtpdiajagdehfkaaDoorW8
namespace Go.Proofs.YtpdiajagdehfkaaDoor
open Go.RowKit Ieee

theorem canon_is_nan (a : Nat) : ((canonN a : Int) == 9221120237041090560) = nanB a := by
  cases h : nanB a
  · rw [canon_of_num h]
    have : a ≠ 9221120237041090560 := by
      intro e; subst e; exact absurd h (by decide)
    simp; omega
  · rw [canon_of_nan h]; rfl

theorem eq_self (a : Nat) : eqB a a = !nanB a := by
  unfold eqB
  rw [order_self]
  cases nanB a <;> rfl

theorem order_some (a b : Nat) (ha : nanB a = false) (hb : nanB b = false) : ∃ o, Ieee.double.order a b = some o := ⟨_, order_sv a b ha hb⟩

theorem stand_any (a b : Nat) : Stand (nanB a) (nanB b) (ltB a b) (ltB b a) (eqB a b) := by
  unfold Stand ltB eqB
  cases ha : nanB a
  · cases hb : nanB b
    · obtain ⟨o, ho⟩ := order_some a b ha hb
      have hs := order_swap a b
      rw [ho] at hs
      rw [hs, ho]
      cases o <;> simp
    · have h1 := (order_nan a b).2 (Or.inr hb)
      have h2 := (order_nan b a).2 (Or.inl hb)
      rw [h1, h2]
      simp
  · have h1 := (order_nan a b).2 (Or.inl ha)
    have h2 := (order_nan b a).2 (Or.inr ha)
    rw [h1, h2]
    simp

theorem fop_add_comm (a b : Nat) : fop .add a b = fop .add b a := by
  unfold fop
  congr 1
  exact add_comm' a b
theorem fop_mul_comm (a b : Nat) : fop .mul a b = fop .mul b a := by
  unfold fop
  congr 1
  exact mul_comm' a b
theorem fop_add_nan (a b : Nat) (h : nanB a = true) : fop .add a b = 9221120237041090560 := by
  refine fop_of_none ?_
  show Ieee.double.add a b = none
  obtain ⟨s, t, e⟩ := (read_nan a).1 h
  unfold Format.add
  rw [e]
  rfl
theorem fop_mul_nan (a b : Nat) (h : nanB a = true) : fop .mul a b = 9221120237041090560 := by
  refine fop_of_none ?_
  show Ieee.double.mul a b = none
  obtain ⟨s, t, e⟩ := (read_nan a).1 h
  unfold Format.mul
  rw [e]
  rfl

theorem fop_q1 : fop .quo 4607182418800017408 0 = 9218868437227405312 := by decide +kernel
theorem fop_q2 : fop .quo 4607182418800017408 9223372036854775808 = 18442240474082181120 := by decide +kernel
theorem fop_q3 : fop .sub 9218868437227405312 9218868437227405312 = 9221120237041090560 := by decide +kernel
theorem eq_zeros : eqB 0 9223372036854775808 = true := by decide +kernel

theorem floEdges_any (a b : Nat) (_ha : a < 18446744073709551616) (_hb : b < 18446744073709551616) (w : World) (ht : Tabs w) :
    Calls Tryd.prog 5 #[.int .u64 a, .int .u64 b] w (Grew (.bool true) w) := by
  refine edges_core a b (canonN a) (canonN b) (fop .add a b) (fop .mul a b) (nanB a) (nanB b) (ltB a b) (ltB b a) (eqB a b) w (stand_any a b) (fun h => ⟨fop_add_nan a b h, fop_mul_nan a b h⟩) (canon_is_nan a) (canon_is_nan b)
    (first_any w ht) (canon_any a) (canon_any b) ?_ (is_lt a b) (is_lt b a) (is_eq a b) (do_add a b) ?_ (do_mul a b) ?_ ?_ ?_ ?_ ?_
  · intro w
    have := is_eq a a w
    rw [eq_self] at this
    exact this
  · intro w
    rw [fop_add_comm]
    exact do_add b a w
  · intro w
    rw [fop_mul_comm]
    exact do_mul b a w
  · intro w
    have := do_div 4607182418800017408 0 w
    rw [fop_q1] at this
    exact this
  · intro w
    have := do_div 4607182418800017408 9223372036854775808 w
    rw [fop_q2] at this
    exact this
  · intro w
    have := do_sub 9218868437227405312 9218868437227405312 w
    rw [fop_q3] at this
    exact this
  · intro w
    have := is_eq 0 9223372036854775808 w
    rw [eq_zeros] at this
    exact this

end Go.Proofs.YtpdiajagdehfkaaDoor
