/- FloWhole: the walk of the law, out of the contracts of what it calls. Conditions: the two tables as start-up lays them; 64 bits. -/
import Derived.Test.YtpdiajagdehfkaaDoorW11
namespace Go.Proofs.YtpdiajagdehfkaaDoor
open Go.RowKit Ieee

/-- math.Trunc, of a finite word. -/
def trN (a : Nat) : Nat := Ieee.double.word (sgB a) (rnd (V (rg a) / U * U))

theorem arch_fin (a : Nat) (h : rg a < 9218868437227405312) (w : World) : (callFunc 41 #[.float .f64 a]).run Tryd.prog w = .ok (.value (.float .f64 (trN a))) w := by
  rw [arch_step]
  obtain ⟨m, k, e, v⟩ := read_num a h
  have e1 : FloatKind.f64.decode a = .number (sgB a) m (-1074 + (k : Int)) := e
  have e2 : FloatKind.f64.encode (Datum.integral .zero (.number (sgB a) m (-1074 + (k : Int)))) = trN a := by
    rw [integral_num, ← v]
    exact nearest_pw (sgB a) (V (rg a) / U) 1074
  have e3 : Extern.MathFloor.toIntegral "math.archTrunc" .zero #[.float .f64 a] = Extern.MathFloor.toIntegral.match_1 (fun _ => Sem Value) (FloatKind.f64.decode a) (fun s t => _) (fun d => Sem.pure (.float .f64 (FloatKind.f64.encode (d.integral .zero)))) := rfl
  rw [e3, e1, ← e2]
  rfl

set_option maxRecDepth 100000 in
set_option maxHeartbeats 400000 in
theorem trunc_fin (a : Nat) (h : rg a < 9218868437227405312) (w : World) :
    Calls Tryd.prog 29 #[.float .f64 a] w fun e w' => e = .returned (.float .f64 (trN a)) ∧ w = w' := by
  have ha := arch_fin a h
  clear h
  go_enter Tryd.func29, Tryd.ntmps29
  go_wp2
  go_ret
  exact ⟨rfl, rfl⟩

theorem trunc_eq (a : Nat) : (FloatKind.f64.format.order (trN a) (ofI (tiVal a)) == some .eq) = true := by
  have hr := rnd_le (V (rg a) / U * U)
  have h1 : nanB (trN a) = false := nan_word _ _ hr
  have h2 : sv (trN a) = sgn (sgB a) (V (rnd (V (rg a) / U * U))) := sv_word _ _ (by omega)
  have h3 := ofI_sv (tiVal a)
  have h4 : (tiVal a).natAbs = V (rg a) / U := sgn_abs _ _
  rw [h4] at h3
  show (Ieee.double.order (trN a) (ofI (tiVal a)) == some .eq) = true
  rw [order_sv _ _ h1 (ofI_nan _), compare_eq]
  · rfl
  · rw [h2, h3]
    by_cases h0 : V (rg a) / U = 0
    · rw [h0, Nat.zero_mul, rnd_zero, V_zero]
      unfold sgn
      split <;> split <;> rfl
    · rw [show decide (tiVal a < 0) = sgB a from sgn_neg _ _ h0]

set_option maxRecDepth 100000 in
set_option maxHeartbeats 1000000 in
theorem whole_yes (n k : Int) (a fk g t : Nat) (y : Int) (w : World) (hk : n / 2048 = k)
    (heq : (FloatKind.f64.format.order t g == some .eq) = true)
    (h0 : Calls Tryd.prog 10 #[] w (Grew (.bool true) w))
    (h1 : ∀ w, Calls Tryd.prog 22 #[.int .i64 k] w fun e w' => e = .returned (.int .u64 fk) ∧ w = w')
    (h2 : ∀ w, Calls Tryd.prog 15 #[.int .u64 fk] w fun e w' => e = .returned (.tuple #[.int .i64 k, .bool true]) ∧ w = w')
    (h3 : ∀ w, Calls Tryd.prog 15 #[.int .u64 a] w fun e w' => e = .returned (.tuple #[.int .i64 y, .bool true]) ∧ w = w')
    (h4 : ∀ w, Calls Tryd.prog 22 #[.int .i64 y] w fun e w' => e = .returned (.int .u64 g) ∧ w = w')
    (h5 : ∀ w, Calls Tryd.prog 29 #[.float .f64 a] w fun e w' => e = .returned (.float .f64 t) ∧ w = w') :
    Calls Tryd.prog 6 #[.int .i64 n, .int .u64 a] w (Grew (.bool true) w) := by
  have H0 := Lib.hid h0
  have H1 := Lib.hid h1
  have H2 := Lib.hid h2
  have H3 := Lib.hid h3
  have H4 := Lib.hid h4
  have H5 := Lib.hid h5
  clear h0 h1 h2 h3 h4 h5
  have fb := from_bits
  go_enter Tryd.func6, Tryd.ntmps6
  go_wp2_with fail
  refine H0.out.mono ?_
  rintro e w0 ⟨rfl, hb⟩
  go_wp2_with fail
  refine (H1.out _).mono ?_
  rintro e w' ⟨rfl, rfl⟩
  go_wp2_with fail
  refine (H2.out _).mono ?_
  rintro e w' ⟨rfl, rfl⟩
  go_wp2_with fail
  refine (H3.out _).mono ?_
  rintro e w' ⟨rfl, rfl⟩
  go_wp2_with fail
  refine (H4.out _).mono ?_
  rintro e w' ⟨rfl, rfl⟩
  go_wp2_with fail
  refine (H5.out _).mono ?_
  rintro e w' ⟨rfl, rfl⟩
  go_wp2_with fail
  go_ret
  exact ⟨rfl, hb⟩

set_option maxRecDepth 100000 in
set_option maxHeartbeats 1000000 in
theorem whole_no (n k : Int) (a fk : Nat) (g l : Bool) (w : World) (hk : n / 2048 = k)
    (hg : (FloatKind.f64.format.order a 14114281232179134464 == some .gt) = g) (hl : (FloatKind.f64.format.order a 4890909195324358656 == some .lt) = l) (hgl : g = false ∨ (g = true ∧ l = false))
    (h0 : Calls Tryd.prog 10 #[] w (Grew (.bool true) w))
    (h1 : ∀ w, Calls Tryd.prog 22 #[.int .i64 k] w fun e w' => e = .returned (.int .u64 fk) ∧ w = w')
    (h2 : ∀ w, Calls Tryd.prog 15 #[.int .u64 fk] w fun e w' => e = .returned (.tuple #[.int .i64 k, .bool true]) ∧ w = w')
    (h3 : ∀ w, Calls Tryd.prog 15 #[.int .u64 a] w fun e w' => e = .returned (.tuple #[.int .i64 0, .bool false]) ∧ w = w') :
    Calls Tryd.prog 6 #[.int .i64 n, .int .u64 a] w (Grew (.bool true) w) := by
  have H0 := Lib.hid h0
  have H1 := Lib.hid h1
  have H2 := Lib.hid h2
  have H3 := Lib.hid h3
  clear h0 h1 h2 h3
  have fb := from_bits
  rcases hgl with rfl | ⟨rfl, rfl⟩
  all_goals
    go_enter Tryd.func6, Tryd.ntmps6
    go_wp2_with fail
    refine H0.out.mono ?_
    rintro e w0 ⟨rfl, hb⟩
    go_wp2_with fail
    refine (H1.out _).mono ?_
    rintro e w' ⟨rfl, rfl⟩
    go_wp2_with fail
    refine (H2.out _).mono ?_
    rintro e w' ⟨rfl, rfl⟩
    go_wp2_with fail
    refine (H3.out _).mono ?_
    rintro e w' ⟨rfl, rfl⟩
    go_wp2_with fail
    go_ret
    exact ⟨rfl, hb⟩

theorem not_ok (a : Nat) (h : tiOk a = false) :
    (FloatKind.f64.format.order a 14114281232179134464 == some .gt) = false ∨ ((FloatKind.f64.format.order a 14114281232179134464 == some .gt) = true ∧ (FloatKind.f64.format.order a 4890909195324358656 == some .lt) = false) := by
  show (Ieee.double.order a 14114281232179134464 == some .gt) = false ∨ ((Ieee.double.order a 14114281232179134464 == some .gt) = true ∧ (Ieee.double.order a 4890909195324358656 == some .lt) = false)
  unfold tiOk lowB highB at h
  cases hn : nanB a
  · obtain ⟨o, e1⟩ : ∃ o, Ieee.double.order a 14114281232179134464 = some o := ⟨_, order_sv a _ hn (by decide)⟩
    obtain ⟨o', e2⟩ : ∃ o, Ieee.double.order a 4890909195324358656 = some o := ⟨_, order_sv a _ hn (by decide)⟩
    rw [hn, e1, e2] at h
    rw [e1, e2]
    cases o <;> cases o' <;> simp_all
  · left
    rw [(order_nan a _).2 (Or.inl hn)]
    rfl

theorem shr11 (n : Int) (h0 : -9223372036854775808 ≤ n) (h1 : n ≤ 9223372036854775807) : (n / 2048).natAbs < 9007199254740992 := by omega

theorem floWhole_any (n : Int) (a : Nat) (hn : (Lit.int .i64 n).wf = true) (_ha : a < 18446744073709551616) (w : World) (ht : Tabs w) :
    Calls Tryd.prog 6 #[.int .i64 n, .int .u64 a] w (Grew (.bool true) w) := by
  simp [Lit.wf, IntKind.min, IntKind.max, IntKind.signed, IntKind.bits] at hn
  have hk := ofI_ok (n / 2048) (shr11 n (by omega) (by omega))
  have h2 : ∀ w, Calls Tryd.prog 15 #[.int .u64 (ofI (n / 2048) : Nat)] w fun e w' => e = .returned (.tuple #[.int .i64 (n / 2048), .bool true]) ∧ w = w' := fun w => by
    have := toint_any (ofI (n / 2048)) w
    rw [hk.1, hk.2] at this
    exact this
  cases hok : tiOk a
  · refine whole_no n _ a _ _ _ w rfl rfl rfl (not_ok a hok) (first_any w ht) (ofint_any _) h2 fun w => ?_
    have := toint_any a w
    rw [hok] at this
    exact this
  · refine whole_yes n _ a _ _ _ (tiVal a) w rfl (trunc_eq a) (first_any w ht) (ofint_any _) h2 (fun w => ?_) (ofint_any _) (trunc_fin a (ti_fin a hok).1)
    have := toint_any a w
    rw [hok] at this
    exact this

end Go.Proofs.YtpdiajagdehfkaaDoor
