/- FloEdges: the walk of the law, out of the contracts of what it calls. -/
import Derived.Test.YtpdiajagdehfkaaDoorW6
import Derived.Test.YtpdiajagdehfkaaDoorOps
namespace Go.Proofs.YtpdiajagdehfkaaDoor
open Go.RowKit Ieee

set_option maxRecDepth 100000 in
set_option maxHeartbeats 400000 in
theorem inf_pos (w : World) : Calls Tryd.prog 27 #[.int .i64 1] w fun e w' => e = .returned (.float .f64 9218868437227405312) ∧ w = w' := by
  have fb : ∀ w, (callFunc 28 #[.int .u64 9218868437227405312]).run Tryd.prog w = .ok (.value (.float .f64 9218868437227405312)) w := fun w => from_bits 9218868437227405312 w
  go_enter Tryd.func27, Tryd.ntmps27
  go_wp2
  go_ret
  exact ⟨rfl, rfl⟩
set_option maxRecDepth 100000 in
set_option maxHeartbeats 400000 in
theorem inf_neg (w : World) : Calls Tryd.prog 27 #[.int .i64 (-1)] w fun e w' => e = .returned (.float .f64 18442240474082181120) ∧ w = w' := by
  have fb : ∀ w, (callFunc 28 #[.int .u64 18442240474082181120]).run Tryd.prog w = .ok (.value (.float .f64 18442240474082181120)) w := fun w => from_bits 18442240474082181120 w
  go_enter Tryd.func27, Tryd.ntmps27
  go_wp2
  go_ret
  exact ⟨rfl, rfl⟩

/-- How two words may stand: no number first, second; less, greater, the same. -/
def Stand (na nb l m s : Bool) : Prop :=
  (na = true ∧ l = false ∧ m = false ∧ s = false) ∨ (na = false ∧ nb = true ∧ l = false ∧ m = false ∧ s = false) ∨ (na = false ∧ nb = false ∧ l = true ∧ m = false ∧ s = false) ∨
  (na = false ∧ nb = false ∧ l = false ∧ m = true ∧ s = false) ∨ (na = false ∧ nb = false ∧ l = false ∧ m = false ∧ s = true)

def NAN : Nat := 9221120237041090560

set_option maxRecDepth 100000 in
set_option maxHeartbeats 4000000 in
theorem edges_core (a b ca cb S P : Nat) (na nb l m s : Bool) (w : World) (hst : Stand na nb l m s) (hS : na = true → S = 9221120237041090560 ∧ P = 9221120237041090560)
    (hna : ((ca : Int) == 9221120237041090560) = na) (hnb : ((cb : Int) == 9221120237041090560) = nb)
    (h0 : Calls Tryd.prog 10 #[] w (Grew (.bool true) w))
    (h1 : ∀ w, Calls Tryd.prog 20 #[.int .u64 a] w fun e w' => e = .returned (.int .u64 ca) ∧ w = w')
    (h1b : ∀ w, Calls Tryd.prog 20 #[.int .u64 b] w fun e w' => e = .returned (.int .u64 cb) ∧ w = w')
    (h2 : ∀ w, Calls Tryd.prog 13 #[.string ⟨#[102, 61]⟩, .int .u64 a, .int .u64 a] w fun e w' => e = .returned (.tuple #[.bool (!na), .bool true]) ∧ w = w')
    (h3 : ∀ w, Calls Tryd.prog 13 #[.string ⟨#[102, 60]⟩, .int .u64 a, .int .u64 b] w fun e w' => e = .returned (.tuple #[.bool l, .bool true]) ∧ w = w')
    (h4 : ∀ w, Calls Tryd.prog 13 #[.string ⟨#[102, 60]⟩, .int .u64 b, .int .u64 a] w fun e w' => e = .returned (.tuple #[.bool m, .bool true]) ∧ w = w')
    (h5 : ∀ w, Calls Tryd.prog 13 #[.string ⟨#[102, 61]⟩, .int .u64 a, .int .u64 b] w fun e w' => e = .returned (.tuple #[.bool s, .bool true]) ∧ w = w')
    (h6 : ∀ w, Calls Tryd.prog 11 #[.string ⟨#[102, 43]⟩, .int .u64 a, .int .u64 b] w (Drew (.tuple #[.int .u64 S, .bool true]) w))
    (h7 : ∀ w, Calls Tryd.prog 11 #[.string ⟨#[102, 43]⟩, .int .u64 b, .int .u64 a] w (Drew (.tuple #[.int .u64 S, .bool true]) w))
    (h8 : ∀ w, Calls Tryd.prog 11 #[.string ⟨#[102, 42]⟩, .int .u64 a, .int .u64 b] w (Drew (.tuple #[.int .u64 P, .bool true]) w))
    (h9 : ∀ w, Calls Tryd.prog 11 #[.string ⟨#[102, 42]⟩, .int .u64 b, .int .u64 a] w (Drew (.tuple #[.int .u64 P, .bool true]) w))
    (h10 : ∀ w, Calls Tryd.prog 11 #[.string ⟨#[102, 47]⟩, .int .u64 4607182418800017408, .int .u64 0] w (Drew (.tuple #[.int .u64 9218868437227405312, .bool true]) w))
    (h11 : ∀ w, Calls Tryd.prog 11 #[.string ⟨#[102, 47]⟩, .int .u64 4607182418800017408, .int .u64 9223372036854775808] w (Drew (.tuple #[.int .u64 18442240474082181120, .bool true]) w))
    (h12 : ∀ w, Calls Tryd.prog 11 #[.string ⟨#[102, 45]⟩, .int .u64 9218868437227405312, .int .u64 9218868437227405312] w (Drew (.tuple #[.int .u64 9221120237041090560, .bool true]) w))
    (h13 : ∀ w, Calls Tryd.prog 13 #[.string ⟨#[102, 61]⟩, .int .u64 0, .int .u64 9223372036854775808] w fun e w' => e = .returned (.tuple #[.bool true, .bool true]) ∧ w = w') :
    Calls Tryd.prog 5 #[.int .u64 a, .int .u64 b] w (Grew (.bool true) w) := by
  have H0 := Lib.hid h0
  have H1 := Lib.hid h1
  have H1b := Lib.hid h1b
  have H2 := Lib.hid h2
  have H3 := Lib.hid h3
  have H4 := Lib.hid h4
  have H5 := Lib.hid h5
  have H6 := Lib.hid h6
  have H7 := Lib.hid h7
  have H8 := Lib.hid h8
  have H9 := Lib.hid h9
  have H10 := Lib.hid h10
  have H11 := Lib.hid h11
  have H12 := Lib.hid h12
  have H13 := Lib.hid h13
  have tb1 : ∀ w, (callFunc 26 #[.float .f64 4607182418800017408]).run Tryd.prog w = .ok (.value (.int .u64 4607182418800017408)) w := fun w => to_bits 4607182418800017408 w
  have tb2 : ∀ w, (callFunc 26 #[.float .f64 9218868437227405312]).run Tryd.prog w = .ok (.value (.int .u64 9218868437227405312)) w := fun w => to_bits 9218868437227405312 w
  have tb3 : ∀ w, (callFunc 26 #[.float .f64 18442240474082181120]).run Tryd.prog w = .ok (.value (.int .u64 18442240474082181120)) w := fun w => to_bits 18442240474082181120 w
  clear h0 h1 h1b h2 h3 h4 h5 h6 h7 h8 h9 h10 h11 h12 h13
  rcases hst with ⟨rfl, rfl, rfl, rfl⟩ | ⟨rfl, rfl, rfl, rfl, rfl⟩ | ⟨rfl, rfl, rfl, rfl, rfl⟩ | ⟨rfl, rfl, rfl, rfl, rfl⟩ | ⟨rfl, rfl, rfl, rfl, rfl⟩
  · obtain ⟨rfl, rfl⟩ := hS rfl
    clear hS hnb
    go_enter Tryd.func5, Tryd.ntmps5
    go_wp2_with fail
    refine H0.out.mono ?_
    rintro e w0 ⟨rfl, hb⟩
    go_wp2_with fail
    refine (H1.out _).mono ?_
    rintro e w' ⟨rfl, rfl⟩
    go_wp2_with fail
    refine (H2.out _).mono ?_
    rintro e w' ⟨rfl, rfl⟩
    go_wp2_with fail
    refine (H3.out _).mono ?_
    rintro e w' ⟨rfl, rfl⟩
    go_wp2_with fail
    refine (H4.out _).mono ?_
    rintro e w' ⟨rfl, rfl⟩
    go_wp2_with fail
    refine (H5.out _).mono ?_
    rintro e w' ⟨rfl, rfl⟩
    go_wp2_with fail
    refine (H6.out _).mono ?_
    rintro e w' ⟨n6, rfl, rfl⟩
    go_wp2_with fail
    refine (H7.out _).mono ?_
    rintro e w' ⟨n7, rfl, rfl⟩
    go_wp2_with fail
    refine (H8.out _).mono ?_
    rintro e w' ⟨n8, rfl, rfl⟩
    go_wp2_with fail
    refine (H9.out _).mono ?_
    rintro e w' ⟨n9, rfl, rfl⟩
    go_wp2_with fail
    refine (H10.out _).mono ?_
    rintro e w' ⟨n10, rfl, rfl⟩
    go_wp2_with fail
    refine (H11.out _).mono ?_
    rintro e w' ⟨n11, rfl, rfl⟩
    go_wp2_with fail
    refine (H12.out _).mono ?_
    rintro e w' ⟨n12, rfl, rfl⟩
    go_wp2_with fail
    refine (H13.out _).mono ?_
    rintro e w' ⟨rfl, rfl⟩
    go_wp2_with fail
    refine (inf_pos _).mono ?_
    rintro e w' ⟨rfl, rfl⟩
    go_wp2_with fail
    refine (inf_neg _).mono ?_
    rintro e w' ⟨rfl, rfl⟩
    go_wp2_with fail
    go_ret
    refine ⟨rfl, ?_⟩
    repeat (first | exact hb | refine below_drewN ?_ _)
  all_goals
    clear hS
    go_enter Tryd.func5, Tryd.ntmps5
    go_wp2_with fail
    refine H0.out.mono ?_
    rintro e w0 ⟨rfl, hb⟩
    go_wp2_with fail
    refine (H1.out _).mono ?_
    rintro e w' ⟨rfl, rfl⟩
    go_wp2_with fail
    refine (H2.out _).mono ?_
    rintro e w' ⟨rfl, rfl⟩
    go_wp2_with fail
    refine (H3.out _).mono ?_
    rintro e w' ⟨rfl, rfl⟩
    go_wp2_with fail
    refine (H4.out _).mono ?_
    rintro e w' ⟨rfl, rfl⟩
    go_wp2_with fail
    refine (H5.out _).mono ?_
    rintro e w' ⟨rfl, rfl⟩
    go_wp2_with fail
    refine (H6.out _).mono ?_
    rintro e w' ⟨n6, rfl, rfl⟩
    go_wp2_with fail
    refine (H7.out _).mono ?_
    rintro e w' ⟨n7, rfl, rfl⟩
    go_wp2_with fail
    refine (H8.out _).mono ?_
    rintro e w' ⟨n8, rfl, rfl⟩
    go_wp2_with fail
    refine (H9.out _).mono ?_
    rintro e w' ⟨n9, rfl, rfl⟩
    go_wp2_with fail
    refine (H10.out _).mono ?_
    rintro e w' ⟨n10, rfl, rfl⟩
    go_wp2_with fail
    refine (H11.out _).mono ?_
    rintro e w' ⟨n11, rfl, rfl⟩
    go_wp2_with fail
    refine (H12.out _).mono ?_
    rintro e w' ⟨n12, rfl, rfl⟩
    go_wp2_with fail
    refine (H13.out _).mono ?_
    rintro e w' ⟨rfl, rfl⟩
    go_wp2_with fail
    refine (H1b.out _).mono ?_
    rintro e w' ⟨rfl, rfl⟩
    go_wp2_with fail
    refine (inf_pos _).mono ?_
    rintro e w' ⟨rfl, rfl⟩
    go_wp2_with fail
    refine (inf_neg _).mono ?_
    rintro e w' ⟨rfl, rfl⟩
    go_wp2_with fail
    go_ret
    refine ⟨rfl, ?_⟩
    repeat (first | exact hb | refine below_drewN ?_ _)

end Go.Proofs.YtpdiajagdehfkaaDoor
