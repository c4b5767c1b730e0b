/- Tags: the chapter's example; what may not be. Conditions: as each says. -/
import Derived.Test.YtcplajplbocieaaDoorTg5
import Derived.Test.YtcplajplbocieaaDoorTg6
namespace Go.Proofs.YtcplajplbocieaaDoor
open Go.RowKit Go.Sort Go.Lib

theorem text_a2 : textT ⟨4, ⟨#[]⟩, 2⟩ = ⟨#[65, 47, 50]⟩ := by
  have e : Lib.itoa 2 = [50] := by
    rw [show (2 : Int) = ((2 : Nat) : Int) from rfl, Lib.itoa_nonneg, Lib.decDigits_one (by omega)]; rfl
  unfold textT
  simp only
  rw [e]
  rfl
set_option maxRecDepth 100000 in
theorem first_any (w : World) (ht : Tabs w) : Calls Tryd.prog 7 #[] w (Grew (.bool true) w) := by
  have HT := Lib.hid (text_any ⟨4, ⟨#[]⟩, 2⟩ (by decide) (by decide) (by decide) (by decide) w ht)
  rw [text_a2] at HT
  simp only [encT] at HT
  go_enter Tryd.func7, Tryd.ntmps7
  go_wp2_with (go_at_call 21; refine HT.out.mono ?_; rintro e w' ⟨rfl, hb⟩)
  go_ret
  exact ⟨rfl, hb⟩
theorem ret_b {v : Value} {b : Bool} (h : v = .bool b) (hb : b = true) : Ending.returned v = .returned (.bool true) := by rw [h, hb]
set_option maxRecDepth 100000 in
set_option maxHeartbeats 8000000 in
theorem kinds_bad_none (k n : Int) (hv : validT ⟨k, ⟨#[]⟩, n⟩ = false) (w : World) (ht : Tabs w) :
    Calls Tryd.prog 6 #[.int .i64 k, .int .i64 n, .string ⟨#[]⟩] w (Grew (.bool true) w) := by
  have H0 := Lib.hid (first_any w ht)
  have HV := Lib.hid (valid_any ⟨k, ⟨#[]⟩, n⟩ (show (0 : Nat) ≤ 1000000000 by omega))
  rw [hv] at HV
  simp only [encT] at HV
  have HH := Lib.hid hv
  have HAL := Lib.hid (fun (w0 w1 : World) (b0 : Below w.heap.size w w0) (b1 : Below (w0.alloc (.cells #[.int .i64 k, .string ⟨#[]⟩, .int .i64 n] 23)).heap.size (w0.alloc (.cells #[.int .i64 k, .string ⟨#[]⟩, .int .i64 n] 23)) w1) => show Below w.heap.size w w1 from (b0.alloc b0.size _).trans (b1.mono (b0.alloc b0.size _).size))
  clear hv ht
  go_enter Tryd.func6, Tryd.ntmps6
  go_wp2_with (first
    | (go_at_call 7; refine H0.out.mono ?_; rintro e w0 ⟨rfl, hb0⟩)
    | (go_at_call 9; refine (HV.out _).mono ?_; rintro e w1 ⟨rfl, hb1⟩))
  all_goals
    have HB := Lib.hid (HAL.out _ _ hb0 hb1)
    clear hb0 hb1 HAL
    apply bodyPost_ret
    case hr => exact results_tmp rfl _ _ _
    case hd => rfl
    case hR =>
      refine ⟨ret_b rfl ?_, HB.out⟩
      clear HB H0 HV
      have h := HH.out
      simp only [validT, cntI, grI] at h
      clear HH
      have z0 : (⟨#[]⟩ : ByteArray).size = 0 := rfl
      first
        | rfl
        | (have hk : k = 1 ∨ k = 2 ∨ k = 3 ∨ k = 4 ∨ k = 5 ∨ k = 6 := by omega
           rcases hk with hk | hk | hk | hk | hk | hk <;> first
             | (exfalso; omega)
             | (simp [hk, z0] at h ⊢; omega)
             | (simp [hk, z0] at h ⊢))
set_option maxRecDepth 100000 in
set_option maxHeartbeats 8000000 in
theorem kinds_bad_some (k n : Int) (s : ByteArray) (hs : s.size ≤ 60) (hp : 0 < s.size) (hv : validT ⟨k, s, n⟩ = false) (w : World) (ht : Tabs w) :
    Calls Tryd.prog 6 #[.int .i64 k, .int .i64 n, .string s] w (Grew (.bool true) w) := by
  have H0 := Lib.hid (first_any w ht)
  have HV := Lib.hid (valid_any ⟨k, s, n⟩ (by simp only; omega))
  rw [hv] at HV
  simp only [encT] at HV
  have HH := Lib.hid hv
  have HAL := Lib.hid (fun (w0 w1 : World) (b0 : Below w.heap.size w w0) (b1 : Below (w0.alloc (.cells #[.int .i64 k, .string s, .int .i64 n] 23)).heap.size (w0.alloc (.cells #[.int .i64 k, .string s, .int .i64 n] 23)) w1) => show Below w.heap.size w w1 from (b0.alloc b0.size _).trans (b1.mono (b0.alloc b0.size _).size))
  clear hv ht
  have hs1 : ¬ (60 : Int) < (s.size : Int) := by omega
  obtain ⟨hE, hne⟩ := ba_some s (by omega)
  go_enter Tryd.func6, Tryd.ntmps6
  go_wp2_with (first
    | (go_at_call 7; refine H0.out.mono ?_; rintro e w0 ⟨rfl, hb0⟩)
    | (go_at_call 9; refine (HV.out _).mono ?_; rintro e w1 ⟨rfl, hb1⟩))
  all_goals
    have HB := Lib.hid (HAL.out _ _ hb0 hb1)
    clear hb0 hb1 HAL
    apply bodyPost_ret
    case hr => exact results_tmp rfl _ _ _
    case hd => rfl
    case hR =>
      refine ⟨ret_b rfl ?_, HB.out⟩
      clear HB H0 HV
      have h := HH.out
      simp only [validT, cntI, grI] at h
      clear HH
      first
        | rfl
        | (rw [hd_eq s hp] at h
           generalize ((s[0].toNat : Nat) : Int) = c at *
           have z0 : ¬ s.size = 0 := by omega
           have hk : k = 1 ∨ k = 2 ∨ k = 3 ∨ k = 4 ∨ k = 5 ∨ k = 6 := by omega
           rcases hk with hk | hk | hk | hk | hk | hk <;> first
             | (exfalso; omega)
             | (simp [hk, z0] at h ⊢; omega)
             | (simp [hk, z0] at h ⊢))
end Go.Proofs.YtcplajplbocieaaDoor
