/- gristmillref's SameTexts over lists of texts. Conditions: the lists' cells read as they do. -/
import Derived.Test.YtmpkgbpnejajpaaDoorTexts
namespace Go.Proofs.YtmpkgbpnejajpaaDoor
open Go.RowKit

set_option maxRecDepth 100000 in
set_option maxHeartbeats 1000000 in
/-- SameTexts, of one list twice. -/
theorem texts_same (l : List ByteArray) (cap cap' b b' o o' : Nat) (w : World) (hl : l.length ≤ 1000000000) (hc : Txts w b o l) (hd : Txts w b' o' l) :
    Calls Tryd.prog 20 #[.slice (some ⟨b, o, none⟩) l.length cap, .slice (some ⟨b', o', none⟩) l.length cap'] w fun e w' => e = .returned (.bool true) ∧ ∃ n, w' = w.drewN n := by
  have HC := Lib.hid hc
  have HD := Lib.hid hd
  clear hc hd
  obtain ⟨n, hn⟩ : ∃ n, n = l.length := ⟨_, rfl⟩
  rw [← hn] at hl ⊢
  have HL := Lib.hid hn
  clear hn
  go_enter Tryd.func20, Tryd.ntmps20
  go_wp2_with fail
  go_loopw [5] (fun vi wr => ∃ k : Nat, k ≤ n ∧ vi = .int .i64 k ∧ ∃ m, wr = w.drewN m) (fun vi _ => n + 1 - (intOf vi).toNat)
  case atStart => exact ⟨0, by omega, rfl, 0, rfl⟩
  case round =>
    obtain ⟨k, hk, rfl, m, rfl⟩ := hrel
    by_cases hkn : k < n
    · have hkl : k < l.length := by rw [← HL.out]; exact hkn
      have hcell := HC.out k hkl
      have hcell2 := HD.out k hkl
      have hk1 : (k : Int) < (n : Int) := by omega
      have hk0 : (0 : Int) ≤ (k : Int) := by omega
      go_wp2_with fail
      go_quiet (fail)
      go_wp2_with fail
      go_roundw
      case rel => exact ⟨k + 1, by omega, by go_num, _, rfl⟩
      case measure => simp [intOf]; omega
    · go_wp2_with fail
      go_ret
      exact ⟨rfl, m, rfl⟩
end Go.Proofs.YtmpkgbpnejajpaaDoor
