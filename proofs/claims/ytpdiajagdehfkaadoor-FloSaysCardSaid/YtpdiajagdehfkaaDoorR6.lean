/- gristmillref1.digits: which texts are numbers of so many digits. Conditions: at most 18 digits. -/
import Derived.Test.YtpdiajagdehfkaaDoorR5
import Derived.Lib.Walk
namespace Go.Proofs.YtpdiajagdehfkaaDoor
open Go.RowKit

set_option maxRecDepth 100000 in
set_option maxHeartbeats 1000000 in
theorem dig_empty (s : ByteArray) (most : Int) (w : World) (h : s.toList.isEmpty = true) :
    Calls Tryd.prog 33 #[.string s, .int .i64 most] w fun e w' => e = .returned (.tuple #[.int .i64 0, .bool false]) ∧ w = w' := by
  go_enter Tryd.func33, Tryd.ntmps33
  go_wp2_with fail
  go_ret2
  exact ⟨rfl, rfl⟩

set_option maxRecDepth 100000 in
set_option maxHeartbeats 1000000 in
theorem dig_long (s : ByteArray) (most : Int) (w : World) (h : s.toList.isEmpty = false) (hl : most < s.size) :
    Calls Tryd.prog 33 #[.string s, .int .i64 most] w fun e w' => e = .returned (.tuple #[.int .i64 0, .bool false]) ∧ w = w' := by
  go_enter Tryd.func33, Tryd.ntmps33
  go_wp2_with fail
  go_ret2
  exact ⟨rfl, rfl⟩

set_option maxRecDepth 100000 in
set_option maxHeartbeats 1000000 in
theorem dig_zero (s : ByteArray) (most : Int) (w : World) (h : s.toList.isEmpty = false) (hl : ¬ most < s.size) (h0 : 0 < s.size) (h1 : 1 < s.size) (hz : (s[0].toNat : Int) = 48) :
    Calls Tryd.prog 33 #[.string s, .int .i64 most] w fun e w' => e = .returned (.tuple #[.int .i64 0, .bool false]) ∧ w = w' := by
  have hzb : ((s[0].toNat : Int) == 48) = true := by simpa using hz
  clear hz
  go_enter Tryd.func33, Tryd.ntmps33
  go_wp2_with fail
  go_ret2
  exact ⟨rfl, rfl⟩

def digB (c : UInt8) : Bool := decide (48 ≤ c.toNat ∧ c.toNat ≤ 57)
/-- What 'digits' answers of a text of the right length and no 0 ahead. -/
def digAns (l : List UInt8) : Value := if l.all digB then .tuple #[.int .i64 (valF 0 l : Nat), .bool true] else .tuple #[.int .i64 0, .bool false]

theorem digAns_no (l : List UInt8) (c : UInt8) (hc : c ∈ l) (h : ¬ (48 ≤ c.toNat ∧ c.toNat ≤ 57)) : digAns l = .tuple #[.int .i64 0, .bool false] := by
  unfold digAns
  rw [if_neg]
  intro e
  rw [List.all_eq_true] at e
  exact h (by simpa [digB] using e c hc)

theorem digAns_yes (l : List UInt8) (h : ∀ c ∈ l, isDig c) : digAns l = .tuple #[.int .i64 (valF 0 l : Nat), .bool true] := by
  unfold digAns
  rw [if_pos]
  rw [List.all_eq_true]
  intro c hc
  have h2 := h c hc
  unfold isDig at h2
  simpa [digB] using h2

set_option maxRecDepth 100000 in
set_option maxHeartbeats 4000000 in
theorem dig_run (s : ByteArray) (most : Int) (w : World) (h : s.toList.isEmpty = false) (hl : ¬ most < s.size) (h0 : 0 < s.size) (h1 : s.size ≤ 16) (hz : ¬ ((s[0].toNat : Int) = 48 ∧ 1 < s.size)) :
    Calls Tryd.prog 33 #[.string s, .int .i64 most] w fun e w' => e = .returned (digAns s.data.toList) ∧ w = w' := by
  obtain ⟨bs, hL⟩ : ∃ bs, bs = s.data.toList := ⟨_, rfl⟩
  have hLn : bs.length = s.size := by rw [hL, Lib.size_eq]
  have hM : ∀ k (hk : k < s.size), s[k] ∈ bs := fun k hk => by
    rw [hL]; exact List.getElem_mem (l := s.data.toList) (n := k) (by rw [← Lib.size_eq]; exact hk)
  have hT : ∀ k (hk : k < s.size), bs.take (k + 1) = bs.take k ++ [s[k]] := fun k hk => by
    rw [hL, List.take_succ_eq_append_getElem (by rw [← Lib.size_eq]; exact hk)]; rfl
  rw [← hL]
  clear hL
  have HL := Lib.hid hLn
  have HMM := Lib.hid hM
  have HTT := Lib.hid hT
  clear hM hT hLn
  by_cases hz1 : (s[0].toNat : Int) = 48
  · have hs1 : s.size ≤ 1 := by
      rcases Nat.lt_or_ge 1 s.size with g | g
      · exact absurd ⟨hz1, g⟩ hz
      · exact g
    have hzb : ((s[0].toNat : Int) == 48) = true := by simpa using hz1
    clear hz hz1
    go_enter Tryd.func33, Tryd.ntmps33
    go_wp2_with fail
    go_loop [6, 7] (fun vn vi => ∃ (k acc : Nat) (a : Int), vn = .int .i64 a ∧ vi = .int .i64 k ∧ k ≤ s.size ∧ Hid (a = (acc : Int) ∧ acc < 10 ^ k ∧ acc = valF 0 (bs.take k) ∧ ∀ c ∈ bs.take k, isDig c)) (fun _ vi => s.size - (intOf vi).toNat)
    case atStart => exact ⟨0, 0, 0, rfl, rfl, by omega, Lib.hid ⟨rfl, by decide, rfl, fun c hc => by simp at hc⟩⟩
    case round =>
      obtain ⟨k, acc, a, rfl, rfl, hk, hh⟩ := hrel
      have hlt : acc < 10000000000000000 := by
        have g1 := hh.out.2.1
        have g2 : 10 ^ k ≤ 10 ^ 16 := Nat.pow_le_pow_right (by omega) (by omega)
        omega
      have a0 : 0 ≤ a := by have := hh.out.1; omega
      have a1 : a < 10000000000000000 := by have := hh.out.1; omega
      by_cases hkn : k < s.size
      · have hc256 : s[k].toNat < 256 := s[k].toNat_lt
        have hmem : s[k] ∈ bs := HMM.out k hkn
        have htk : bs.take (k + 1) = bs.take k ++ [s[k]] := HTT.out k hkn
        have HT := Lib.hid htk
        have HM := Lib.hid hmem
        clear htk hmem
        by_cases hdig : 48 ≤ s[k].toNat ∧ s[k].toNat ≤ 57
        · obtain ⟨d0, d1⟩ := hdig
          have HN : Hid (10 * a + ((s[k].toNat : Int) - 48) = ((acc * 10 + (s[k].toNat - 48) : Nat) : Int) ∧ acc * 10 + (s[k].toNat - 48) < 10 ^ (k + 1) ∧ acc * 10 + (s[k].toNat - 48) = valF 0 (bs.take (k + 1)) ∧ ∀ c ∈ bs.take (k + 1), isDig c) := Lib.hid (by
            obtain ⟨e1, e2, e3, e4⟩ := hh.out
            refine ⟨by omega, by rw [Nat.pow_succ]; omega, ?_, ?_⟩
            · rw [HT.out, valF_append, ← e3]; rfl
            · intro c hc
              rw [HT.out] at hc
              rcases List.mem_append.1 hc with hc | hc
              · exact e4 c hc
              · have : c = s[k] := by simpa using hc
                rw [this]; exact ⟨d0, d1⟩)
          clear hlt
          go_wp2_with fail
          go_round
          case rel => exact ⟨k + 1, acc * 10 + (s[k].toNat - 48), 10 * a + ((s[k].toNat : Int) - 48), (by first | rfl | (congr 1; omega)), (by go_num), by omega, HN⟩
          case measure => simp [intOf]; omega
        · have HA := Lib.hid (digAns_no bs s[k] HM.out hdig)
          clear hlt
          by_cases hlow : s[k].toNat < 48
          · clear hdig
            go_wp2_with fail
            go_ret2
            exact ⟨by rw [HA.out]; rfl, rfl⟩
          · have hhigh : 57 < s[k].toNat := by omega
            clear hdig
            go_wp2_with fail
            go_ret2
            exact ⟨by rw [HA.out]; rfl, rfl⟩
      · obtain rfl : k = s.size := by omega
        have HA : Hid (digAns bs = .tuple #[.int .i64 a, .bool true]) := Lib.hid (by
          obtain ⟨e1, e2, e3, e4⟩ := hh.out
          rw [List.take_of_length_le (by rw [HL.out]; omega)] at e3 e4
          rw [digAns_yes bs e4, ← e3, ← e1])
        clear hlt
        go_wp2_with fail
        go_ret2
        exact ⟨by rw [HA.out]; rfl, rfl⟩
  · have hzb : ((s[0].toNat : Int) == 48) = false := by simpa using hz1
    clear hz hz1
    go_enter Tryd.func33, Tryd.ntmps33
    go_wp2_with fail
    go_loop [6, 7] (fun vn vi => ∃ (k acc : Nat) (a : Int), vn = .int .i64 a ∧ vi = .int .i64 k ∧ k ≤ s.size ∧ Hid (a = (acc : Int) ∧ acc < 10 ^ k ∧ acc = valF 0 (bs.take k) ∧ ∀ c ∈ bs.take k, isDig c)) (fun _ vi => s.size - (intOf vi).toNat)
    case atStart => exact ⟨0, 0, 0, rfl, rfl, by omega, Lib.hid ⟨rfl, by decide, rfl, fun c hc => by simp at hc⟩⟩
    case round =>
      obtain ⟨k, acc, a, rfl, rfl, hk, hh⟩ := hrel
      have hlt : acc < 10000000000000000 := by
        have g1 := hh.out.2.1
        have g2 : 10 ^ k ≤ 10 ^ 16 := Nat.pow_le_pow_right (by omega) (by omega)
        omega
      have a0 : 0 ≤ a := by have := hh.out.1; omega
      have a1 : a < 10000000000000000 := by have := hh.out.1; omega
      by_cases hkn : k < s.size
      · have hc256 : s[k].toNat < 256 := s[k].toNat_lt
        have hmem : s[k] ∈ bs := HMM.out k hkn
        have htk : bs.take (k + 1) = bs.take k ++ [s[k]] := HTT.out k hkn
        have HT := Lib.hid htk
        have HM := Lib.hid hmem
        clear htk hmem
        by_cases hdig : 48 ≤ s[k].toNat ∧ s[k].toNat ≤ 57
        · obtain ⟨d0, d1⟩ := hdig
          have HN : Hid (10 * a + ((s[k].toNat : Int) - 48) = ((acc * 10 + (s[k].toNat - 48) : Nat) : Int) ∧ acc * 10 + (s[k].toNat - 48) < 10 ^ (k + 1) ∧ acc * 10 + (s[k].toNat - 48) = valF 0 (bs.take (k + 1)) ∧ ∀ c ∈ bs.take (k + 1), isDig c) := Lib.hid (by
            obtain ⟨e1, e2, e3, e4⟩ := hh.out
            refine ⟨by omega, by rw [Nat.pow_succ]; omega, ?_, ?_⟩
            · rw [HT.out, valF_append, ← e3]; rfl
            · intro c hc
              rw [HT.out] at hc
              rcases List.mem_append.1 hc with hc | hc
              · exact e4 c hc
              · have : c = s[k] := by simpa using hc
                rw [this]; exact ⟨d0, d1⟩)
          clear hlt
          go_wp2_with fail
          go_round
          case rel => exact ⟨k + 1, acc * 10 + (s[k].toNat - 48), 10 * a + ((s[k].toNat : Int) - 48), (by first | rfl | (congr 1; omega)), (by go_num), by omega, HN⟩
          case measure => simp [intOf]; omega
        · have HA := Lib.hid (digAns_no bs s[k] HM.out hdig)
          clear hlt
          by_cases hlow : s[k].toNat < 48
          · clear hdig
            go_wp2_with fail
            go_ret2
            exact ⟨by rw [HA.out]; rfl, rfl⟩
          · have hhigh : 57 < s[k].toNat := by omega
            clear hdig
            go_wp2_with fail
            go_ret2
            exact ⟨by rw [HA.out]; rfl, rfl⟩
      · obtain rfl : k = s.size := by omega
        have HA : Hid (digAns bs = .tuple #[.int .i64 a, .bool true]) := Lib.hid (by
          obtain ⟨e1, e2, e3, e4⟩ := hh.out
          rw [List.take_of_length_le (by rw [HL.out]; omega)] at e3 e4
          rw [digAns_yes bs e4, ← e3, ← e1])
        clear hlt
        go_wp2_with fail
        go_ret2
        exact ⟨by rw [HA.out]; rfl, rfl⟩

end Go.Proofs.YtpdiajagdehfkaaDoor
