/- gristmillref1.NumParse, of any text: the number of 64 bits whose numeral it is, or none. No conditions but a text's length. -/
import Derived.Test.YtmpkgbpnejajpaaDoorNum1
import Derived.Test.YtmpkgbpnejajpaaDoorDec
import Derived.Lib.Walk
namespace Go.Proofs.YtmpkgbpnejajpaaDoor
open Go.RowKit

theorem sl_lo (s : ByteArray) (i : Nat) (h : i ≤ s.size) (w : World) : (Instr.slice 9 (.string s) (some (.int .i64 (i : Int))) none none).run Tryd.prog w = .ok (.string (s.extract i s.size)) w := by
  have u := Tryd.underlying9
  go_simp

def digB (c : UInt8) : Bool := decide (48 ≤ c.toNat ∧ c.toNat ≤ 57)
def topN (neg : Bool) : Nat := if neg then 9223372036854775808 else 9223372036854775807
/-- What NumParse answers of digits behind a sign, or none. -/
def npAns (neg : Bool) (l : List UInt8) : Value := if l.all digB = true ∧ valF 0 l ≤ topN neg then .tuple #[.int .i64 (if neg then -(valF 0 l : Int) else (valF 0 l : Int)), .bool true] else .tuple #[.int .i64 0, .bool false]
theorem npAns_no (neg : Bool) (l : List UInt8) (c : UInt8) (hc : c ∈ l) (h : ¬ (48 ≤ c.toNat ∧ c.toNat ≤ 57)) : npAns neg l = .tuple #[.int .i64 0, .bool false] := by
  unfold npAns
  rw [if_neg]
  intro e
  have e := e.1
  rw [List.all_eq_true] at e
  exact h (by simpa [digB] using e c hc)
theorem all_dig (l : List UInt8) (h : ∀ c ∈ l, isDig c) : l.all digB = true := by
  rw [List.all_eq_true]
  intro c hc
  have h2 := h c hc
  unfold isDig at h2
  simpa [digB] using h2
theorem npAns_big (neg : Bool) (l : List UInt8) (h : topN neg < valF 0 l) : npAns neg l = .tuple #[.int .i64 0, .bool false] := by
  unfold npAns
  rw [if_neg]
  intro e
  omega
theorem npAns_pos (l : List UInt8) (a : Int) (hd : ∀ c ∈ l, isDig c) (h : a = (valF 0 l : Int)) (h2 : a ≤ 9223372036854775807) : npAns false l = .tuple #[.int .i64 a, .bool true] := by
  unfold npAns topN
  rw [if_pos ⟨all_dig l hd, by simp; omega⟩, h]
  rfl
theorem npAns_neg (l : List UInt8) (a : Int) (hd : ∀ c ∈ l, isDig c) (h : a = (valF 0 l : Int)) (h2 : a ≤ 9223372036854775808) : npAns true l = .tuple #[.int .i64 (-a), .bool true] := by
  unfold npAns topN
  rw [if_pos ⟨all_dig l hd, by simp; omega⟩, h]
  rfl

set_option maxRecDepth 100000 in
set_option maxHeartbeats 1000000 in
theorem np_empty (s : ByteArray) (w : World) (h : s.toList.isEmpty = true) :
    Calls Tryd.prog 12 #[.string s] w fun e w' => e = .returned (.tuple #[.int .i64 0, .bool false]) ∧ w = w' := by
  go_enter Tryd.func12, Tryd.ntmps12
  go_wp2_with fail
  go_ret2
  exact ⟨rfl, rfl⟩

set_option maxRecDepth 100000 in
set_option maxHeartbeats 4000000 in
theorem npP_long (t : ByteArray) (w : World) (h0' : 0 < t.size) (hfst : ((t[0].toNat : Int) == 45) = false) (hte : t.toList.isEmpty = false) (hl : 19 < t.size) :
    Calls Tryd.prog 12 #[.string t] w fun e w' => e = .returned (.tuple #[.int .i64 0, .bool false]) ∧ w = w' := by
  go_enter Tryd.func12, Tryd.ntmps12
  go_wp2_with fail
  go_ret2
  exact ⟨rfl, rfl⟩

set_option maxRecDepth 100000 in
set_option maxHeartbeats 4000000 in
theorem npP_zero (t : ByteArray) (w : World) (h0' : 0 < t.size) (hfst : ((t[0].toNat : Int) == 45) = false) (hte : t.toList.isEmpty = false) (hl : ¬ 19 < t.size) (ht0 : 0 < t.size) (h1 : 1 < t.size) (hz : ((t[0].toNat : Int) == 48) = true) :
    Calls Tryd.prog 12 #[.string t] w fun e w' => e = .returned (.tuple #[.int .i64 0, .bool false]) ∧ w = w' := by
  go_enter Tryd.func12, Tryd.ntmps12
  go_wp2_with fail
  go_ret2
  exact ⟨rfl, rfl⟩

set_option maxRecDepth 100000 in
set_option maxHeartbeats 4000000 in
theorem npP_run (t : ByteArray) (w : World) (h0' : 0 < t.size) (hfst : ((t[0].toNat : Int) == 45) = false) (hte : t.toList.isEmpty = false) (hl : ¬ 19 < t.size) (ht0 : 0 < t.size) (hz : ((t[0].toNat : Int) == 48) = false ∨ (((t[0].toNat : Int) == 48) = true ∧ ¬ 1 < t.size)) :
    Calls Tryd.prog 12 #[.string t] w fun e w' => e = .returned (npAns false t.data.toList) ∧ w = w' := by
  obtain ⟨bs, hL⟩ : ∃ bs, bs = t.data.toList := ⟨_, rfl⟩
  have hLn : bs.length = t.size := by rw [hL, Lib.size_eq]
  have hM : ∀ k (hk : k < t.size), t[k] ∈ bs := fun k hk => by
    rw [hL]; exact List.getElem_mem (l := t.data.toList) (n := k) (by rw [← Lib.size_eq]; exact hk)
  have hT : ∀ k (hk : k < t.size), bs.take (k + 1) = bs.take k ++ [t[k]] := fun k hk => by
    rw [hL, List.take_succ_eq_append_getElem (by rw [← Lib.size_eq]; exact hk)]; rfl
  rw [← hL]
  clear hL
  have HL := Lib.hid hLn
  have HMM := Lib.hid hM
  have HTT := Lib.hid hT
  clear hM hT hLn
  rcases hz with hz | ⟨hz, hz1⟩
  all_goals
    go_enter Tryd.func12, Tryd.ntmps12
    go_wp2_with fail
    go_loop [6, 7] (fun vn vi => ∃ (k acc : Nat) (a : Int), vn = .int .u64 a ∧ vi = .int .i64 k ∧ k ≤ t.size ∧ Hid (a = (acc : Int) ∧ acc < 10 ^ k ∧ acc = valF 0 (bs.take k) ∧ ∀ c ∈ bs.take k, isDig c)) (fun _ vi => t.size - (intOf vi).toNat)
    case atStart => exact ⟨0, 0, 0, rfl, rfl, by omega, Lib.hid ⟨rfl, by decide, rfl, fun c hc => by simp at hc⟩⟩
    case round =>
      obtain ⟨k, acc, a, rfl, rfl, hk, hh⟩ := hrel
      have a0 : 0 ≤ a := by have := hh.out.1; omega
      by_cases hkn : k < t.size
      · have hlt : acc < 1000000000000000000 := by
          have g1 := hh.out.2.1
          have g2 : 10 ^ k ≤ 10 ^ 18 := Nat.pow_le_pow_right (by omega) (by omega)
          omega
        have a1 : a < 1000000000000000000 := by have := hh.out.1; omega
        have hc256 : t[k].toNat < 256 := t[k].toNat_lt
        have hmem : t[k] ∈ bs := HMM.out k hkn
        have htk : bs.take (k + 1) = bs.take k ++ [t[k]] := HTT.out k hkn
        have HT := Lib.hid htk
        have HM := Lib.hid hmem
        clear htk hmem
        by_cases hdig : 48 ≤ t[k].toNat ∧ t[k].toNat ≤ 57
        · obtain ⟨d0, d1⟩ := hdig
          have HN : Hid (10 * a + ((t[k].toNat : Int) - 48) = ((acc * 10 + (t[k].toNat - 48) : Nat) : Int) ∧ acc * 10 + (t[k].toNat - 48) < 10 ^ (k + 1) ∧ acc * 10 + (t[k].toNat - 48) = valF 0 (bs.take (k + 1)) ∧ ∀ c ∈ bs.take (k + 1), isDig c) := Lib.hid (by
            obtain ⟨e1, e2, e3, e4⟩ := hh.out
            refine ⟨by omega, by rw [Nat.pow_succ]; omega, ?_, ?_⟩
            · rw [HT.out, valF_append, ← e3]; rfl
            · intro c hc
              rw [HT.out] at hc
              rcases List.mem_append.1 hc with hc | hc
              · exact e4 c hc
              · have : c = t[k] := by simpa using hc
                rw [this]; exact ⟨d0, d1⟩)
          clear hlt
          go_wp2_with fail
          go_round
          case rel => exact ⟨k + 1, acc * 10 + (t[k].toNat - 48), 10 * a + ((t[k].toNat : Int) - 48), (by first | rfl | (congr 1; omega)), (by go_num), by omega, HN⟩
          case measure => simp [intOf]; omega
        · have HA := Lib.hid (npAns_no false bs t[k] HM.out hdig)
          clear hlt
          by_cases hlow : t[k].toNat < 48
          · clear hdig
            go_wp2_with fail
            go_ret2
            exact ⟨by rw [HA.out]; rfl, rfl⟩
          · have hhigh : 57 < t[k].toNat := by omega
            clear hdig
            go_wp2_with fail
            go_ret2
            exact ⟨by rw [HA.out]; rfl, rfl⟩
      · obtain rfl : k = t.size := by omega
        have HV : Hid (a = (valF 0 bs : Int) ∧ (∀ c ∈ bs, isDig c) ∧ a < 10000000000000000000) := Lib.hid (by
          obtain ⟨e1, e2, e3, e4⟩ := hh.out
          have g2 : 10 ^ t.size ≤ 10 ^ 19 := Nat.pow_le_pow_right (by omega) (by omega)
          rw [List.take_of_length_le (by rw [HL.out]; omega)] at e3 e4
          refine ⟨by omega, e4, by omega⟩)
        have a1 : a < 10000000000000000000 := HV.out.2.2
        clear hh
        by_cases hsm : a ≤ 9223372036854775807
        · have HA := Lib.hid (npAns_pos bs a HV.out.2.1 HV.out.1 (by omega))
          have hq : ((a : Int) == 9223372036854775808) = false := by rw [beq_eq_false_iff_ne]; omega
          go_wp2_with fail
          go_ret2
          exact ⟨by rw [HA.out]; rfl, rfl⟩
        · by_cases hbg : 9223372036854775808 < a
          · have HA := Lib.hid (npAns_big false bs (by have := HV.out.1; unfold topN; simp; omega))
            clear hsm
            go_wp2_with fail
            go_ret2
            exact ⟨by rw [HA.out]; rfl, rfl⟩
          · have HE : Hid (a = 9223372036854775808) := Lib.hid (by omega)
            have hq : ((a : Int) == 9223372036854775808) = true := by rw [HE.out]; rfl
            have HA := Lib.hid (npAns_big false bs (by have h1 := HV.out.1; have h2 := HE.out; unfold topN; simp; omega))
            have hle : a ≤ 9223372036854775808 := by omega
            clear hsm hbg
            go_wp2_with fail
            go_ret2
            exact ⟨by rw [HA.out]; rfl, rfl⟩

set_option maxRecDepth 100000 in
set_option maxHeartbeats 4000000 in
theorem npM_empty (s t : ByteArray) (w : World) (hne : s.toList.isEmpty = false) (h0 : 0 < s.size) (hfst : ((s[0].toNat : Int) == 45) = true) (hsl0 : ∀ w, (Instr.slice 9 (.string s) (some (.int .i64 1)) none none).run Tryd.prog w = .ok (.string t) w) (ht : t.toList.isEmpty = true) :
    Calls Tryd.prog 12 #[.string s] w fun e w' => e = .returned (.tuple #[.int .i64 0, .bool false]) ∧ w = w' := by
  go_enter Tryd.func12, Tryd.ntmps12
  go_wp2_with fail
  go_ret2
  exact ⟨rfl, rfl⟩

set_option maxRecDepth 100000 in
set_option maxHeartbeats 4000000 in
theorem npM_long (s t : ByteArray) (w : World) (hne : s.toList.isEmpty = false) (h0 : 0 < s.size) (hfst : ((s[0].toNat : Int) == 45) = true) (hsl0 : ∀ w, (Instr.slice 9 (.string s) (some (.int .i64 1)) none none).run Tryd.prog w = .ok (.string t) w) (hte : t.toList.isEmpty = false) (hl : 19 < t.size) :
    Calls Tryd.prog 12 #[.string s] w fun e w' => e = .returned (.tuple #[.int .i64 0, .bool false]) ∧ w = w' := by
  go_enter Tryd.func12, Tryd.ntmps12
  go_wp2_with fail
  go_ret2
  exact ⟨rfl, rfl⟩

set_option maxRecDepth 100000 in
set_option maxHeartbeats 4000000 in
theorem npM_zero (s t : ByteArray) (w : World) (hne : s.toList.isEmpty = false) (h0 : 0 < s.size) (hfst : ((s[0].toNat : Int) == 45) = true) (hsl0 : ∀ w, (Instr.slice 9 (.string s) (some (.int .i64 1)) none none).run Tryd.prog w = .ok (.string t) w) (hte : t.toList.isEmpty = false) (hl : ¬ 19 < t.size) (ht0 : 0 < t.size) (hz : ((t[0].toNat : Int) == 48) = true) :
    Calls Tryd.prog 12 #[.string s] w fun e w' => e = .returned (.tuple #[.int .i64 0, .bool false]) ∧ w = w' := by
  by_cases h1 : 1 < t.size
  all_goals
    go_enter Tryd.func12, Tryd.ntmps12
    go_wp2_with fail
    go_ret2
    exact ⟨rfl, rfl⟩

set_option maxRecDepth 100000 in
set_option maxHeartbeats 4000000 in
theorem npM_run (s t : ByteArray) (w : World) (hne : s.toList.isEmpty = false) (h0 : 0 < s.size) (hfst : ((s[0].toNat : Int) == 45) = true) (hsl0 : ∀ w, (Instr.slice 9 (.string s) (some (.int .i64 1)) none none).run Tryd.prog w = .ok (.string t) w) (hte : t.toList.isEmpty = false) (hl : ¬ 19 < t.size) (ht0 : 0 < t.size) (hz : ((t[0].toNat : Int) == 48) = false) :
    Calls Tryd.prog 12 #[.string s] w fun e w' => e = .returned (npAns true t.data.toList) ∧ w = w' := by
  obtain ⟨bs, hL⟩ : ∃ bs, bs = t.data.toList := ⟨_, rfl⟩
  have hLn : bs.length = t.size := by rw [hL, Lib.size_eq]
  have hM : ∀ k (hk : k < t.size), t[k] ∈ bs := fun k hk => by
    rw [hL]; exact List.getElem_mem (l := t.data.toList) (n := k) (by rw [← Lib.size_eq]; exact hk)
  have hT : ∀ k (hk : k < t.size), bs.take (k + 1) = bs.take k ++ [t[k]] := fun k hk => by
    rw [hL, List.take_succ_eq_append_getElem (by rw [← Lib.size_eq]; exact hk)]; rfl
  rw [← hL]
  clear hL
  have HL := Lib.hid hLn
  have HMM := Lib.hid hM
  have HTT := Lib.hid hT
  clear hM hT hLn
  go_enter Tryd.func12, Tryd.ntmps12
  go_wp2_with fail
  go_loop [6, 7] (fun vn vi => ∃ (k acc : Nat) (a : Int), vn = .int .u64 a ∧ vi = .int .i64 k ∧ k ≤ t.size ∧ Hid (a = (acc : Int) ∧ acc < 10 ^ k ∧ acc = valF 0 (bs.take k) ∧ ∀ c ∈ bs.take k, isDig c)) (fun _ vi => t.size - (intOf vi).toNat)
  case atStart => exact ⟨0, 0, 0, rfl, rfl, by omega, Lib.hid ⟨rfl, by decide, rfl, fun c hc => by simp at hc⟩⟩
  case round =>
    obtain ⟨k, acc, a, rfl, rfl, hk, hh⟩ := hrel
    have a0 : 0 ≤ a := by have := hh.out.1; omega
    by_cases hkn : k < t.size
    · have hlt : acc < 1000000000000000000 := by
        have g1 := hh.out.2.1
        have g2 : 10 ^ k ≤ 10 ^ 18 := Nat.pow_le_pow_right (by omega) (by omega)
        omega
      have a1 : a < 1000000000000000000 := by have := hh.out.1; omega
      have hc256 : t[k].toNat < 256 := t[k].toNat_lt
      have hmem : t[k] ∈ bs := HMM.out k hkn
      have htk : bs.take (k + 1) = bs.take k ++ [t[k]] := HTT.out k hkn
      have HT := Lib.hid htk
      have HM := Lib.hid hmem
      clear htk hmem
      by_cases hdig : 48 ≤ t[k].toNat ∧ t[k].toNat ≤ 57
      · obtain ⟨d0, d1⟩ := hdig
        have HN : Hid (10 * a + ((t[k].toNat : Int) - 48) = ((acc * 10 + (t[k].toNat - 48) : Nat) : Int) ∧ acc * 10 + (t[k].toNat - 48) < 10 ^ (k + 1) ∧ acc * 10 + (t[k].toNat - 48) = valF 0 (bs.take (k + 1)) ∧ ∀ c ∈ bs.take (k + 1), isDig c) := Lib.hid (by
          obtain ⟨e1, e2, e3, e4⟩ := hh.out
          refine ⟨by omega, by rw [Nat.pow_succ]; omega, ?_, ?_⟩
          · rw [HT.out, valF_append, ← e3]; rfl
          · intro c hc
            rw [HT.out] at hc
            rcases List.mem_append.1 hc with hc | hc
            · exact e4 c hc
            · have : c = t[k] := by simpa using hc
              rw [this]; exact ⟨d0, d1⟩)
        clear hlt
        go_wp2_with fail
        go_round
        case rel => exact ⟨k + 1, acc * 10 + (t[k].toNat - 48), 10 * a + ((t[k].toNat : Int) - 48), (by first | rfl | (congr 1; omega)), (by go_num), by omega, HN⟩
        case measure => simp [intOf]; omega
      · have HA := Lib.hid (npAns_no true bs t[k] HM.out hdig)
        clear hlt
        by_cases hlow : t[k].toNat < 48
        · clear hdig
          go_wp2_with fail
          go_ret2
          exact ⟨by rw [HA.out]; rfl, rfl⟩
        · have hhigh : 57 < t[k].toNat := by omega
          clear hdig
          go_wp2_with fail
          go_ret2
          exact ⟨by rw [HA.out]; rfl, rfl⟩
    · obtain rfl : k = t.size := by omega
      have HV : Hid (a = (valF 0 bs : Int) ∧ (∀ c ∈ bs, isDig c) ∧ a < 10000000000000000000) := Lib.hid (by
        obtain ⟨e1, e2, e3, e4⟩ := hh.out
        have g2 : 10 ^ t.size ≤ 10 ^ 19 := Nat.pow_le_pow_right (by omega) (by omega)
        rw [List.take_of_length_le (by rw [HL.out]; omega)] at e3 e4
        refine ⟨by omega, e4, by omega⟩)
      have a1 : a < 10000000000000000000 := HV.out.2.2
      clear hh
      by_cases hsm : a ≤ 9223372036854775807
      · have HA := Lib.hid (npAns_neg bs a HV.out.2.1 HV.out.1 (by omega))
        have hq : ((a : Int) == 9223372036854775808) = false := by rw [beq_eq_false_iff_ne]; omega
        go_wp2_with fail
        go_ret2
        exact ⟨by rw [HA.out]; rfl, rfl⟩
      · by_cases hbg : 9223372036854775808 < a
        · have HA := Lib.hid (npAns_big true bs (by have := HV.out.1; unfold topN; simp; omega))
          clear hsm
          go_wp2_with fail
          go_ret2
          exact ⟨by rw [HA.out]; rfl, rfl⟩
        · have HE : Hid (a = 9223372036854775808) := Lib.hid (by omega)
          have hq : ((a : Int) == 9223372036854775808) = true := by rw [HE.out]; rfl
          have hw : wrap64 (-wrap64 9223372036854775808) = -9223372036854775808 := by unfold wrap64; decide
          have HA := Lib.hid (npAns_neg bs a HV.out.2.1 HV.out.1 (by omega))
          have HW := Lib.hid hw
          have hle : a ≤ 9223372036854775808 := by omega
          clear hw hsm hbg
          go_wp2_with fail
          go_ret2
          exact ⟨by rw [HA.out, HE.out]; simp only [HW.out]; rfl, rfl⟩

end Go.Proofs.YtmpkgbpnejajpaaDoor
