/- The document's names (gristmillref1.Name, Upper): the same plain answers. Conditions: the text has at most a thousand million bytes. -/
import Derived.Test.YtoobcaegnokdpaaDoorNam
import Derived.Test.YtoobcaegnokdpaaDoorLex2
namespace Go.Proofs.YtoobcaegnokdpaaDoor
open Go.RowKit

def tailB (s : ByteArray) : Bool := tlL (s.data.toList.drop 1) && decide (s.size ≤ 40)
theorem sm_ineq (c : Int) (h : smI c = true) : 97 ≤ c ∧ c ≤ 122 := by simpa [smI] using h
theorem tl_ranges (c : Int) (h : tlI c = true) : (97 ≤ c ∧ c ≤ 122) ∨ (65 ≤ c ∧ c ≤ 90) ∨ (48 ≤ c ∧ c ≤ 57) ∨ c = 95 := by
  rcases tl_ok c h with q | ⟨_, q⟩ | ⟨_, _, q⟩ | ⟨_, _, _, q⟩
  · exact Or.inl (by simpa [smI] using q)
  · exact Or.inr (Or.inl (by simpa [grI] using q))
  · exact Or.inr (Or.inr (Or.inl (by simpa [dgI] using q)))
  · exact Or.inr (Or.inr (Or.inr (by simpa using q)))
theorem tl_gaps (c : Int) (h : tlI c = false) : c < 48 ∨ (57 < c ∧ c < 65) ∨ (90 < c ∧ c < 95) ∨ (95 < c ∧ c < 97) ∨ 122 < c := by
  obtain ⟨q1, q2, q3, q4⟩ := tl_no c h
  simp only [smI, grI, dgI, Bool.and_eq_false_iff, decide_eq_false_iff_not, beq_eq_false_iff_ne] at q1 q2 q3 q4
  omega

set_option maxRecDepth 100000 in
set_option maxHeartbeats 4000000 in
theorem rtail_run (s : ByteArray) (h0 : 0 < s.size) (hs : s.size ≤ 1000000000) (k : Nat) (hk1 : 1 ≤ k) (hk : k ≤ s.size) (hno : ∀ j (hj : j < s.size), 1 ≤ j → j < k → tlI (s[j].toNat : Int) = true) (he : ∀ hk : k < s.size, tlI (s[k].toNat : Int) = false) (w : World) :
    Calls Tryd.prog 25 #[.string s] w fun e w' => e = .returned (.bool (decide (k = s.size) && decide ((s.size : Int) ≤ 40))) ∧ w = w' := by
  have HN := Lib.hid hno
  have HE := Lib.hid he
  clear hno he
  go_enter Tryd.func25, Tryd.ntmps25
  go_wp2_with fail
  go_loop [3, 4] (fun vi _ => ∃ j : Nat, 1 ≤ j ∧ j ≤ k ∧ vi = .int .i64 j) (fun vi _ => s.size + 1 - (intOf vi).toNat)
  case atStart => exact ⟨1, by omega, by omega, rfl⟩
  case round =>
    obtain ⟨j, hj1, hjk, rfl⟩ := hrel
    by_cases hlt : j < k
    · have hjs : j < s.size := by omega
      have hz2 : (j : Int) < (s.size : Int) := by omega
      rcases tl_ranges _ (HN.out j hjs hj1 hlt) with ⟨q1, q2⟩ | ⟨q1, q2⟩ | ⟨q1, q2⟩ | q1
      all_goals
        go_wp2_with fail
        go_round
        case rel => exact ⟨j + 1, by omega, by omega, by go_num⟩
        case measure => simp [intOf]; omega
    · obtain rfl : j = k := by omega
      by_cases hjs : j < s.size
      · have hz2 : (j : Int) < (s.size : Int) := by omega
        have hd : decide (j = s.size) = false := decide_eq_false (by omega)
        have q9 := (tl_no _ (HE.out hjs)).2.2.2
        rcases tl_gaps _ (HE.out hjs) with q1 | ⟨q1, q2⟩ | ⟨q1, q2⟩ | ⟨q1, q2⟩ | q1
        all_goals
          try have p57 : decide ((s[j].toNat : Int) ≤ 57) = false := decide_eq_false (by omega)
          try have p57 : decide ((s[j].toNat : Int) ≤ 57) = true := decide_eq_true (by omega)
          try have p90 : decide ((s[j].toNat : Int) ≤ 90) = false := decide_eq_false (by omega)
          try have p90 : decide ((s[j].toNat : Int) ≤ 90) = true := decide_eq_true (by omega)
          try have p122 : decide ((s[j].toNat : Int) ≤ 122) = false := decide_eq_false (by omega)
          try have p122 : decide ((s[j].toNat : Int) ≤ 122) = true := decide_eq_true (by omega)
          go_wp2_with fail
          go_ret
          exact ⟨by first | rfl | (rw [hd]; rfl), rfl⟩
      · have hz2 : ¬ (j : Int) < (s.size : Int) := by omega
        have hd : decide (j = s.size) = true := decide_eq_true (by omega)
        go_wp2_with fail
        go_ret
        exact ⟨by first | rfl | (rw [hd]; rfl), rfl⟩
theorem tlL_drop (s : ByteArray) (i k : Nat) (hik : i ≤ k) (hk : k ≤ s.size) (hno : ∀ j (hj : j < s.size), i ≤ j → j < k → tlI (s[j].toNat : Int) = true) (he : ∀ hk : k < s.size, tlI (s[k].toNat : Int) = false) : tlL (s.data.toList.drop i) = decide (k = s.size) := by
  have hsl := Lib.size_eq s
  by_cases h : k = s.size
  · rw [decide_eq_true h]
    refine List.all_eq_true.2 fun c hc => ?_
    obtain ⟨j, hj, rfl⟩ := List.getElem_of_mem hc
    rw [List.length_drop] at hj
    have hj' : i + j < s.size := by omega
    rw [List.getElem_drop, ba_get s (i + j) hj']
    exact hno (i + j) hj' (by omega) (by omega)
  · rw [decide_eq_false h]
    have hk' : k < s.size := by omega
    have hkl : k - i < (s.data.toList.drop i).length := by rw [List.length_drop]; omega
    refine Bool.eq_false_iff.2 fun ha => ?_
    have := List.all_eq_true.1 ha _ (List.getElem_mem hkl)
    rw [List.getElem_drop] at this
    simp only [show i + (k - i) = k from by omega] at this
    rw [ba_get s k hk'] at this
    rw [he hk'] at this
    simp at this
theorem rtail_any (s : ByteArray) (h0 : 0 < s.size) (hs : s.size ≤ 1000000000) (w : World) : Calls Tryd.prog 25 #[.string s] w fun e w' => e = .returned (.bool (tailB s)) ∧ w = w' := by
  obtain ⟨k, k1, k2, k3, k4⟩ := scan_tl s 1 (by omega)
  have e : tailB s = (decide (k = s.size) && decide ((s.size : Int) ≤ 40)) := by
    unfold tailB
    rw [tlL_drop s 1 k k1 k2 k3 k4]
    congr 1
    exact decide_eq_decide.2 (by omega)
  rw [e]
  exact rtail_run s h0 hs k k1 k2 k3 k4 w

/-- The names' parts, the other way round. -/
theorem hbn_split (s : ByteArray) (h : 0 < s.size) : hbnB s = (tlI (s[0].toNat : Int) && tailB s) := by
  unfold hbnB tailB
  rw [decide_eq_false (show ¬ s.size = 0 by omega)]
  have hl : 0 < s.data.toList.length := by rw [← Lib.size_eq]; exact h
  have e := ba_get s 0 h hl
  rw [← e]
  have key : ∀ (l : List UInt8) (hl : 0 < l.length), tlL l = (tlI (l[0].toNat : Int) && tlL (l.drop 1)) := fun l hl => by
    cases l with
    | nil => simp at hl
    | cons c r => rfl
  rw [key _ hl]
  cases decide (s.size ≤ 40) <;> simp
theorem name_split (s : ByteArray) (h : 0 < s.size) : nameB s = (smI (s[0].toNat : Int) && (tailB s && !kwB s)) := by
  unfold nameB
  rw [hbn_split s h, hd_eq s h]
  cases hc : smI (s[0].toNat : Int)
  · simp
  · have : tlI (s[0].toNat : Int) = true := by simp [tlI, hc]
    rw [this]
    simp
theorem upper_split (s : ByteArray) (h : 0 < s.size) : upperB s = (grI (s[0].toNat : Int) && tailB s) := by
  unfold upperB
  rw [hbn_split s h, hd_eq s h]
  cases hc : grI (s[0].toNat : Int)
  · simp
  · have : tlI (s[0].toNat : Int) = true := by simp [tlI, hc]
    rw [this]
    simp
theorem none_empty (s : ByteArray) (h : s.size = 0) : nameB s = false ∧ upperB s = false := by
  have : hbnB s = false := by unfold hbnB; rw [decide_eq_true h]; rfl
  unfold nameB upperB
  rw [this]
  exact ⟨rfl, rfl⟩
theorem isEmpty_of (s : ByteArray) (h : s.size = 0) : s.toList.isEmpty = true := by
  rw [ByteArray.toList_eq]
  have := Lib.size_eq s
  cases hl : s.data.toList with
  | nil => rfl
  | cons _ _ => rw [hl, List.length_cons] at this; omega
theorem isEmpty_not (s : ByteArray) (h : 0 < s.size) : s.toList.isEmpty = false := by
  rw [ByteArray.toList_eq]
  have := Lib.size_eq s
  cases hl : s.data.toList with
  | nil => rw [hl, List.length_nil] at this; omega
  | cons _ _ => rfl

set_option maxRecDepth 100000 in
theorem rupper_any (s : ByteArray) (hs : s.size ≤ 1000000000) (w : World) : Calls Tryd.prog 14 #[.string s] w fun e w' => e = .returned (.bool (upperB s)) ∧ w = w' := by
  rcases Nat.eq_zero_or_pos s.size with h0 | h0
  · rw [(none_empty s h0).2]
    have he := isEmpty_of s h0
    go_enter Tryd.func14, Tryd.ntmps14
    go_wp2_with fail
    go_ret
    exact ⟨rfl, rfl⟩
  · rw [upper_split s h0]
    have he := isEmpty_not s h0
    by_cases h1 : (65 : Int) ≤ (s[0].toNat : Int)
    · by_cases h2 : (s[0].toNat : Int) ≤ 90
      · have hg : grI (s[0].toNat : Int) = true := by unfold grI; rw [decide_eq_true h1, decide_eq_true h2]; rfl
        rw [hg]
        have H := Lib.hid (rtail_any s h0 hs)
        go_enter Tryd.func14, Tryd.ntmps14
        go_wp2_with fail
        refine (H.out _).mono ?_
        rintro e w' ⟨rfl, rfl⟩
        go_wp2_with fail
        go_ret
        exact ⟨rfl, rfl⟩
      · have hg : grI (s[0].toNat : Int) = false := by simp [grI]; omega
        rw [hg]
        go_enter Tryd.func14, Tryd.ntmps14
        go_wp2_with fail
        go_ret
        exact ⟨rfl, rfl⟩
    · have hg : grI (s[0].toNat : Int) = false := by simp [grI]; omega
      rw [hg]
      go_enter Tryd.func14, Tryd.ntmps14
      go_wp2_with fail
      go_ret
      exact ⟨rfl, rfl⟩

def kwC : Array Value := #[.string ⟨#[102, 110]⟩, .string ⟨#[108, 101, 116]⟩, .string ⟨#[99, 97, 115, 101]⟩, .string ⟨#[102, 97, 105, 108]⟩, .string ⟨#[100, 97, 116, 97]⟩, .string ⟨#[100, 101, 102]⟩, .string ⟨#[100, 105, 118]⟩, .string ⟨#[109, 111, 100]⟩, .string ⟨#[102, 108, 111, 97, 116]⟩, .string ⟨#[119, 104, 111, 108, 101]⟩, .string ⟨#[115, 101, 113]⟩, .string ⟨#[105, 110, 102]⟩, .string ⟨#[110, 97, 110]⟩]
theorem kw_txts (w : World) (t : TypeId) : Txts (w.alloc (.cells kwC t)) w.heap.size 0 kwA := fun k hk => by
  rw [Nat.zero_add, cell_of_row _ w.heap.size k kwC t (0, 0) (heap_alloc_new w _)]
  have h13 : k < 13 := hk
  rcases k with _ | _ | _ | _ | _ | _ | _ | _ | _ | _ | _ | _ | _ | k
  all_goals first | rfl | omega
theorem kw_run (s : ByteArray) (w : World) (t : TypeId) : Calls Tryd.prog 26 #[.slice (some ⟨w.heap.size, 0, none⟩) 13 13, .string s] (w.alloc (.cells kwC t)) fun e w' => e = .returned (.bool (kwB s)) ∧ (w.alloc (.cells kwC t)) = w' := by
  have h := has_any kwA 13 w.heap.size 0 s (w.alloc (.cells kwC t)) (by decide) (kw_txts w t)
  rw [kw_has] at h
  exact h

set_option maxRecDepth 100000 in
theorem rname_any (s : ByteArray) (hs : s.size ≤ 1000000000) (w : World) : Calls Tryd.prog 12 #[.string s] w fun e w' => e = .returned (.bool (nameB s)) ∧ Below w.heap.size w w' := by
  have HK := Lib.hid (kw_run s w)
  rcases Nat.eq_zero_or_pos s.size with h0 | h0
  · rw [(none_empty s h0).1]
    have he := isEmpty_of s h0
    go_enter Tryd.func12, Tryd.ntmps12
    go_wp2_with fail
    go_ret
    exact ⟨rfl, (Below.refl _ _).alloc (Nat.le_refl _) _⟩
  · rw [name_split s h0]
    have he := isEmpty_not s h0
    by_cases h1 : (97 : Int) ≤ (s[0].toNat : Int)
    · by_cases h2 : (s[0].toNat : Int) ≤ 122
      · have hg : smI (s[0].toNat : Int) = true := by unfold smI; rw [decide_eq_true h1, decide_eq_true h2]; rfl
        rw [hg]
        have H := Lib.hid (rtail_any s h0 hs)
        cases ht : tailB s
        · go_enter Tryd.func12, Tryd.ntmps12
          go_wp2_with fail
          refine (H.out _).mono ?_
          rw [ht]
          rintro e w' ⟨rfl, rfl⟩
          go_wp2_with fail
          go_ret
          exact ⟨rfl, (Below.refl _ _).alloc (Nat.le_refl _) _⟩
        · go_enter Tryd.func12, Tryd.ntmps12
          go_wp2_with fail
          refine (H.out _).mono ?_
          rw [ht]
          rintro e w' ⟨rfl, rfl⟩
          go_wp2_with fail
          refine (HK.out _).mono ?_
          rintro e w' ⟨rfl, rfl⟩
          go_wp2_with fail
          go_ret
          exact ⟨rfl, (Below.refl _ _).alloc (Nat.le_refl _) _⟩
      · have hg : smI (s[0].toNat : Int) = false := by simp [smI]; omega
        rw [hg]
        go_enter Tryd.func12, Tryd.ntmps12
        go_wp2_with fail
        go_ret
        exact ⟨rfl, (Below.refl _ _).alloc (Nat.le_refl _) _⟩
    · have hg : smI (s[0].toNat : Int) = false := by simp [smI]; omega
      rw [hg]
      go_enter Tryd.func12, Tryd.ntmps12
      go_wp2_with fail
      go_ret
      exact ⟨rfl, (Below.refl _ _).alloc (Nat.le_refl _) _⟩
end Go.Proofs.YtoobcaegnokdpaaDoor
