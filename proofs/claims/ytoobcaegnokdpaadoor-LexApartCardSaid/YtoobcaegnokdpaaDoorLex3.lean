/- The document's words (gristmillref1.Words), of any text of at most 65536 bytes: the same. No conditions. -/
import Derived.Test.YtoobcaegnokdpaaDoorLex2
namespace Go.Proofs.YtoobcaegnokdpaaDoor
open Go.RowKit

theorem infoRWord : (Tryd.prog.info? 33).map (fun i => (i.zero, i.size, i.bytes)) = some (some (.agg #[.string ⟨#[]⟩, .int .i64 0]), 2, 24) := by kernel_rfl
theorem ne_of (x y : Int) : (x != y) = !(x == y) := rfl

set_option maxRecDepth 100000 in
set_option maxHeartbeats 4000000 in
theorem rwords_any (s : ByteArray) (hs : s.size ≤ 65536) (w : World) :
    Calls Tryd.prog 10 #[.string s] w (NewWds (words s.data.toList) (.bool true) w) := by
  obtain ⟨i0, hi, hz0, hz1, hz2⟩ := info_parts infoRWord
  have hsl := Lib.size_eq s
  obtain ⟨l, hl⟩ : ∃ l, l = s.data.toList := ⟨_, rfl⟩
  rw [← hl] at hsl ⊢
  have HL := Lib.hid hl
  clear hl
  go_enter Tryd.func10, Tryd.ntmps10
  go_wp2_with fail
  go_loopw [4, 5] (fun vl vi wr => ∃ (i : Nat) (done : List (ByteArray × Nat)) (ao : Option Addr) (cap : Nat), i ≤ s.size ∧ vi = .int .i64 i ∧ vl = .slice ao done.length cap ∧
      Hid (wr.ownsRow w.heap.size 33 2 (.slice ao done.length cap) done.length (cellsW done) ∧ Below w.heap.size w wr ∧ done.length ≤ i ∧ done ++ wds .gap i (l.drop i) = words l))
    (fun _ vi _ => s.size + 1 - (intOf vi).toNat)
  case atStart => exact ⟨0, [], none, 0, by omega, rfl, rfl, Lib.hid ⟨World.ownsRow_nil _ _ _ _, Below.refl _ _, Nat.le_refl _, rfl⟩⟩
  case round =>
    obtain ⟨i, done, ao, cap, hil, rfl, rfl, hR⟩ := hrel
    by_cases hi' : i < s.size
    · have hill : i < l.length := by omega
      have hg : l[i] = s[i] := by
        have := HL.out
        subst this
        exact ba_get s i hi' hill
      have hlt : (i : Int) < (s.size : Int) := by omega
      cases hsp : spI (s[i].toNat : Int)
      · cases h59 : ((s[i].toNat : Int) == 59)
        · obtain ⟨k, k1, k2, k3, k4⟩ : ∃ k, i + 1 ≤ k ∧ k ≤ s.size ∧ (∀ j (hj : j < s.size), i + 1 ≤ j → j < k → enI (s[j].toNat : Int) = false ∧ brI (s[i].toNat : Int) = false) ∧
              (brI (s[i].toNat : Int) = true ∧ k = i + 1 ∨ brI (s[i].toNat : Int) = false ∧ ∀ hk : k < s.size, enI (s[k].toNat : Int) = true) := by
            cases hbr : brI (s[i].toNat : Int)
            · obtain ⟨k, k1, k2, k3, k4⟩ := scan (fun c => enI (c.toNat : Int)) l (i + 1) (by omega)
              refine ⟨k, k1, by omega, fun j hj j1 j2 => ⟨?_, rfl⟩, Or.inr ⟨rfl, fun hk => ?_⟩⟩
              · have := k3 j (by omega) j1 j2
                simp only [HL.out] at this
                rwa [ba_get s j hj] at this
              · have := k4 (by omega)
                simp only [HL.out] at this
                rwa [ba_get s k hk] at this
            · exact ⟨i + 1, Nat.le_refl _, by omega, fun j hj j1 j2 => by omega, Or.inl ⟨rfl, rfl⟩⟩
          have htx : wds .gap i (l.drop i) = (s.extract i k, i) :: wds .gap k (l.drop k) := by
            rcases k4 with ⟨hbr, rfl⟩ | ⟨hbr, hend⟩
            · rw [wds_br l i hill (by rw [hg]; exact hsp) (by rw [hg]; exact h59) (by rw [hg]; exact hbr), ext_list, HL.out, Nat.add_sub_cancel_left]
            · rw [wds_word l i k hill (by omega) (by omega) (fun j hj j1 j2 => ?_) (fun hk => ?_), ext_list, HL.out]
              · by_cases hji : j = i
                · subst hji; rw [hg]; simp [enI, hbr, hsp, h59]
                · simp only [HL.out]
                  rw [ba_get s j (by omega)]
                  exact (k3 j (by omega) (by omega) j2).1
              · simp only [HL.out]
                rw [ba_get s k (by omega)]
                exact hend (by omega)
          have HX := Lib.hid htx
          have HK := Lib.hid k3
          have HE := Lib.hid k4
          clear htx k3 k4
          have hkz : (k : Int) ≤ (s.size : Int) := by omega
          have hikz : (i : Int) ≤ (k : Int) := by omega
          have hnn := ne_of (s[i].toNat : Int) 40
          have hnm := ne_of (s[i].toNat : Int) 41
          have hlen : done.length ≤ 65536 := by have := hR.out.2.2.1; omega
          have hsz : w.heap.size ≤ wr.heap.size := hR.out.2.1.size
          go_wp2_with fail
          refine (rspace_any _ _).mono ?_
          rintro e w' ⟨rfl, rfl⟩
          go_wp2_with fail
          go_loop [7] (fun vk => ∃ j : Nat, i + 1 ≤ j ∧ j ≤ k ∧ vk = .int .i64 j) (fun vk => s.size + 1 - (intOf vk).toNat)
          case atStart => exact ⟨i + 1, Nat.le_refl _, k1, by go_num⟩
          case round =>
            obtain ⟨j, hj, hjk, rfl⟩ := hrel
            by_cases hlj : j < k
            · have hjs : j < s.size := by omega
              obtain ⟨h0, hb⟩ := HK.out j hjs hj hlj
              simp only [enI, Bool.or_eq_false_iff] at h0
              obtain ⟨h1, h2, h3⟩ := h0
              simp only [brI, Bool.or_eq_false_iff] at hb h1
              have q1 : ((s[i].toNat : Int) != 40) = true := by rw [ne_of, hb.1]; rfl
              have q2 : ((s[i].toNat : Int) != 41) = true := by rw [ne_of, hb.2]; rfl
              have q3 : ((s[j].toNat : Int) != 59) = true := by rw [ne_of, h3]; rfl
              have q4 : ((s[j].toNat : Int) != 40) = true := by rw [ne_of, h1.1]; rfl
              have q5 : ((s[j].toNat : Int) != 41) = true := by rw [ne_of, h1.2]; rfl
              clear hnn hnm
              have hz : decide ((j : Int) < s.size) = true := decide_eq_true (by omega)
              go_wp2_with fail
              refine (rspace_any _ _).mono ?_
              rintro e w' ⟨rfl, rfl⟩
              go_wp2_with fail
              go_round
              case rel => exact ⟨j + 1, by omega, by omega, by go_num⟩
              case measure => simp [intOf]; omega
            · obtain rfl : j = k := by omega
              -- where it stops
              have hown := hR.out.1.alloc (.cells #[.string (s.extract i j), .int .i64 (i : Int)] 33)
              have key : ∀ (v' : Value) (w3 : World), w3.ownsRow w.heap.size 33 2 v' (done.length + 1) (cellsW done ++ [.string (s.extract i j), .int .i64 (i : Int)]) →
                  (wr.alloc (.cells #[.string (s.extract i j), .int .i64 (i : Int)] 33)).grownBy w3 (Value.slice ao done.length cap).ownBlock →
                  ∃ (done' : List (ByteArray × Nat)) (ao' : Option Addr) (cap' : Nat), v' = .slice ao' done'.length cap' ∧ Hid (w3.ownsRow w.heap.size 33 2 (.slice ao' done'.length cap') done'.length (cellsW done') ∧ Below w.heap.size w w3 ∧ done'.length ≤ j ∧ done' ++ wds .gap j (l.drop j) = words l) := by
                intro v' w3 hown' hgrow3
                obtain ⟨ao3, cap3, rfl⟩ := slice_of_owns hown'
                refine ⟨done ++ [(s.extract i j, i)], ao3, cap3, by rw [List.length_append]; rfl, Lib.hid ⟨?_, ?_, ?_, ?_⟩⟩
                · rw [List.length_append, cellsW_snoc]; exact hown'
                · exact (hR.out.2.1.alloc hsz _).grown hgrow3 (by simp; omega) (fun q hq => (hown.lt q hq).1)
                · rw [List.length_append]; have := hR.out.2.2.1; simp; omega
                · rw [← hR.out.2.2.2, HX.out, List.append_assoc]; rfl
              have C1 : ∀ u ∈ ([.string (s.extract i j), .int .i64 (i : Int)] : List Value), u.oneCell' = true := by
                intro u hu; simp at hu; rcases hu with rfl | rfl <;> rfl
              have C2 : done.length + 1 ≤ maxLen := by unfold maxLen; omega
              have C3 : (done.length + 1) * 24 ≤ 140737488355328 := by omega
              have C4 : w.heap.size ≤ (wr.alloc (.cells #[.string (s.extract i j), .int .i64 (i : Int)] 33)).heap.size := by simp; omega
              have KEY := Lib.hid key
              clear key
              have hstop : (((s[i].toNat : Int) == 40) = true) ∨ (((s[i].toNat : Int) == 40) = false ∧ ((s[i].toNat : Int) == 41) = true) ∨ (((s[i].toNat : Int) == 40) = false ∧ ((s[i].toNat : Int) == 41) = false ∧ ∀ hk : j < s.size, enI (s[j].toNat : Int) = true) := by
                rcases HE.out with ⟨hb, _⟩ | ⟨hb, he⟩
                · simp only [brI, Bool.or_eq_true] at hb
                  cases h4 : ((s[i].toNat : Int) == 40)
                  · rcases hb with hb | hb
                    · rw [h4] at hb; simp at hb
                    · exact Or.inr (Or.inl ⟨rfl, hb⟩)
                  · exact Or.inl rfl
                · simp only [brI, Bool.or_eq_false_iff] at hb
                  exact Or.inr (Or.inr ⟨hb.1, hb.2, he⟩)
              have hstop2 : (((s[i].toNat : Int) != 40) = false) ∨ (((s[i].toNat : Int) != 40) = true ∧ ((s[i].toNat : Int) != 41) = false) ∨ (((s[i].toNat : Int) != 40) = true ∧ ((s[i].toNat : Int) != 41) = true ∧ ¬ j < l.length)
                  ∨ (((s[i].toNat : Int) != 40) = true ∧ ((s[i].toNat : Int) != 41) = true ∧ j < l.length ∧ ∃ hk : j < s.size,
                      (spI (s[j].toNat : Int) = true ∨ (spI (s[j].toNat : Int) = false ∧ ((s[j].toNat : Int) != 59) = false) ∨ (spI (s[j].toNat : Int) = false ∧ ((s[j].toNat : Int) != 59) = true ∧ ((s[j].toNat : Int) != 40) = false) ∨ (spI (s[j].toNat : Int) = false ∧ ((s[j].toNat : Int) != 59) = true ∧ ((s[j].toNat : Int) != 40) = true ∧ ((s[j].toNat : Int) != 41) = false))) := by
                rcases hstop with h | ⟨h, g⟩ | ⟨h, g, he⟩
                · left; rw [ne_of, h]; rfl
                · right; left; rw [ne_of, ne_of, h, g]; exact ⟨rfl, rfl⟩
                · right; right
                  rw [ne_of, ne_of, h, g]
                  by_cases hjs : j < s.size
                  · right
                    have h0 := he hjs
                    refine ⟨rfl, rfl, by omega, hjs, ?_⟩
                    rw [ne_of, ne_of, ne_of]
                    cases a1 : spI (s[j].toNat : Int)
                    · right
                      cases a2 : ((s[j].toNat : Int) == 59)
                      · right
                        cases a3 : ((s[j].toNat : Int) == 40)
                        · right
                          have a4 : ((s[j].toNat : Int) == 41) = true := by simpa [enI, brI, a1, a2, a3] using h0
                          rw [a4]; exact ⟨rfl, rfl, rfl, rfl⟩
                        · left; exact ⟨rfl, rfl, rfl⟩
                      · left; exact ⟨rfl, rfl⟩
                    · left; rfl
                  · left; exact ⟨rfl, rfl, by omega⟩
              clear hnn hnm hstop
              rcases hstop2 with q1 | ⟨q1, q2⟩ | ⟨q1, q2, hz⟩ | ⟨q1, q2, hz, hjs, q3 | ⟨q3, q4⟩ | ⟨q3, q4, q5⟩ | ⟨q3, q4, q5, q6⟩⟩
              all_goals
                go_wp2_with (first
                  | (go_at_call 21; refine (rspace_any _ _).mono ?_; rintro e w' ⟨rfl, rfl⟩)
                  | (at_builtin; refine wpList_append_own _ rfl _ _ 28 rfl w.heap.size 33 i0 (.agg #[.string ⟨#[]⟩, .int .i64 0]) 2 24 Tryd.underlying28 hi hz0 hz1 hz2 rfl (by decide) _ _ _ rfl hown ⟨wr.heap.size, 0, none⟩ 1 1 [.string (s.extract i j), .int .i64 (i : Int)] rfl rfl (cell_two_new _ _ _ _) C1 C2 C3 C4 ?_; intro v' w3 hown' hgrow3 _; obtain ⟨done', ao', cap', rfl, hR'⟩ := KEY.out v' w3 hown' hgrow3; clear hown' hgrow3))
                go_roundw
                case rel => exact ⟨j, done', ao', cap', by omega, rfl, rfl, hR'⟩
                case measure => simp [intOf]; omega
        · obtain ⟨k, k1, k2, k3, k4⟩ := scan (fun c => (c.toNat : Int) == 10) l i (by omega)
          have hk : i < k := by
            rcases Nat.lt_or_ge i k with h | h
            · exact h
            · exfalso
              obtain rfl : k = i := by omega
              have h2 := k4 hill
              rw [hg] at h2
              simp only [beq_iff_eq] at h2 h59
              omega
          have HX := Lib.hid (wds_note l i k hill (by rw [hg]; exact hsp) (by rw [hg]; exact h59) hk (by omega) (fun j hj j1 j2 => k3 j hj (by omega) j2) k4)
          have HN : Hid (∀ j (hj : j < s.size), i ≤ j → j < k → ((s[j].toNat : Int) == 10) = false) := Lib.hid fun j hj j1 j2 => by
              have := k3 j (by omega) j1 j2
              simp only [HL.out] at this
              rwa [ba_get s j hj] at this
          have HE : Hid (∀ hk : k < s.size, ((s[k].toNat : Int) == 10) = true) := Lib.hid fun hk => by
              have := k4 (by omega)
              simp only [HL.out] at this
              rwa [ba_get s k hk] at this
          clear k3 k4
          go_wp2_with fail
          refine (rspace_any _ _).mono ?_
          rintro e w' ⟨rfl, rfl⟩
          go_wp2_with fail
          go_loop [5] (fun vk => ∃ j : Nat, i ≤ j ∧ j ≤ k ∧ vk = .int .i64 j) (fun vk => s.size + 1 - (intOf vk).toNat)
          case atStart => exact ⟨i, Nat.le_refl _, by omega, rfl⟩
          case round =>
            obtain ⟨j, hj, hjk, rfl⟩ := hrel
            by_cases hlj : j < k
            · have hjs : j < s.size := by omega
              have h1 := HN.out j hjs hj hlj
              have h2 : ((s[j].toNat : Int) != 10) = true := by rw [bne, h1]; rfl
              have hz : decide ((j : Int) < s.size) = true := decide_eq_true (by omega)
              go_wp2_with fail
              go_round
              case rel => exact ⟨j + 1, by omega, by omega, by go_num⟩
              case measure => simp [intOf]; omega
            · obtain rfl : j = k := by omega
              by_cases hjs : j < s.size
              · have h1 := HE.out hjs
                have h2 : ((s[j].toNat : Int) != 10) = false := by rw [bne, h1]; rfl
                have hz : decide ((j : Int) < s.size) = true := decide_eq_true (by omega)
                go_wp2_with fail
                go_roundw
                case rel => exact ⟨j, done, ao, cap, by omega, rfl, rfl, Lib.hid ⟨hR.out.1, hR.out.2.1, by have := hR.out.2.2.1; omega, by rw [← HX.out]; exact hR.out.2.2.2⟩⟩
                case measure => simp [intOf]; omega
              · have hz : decide ((j : Int) < s.size) = false := decide_eq_false (by omega)
                go_wp2_with fail
                go_roundw
                case rel => exact ⟨j, done, ao, cap, by omega, rfl, rfl, Lib.hid ⟨hR.out.1, hR.out.2.1, by have := hR.out.2.2.1; omega, by rw [← HX.out]; exact hR.out.2.2.2⟩⟩
                case measure => simp [intOf]; omega
      · go_wp2_with fail
        refine (rspace_any _ _).mono ?_
        rintro e w' ⟨rfl, rfl⟩
        go_wp2_with fail
        go_roundw
        case rel => exact ⟨i + 1, done, ao, cap, by omega, by go_num, rfl, Lib.hid ⟨hR.out.1, hR.out.2.1, by have := hR.out.2.2.1; omega, by rw [← wds_sp l i hill (by rw [hg]; exact hsp)]; exact hR.out.2.2.2⟩⟩
        case measure => simp [intOf]; omega
    · go_wp2_with fail
      go_ret2
      have hR' := hR.out
      have hd : done = words l := by
        have := hR'.2.2.2
        rwa [wds_gap_end i l i (by omega), List.append_nil] at this
      subst hd
      exact ⟨ao, cap, rfl, wdsAt_of_owns hR'.1, hR'.2.1⟩
end Go.Proofs.YtoobcaegnokdpaaDoor
