/- LexJoins: the walk of the law, out of the contracts of what it calls. No conditions. -/
import Derived.Test.YtoobcaegnokdpaaDoorLexF
namespace Go.Proofs.YtoobcaegnokdpaaDoor
open Go.RowKit

theorem on_at (d : Nat) (l : List (ByteArray × Nat)) (i : Nat) (h : i < (on d l).length) (h2 : i < l.length) : ((on d l)[i]).1 = l[i].1 ∧ ((on d l)[i]).2 = l[i].2 + d := by
  have e : (on d l)[i] = (l[i].1, l[i].2 + d) := List.getElem_map _
  rw [e]
  exact ⟨rfl, rfl⟩

set_option maxRecDepth 100000 in
set_option maxHeartbeats 8000000 in
theorem joins_core (s t : ByteArray) (la lb ld lm : List (ByteArray × Nat)) (k : Nat) (w : World) (hs : s.size ≤ 200) (ht : t.size ≤ 200) (hna : la.length ≤ 200) (hnb : lb.length ≤ 200) (hnm : lm.length ≤ 200)
    (hpos : ∀ i (h : i < lb.length), lb[i].2 ≤ 1000)
    (hd : ld.length = la.length + lm.length) (hk : k ≤ t.size) (hno : ∀ j (hj : j < t.size), j < k → ((t[j].toNat : Int) == 10) = false) (he : ∀ hk : k < t.size, ((t[k].toNat : Int) == 10) = true)
    (H0 : Hid (Calls Tryd.prog 8 #[] w (Grew (.bool true) w)))
    (HA : Hid (∀ w, Calls Tryd.prog 9 #[.string s] w (NewWds la .nilIface w)))
    (HB : Hid (∀ w, Calls Tryd.prog 9 #[.string t] w (NewWds lb .nilIface w)))
    (HC : Hid (∀ w, Calls Tryd.prog 9 #[.string (s ++ ⟨#[10]⟩ ++ t)] w (NewWds (la ++ on (s.size + 1) lb) .nilIface w)))
    (HD : Hid (∀ w, Calls Tryd.prog 9 #[.string (s ++ ⟨#[10, 59]⟩ ++ t)] w (NewWds ld .nilIface w)))
    (HM : Hid (∀ w, Calls Tryd.prog 9 #[.string (t.extract k t.size)] w (NewWds lm .nilIface w))) :
    Calls Tryd.prog 6 #[.string s, .string t] w (Grew (.bool true) w) := by
  have HN := Lib.hid hno
  have HE := Lib.hid he
  have HP := Lib.hid hpos
  clear hno he hpos
  have hsz : (s.size : Int) ≤ 200 := by omega
  have htz : (t.size : Int) ≤ 200 := by omega
  go_enter Tryd.func6, Tryd.ntmps6
  go_wp2_with fail
  refine H0.out.mono ?_
  rintro e w0 ⟨rfl, hb0⟩
  have HB0 := Lib.hid hb0
  clear hb0
  go_wp2_with fail
  refine (HA.out w0).mono ?_
  rintro e w1 ⟨aoa, capa, rfl, hv1, hb1⟩
  have HB1 := Lib.hid (HB0.out.trans (hb1.mono HB0.out.size))
  have HVa := Lib.hid hv1
  clear hb1 hv1 HB0
  go_wp2_with fail
  refine (HB.out w1).mono ?_
  rintro e w2 ⟨aob, capb, rfl, hv2, hb2⟩
  have HB2 := Lib.hid (HB1.out.trans (hb2.mono HB1.out.size))
  have HVa2 := Lib.hid (HVa.out.below hb2)
  have HVb := Lib.hid hv2
  clear hb2 hv2 HB1 HVa
  go_wp2_with fail
  refine (HC.out w2).mono ?_
  rintro e w3 ⟨aoc, capc, rfl, hv3, hb3⟩
  have HB3 := Lib.hid (HB2.out.trans (hb3.mono HB2.out.size))
  have HVa3 := Lib.hid (HVa2.out.below hb3)
  have HVb3 := Lib.hid (HVb.out.below hb3)
  have HVc := Lib.hid hv3
  clear hb3 hv3 HB2 HVa2 HVb
  have HLc := Lib.hid (show (la ++ on (s.size + 1) lb).length = la.length + lb.length by rw [List.length_append, on_len])
  rw [HLc.out]
  obtain ⟨na, hna'⟩ : ∃ n, n = la.length := ⟨_, rfl⟩
  obtain ⟨nb, hnb'⟩ : ∃ n, n = lb.length := ⟨_, rfl⟩
  obtain ⟨nm, hnm'⟩ : ∃ n, n = lm.length := ⟨_, rfl⟩
  have HNa := Lib.hid hna'
  have HNb := Lib.hid hnb'
  have HNm := Lib.hid hnm'
  have HNd := Lib.hid hd
  rw [← hna', ← hnm'] at HNd
  clear hd
  rw [← hna', ← hnb']
  rw [← hna'] at hna
  rw [← hnb'] at hnb
  rw [← hnm'] at hnm
  clear hna' hnb' hnm'
  go_wp2_with fail
  go_loopw [12] (fun vi wr => ∃ i : Nat, i ≤ na + nb ∧ vi = .int .i64 i ∧ Hid (Below w3.heap.size w3 wr)) (fun vi _ => na + nb + 1 - (intOf vi).toNat)
  case atStart => exact ⟨0, by omega, rfl, Lib.hid (Below.refl _ _)⟩
  case round =>
    obtain ⟨i, hi, rfl, hR⟩ := hrel
    by_cases hin : i < na + nb
    · have hic : i < (la ++ on (s.size + 1) lb).length := by rw [HLc.out, ← HNa.out, ← HNb.out]; exact hin
      obtain ⟨p, rfl, _, hp, c1, c2⟩ := (HVc.out.below hR.out) i hic
      have hiz : (i : Int) < (na : Int) + (nb : Int) := by omega
      have hi0 : (0 : Int) ≤ (i : Int) := by omega
      by_cases hia : i < na
      · have hila : i < la.length := by rw [← HNa.out]; exact hia
        obtain ⟨q, rfl, _, hq, c3, c4⟩ := (HVa3.out.below hR.out) i hila
        rw [List.getElem_append_left hila] at c1 c2
        have hiaz : (i : Int) < (na : Int) := by omega
        go_wp2_with fail
        go_quiet (fail)
        go_wp2_with fail
        go_roundw
        case rel => exact ⟨i + 1, by omega, by go_num, Lib.hid (below_drewN hR.out _)⟩
        case measure => simp [intOf]; omega
      · obtain ⟨j, rfl⟩ : ∃ j, i = na + j := ⟨i - na, by omega⟩
        have hjb : j < lb.length := by rw [← HNb.out]; omega
        obtain ⟨q, rfl, _, hq, c3, c4⟩ := (HVb3.out.below hR.out) j hjb
        have hco : (la ++ on (s.size + 1) lb)[na + j] = (lb[j].1, lb[j].2 + (s.size + 1)) := by
          rw [List.getElem_append_right (by rw [← HNa.out]; omega)]
          have hx : na + j - la.length = j := by rw [← HNa.out]; omega
          simp only [hx]
          obtain ⟨o1, o2⟩ := on_at (s.size + 1) lb j (by rw [on_len]; exact hjb) hjb
          exact Prod.ext o1 o2
        rw [hco] at c1 c2
        have hpj := HP.out j hjb
        have hsub : wrap64 (((na + j : Nat) : Int) - (na : Int)) = (j : Int) := by rw [IntWalk.wrap64_in _ ⟨by omega, by omega⟩]; omega
        have hjn : (j : Int) < (nb : Int) := by omega
        have hj0 : (0 : Int) ≤ (j : Int) := by omega
        have e2 : ((lb[j].2 + (s.size + 1) : Nat) : Int) = (lb[j].2 : Int) + (s.size : Int) + 1 := by omega
        simp only [e2] at c2
        have hpz : (lb[j].2 : Int) ≤ 1000 := by omega
        have hp0 : (0 : Int) ≤ (lb[j].2 : Int) := by omega
        go_wp2_with fail
        have hbel := (Below.refl wr.heap.size wr).alloc (Nat.le_refl _) (.cells #[.string lb[j].1, .int .i64 (lb[j].2 : Int)] 32)
        have d1 := (hbel.cell (p := ⟨p, (na + j) * 2, none⟩) hp).trans c1
        have d2 := (hbel.cell (p := ⟨p, (na + j) * 2 + 1, none⟩) hp).trans c2
        have d3 := cell_two_new wr (.string lb[j].1) (.int .i64 (lb[j].2 : Int)) 32 0 _ rfl
        have d4 := cell_two_new wr (.string lb[j].1) (.int .i64 (lb[j].2 : Int)) 32 1 _ rfl
        rw [addr_add] at d3 d4
        have HR' := Lib.hid (hR.out.alloc hR.out.size (.cells #[.string lb[j].1, .int .i64 (lb[j].2 : Int)] 32))
        clear hbel c1 c2 c3 c4 hco
        generalize wr.alloc (.cells #[.string lb[j].1, .int .i64 (lb[j].2 : Int)] 32) = wn at *
        generalize wr.heap.size = nx at *
        go_quiet (fail)
        go_wp2_with fail
        go_roundw
        case rel => exact ⟨na + j + 1, by omega, by go_num, Lib.hid (below_drewN HR'.out _)⟩
        case measure => simp [intOf]; omega
    · obtain rfl : i = na + nb := by omega
      go_wp2_with fail
      refine (HD.out wr).mono ?_
      rintro e w4 ⟨aod, capd, rfl, _, hb4⟩
      have HB4 := Lib.hid (HB3.out.trans (hR.out.mono HB3.out.size) |>.trans (hb4.mono (HB3.out.trans (hR.out.mono HB3.out.size)).size))
      clear hb4
      rw [HNd.out]
      go_wp2_with fail
      go_loopw [16] (fun vi wq => ∃ j : Nat, j ≤ k ∧ vi = .int .i64 j ∧ wq = w4) (fun vi _ => t.size + 1 - (intOf vi).toNat)
      case atStart => exact ⟨0, by omega, rfl, rfl⟩
      case round =>
        obtain ⟨j, hjk, rfl, rfl⟩ := hrel
        by_cases hlt : j < k
        · have hjs : j < t.size := by omega
          have h1 := HN.out j hjs hlt
          have h2 : ((t[j].toNat : Int) != 10) = true := by rw [bne, h1]; rfl
          have hz : decide ((j : Int) < t.size) = true := decide_eq_true (by omega)
          go_wp2_with fail
          go_roundw
          case rel => exact ⟨j + 1, by omega, by go_num, by first | trivial | rfl⟩
          case measure => simp [intOf]; omega
        · obtain rfl : j = k := by omega
          have hend : (∃ hjs : j < t.size, ((t[j].toNat : Int) != 10) = false) ∨ ¬ j < t.size := by
            by_cases hjs : j < t.size
            · left
              exact ⟨hjs, by rw [bne, HE.out hjs]; rfl⟩
            · exact Or.inr hjs
          rcases hend with ⟨hjs, h2⟩ | hjs
          all_goals
            go_wp2_with fail
            refine (HM.out _).mono ?_
            rintro e w5 ⟨aom, capm, rfl, _, hb5⟩
            rw [← HNm.out]
            go_wp2_with fail
            apply bodyPost_ret
            case hr => exact results_tmp rfl _ _ _
            case hd => rfl
            case hR => exact ⟨by go_num, HB4.out.trans (hb5.mono HB4.out.size)⟩

theorem pos_lt (l : List UInt8) : ∀ (f : Ph) (p m : Nat), p + l.length ≤ m → (match f with | .word st _ => st ≤ m | _ => True) → ∀ x ∈ wds f p l, x.2 ≤ m := by
  induction l with
  | nil =>
    intro f p m hm hf x hx
    cases f with
    | gap => simp [wds] at hx
    | note => simp [wds] at hx
    | word st acc =>
      simp only [wds, List.mem_singleton] at hx
      subst hx
      exact hf
  | cons c r ih =>
    intro f p m hm hf x hx
    rw [List.length_cons] at hm
    have hg := ih .gap (p + 1) m (by omega) trivial
    have hn := ih .note (p + 1) m (by omega) trivial
    cases f with
    | gap =>
      have hw := ih (.word p [c]) (p + 1) m (by omega) (show p ≤ m by omega)
      simp only [wds] at hx
      split at hx
      · exact hg x hx
      · split at hx
        · exact hn x hx
        · split at hx
          · rcases List.mem_cons.1 hx with rfl | hx
            · show p ≤ m; omega
            · exact hg x hx
          · exact hw x hx
    | note =>
      simp only [wds] at hx
      split at hx
      · exact hg x hx
      · exact hn x hx
    | word st acc =>
      have hst : st ≤ m := hf
      have hw := ih (.word st (acc ++ [c])) (p + 1) m (by omega) hst
      simp only [wds] at hx
      split at hx
      · rcases List.mem_cons.1 hx with rfl | hx
        · exact hst
        · exact hg x hx
      · split at hx
        · rcases List.mem_cons.1 hx with rfl | hx
          · exact hst
          · exact hn x hx
        · split at hx
          · rcases List.mem_cons.1 hx with rfl | hx
            · exact hst
            · rcases List.mem_cons.1 hx with rfl | hx
              · show p ≤ m; omega
              · exact hg x hx
          · exact hw x hx
theorem words_pos (l : List UInt8) (x : ByteArray × Nat) (hx : x ∈ words l) : x.2 ≤ l.length := pos_lt l .gap 0 l.length (by omega) trivial x hx
theorem add_data2 (s u t : ByteArray) : (s ++ u ++ t).data.toList = s.data.toList ++ (u.data.toList ++ t.data.toList) := by
  rw [ByteArray.data_append, Array.toList_append, ByteArray.data_append, Array.toList_append, List.append_assoc]

set_option maxRecDepth 100000 in
theorem lexJoins_any (s t : ByteArray) (_ : s.size ≤ maxLen) (_ : t.size ≤ maxLen) (w : World) (_ : True) :
    Calls Tryd.prog 6 #[.string s, .string t] w (Grew (.bool true) w) := by
  by_cases h1 : 200 < s.size
  · have h1' : (200 : Int) < (s.size : Int) := by omega
    have H0 := Lib.hid (first_any w)
    go_enter Tryd.func6, Tryd.ntmps6
    go_wp2_with fail
    refine H0.out.mono ?_
    rintro e w0 ⟨rfl, hb0⟩
    go_wp2_with fail
    apply bodyPost_ret
    case hr => exact results_tmp rfl _ _ _
    case hd => rfl
    case hR => exact ⟨rfl, hb0⟩
  by_cases h2 : 200 < t.size
  · have h1' : (s.size : Int) ≤ 200 := by omega
    have h2' : (200 : Int) < (t.size : Int) := by omega
    have H0 := Lib.hid (first_any w)
    go_enter Tryd.func6, Tryd.ntmps6
    go_wp2_with fail
    refine H0.out.mono ?_
    rintro e w0 ⟨rfl, hb0⟩
    go_wp2_with fail
    apply bodyPost_ret
    case hr => exact results_tmp rfl _ _ _
    case hd => rfl
    case hR => exact ⟨rfl, hb0⟩
  have hsl := Lib.size_eq s
  have htl := Lib.size_eq t
  have la := words_len s.data.toList
  have lb := words_len t.data.toList
  obtain ⟨k, _, k2, k3, k4⟩ := scan (fun c => (c.toNat : Int) == 10) t.data.toList 0 (by omega)
  have lm := words_len (t.data.toList.drop k)
  rw [List.length_drop] at lm
  have hc : ∀ u : ByteArray, u.size ≤ 2 → (s ++ u ++ t).size ≤ 65536 := fun u hu => by rw [ByteArray.size_append, ByteArray.size_append]; omega
  have e1 : words (s ++ ⟨#[10]⟩ ++ t).data.toList = words s.data.toList ++ on (s.size + 1) (words t.data.toList) := by
    rw [add_data2, hsl]
    exact words_join _ _
  have e2 : (words (s ++ ⟨#[10, 59]⟩ ++ t).data.toList).length = (words s.data.toList).length + (words (t.data.toList.drop k)).length := by
    rw [add_data2]
    exact words_noted s.data.toList t.data.toList k (by omega) (fun j hj j2 => k3 j hj (by omega) j2) k4
  have e3 : (t.extract k t.size).data.toList = t.data.toList.drop k := by
    rw [ByteArray.data_extract, Array.toList_extract, List.extract_eq_take_drop, List.take_of_length_le]
    rw [List.length_drop, ← htl]
    exact Nat.le_refl _
  have hm : (t.extract k t.size).size ≤ 65536 := by rw [ByteArray.size_extract]; omega
  have hC := words_any (s ++ ⟨#[10]⟩ ++ t) (hc _ (by decide))
  rw [e1] at hC
  have hM := words_any (t.extract k t.size) hm
  rw [e3] at hM
  exact joins_core s t (words s.data.toList) (words t.data.toList) (words (s ++ ⟨#[10, 59]⟩ ++ t).data.toList) (words (t.data.toList.drop k)) k w (by omega) (by omega) (by omega) (by omega) (by omega)
    (fun i h => by have := words_pos _ _ (List.getElem_mem h); omega) e2 (by omega)
    (fun j hj j2 => by have := k3 j (by omega) (by omega) j2; rwa [ba_get t j hj] at this) (fun hk => by have := k4 (by omega); rwa [ba_get t k hk] at this)
    (Lib.hid (first_any w)) (Lib.hid (words_any s (by omega))) (Lib.hid (words_any t (by omega))) (Lib.hid hC) (Lib.hid (words_any (s ++ ⟨#[10, 59]⟩ ++ t) (hc _ (by decide)))) (Lib.hid hM)
end Go.Proofs.YtoobcaegnokdpaaDoor
