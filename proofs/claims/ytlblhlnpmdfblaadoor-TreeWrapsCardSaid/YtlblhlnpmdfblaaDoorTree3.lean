/- TreeWraps: the walk of the law, out of the contracts of what it calls. No conditions. -/
import Derived.Test.YtlblhlnpmdfblaaDoorTree2
import Derived.Test.YtlblhlnpmdfblaaDoorNumber
namespace Go.Proofs.YtlblhlnpmdfblaaDoor
open Go.RowKit

theorem same_len' {a b : Fo} (h : a.same b = true) : a.len = b.len := Fo.same_len a b h
theorem wrap_len (f : Fo) (p n : Nat) : (wrapF f p (n + 1)).len = 1 := rfl

theorem wp_append_none {P : Program} {w : World} {o : Oper} {a : Act} {K : Act → World → Prop} {Q : Exit → Act → World → Prop} (s x : Operand) (t : TypeId)
    (ho : o.op = .call { callee := .builtin .append, args := #[s, x], argTypes := #[t, t] })
    (base : Nat) (e : TypeId) (i : TypeInfo) (size : Nat) (ht : P.underlying t = some (.slice e)) (hi : P.info? e = some i)
    (v : Value) (n : Nat) (xs : List Value) (hs : a.eval s = v) (hown : w.ownsRow base e size v n xs) (hx : a.eval x = .slice none 0 0)
    (h : K (a.put o.dst v) w) : o.wp P a w K Q := by
  have hrun := run_append_owned_none (P := P) (w := w) base t o.type e i size ht hi v n xs hown
  unfold Oper.wp
  simp [execOp, ho, resolve, invoke, builtin, hs, hx, hrun, Result.andThen]
  exact h
theorem grown_refl (w : World) (r : Option Nat) : w.grownBy w r := ⟨rfl, rfl, rfl, Nat.le_refl _, fun _ _ _ => rfl⟩
theorem foAt_none {w : World} {f : Fo} (h : FoAt w f none 0) : f.len = 0 := by
  rcases Nat.eq_zero_or_pos f.len with h0 | h0
  · exact h0
  · obtain ⟨b, off, e, _⟩ := h.head h0 0
    cases e

set_option maxRecDepth 100000 in
set_option maxHeartbeats 4000000 in
theorem wraps_main (s t : ByteArray) (k : Int) (n : Nat) (f g fo g' : Fo) (w : World) (hn : n ≤ 3) (hs : s.size ≤ 300) (ht : t.size ≤ 300) (hf : f.size ≤ 300) (hg : g.size ≤ 300) (hfo : fo.len = f.len) (hg' : g'.len = g.len) (hd : f.deep + n ≤ 200)
    (hs1 : (f.app g').same (f.app g) = true) (hs2 : fo.same f = true)
    (H0 : Hid (Calls Tryd.prog 6 #[] w (Grew (.bool true) w)))
    (HK : Hid (∀ w, Calls Tryd.prog 7 #[.int .i64 k, .int .i64 4] w fun e w' => e = .returned (.int .i64 (n : Int)) ∧ w = w'))
    (HA : Hid (∀ w1 : World, Below w.heap.size w w1 → Calls Tryd.prog 8 #[.string s] w1 (ReadsAs (.ok f) w1)))
    (HB : Hid (∀ w1 : World, Below w.heap.size w w1 → Calls Tryd.prog 8 #[.string t] w1 (ReadsAs (.ok g) w1)))
    (HC : Hid (∀ w1 : World, Below w.heap.size w w1 → Calls Tryd.prog 8 #[.string (rep 40 n ++ s ++ ⟨#[10]⟩ ++ rep 41 n)] w1 (ReadsAs (.ok (wrapF fo 0 n)) w1)))
    (HE : Hid (∀ w1 : World, Below w.heap.size w w1 → Calls Tryd.prog 8 #[.string (s ++ ⟨#[10]⟩ ++ t)] w1 (ReadsAs (.ok (f.app g')) w1)))
    (HD : Hid (∀ (ao : Option Addr) (cap : Nat) (w1 : World), Below w.heap.size w w1 → FoAt w1 f ao 0 → Calls Tryd.prog 11 #[.slice ao f.len cap] w1 (Grew (.int .i64 (f.deep : Int)) w1)))
    (HS : Hid (∀ (f g : Fo) (ao ao' : Option Addr) (cap cap' : Nat) (w1 : World), f.same g = true → g.size ≤ 1000 → Below w.heap.size w w1 → FoAt w1 f ao 0 → FoAt w1 g ao' 0 → Calls Tryd.prog 13 #[.slice ao f.len cap, .slice ao' g.len cap'] w1 (Grew (.bool true) w1))) :
    Calls Tryd.prog 5 #[.string s, .string t, .int .i64 k] w (Grew (.bool true) w) := by
  obtain ⟨i0, hi, hz0, hz1, hz2⟩ := info_parts infoNode
  have hsz : (s.size : Int) ≤ 300 := by omega
  have htz : (t.size : Int) ≤ 300 := by omega
  have hfl := len_size f
  have hgl := len_size g
  have hdz : (f.deep : Int) + (n : Int) ≤ 200 := by omega
  obtain ⟨dp, hdp⟩ : ∃ dp, dp = f.deep := ⟨_, rfl⟩
  have HDP := Lib.hid hdp
  rw [← hdp] at hdz
  obtain ⟨nf, hnf⟩ : ∃ nf, nf = f.len := ⟨_, rfl⟩
  obtain ⟨ng, hng⟩ : ∃ ng, ng = g.len := ⟨_, rfl⟩
  have HNF := Lib.hid hnf
  have HNG := Lib.hid hng
  have hnf3 : nf ≤ 300 := by omega
  have hng3 : ng ≤ 300 := by omega
  have HS1 := Lib.hid hs1
  have HS2 := Lib.hid hs2
  have HFO := Lib.hid hfo
  have HGO := Lib.hid hg'
  have HFS := Lib.hid hf
  have HSZ : Hid ((f.app g).size ≤ 1000) := Lib.hid (by rw [size_app]; omega)
  have hdp2 : dp ≤ 200 := by omega
  clear hdp hnf hng hs1 hs2 hfo hg' hf hg hfl hgl hd
  go_enter Tryd.func5, Tryd.ntmps5
  go_wp2_with fail
  refine H0.out.mono ?_
  rintro e w0 ⟨rfl, hb0⟩
  have HB0 := Lib.hid hb0
  clear hb0
  go_wp2_with fail
  refine (HK.out _).mono ?_
  rintro e w' ⟨rfl, rfl⟩
  go_wp2_with fail
  refine (HA.out w0 HB0.out).mono ?_
  rintro e w1 ⟨aoa, capa, rfl, hca, hva, hb1⟩
  have HBa := Lib.hid (HB0.out.trans (hb1.mono HB0.out.size))
  have HVa := Lib.hid hva
  clear hb1 hva
  go_wp2_with fail
  refine (HB.out w1 HBa.out).mono ?_
  rintro e w2 ⟨aob, capb, rfl, hcb, hvb, hb2⟩
  have HBb := Lib.hid (HBa.out.trans (hb2.mono HBa.out.size))
  have HVa2 := Lib.hid (HVa.out.below hb2)
  have HVb := Lib.hid hvb
  clear hb2 hvb
  rw [← HNF.out, ← HNG.out]
  go_wp2_with fail
  go_loopw [12, 13, 14] (fun vo vsh vi wq => ∃ i : Nat, i ≤ n ∧ vi = .int .i64 i ∧ vo = .string (rep 40 i) ∧ vsh = .string (rep 41 i) ∧ wq = w2) (fun _ _ vi _ => n + 1 - (intOf vi).toNat)
  case atStart => exact ⟨0, by omega, rfl, rfl, rfl, rfl⟩
  case round =>
    obtain ⟨i, hin, rfl, rfl, rfl, rfl⟩ := hrel
    have z1 := rep_size 40 i
    have z2 := rep_size 41 i
    by_cases hlt : i < n
    · have hiz : (i : Int) < (n : Int) := by omega
      go_wp2_with fail
      go_roundw
      case rel => exact ⟨i + 1, by omega, by go_num, by rw [rep_next], by rw [rep_next], by first | trivial | rfl⟩
      case measure => simp [intOf]; omega
    · obtain rfl : i = n := by omega
      go_wp2_with fail
      refine (HC.out _ HBb.out).mono ?_
      rintro e w3 ⟨aoc, capc, rfl, _, hvc, hb3⟩
      have HBc := Lib.hid (HBb.out.trans (hb3.mono HBb.out.size))
      have HVa3 := Lib.hid (HVa2.out.below hb3)
      have HVb3 := Lib.hid (HVb.out.below hb3)
      have HVc := Lib.hid hvc
      clear hb3 hvc
      have hDD := HD.out aoa capa w3 HBc.out HVa3.out
      rw [← HNF.out, ← HDP.out] at hDD
      have HDD := Lib.hid hDD
      clear hDD
      go_wp2_with fail
      refine HDD.out.mono ?_
      rintro e w4 ⟨rfl, hb4⟩
      have HBd := Lib.hid (HBc.out.trans (hb4.mono HBc.out.size))
      have HVa4 := Lib.hid (HVa3.out.below hb4)
      have HVb4 := Lib.hid (HVb3.out.below hb4)
      have HVc4 := Lib.hid (HVc.out.below hb4)
      clear hb4
      go_wp2_with fail
      refine (HE.out w4 HBd.out).mono ?_
      rintro e w5 ⟨aod, capd, rfl, _, hvd, hb5⟩
      have HBe := Lib.hid (HBd.out.trans (hb5.mono HBd.out.size))
      have HVa5 := Lib.hid (HVa4.out.below hb5)
      have HVb5 := Lib.hid (HVb4.out.below hb5)
      have HVc5 := Lib.hid (HVc4.out.below hb5)
      have HVd := Lib.hid hvd
      clear hb5 hvd
      obtain ⟨csa, ka1, ka2⟩ := HVa5.out.cells
      obtain ⟨csb, kb1, kb2⟩ := HVb5.out.cells
      have HKa := Lib.hid ka1
      have HKb := Lib.hid kb1
      have la := ka1.len
      have lb := kb1.len
      rw [← HNF.out] at la
      rw [← HNG.out] at lb
      have ua := ka1.one
      have ub := kb1.one
      have hbw : Below w5.heap.size w5 (w5.alloc (.cells #[] 39)) := (Below.refl _ _).alloc (Nat.le_refl _) _
      have own0 : (w5.alloc (.cells #[] 39)).ownsRow w5.heap.size 39 3 (.slice (some ⟨w5.heap.size, 0, none⟩) 0 0) 0 [] := World.ownsRow_made w5 #[] 0 (Nat.le_refl _) (by unfold maxLen; omega) rfl
      have HBW := Lib.hid hbw
      have m1 : 0 + nf ≤ maxLen := by unfold maxLen; omega
      have m2 : (0 + nf) * 48 ≤ 140737488355328 := by omega
      have m3 : 0 + nf + ng ≤ maxLen := by unfold maxLen; omega
      have m4 : (0 + nf + ng) * 48 ≤ 140737488355328 := by omega
      have m5 : w5.heap.size ≤ (w5.alloc (.cells #[] 39)).heap.size := hbw.size
      clear ka1 kb1 hbw
      have hna : ∀ ada, aoa = some ada → ∀ j u, csa[j]? = some u → (w5.alloc (.cells #[] 39)).cell? (ada.add j) = some u := fun ada e j u hj => by
        have h := ka2 ada e j u hj
        rw [show 0 * 3 + j = j by omega] at h
        exact (HBW.out.cell (World.block_lt_of_cell? _ _ h)).trans h
      have hnb : ∀ adb, aob = some adb → ∀ (w6 : World) (r : Option Nat), (∀ q, r = some q → w5.heap.size ≤ q) → (w5.alloc (.cells #[] 39)).grownBy w6 r → ∀ j u, csb[j]? = some u → w6.cell? (adb.add j) = some u := fun adb e w6 r hr gr j u hj => by
        have h := kb2 adb e j u hj
        rw [show 0 * 3 + j = j by omega] at h
        have hlt := World.block_lt_of_cell? _ _ h
        exact gr.cell ((HBW.out.cell hlt).trans h) (fun e => by have := hr _ e.symm; omega)
      have HNA := Lib.hid hna
      have HNB := Lib.hid hnb
      have LD : (f.app g').len ≤ 1000 := by rw [Fo.app_len, HGO.out, ← HNF.out, ← HNG.out]; omega
      have LE : (f.app g).len ≤ 1000 := by rw [Fo.app_len, ← HNF.out, ← HNG.out]; omega
      have HLd : Hid ((f.app g').len = (f.app g).len) := Lib.hid (same_len' HS1.out)
      clear ka2 kb2 hna hnb
      have KEY : Hid (∀ (v7 : Value) (w7 : World), w7.ownsRow w5.heap.size 39 3 v7 (0 + nf + ng) ([] ++ csa ++ csb) → Below w5.heap.size w5 w7 → ∃ ao cap, v7 = .slice ao (f.app g).len cap ∧ FoAt w7 (f.app g) ao 0) := Lib.hid fun v7 w7 o7 hb => foAt_of_owns o7 ((HKb.out.below hb).app (HKa.out.below hb))
      rcases aoa with _ | ada <;> rcases aob with _ | adb
      · obtain rfl : nf = 0 := by rw [HNF.out]; exact foAt_none HVa5.out
        obtain rfl : csa = [] := List.eq_nil_of_length_eq_zero la
        obtain rfl : capa = 0 := hca rfl
        have o6n : (w5.alloc (.cells #[] 39)).ownsRow w5.heap.size 39 3 (.slice (some ⟨w5.heap.size, 0, none⟩) 0 0) (0 + 0) ([] ++ []) := own0
        obtain rfl : ng = 0 := by rw [HNG.out]; exact foAt_none HVb5.out
        obtain rfl : csb = [] := List.eq_nil_of_length_eq_zero lb
        obtain rfl : capb = 0 := hcb rfl
        clear HNA
        go_wp2_with (first
          | (at_builtin; go_guarded; refine wp_append_none (.tmp 92) (.tmp 93) 24 rfl w5.heap.size 39 i0 3 Tryd.underlying24 hi _ _ _ rfl own0 rfl ?_
             have o6 := o6n
             have hb6 := HBW.out
             have hz6 := m5
             have hnb := fun adb e => HNB.out adb e _ (some w5.heap.size) (fun q hq => by injection hq with hq; omega) (grown_refl _ _))
          | (at_builtin; go_guarded; refine wp_append_none (.tmp 94) (.tmp 95) 24 rfl w5.heap.size 39 i0 3 Tryd.underlying24 hi _ _ _ rfl o6 rfl ?_
             have hb7 := Lib.hid hb6
             obtain ⟨ao7, cap7, hv7, ha7⟩ := KEY.out _ _ (by rw [List.append_nil]; exact o6) hb7.out
             rw [hv7]
             have HA7 := Lib.hid ha7
             clear ha7 hnb hb6))
        have HS7 := Lib.hid (HS.out (f.app g') (f.app g) aod ao7 capd cap7 _ HS1.out HSZ.out (HBe.out.trans (hb7.out.mono HBe.out.size)) (HVd.out.below hb7.out) HA7.out)
        refine HS7.out.mono ?_
        rintro e w8 ⟨rfl, hb8⟩
        have HB7 := Lib.hid (HBe.out.trans (hb7.out.mono HBe.out.size))
        have HB8 := Lib.hid (HB7.out.trans (hb8.mono HB7.out.size))
        have HVa8 := Lib.hid ((HVa5.out.below hb7.out).below hb8)
        have HVc8 := Lib.hid ((HVc5.out.below hb7.out).below hb8)
        have hSS := fun ao ao' cap cap' w1 => HS.out fo f ao ao' cap cap' w1 HS2.out (Nat.le_trans HFS.out (by decide))
        have lfo : fo.len ≤ 1000 := by rw [HFO.out, ← HNF.out]; omega
        have lf : f.len ≤ 1000 := by rw [← HNF.out]; omega
        rw [← HNF.out] at hSS
        have HSS := Lib.hid hSS
        clear hb8 hSS
        go_wp2_with fail
        go_loopw [15, 19] (fun vc vi wq => ∃ (i' j : Nat) (ao : Option Addr) (cap : Nat), i' + j = i ∧ vi = .int .i64 i' ∧ vc = .slice ao (wrapF fo i' j).len cap ∧ wq = w8 ∧ Hid (FoAt w8 (wrapF fo i' j) ao 0)) (fun _ vi _ => i + 1 - (intOf vi).toNat)
        case atStart => exact ⟨0, i, aoc, capc, by omega, rfl, rfl, rfl, HVc8⟩
        case round =>
          obtain ⟨i', j, ao, cap, hij, rfl, rfl, rfl, hR⟩ := hrel
          cases j with
          | zero =>
            have hi2 : ¬ (i' : Int) < (i : Int) := by omega
            simp only [wrapF]
            have HSf := Lib.hid (HSS.out ao none cap 0 _ HB8.out hR.out HVa8.out)
            go_wp2_with fail
            refine HSf.out.mono ?_
            rintro e w9 ⟨rfl, hb9⟩
            go_wp2_with fail
            apply bodyPost_ret
            case hr => exact results_tmp rfl _ _ _
            case hd => rfl
            case hR => exact ⟨rfl, HB8.out.trans (hb9.mono HB8.out.size)⟩
          | succ j =>
            have hi2 : (i' : Int) < (i : Int) := by omega
            obtain ⟨⟨ao', cap', ⟨b, off, rfl, hb, c0, c1, _⟩, hsub⟩, _⟩ := hR.out
            have HSUB := Lib.hid hsub
            have he := nil_emp
            simp only [wrap_len, Nat.zero_mul, Nat.add_zero] at c0 c1 ⊢
            clear hR hsub
            go_wp2_with fail
            go_roundw
            case rel => exact ⟨i' + 1, j, ao', cap', by omega, by go_num, rfl, by first | trivial | rfl, HSUB⟩
            case measure => simp [intOf]; omega
      · obtain rfl : nf = 0 := by rw [HNF.out]; exact foAt_none HVa5.out
        obtain rfl : csa = [] := List.eq_nil_of_length_eq_zero la
        obtain rfl : capa = 0 := hca rfl
        have o6n : (w5.alloc (.cells #[] 39)).ownsRow w5.heap.size 39 3 (.slice (some ⟨w5.heap.size, 0, none⟩) 0 0) (0 + 0) ([] ++ []) := own0
        clear HNA
        go_wp2_with (first
          | (at_builtin; go_guarded; refine wp_append_none (.tmp 92) (.tmp 93) 24 rfl w5.heap.size 39 i0 3 Tryd.underlying24 hi _ _ _ rfl own0 rfl ?_
             have o6 := o6n
             have hb6 := HBW.out
             have hz6 := m5
             have hnb := fun adb e => HNB.out adb e _ (some w5.heap.size) (fun q hq => by injection hq with hq; omega) (grown_refl _ _))
          | (at_builtin; go_guarded; refine wp_append_own _ (.tmp 94) (.tmp 95) 24 rfl w5.heap.size 39 i0 (.agg #[.string ⟨#[]⟩, .slice none 0 0, .int .i64 0]) 3 48 Tryd.underlying24 hi hz0 hz1 hz2 rfl (by decide) _ _ _ rfl o6 adb ng capb csb rfl lb (hnb adb rfl) ub m3 m4 hz6 ?_
             intro v7 w7 o7 gr7 _
             have hb7 := Lib.hid (hb6.grown gr7 hz6 (fun q hq => (o6.lt q hq).1))
             obtain ⟨ao7, cap7, rfl, ha7⟩ := KEY.out v7 w7 o7 hb7.out
             have HA7 := Lib.hid ha7
             clear o7 gr7 ha7 hnb hb6))
        have HS7 := Lib.hid (HS.out (f.app g') (f.app g) aod ao7 capd cap7 _ HS1.out HSZ.out (HBe.out.trans (hb7.out.mono HBe.out.size)) (HVd.out.below hb7.out) HA7.out)
        refine HS7.out.mono ?_
        rintro e w8 ⟨rfl, hb8⟩
        have HB7 := Lib.hid (HBe.out.trans (hb7.out.mono HBe.out.size))
        have HB8 := Lib.hid (HB7.out.trans (hb8.mono HB7.out.size))
        have HVa8 := Lib.hid ((HVa5.out.below hb7.out).below hb8)
        have HVc8 := Lib.hid ((HVc5.out.below hb7.out).below hb8)
        have hSS := fun ao ao' cap cap' w1 => HS.out fo f ao ao' cap cap' w1 HS2.out (Nat.le_trans HFS.out (by decide))
        have lfo : fo.len ≤ 1000 := by rw [HFO.out, ← HNF.out]; omega
        have lf : f.len ≤ 1000 := by rw [← HNF.out]; omega
        rw [← HNF.out] at hSS
        have HSS := Lib.hid hSS
        clear hb8 hSS
        go_wp2_with fail
        go_loopw [15, 19] (fun vc vi wq => ∃ (i' j : Nat) (ao : Option Addr) (cap : Nat), i' + j = i ∧ vi = .int .i64 i' ∧ vc = .slice ao (wrapF fo i' j).len cap ∧ wq = w8 ∧ Hid (FoAt w8 (wrapF fo i' j) ao 0)) (fun _ vi _ => i + 1 - (intOf vi).toNat)
        case atStart => exact ⟨0, i, aoc, capc, by omega, rfl, rfl, rfl, HVc8⟩
        case round =>
          obtain ⟨i', j, ao, cap, hij, rfl, rfl, rfl, hR⟩ := hrel
          cases j with
          | zero =>
            have hi2 : ¬ (i' : Int) < (i : Int) := by omega
            simp only [wrapF]
            have HSf := Lib.hid (HSS.out ao none cap 0 _ HB8.out hR.out HVa8.out)
            go_wp2_with fail
            refine HSf.out.mono ?_
            rintro e w9 ⟨rfl, hb9⟩
            go_wp2_with fail
            apply bodyPost_ret
            case hr => exact results_tmp rfl _ _ _
            case hd => rfl
            case hR => exact ⟨rfl, HB8.out.trans (hb9.mono HB8.out.size)⟩
          | succ j =>
            have hi2 : (i' : Int) < (i : Int) := by omega
            obtain ⟨⟨ao', cap', ⟨b, off, rfl, hb, c0, c1, _⟩, hsub⟩, _⟩ := hR.out
            have HSUB := Lib.hid hsub
            have he := nil_emp
            simp only [wrap_len, Nat.zero_mul, Nat.add_zero] at c0 c1 ⊢
            clear hR hsub
            go_wp2_with fail
            go_roundw
            case rel => exact ⟨i' + 1, j, ao', cap', by omega, by go_num, rfl, by first | trivial | rfl, HSUB⟩
            case measure => simp [intOf]; omega
      · have hna := HNA.out ada rfl
        obtain rfl : ng = 0 := by rw [HNG.out]; exact foAt_none HVb5.out
        obtain rfl : csb = [] := List.eq_nil_of_length_eq_zero lb
        obtain rfl : capb = 0 := hcb rfl
        clear HNA
        go_wp2_with (first
          | (at_builtin; go_guarded; refine wp_append_own _ (.tmp 92) (.tmp 93) 24 rfl w5.heap.size 39 i0 (.agg #[.string ⟨#[]⟩, .slice none 0 0, .int .i64 0]) 3 48 Tryd.underlying24 hi hz0 hz1 hz2 rfl (by decide) _ _ _ rfl own0 ada nf capa csa rfl la hna ua m1 m2 m5 ?_
             intro v6 w6 o6 gr6 _
             have hb6 := HBW.out.grown gr6 m5 (fun q hq => by have hq' : some w5.heap.size = some q := hq; injection hq' with hq'; omega)
             have hz6 := hb6.size
             have hnb := fun adb e => HNB.out adb e w6 (some w5.heap.size) (fun q hq => by injection hq with hq; omega) gr6)
          | (at_builtin; go_guarded; refine wp_append_none (.tmp 94) (.tmp 95) 24 rfl w5.heap.size 39 i0 3 Tryd.underlying24 hi _ _ _ rfl o6 rfl ?_
             have hb7 := Lib.hid hb6
             obtain ⟨ao7, cap7, hv7, ha7⟩ := KEY.out _ _ (by rw [List.append_nil]; exact o6) hb7.out
             rw [hv7]
             have HA7 := Lib.hid ha7
             clear ha7 hnb hb6))
        have HS7 := Lib.hid (HS.out (f.app g') (f.app g) aod ao7 capd cap7 _ HS1.out HSZ.out (HBe.out.trans (hb7.out.mono HBe.out.size)) (HVd.out.below hb7.out) HA7.out)
        refine HS7.out.mono ?_
        rintro e w8 ⟨rfl, hb8⟩
        have HB7 := Lib.hid (HBe.out.trans (hb7.out.mono HBe.out.size))
        have HB8 := Lib.hid (HB7.out.trans (hb8.mono HB7.out.size))
        have HVa8 := Lib.hid ((HVa5.out.below hb7.out).below hb8)
        have HVc8 := Lib.hid ((HVc5.out.below hb7.out).below hb8)
        have hSS := fun ao ao' cap cap' w1 => HS.out fo f ao ao' cap cap' w1 HS2.out (Nat.le_trans HFS.out (by decide))
        have lfo : fo.len ≤ 1000 := by rw [HFO.out, ← HNF.out]; omega
        have lf : f.len ≤ 1000 := by rw [← HNF.out]; omega
        rw [← HNF.out] at hSS
        have HSS := Lib.hid hSS
        clear hb8 hSS
        go_wp2_with fail
        go_loopw [15, 19] (fun vc vi wq => ∃ (i' j : Nat) (ao : Option Addr) (cap : Nat), i' + j = i ∧ vi = .int .i64 i' ∧ vc = .slice ao (wrapF fo i' j).len cap ∧ wq = w8 ∧ Hid (FoAt w8 (wrapF fo i' j) ao 0)) (fun _ vi _ => i + 1 - (intOf vi).toNat)
        case atStart => exact ⟨0, i, aoc, capc, by omega, rfl, rfl, rfl, HVc8⟩
        case round =>
          obtain ⟨i', j, ao, cap, hij, rfl, rfl, rfl, hR⟩ := hrel
          cases j with
          | zero =>
            have hi2 : ¬ (i' : Int) < (i : Int) := by omega
            simp only [wrapF]
            have HSf := Lib.hid (HSS.out ao (some ada) cap capa _ HB8.out hR.out HVa8.out)
            go_wp2_with fail
            refine HSf.out.mono ?_
            rintro e w9 ⟨rfl, hb9⟩
            go_wp2_with fail
            apply bodyPost_ret
            case hr => exact results_tmp rfl _ _ _
            case hd => rfl
            case hR => exact ⟨rfl, HB8.out.trans (hb9.mono HB8.out.size)⟩
          | succ j =>
            have hi2 : (i' : Int) < (i : Int) := by omega
            obtain ⟨⟨ao', cap', ⟨b, off, rfl, hb, c0, c1, _⟩, hsub⟩, _⟩ := hR.out
            have HSUB := Lib.hid hsub
            have he := nil_emp
            simp only [wrap_len, Nat.zero_mul, Nat.add_zero] at c0 c1 ⊢
            clear hR hsub
            go_wp2_with fail
            go_roundw
            case rel => exact ⟨i' + 1, j, ao', cap', by omega, by go_num, rfl, by first | trivial | rfl, HSUB⟩
            case measure => simp [intOf]; omega
      · have hna := HNA.out ada rfl
        clear HNA
        go_wp2_with (first
          | (at_builtin; go_guarded; refine wp_append_own _ (.tmp 92) (.tmp 93) 24 rfl w5.heap.size 39 i0 (.agg #[.string ⟨#[]⟩, .slice none 0 0, .int .i64 0]) 3 48 Tryd.underlying24 hi hz0 hz1 hz2 rfl (by decide) _ _ _ rfl own0 ada nf capa csa rfl la hna ua m1 m2 m5 ?_
             intro v6 w6 o6 gr6 _
             have hb6 := HBW.out.grown gr6 m5 (fun q hq => by have hq' : some w5.heap.size = some q := hq; injection hq' with hq'; omega)
             have hz6 := hb6.size
             have hnb := fun adb e => HNB.out adb e w6 (some w5.heap.size) (fun q hq => by injection hq with hq; omega) gr6)
          | (at_builtin; go_guarded; refine wp_append_own _ (.tmp 94) (.tmp 95) 24 rfl w5.heap.size 39 i0 (.agg #[.string ⟨#[]⟩, .slice none 0 0, .int .i64 0]) 3 48 Tryd.underlying24 hi hz0 hz1 hz2 rfl (by decide) _ _ _ rfl o6 adb ng capb csb rfl lb (hnb adb rfl) ub m3 m4 hz6 ?_
             intro v7 w7 o7 gr7 _
             have hb7 := Lib.hid (hb6.grown gr7 hz6 (fun q hq => (o6.lt q hq).1))
             obtain ⟨ao7, cap7, rfl, ha7⟩ := KEY.out v7 w7 o7 hb7.out
             have HA7 := Lib.hid ha7
             clear o7 gr7 ha7 hnb hb6))
        have HS7 := Lib.hid (HS.out (f.app g') (f.app g) aod ao7 capd cap7 _ HS1.out HSZ.out (HBe.out.trans (hb7.out.mono HBe.out.size)) (HVd.out.below hb7.out) HA7.out)
        refine HS7.out.mono ?_
        rintro e w8 ⟨rfl, hb8⟩
        have HB7 := Lib.hid (HBe.out.trans (hb7.out.mono HBe.out.size))
        have HB8 := Lib.hid (HB7.out.trans (hb8.mono HB7.out.size))
        have HVa8 := Lib.hid ((HVa5.out.below hb7.out).below hb8)
        have HVc8 := Lib.hid ((HVc5.out.below hb7.out).below hb8)
        have hSS := fun ao ao' cap cap' w1 => HS.out fo f ao ao' cap cap' w1 HS2.out (Nat.le_trans HFS.out (by decide))
        have lfo : fo.len ≤ 1000 := by rw [HFO.out, ← HNF.out]; omega
        have lf : f.len ≤ 1000 := by rw [← HNF.out]; omega
        rw [← HNF.out] at hSS
        have HSS := Lib.hid hSS
        clear hb8 hSS
        go_wp2_with fail
        go_loopw [15, 19] (fun vc vi wq => ∃ (i' j : Nat) (ao : Option Addr) (cap : Nat), i' + j = i ∧ vi = .int .i64 i' ∧ vc = .slice ao (wrapF fo i' j).len cap ∧ wq = w8 ∧ Hid (FoAt w8 (wrapF fo i' j) ao 0)) (fun _ vi _ => i + 1 - (intOf vi).toNat)
        case atStart => exact ⟨0, i, aoc, capc, by omega, rfl, rfl, rfl, HVc8⟩
        case round =>
          obtain ⟨i', j, ao, cap, hij, rfl, rfl, rfl, hR⟩ := hrel
          cases j with
          | zero =>
            have hi2 : ¬ (i' : Int) < (i : Int) := by omega
            simp only [wrapF]
            have HSf := Lib.hid (HSS.out ao (some ada) cap capa _ HB8.out hR.out HVa8.out)
            go_wp2_with fail
            refine HSf.out.mono ?_
            rintro e w9 ⟨rfl, hb9⟩
            go_wp2_with fail
            apply bodyPost_ret
            case hr => exact results_tmp rfl _ _ _
            case hd => rfl
            case hR => exact ⟨rfl, HB8.out.trans (hb9.mono HB8.out.size)⟩
          | succ j =>
            have hi2 : (i' : Int) < (i : Int) := by omega
            obtain ⟨⟨ao', cap', ⟨b, off, rfl, hb, c0, c1, _⟩, hsub⟩, _⟩ := hR.out
            have HSUB := Lib.hid hsub
            have he := nil_emp
            simp only [wrap_len, Nat.zero_mul, Nat.add_zero] at c0 c1 ⊢
            clear hR hsub
            go_wp2_with fail
            go_roundw
            case rel => exact ⟨i' + 1, j, ao', cap', by omega, by go_num, rfl, by first | trivial | rfl, HSUB⟩
            case measure => simp [intOf]; omega
end Go.Proofs.YtlblhlnpmdfblaaDoor
