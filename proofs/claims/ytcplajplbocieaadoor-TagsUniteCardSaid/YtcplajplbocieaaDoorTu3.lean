/- TagsUnite: the law's walk. Conditions: how many; how they lie in memory; the listed table. -/
import Derived.Test.YtcplajplbocieaaDoorTu1
import Derived.Test.YtcplajplbocieaaDoorTu2
import Derived.Test.YtcplajplbocieaaDoorTgA
import Derived.Test.YtcplajplbocieaaDoorTg9
import Derived.Test.YtcplajplbocieaaDoorTgO
import Derived.Deep.LoopGhost
namespace Go.Proofs.YtcplajplbocieaaDoor
open Go.RowKit Go.Sort Go.Lib

theorem setT_sub (a b : List Tg) : (setT a).length ≤ (setT (a ++ b)).length := by
  have e : setT a = (setT (a ++ b)).filter fun x => decide (x ∈ a) := by
    refine rising_ext _ _ (rising_setT a) ((rising_setT (a ++ b)).filter _) fun x => ?_
    rw [mem_setT, List.mem_filter, mem_setT, List.mem_append, decide_eq_true_eq]
    exact ⟨fun h => ⟨Or.inl h, h⟩, fun h => h.2⟩
  rw [e]
  exact List.length_filter_le _ _
set_option maxRecDepth 100000 in
set_option maxHeartbeats 0 in
theorem unite_core (a b : List Tg) (ao bo : Option Addr) (ca cb : Nat) (hla : a.length ≤ 15) (hlb : b.length ≤ 15) (hca : ao = none → ca = 0) (hcb : bo = none → cb = 0) (w : World) (ha : TgAt w ao a) (hb : TgAt w bo b) (ht : Tabs w) :
    Calls Tryd.prog 5 #[.slice ao a.length ca, .slice bo b.length cb] w (Grew (.bool true) w) := by
  have HX := Lib.hid (And.intro ha (And.intro hb (And.intro hla (And.intro hlb (And.intro hca hcb)))))
  have H0 := Lib.hid (first_any w ht)
  have hza : ¬ (15 : Int) < (a.length : Int) := by omega
  have hzb : ¬ (15 : Int) < (b.length : Int) := by omega
  obtain ⟨i0, hi, hz0, hz1, hz2⟩ := info_parts infoTag
  clear ha hb ht hla hlb hca hcb
  go_enter Tryd.func5, Tryd.ntmps5
  go_wp2_with fail
  refine H0.out.mono ?_
  rintro e w1 ⟨rfl, hb1⟩
  have HB1 := Lib.hid hb1
  clear hb1 H0
  go_wp2_with fail
  refine (tags_any ao ca a (by have := HX.out.2.2.1; omega) w1 (HX.out.1.below HB1.out)).mono ?_
  rintro e w2 ⟨v2, rfl, ho2, hb2⟩
  have HB2 := Lib.hid (HB1.out.trans (hb2.mono HB1.out.size))
  have HTB2 := Lib.hid (HX.out.2.1.below HB2.out)
  have D1 : a.length + b.length ≤ maxLen := by have := HX.out.2.2.1; have := HX.out.2.2.2.1; simp only [maxLen]; omega
  have D2 : (a.length + b.length) * 32 ≤ 140737488355328 := by have := HX.out.2.2.1; have := HX.out.2.2.2.1; omega
  have D3 : w1.heap.size ≤ w2.heap.size := hb2.size
  have HL2 := Lib.hid (fun k hk => (ho2.lt k hk).1)
  clear hb2
  go_wp2_with (at_builtin; refine wpList_append_tg _ rfl _ _ 24 rfl w1.heap.size 23 i0 (.agg zeroT) 32 Tryd.underlying24 hi hz0 hz1 hz2 rfl v2 _ _ rfl ho2 bo b _ cb rfl rfl HTB2.out HX.out.2.2.2.2.2 D1 D2 D3 ?_; intro v3 w3 ho3 gr3)
  have HB3 : Hid (Below w.heap.size w w3) := Lib.hid (HB2.out.grown gr3 HB2.out.size (fun k hk => Nat.le_trans HB1.out.size (HL2.out k hk)))
  have ho3' : w3.ownsRow w1.heap.size 23 3 v3 (a ++ b).length (flatL (a ++ b)) := by rw [List.length_append, flatL_append]; exact ho3
  obtain ⟨ab, cab, rfl, htab, hcab⟩ := own_tg ho3'
  have HAB3 := Lib.hid (And.intro htab hcab)
  clear ho3 ho3' gr3 ho2 HL2 D1 D2 D3 HTB2 htab hcab
  refine (tags_any bo cb b (by have := HX.out.2.2.2.1; omega) w3 (HX.out.2.1.below HB3.out)).mono ?_
  rintro e w4 ⟨v4, rfl, ho4, hb4⟩
  have HB4 := Lib.hid (HB3.out.trans (hb4.mono HB3.out.size))
  have HB34 := Lib.hid hb4
  have HTA4 := Lib.hid (HX.out.1.below HB4.out)
  have D1 : b.length + a.length ≤ maxLen := by have := HX.out.2.2.1; have := HX.out.2.2.2.1; simp only [maxLen]; omega
  have D2 : (b.length + a.length) * 32 ≤ 140737488355328 := by have := HX.out.2.2.1; have := HX.out.2.2.2.1; omega
  have D3 : w3.heap.size ≤ w4.heap.size := hb4.size
  have HL4 := Lib.hid (fun k hk => (ho4.lt k hk).1)
  clear hb4
  go_wp2_with (at_builtin; refine wpList_append_tg _ rfl _ _ 24 rfl w3.heap.size 23 i0 (.agg zeroT) 32 Tryd.underlying24 hi hz0 hz1 hz2 rfl v4 _ _ rfl ho4 ao a _ ca rfl rfl HTA4.out HX.out.2.2.2.2.1 D1 D2 D3 ?_; intro v5 w5 ho5 gr5)
  have HB35 : Hid (Below w3.heap.size w3 w5) := Lib.hid (HB34.out.grown gr5 HB34.out.size (fun k hk => HL4.out k hk))
  have HB5 : Hid (Below w.heap.size w w5) := Lib.hid (HB3.out.trans (HB35.out.mono HB3.out.size))
  have ho5' : w5.ownsRow w3.heap.size 23 3 v5 (b ++ a).length (flatL (b ++ a)) := by rw [List.length_append, flatL_append]; exact ho5
  obtain ⟨ba, cba, rfl, htba, hcba⟩ := own_tg ho5'
  have HBA5 := Lib.hid (And.intro htba hcba)
  have HAB5 := Lib.hid (HAB3.out.1.below HB35.out)
  clear ho5 ho5' gr5 ho4 HL4 D1 D2 D3 HTA4 htba hcba HB34 HB4
  have hlab : (a ++ b).length ≤ 30 := by have := HX.out.2.2.1; have := HX.out.2.2.2.1; rw [List.length_append]; omega
  have hlba : (b ++ a).length ≤ 30 := by have := HX.out.2.2.1; have := HX.out.2.2.2.1; rw [List.length_append]; omega
  have HLL := Lib.hid (And.intro hlab hlba)
  clear hlab hlba
  have c1 := set_any ab cab (a ++ b) (by have := HLL.out.1; omega) HAB3.out.2 w5 HAB5.out
  rw [List.length_append] at c1
  refine c1.mono ?_
  clear c1
  rintro e w6 ⟨sa, csa, rfl, hts, hcs, hb6⟩
  have HB6 := Lib.hid (HB5.out.trans (hb6.mono HB5.out.size))
  have HB56 := Lib.hid hb6
  have HS6 := Lib.hid (And.intro hts hcs)
  clear hts hcs hb6
  have hmem : ∀ x, x ∈ setT (a ++ b) ↔ x ∈ a ∨ x ∈ b := fun x => by rw [mem_setT, List.mem_append]
  have hset : setT (b ++ a) = setT (a ++ b) := set_same _ _ fun x => by rw [List.mem_append, List.mem_append, Or.comm]
  have hss : setT (setT (a ++ b)) = setT (a ++ b) := set_set _
  have hle : (setT (a ++ b)).length ≤ (a ++ b).length := len_setT _
  have hsub : (setT a).length ≤ (setT (a ++ b)).length := setT_sub a b
  have HM := Lib.hid (And.intro hmem (And.intro hset (And.intro hss (And.intro hle hsub))))
  clear hmem hset hss hle hsub
  generalize setT (a ++ b) = S at *
  go_wp2_with fail
  go_loopg [9] S.length (fun gg vi wr => ∃ i : Nat, i ≤ S.length ∧ S.length - i ≤ gg ∧ vi = .int .i64 i ∧ Hid (Below w6.heap.size w6 wr))
  case atStart => exact ⟨0, Nat.zero_le _, by omega, rfl, Lib.hid (Below.refl _ _)⟩
  case round =>
    obtain ⟨i, hii, hgm, rfl, HR⟩ := hrel
    by_cases hlt : i < S.length
    · have hltz : (i : Int) < (S.length : Int) := by omega
      have hSb : (S.length : Int) ≤ 30 := by have := HM.out.2.2.2.1; have := HLL.out.1; omega
      rcases HS6.out.1 with hnil | ⟨g, o, rfl, hgl, hcell⟩
      · rw [hnil] at hlt; exact absurd hlt (Nat.not_lt_zero _)
      obtain ⟨x, hx⟩ : ∃ x, S[i]! = x := ⟨_, rfl⟩
      have hxl := (HM.out.1 x).1 (by rw [← hx, getElem!_pos S i hlt]; exact List.getElem_mem hlt)
      have hce : Hid (∀ j v, (encT x)[j]? = some v → ∀ w', Below w6.heap.size w6 w' → w'.cell? ⟨g, o + i * 3 + j, none⟩ = some v) := Lib.hid fun j v hv w' hb => by
        rw [hb.cell (p := ⟨g, _, none⟩) hgl]
        exact hcell i hlt j v (by rw [hx]; exact hv)
      have HHA : Hid (∀ w', Below w6.heap.size w6 w' → Calls Tryd.prog 15 #[.slice ao a.length ca, .agg (encT x).toArray] w' (Grew (.bool (decide (x ∈ a))) w')) := Lib.hid fun w' hb => by
        have := has_any ao ca a (by have := HX.out.2.2.1; omega) x w' (HX.out.1.below (HB6.out.trans (hb.mono HB6.out.size)))
        rw [any_has a x] at this
        exact this
      have HHB : Hid (∀ w', Below w6.heap.size w6 w' → Calls Tryd.prog 15 #[.slice bo b.length cb, .agg (encT x).toArray] w' (Grew (.bool (decide (x ∈ b))) w')) := Lib.hid fun w' hb => by
        have := has_any bo cb b (by have := HX.out.2.2.2.1; omega) x w' (HX.out.2.1.below (HB6.out.trans (hb.mono HB6.out.size)))
        rw [any_has b x] at this
        exact this
      clear hcell hx
      by_cases hxa : x ∈ a
      · rw [decide_eq_true hxa] at HHA
        clear hxa hxl HHB
        obtain ⟨xk, xs, xn⟩ := x
        have e0 := hce.out 0 _ rfl wr HR.out
        have e1 := hce.out 1 _ rfl wr HR.out
        have e2 := hce.out 2 _ rfl wr HR.out
        simp only [encT, Nat.add_zero] at e0 e1 e2 HHA
        go_wp2_with (go_at_call 15; refine (HHA.out _ HR.out).mono ?_; rintro e w8 ⟨rfl, hb8⟩; have HB8 := Lib.hid (HR.out.trans (hb8.mono HR.out.size)); clear hb8 e0 e1 e2)
        go_roundg (S.length - (i + 1))
        case measure => omega
        case rel => exact ⟨i + 1, by omega, Nat.le_refl _, by go_num, HB8⟩
      · rw [decide_eq_false hxa] at HHA
        rw [decide_eq_true (hxl.resolve_left hxa)] at HHB
        clear hxa hxl
        obtain ⟨xk, xs, xn⟩ := x
        have e0 := hce.out 0 _ rfl wr HR.out
        have e1 := hce.out 1 _ rfl wr HR.out
        have e2 := hce.out 2 _ rfl wr HR.out
        simp only [encT, Nat.add_zero] at e0 e1 e2 HHA HHB
        go_wp2_with fail
        refine (HHA.out _ HR.out).mono ?_
        rintro e w8 ⟨rfl, hb8⟩
        have HB8 := Lib.hid (HR.out.trans (hb8.mono HR.out.size))
        clear hb8 e0 e1 e2
        have e0 := hce.out 0 _ rfl w8 HB8.out
        have e1 := hce.out 1 _ rfl w8 HB8.out
        have e2 := hce.out 2 _ rfl w8 HB8.out
        simp only [Nat.add_zero] at e0 e1 e2
        go_wp2_with fail
        refine (HHB.out _ HB8.out).mono ?_
        rintro e w9 ⟨rfl, hb9⟩
        have HB9 := Lib.hid (HB8.out.trans (hb9.mono HB8.out.size))
        clear hb9 e0 e1 e2
        go_wp2_with fail
        go_roundg (S.length - (i + 1))
        case measure => omega
        case rel => exact ⟨i + 1, by omega, Nat.le_refl _, by go_num, HB9⟩
    · have hltz : ¬ (i : Int) < (S.length : Int) := by omega
      clear hlt hii hgm
      go_wp2_with fail
      have HSL := Lib.hid (show S.length ≤ 100000 from by have := HM.out.2.2.2.1; have := HLL.out.1; omega)
      have c1 := set_any ba cba (b ++ a) (by have := HLL.out.2; omega) HBA5.out.2 wr (HBA5.out.1.below (HB56.out.trans (HR.out.mono HB56.out.size)))
      rw [HM.out.2.1, List.length_append] at c1
      refine c1.mono ?_
      clear c1
      rintro e x1 ⟨s1, d1, rfl, ht1, _, hb1⟩
      have HX1 := Lib.hid (HR.out.trans (hb1.mono HR.out.size))
      have HT1 := Lib.hid ht1
      clear ht1 hb1
      go_wp2_with fail
      refine (sameTags_any S HSL.out s1 sa d1 csa x1 HT1.out (HS6.out.1.below HX1.out)).mono ?_
      rintro e x2 ⟨rfl, hb2⟩
      have HX2 := Lib.hid (HX1.out.trans (hb2.mono HX1.out.size))
      clear hb2
      go_wp2_with fail
      have c1 := set_any sa csa S HSL.out HS6.out.2 x2 (HS6.out.1.below HX2.out)
      rw [HM.out.2.2.1] at c1
      refine c1.mono ?_
      clear c1
      rintro e x3 ⟨s3, d3, rfl, ht3, _, hb3⟩
      have HX3 := Lib.hid (HX2.out.trans (hb3.mono HX2.out.size))
      have HT3 := Lib.hid ht3
      clear ht3 hb3
      go_wp2_with fail
      refine (sameTags_any S HSL.out s3 sa d3 csa x3 HT3.out (HS6.out.1.below HX3.out)).mono ?_
      rintro e x4 ⟨rfl, hb4⟩
      have HX4 := Lib.hid (HX3.out.trans (hb4.mono HX3.out.size))
      clear hb4
      have hle : (S.length : Int) ≤ (a.length : Int) + (b.length : Int) := by have := HM.out.2.2.2.1; rw [List.length_append] at this; omega
      have hle2 : S.length ≤ a.length + b.length := by have := HM.out.2.2.2.1; rw [List.length_append] at this; exact this
      go_wp2_with fail
      refine (set_any ao ca a (by have := HX.out.2.2.1; omega) HX.out.2.2.2.2.1 x4 (HX.out.1.below (HB6.out.trans (HX4.out.mono HB6.out.size)))).mono ?_
      rintro e x5 ⟨s5, d5, rfl, _, _, hb5⟩
      have HX5 := Lib.hid (HX4.out.trans (hb5.mono HX4.out.size))
      have hsub : ((setT a).length : Int) ≤ (S.length : Int) := by have := HM.out.2.2.2.2; omega
      clear hb5
      go_wp2_with fail
      go_ret
      exact ⟨rfl, HB6.out.trans (HX5.out.mono HB6.out.size)⟩
end Go.Proofs.YtcplajplbocieaaDoor
