/- grin.cloneAll of steps, branches, functions. Conditions: what clones one does so. -/
import Derived.Test.YtoidogfnjpmceaaDoorGc1
import Derived.Deep.RegionHeld3
import Derived.Deep.DrawnRows
namespace Go.Proofs.YtoidogfnjpmceaaDoor
open Go.ChangeShapes Go.WideShapes Go.ChangeAt Go.RowKit
attribute [local go_sem ↓] Go.wp_at_zero Go.wp_at_succ

set_option maxRecDepth 100000 in
set_option maxHeartbeats 8000000 in
theorem cloneAllSt_any (m : Nat) (HE : ∀ (op : Int) (to : ByteArray) (nm : ByteArray) (t : Tg) (vals : List Vl) (alts : St) (num : Int), (.step op to nm t vals alts num .nil : St).cost ≤ m → ∀ (v : Value) (w : World), StV w (.step op to nm t vals alts num .nil) v → Calls Tryd.prog 65 #[v] w (MadeC w (StQ op to nm t vals alts num))) :
    ∀ f : St, f.cost ≤ m → f.wf true → f.len ≤ 1000000 → ∀ (v : Value) (w : World), (SlAt w v f.len fun b o => StIn w f b o 0) → Calls Tryd.prog 64 #[v, .func (.func 65) #[] #[]] w (MadeC w fun w' v' F => RowO 29 9 w' v' f.len F (fun xs F => StO w' f xs F)) := by
  intro f hcost hwf hlen v w h
  have HE := Lib.hid HE
  obtain ⟨hn, ao, cap, rfl, -, hs⟩ := h
  obtain ⟨n, hnn⟩ : ∃ n, n = f.len := ⟨_, rfl⟩
  have HN := Lib.hid hnn
  have HIN0 : Hid (0 < f.len → ∃ b o, ao = some ⟨b, o, none⟩ ∧ b < w.heap.size ∧ StIn w f b o 0) := Lib.hid hs
  rw [← hnn] at hn hlen ⊢
  have hx : (n : Int) ≤ 1000000 := by omega
  have HCO := Lib.hid hcost
  have HWF0 := Lib.hid hwf
  obtain ⟨i0, hi, hz0, hz1, hz2⟩ := info_parts infoSt
  clear hs hnn hcost hwf
  go_enter Tryd.func64, Tryd.ntmps64
  go_wp2_with fail
  go_loopw [5, 10] (fun vo vi wr => ∃ (i : Nat) (a : Option Addr) (c : Nat) (xs : List Value) (F : List Nat) (D r : St), vo = .slice a i c ∧ vi = .int .i64 (i : Int) ∧ i + r.len = n ∧ Hid (D.app r = f) ∧ Hid (wr.ownsRow w.heap.size 29 9 (.slice a i c) i xs) ∧ Hid (StO wr D xs F) ∧ Hid (Below w.heap.size w wr) ∧ Hid (∀ b ∈ F, w.heap.size ≤ b ∧ b < wr.heap.size ∧ some b ≠ (Value.slice a i c).ownBlock) ∧ Hid F.Nodup ∧ Hid (i = 0 → Value.slice a i c = .slice none 0 0 ∧ F = []) ∧ Hid (r.cost ≤ m) ∧ Hid (0 < r.len → ∃ b o, ao = some ⟨b, o, none⟩ ∧ b < w.heap.size ∧ StIn w r b o i) ∧ Hid (r.wf true)) (fun _ vi _ => n + 1 - (intOf vi).toNat)
  case atStart => exact ⟨0, none, 0, [], [], .nil, f, rfl, rfl, by rw [Nat.zero_add]; exact HN.out.symm, Lib.hid rfl, Lib.hid (World.ownsRow_nil _ _ _ _), Lib.hid ⟨rfl, rfl⟩, Lib.hid (Below.refl _ _), Lib.hid (by simp), Lib.hid (by simp), Lib.hid fun _ => ⟨rfl, rfl⟩, HCO, HIN0, HWF0⟩
  case round =>
    clear HCO HIN0 HWF0
    obtain ⟨i, a, c, xs, F, D, r, rfl, rfl, hir, HD, HO, HP, HB, HF, HND, H0, HCO, HIN, HWF⟩ := hrel
    cases r with
    | nil =>
      simp only [St.len, Nat.add_zero] at hir
      have hii : ¬ (i : Int) < (n : Int) := by omega
      have HEQ := Lib.hid hir
      go_wp2_with fail
      go_ret
      have hDf : D = f := by rw [← HD.out, St.app_nil]
      have hno := HO.out
      have hP := HP.out
      rw [hDf] at hP
      have hin := HEQ.out
      obtain ⟨G, g1, g2, g3⟩ := rowO_end (P := fun xs F => StO wr f xs F) hno (fun h => (H0.out h).1) (by omega) (fun h => (H0.out h).2) hP HF.out HND.out
      exact madeC_mk (F := G) rfl (by rw [← hin]; exact g1) HB.out g2 g3
    | br => exact absurd HWF.out.1 (by simp)
    | step op to nm t vals alts num r =>
      simp only [St.len] at hir
      obtain ⟨b, o, rfl, hbw, ht⟩ := HIN.out (by simp only [St.len]; omega)
      obtain ⟨a1, n1, c1, a2, n2, c2, e0, e1, e2, e3, e4, e5, e6, e7, e8, hv, hr⟩ := st_first HWF.out ht
      have hbel : ∀ k, wr.cell? ⟨b, k, none⟩ = w.cell? ⟨b, k, none⟩ := fun k => HB.out.cell (p := ⟨b, k, none⟩) hbw
      have e0' := (hbel _).trans e0
      have e1' := (hbel _).trans e1
      have e2' := (hbel _).trans e2
      have e3' := (hbel _).trans e3
      have e4' := (hbel _).trans e4
      have e5' := (hbel _).trans e5
      have e6' := (hbel _).trans e6
      have e7' := (hbel _).trans e7
      have e8' := (hbel _).trans e8
      have hii : (i : Int) < (n : Int) := by omega
      have hi0 : (0 : Int) ≤ (i : Int) := by omega
      have HBA : Hid (Below w.heap.size w (wr.alloc (.cells #[.int .i64 op, .string to, .string nm, .int .i64 t.k, .string t.s, .int .i64 t.n, .slice a1 n1 c1, .slice a2 n2 c2, .int .i64 num] 29))) := Lib.hid (HB.out.alloc HB.out.size _)
      have HC := Lib.hid (HE.out op to nm t vals alts num (by have := HCO.out; simp only [St.cost] at this ⊢; omega) _ (wr.alloc (.cells #[.int .i64 op, .string to, .string nm, .int .i64 t.k, .string t.s, .int .i64 t.n, .slice a1 n1 c1, .slice a2 n2 c2, .int .i64 num] 29)) (hv.below HBA.out))
      have HRR := Lib.hid hr
      clear hbel e0 e1 e2 e3 e4 e5 e6 e7 e8 ht hv hr
      go_wp2_with fail
      refine HC.out.mono ?_
      rintro e w2 ⟨vz, Fz, rfl, hQ, hbz, hfz, hnz⟩
      obtain ⟨a1z, n1z, c1z, a2z, n2z, c2z, rfl, hOz⟩ := hQ
      have hs1 : wr.heap.size + 1 ≤ w2.heap.size := by have := hbz.size; simpa using this
      have HBZ := Lib.hid hbz
      have HFZ := Lib.hid hfz
      have HNZ := Lib.hid hnz
      have HOZ := Lib.hid hOz
      have oA : (w2.alloc (.cells #[.int .i64 op, .string to, .string nm, .int .i64 t.k, .string t.s, .int .i64 t.n, .slice a1z n1z c1z, .slice a2z n2z c2z, .int .i64 num] 29)).ownsRow w.heap.size 29 9 (.slice a i c) i xs := owns_below (owns_below (owns_below HO.out ((Below.refl _ wr).alloc (Nat.le_refl _) (.cells #[.int .i64 op, .string to, .string nm, .int .i64 t.k, .string t.s, .int .i64 t.n, .slice a1 n1 c1, .slice a2 n2 c2, .int .i64 num] 29))) HBZ.out) ((Below.refl _ w2).alloc (Nat.le_refl _) (.cells #[.int .i64 op, .string to, .string nm, .int .i64 t.k, .string t.s, .int .i64 t.n, .slice a1z n1z c1z, .slice a2z n2z c2z, .int .i64 num] 29))
      have D1 := World.news_of_block (heap_alloc_new w2 (.cells #[.int .i64 op, .string to, .string nm, .int .i64 t.k, .string t.s, .int .i64 t.n, .slice a1z n1z c1z, .slice a2z n2z c2z, .int .i64 num] 29))
      have D2 : ∀ u ∈ ([.int .i64 op, .string to, .string nm, .int .i64 t.k, .string t.s, .int .i64 t.n, .slice a1z n1z c1z, .slice a2z n2z c2z, .int .i64 num] : List Value), u.oneCell' = true := by
        intro u hu
        simp only [List.mem_cons, List.not_mem_nil, or_false] at hu
        rcases hu with rfl | rfl | rfl | rfl | rfl | rfl | rfl | rfl | rfl <;> rfl
      have D3 : i + 1 ≤ maxLen := by unfold maxLen; omega
      have D4 : (i + 1) * 128 ≤ 140737488355328 := by omega
      have D5 : w.heap.size ≤ (w2.alloc (.cells #[.int .i64 op, .string to, .string nm, .int .i64 t.k, .string t.s, .int .i64 t.n, .slice a1z n1z c1z, .slice a2z n2z c2z, .int .i64 num] 29)).heap.size := by have := HB.out.size; simp; omega
      have D6 : (w2.alloc (.cells #[.int .i64 op, .string to, .string nm, .int .i64 t.k, .string t.s, .int .i64 t.n, .slice a1z n1z c1z, .slice a2z n2z c2z, .int .i64 num] 29)).heap.size = w2.heap.size + 1 := by simp
      clear hbz hfz hnz hOz HC
      go_wp2_with (first
        | (at_builtin; refine wpList_append_lies _ rfl _ _ 32 rfl w.heap.size 29 i0 (.agg #[.int .i64 0, .string ⟨#[]⟩, .string ⟨#[]⟩, .int .i64 0, .string ⟨#[]⟩, .int .i64 0, .slice none 0 0, .slice none 0 0, .int .i64 0]) 9 128 Tryd.underlying32 hi hz0 hz1 hz2 rfl (by decide) (.slice a i c) i xs rfl oA ⟨w2.heap.size, 0, none⟩ 1 1 [.int .i64 op, .string to, .string nm, .int .i64 t.k, .string t.s, .int .i64 t.n, .slice a1z n1z c1z, .slice a2z n2z c2z, .int .i64 num] rfl rfl D1 D2 (by decide) D3 D4 D5 (w2.heap.size + 1) D6 ?_
           intro g cap4 w4 oA4 gr4 hg4 hlt4
           have hst := clone_step (n := i + 1) (cap := cap4) HF.out HND.out (own_lt HO.out) HB.out HBZ.out HFZ.out HNZ.out gr4 hg4 hlt4
           have OA4 := Lib.hid oA4
           have HST := Lib.hid hst
           clear oA4 gr4 hg4 hlt4 hst))
      go_roundw
      case rel =>
        obtain ⟨p1, p2, p3, p4, p5⟩ := HST.out
        refine ⟨i + 1, some ⟨g, 0, none⟩, cap4, xs ++ [.int .i64 op, .string to, .string nm, .int .i64 t.k, .string t.s, .int .i64 t.n, .slice a1z n1z c1z, .slice a2z n2z c2z, .int .i64 num], F ++ Fz, D.app (.step op to nm t vals alts num .nil), r, rfl, by go_num, by omega, Lib.hid ?_, OA4, Lib.hid (StO.app (StO.keep HP.out p1) (StO.keep HOZ.out p2)), Lib.hid p3, Lib.hid p4, Lib.hid p5, Lib.hid (fun h => by omega), Lib.hid (by have := HCO.out; simp only [St.cost] at this; omega), Lib.hid fun _ => ⟨b, o, rfl, hbw, HRR.out⟩, Lib.hid (stStep_wf HWF.out).2⟩
        rw [St.app_assoc]
        exact HD.out
      case measure => simp [intOf]; omega
set_option maxRecDepth 100000 in
set_option maxHeartbeats 8000000 in
theorem cloneAllBr_any (m : Nat) (HE : ∀ (take : Int) (t : Tg) (num : Int) (steps : St), (.br take t num steps .nil : St).cost ≤ m → ∀ (v : Value) (w : World), BrV w (.br take t num steps .nil) v → Calls Tryd.prog 81 #[v] w (MadeC w (BrQ take t num steps))) :
    ∀ f : St, f.cost ≤ m → f.wf false → f.len ≤ 1000000 → ∀ (v : Value) (w : World), (SlAt w v f.len fun b o => StIn w f b o 0) → Calls Tryd.prog 80 #[v, .func (.func 81) #[] #[]] w (MadeC w fun w' v' F => RowO 63 6 w' v' f.len F (fun xs F => StO w' f xs F)) := by
  intro f hcost hwf hlen v w h
  have HE := Lib.hid HE
  obtain ⟨hn, ao, cap, rfl, -, hs⟩ := h
  obtain ⟨n, hnn⟩ : ∃ n, n = f.len := ⟨_, rfl⟩
  have HN := Lib.hid hnn
  have HIN0 : Hid (0 < f.len → ∃ b o, ao = some ⟨b, o, none⟩ ∧ b < w.heap.size ∧ StIn w f b o 0) := Lib.hid hs
  rw [← hnn] at hn hlen ⊢
  have hx : (n : Int) ≤ 1000000 := by omega
  have HCO := Lib.hid hcost
  have HWF0 := Lib.hid hwf
  obtain ⟨i0, hi, hz0, hz1, hz2⟩ := info_parts infoBr
  clear hs hnn hcost hwf
  go_enter Tryd.func80, Tryd.ntmps80
  go_wp2_with fail
  go_loopw [5, 10] (fun vo vi wr => ∃ (i : Nat) (a : Option Addr) (c : Nat) (xs : List Value) (F : List Nat) (D r : St), vo = .slice a i c ∧ vi = .int .i64 (i : Int) ∧ i + r.len = n ∧ Hid (D.app r = f) ∧ Hid (wr.ownsRow w.heap.size 63 6 (.slice a i c) i xs) ∧ Hid (StO wr D xs F) ∧ Hid (Below w.heap.size w wr) ∧ Hid (∀ b ∈ F, w.heap.size ≤ b ∧ b < wr.heap.size ∧ some b ≠ (Value.slice a i c).ownBlock) ∧ Hid F.Nodup ∧ Hid (i = 0 → Value.slice a i c = .slice none 0 0 ∧ F = []) ∧ Hid (r.cost ≤ m) ∧ Hid (0 < r.len → ∃ b o, ao = some ⟨b, o, none⟩ ∧ b < w.heap.size ∧ StIn w r b o i) ∧ Hid (r.wf false)) (fun _ vi _ => n + 1 - (intOf vi).toNat)
  case atStart => exact ⟨0, none, 0, [], [], .nil, f, rfl, rfl, by rw [Nat.zero_add]; exact HN.out.symm, Lib.hid rfl, Lib.hid (World.ownsRow_nil _ _ _ _), Lib.hid ⟨rfl, rfl⟩, Lib.hid (Below.refl _ _), Lib.hid (by simp), Lib.hid (by simp), Lib.hid fun _ => ⟨rfl, rfl⟩, HCO, HIN0, HWF0⟩
  case round =>
    clear HCO HIN0 HWF0
    obtain ⟨i, a, c, xs, F, D, r, rfl, rfl, hir, HD, HO, HP, HB, HF, HND, H0, HCO, HIN, HWF⟩ := hrel
    cases r with
    | nil =>
      simp only [St.len, Nat.add_zero] at hir
      have hii : ¬ (i : Int) < (n : Int) := by omega
      have HEQ := Lib.hid hir
      go_wp2_with fail
      go_ret
      have hDf : D = f := by rw [← HD.out, St.app_nil]
      have hno := HO.out
      have hP := HP.out
      rw [hDf] at hP
      have hin := HEQ.out
      obtain ⟨G, g1, g2, g3⟩ := rowO_end (P := fun xs F => StO wr f xs F) hno (fun h => (H0.out h).1) (by omega) (fun h => (H0.out h).2) hP HF.out HND.out
      exact madeC_mk (F := G) rfl (by rw [← hin]; exact g1) HB.out g2 g3
    | step => exact absurd HWF.out.1 (by simp)
    | br take t num steps r =>
      simp only [St.len] at hir
      obtain ⟨b, o, rfl, hbw, ht⟩ := HIN.out (by simp only [St.len]; omega)
      obtain ⟨a1, n1, c1, e0, e1, e2, e3, e4, e5, hv, hr⟩ := br_first HWF.out ht
      have hbel : ∀ k, wr.cell? ⟨b, k, none⟩ = w.cell? ⟨b, k, none⟩ := fun k => HB.out.cell (p := ⟨b, k, none⟩) hbw
      have e0' := (hbel _).trans e0
      have e1' := (hbel _).trans e1
      have e2' := (hbel _).trans e2
      have e3' := (hbel _).trans e3
      have e4' := (hbel _).trans e4
      have e5' := (hbel _).trans e5
      have hii : (i : Int) < (n : Int) := by omega
      have hi0 : (0 : Int) ≤ (i : Int) := by omega
      have HBA : Hid (Below w.heap.size w (wr.alloc (.cells #[.int .i64 take, .int .i64 t.k, .string t.s, .int .i64 t.n, .int .i64 num, .slice a1 n1 c1] 63))) := Lib.hid (HB.out.alloc HB.out.size _)
      have HC := Lib.hid (HE.out take t num steps (by have := HCO.out; simp only [St.cost] at this ⊢; omega) _ (wr.alloc (.cells #[.int .i64 take, .int .i64 t.k, .string t.s, .int .i64 t.n, .int .i64 num, .slice a1 n1 c1] 63)) (hv.below HBA.out))
      have HRR := Lib.hid hr
      clear hbel e0 e1 e2 e3 e4 e5 ht hv hr
      go_wp2_with fail
      refine HC.out.mono ?_
      rintro e w2 ⟨vz, Fz, rfl, hQ, hbz, hfz, hnz⟩
      obtain ⟨a1z, n1z, c1z, rfl, hOz⟩ := hQ
      have hs1 : wr.heap.size + 1 ≤ w2.heap.size := by have := hbz.size; simpa using this
      have HBZ := Lib.hid hbz
      have HFZ := Lib.hid hfz
      have HNZ := Lib.hid hnz
      have HOZ := Lib.hid hOz
      have oA : (w2.alloc (.cells #[.int .i64 take, .int .i64 t.k, .string t.s, .int .i64 t.n, .int .i64 num, .slice a1z n1z c1z] 63)).ownsRow w.heap.size 63 6 (.slice a i c) i xs := owns_below (owns_below (owns_below HO.out ((Below.refl _ wr).alloc (Nat.le_refl _) (.cells #[.int .i64 take, .int .i64 t.k, .string t.s, .int .i64 t.n, .int .i64 num, .slice a1 n1 c1] 63))) HBZ.out) ((Below.refl _ w2).alloc (Nat.le_refl _) (.cells #[.int .i64 take, .int .i64 t.k, .string t.s, .int .i64 t.n, .int .i64 num, .slice a1z n1z c1z] 63))
      have D1 := World.news_of_block (heap_alloc_new w2 (.cells #[.int .i64 take, .int .i64 t.k, .string t.s, .int .i64 t.n, .int .i64 num, .slice a1z n1z c1z] 63))
      have D2 : ∀ u ∈ ([.int .i64 take, .int .i64 t.k, .string t.s, .int .i64 t.n, .int .i64 num, .slice a1z n1z c1z] : List Value), u.oneCell' = true := by
        intro u hu
        simp only [List.mem_cons, List.not_mem_nil, or_false] at hu
        rcases hu with rfl | rfl | rfl | rfl | rfl | rfl <;> rfl
      have D3 : i + 1 ≤ maxLen := by unfold maxLen; omega
      have D4 : (i + 1) * 72 ≤ 140737488355328 := by omega
      have D5 : w.heap.size ≤ (w2.alloc (.cells #[.int .i64 take, .int .i64 t.k, .string t.s, .int .i64 t.n, .int .i64 num, .slice a1z n1z c1z] 63)).heap.size := by have := HB.out.size; simp; omega
      have D6 : (w2.alloc (.cells #[.int .i64 take, .int .i64 t.k, .string t.s, .int .i64 t.n, .int .i64 num, .slice a1z n1z c1z] 63)).heap.size = w2.heap.size + 1 := by simp
      clear hbz hfz hnz hOz HC
      go_wp2_with (first
        | (at_builtin; refine wpList_append_lies _ rfl _ _ 27 rfl w.heap.size 63 i0 (.agg #[.int .i64 0, .int .i64 0, .string ⟨#[]⟩, .int .i64 0, .int .i64 0, .slice none 0 0]) 6 72 Tryd.underlying27 hi hz0 hz1 hz2 rfl (by decide) (.slice a i c) i xs rfl oA ⟨w2.heap.size, 0, none⟩ 1 1 [.int .i64 take, .int .i64 t.k, .string t.s, .int .i64 t.n, .int .i64 num, .slice a1z n1z c1z] rfl rfl D1 D2 (by decide) D3 D4 D5 (w2.heap.size + 1) D6 ?_
           intro g cap4 w4 oA4 gr4 hg4 hlt4
           have hst := clone_step (n := i + 1) (cap := cap4) HF.out HND.out (own_lt HO.out) HB.out HBZ.out HFZ.out HNZ.out gr4 hg4 hlt4
           have OA4 := Lib.hid oA4
           have HST := Lib.hid hst
           clear oA4 gr4 hg4 hlt4 hst))
      go_roundw
      case rel =>
        obtain ⟨p1, p2, p3, p4, p5⟩ := HST.out
        refine ⟨i + 1, some ⟨g, 0, none⟩, cap4, xs ++ [.int .i64 take, .int .i64 t.k, .string t.s, .int .i64 t.n, .int .i64 num, .slice a1z n1z c1z], F ++ Fz, D.app (.br take t num steps .nil), r, rfl, by go_num, by omega, Lib.hid ?_, OA4, Lib.hid (StO.app (StO.keep HP.out p1) (StO.keep HOZ.out p2)), Lib.hid p3, Lib.hid p4, Lib.hid p5, Lib.hid (fun h => by omega), Lib.hid (by have := HCO.out; simp only [St.cost] at this; omega), Lib.hid fun _ => ⟨b, o, rfl, hbw, HRR.out⟩, Lib.hid (stBr_wf HWF.out).2⟩
        rw [St.app_assoc]
        exact HD.out
      case measure => simp [intOf]; omega
def okFn (x : Fn) : Prop := x.params.length ≤ 1000000 ∧ x.steps.cost ≤ 1000000
set_option maxRecDepth 100000 in
set_option maxHeartbeats 8000000 in
theorem cloneAllFn_any (HE : ∀ x : Fn, okFn x → ∀ (v : Value) (w : World), FnV w x v → Calls Tryd.prog 41 #[v] w (MadeC w (FnQ x))) (l : List Fn) (hok : ∀ x ∈ l, okFn x) (hlen : l.length ≤ 1000000) (v : Value) (w : World) (h : SlAt w v l.length fun b o => FnIn w l b o) :
    Calls Tryd.prog 40 #[v, .func (.func 41) #[] #[]] w (MadeC w fun w' v' F => RowO 42 3 w' v' l.length F (fun xs F => FnO w' l xs F)) := by
  have HE := Lib.hid HE
  have HOK := Lib.hid hok
  obtain ⟨hn, ao, cap, rfl, -, hs⟩ := h
  obtain ⟨n, hnn⟩ : ∃ n, n = l.length := ⟨_, rfl⟩
  have HN := Lib.hid hnn
  have HS := Lib.hid hs
  rw [← hnn] at hn hlen HS ⊢
  have hx : (n : Int) ≤ 1000000 := by omega
  obtain ⟨i0, hi, hz0, hz1, hz2⟩ := info_parts infoFn
  clear hs hnn hok
  go_enter Tryd.func40, Tryd.ntmps40
  go_wp2_with fail
  go_loopw [5, 10] (fun vo vi wr => ∃ (i : Nat) (a : Option Addr) (c : Nat) (xs : List Value) (F : List Nat), vo = .slice a i c ∧ vi = .int .i64 (i : Int) ∧ i ≤ n ∧ Hid (wr.ownsRow w.heap.size 42 3 (.slice a i c) i xs) ∧ Hid (FnO wr (l.take i) xs F) ∧ Hid (Below w.heap.size w wr) ∧ Hid (∀ b ∈ F, w.heap.size ≤ b ∧ b < wr.heap.size ∧ some b ≠ (Value.slice a i c).ownBlock) ∧ Hid F.Nodup ∧ Hid (i = 0 → Value.slice a i c = .slice none 0 0 ∧ F = [])) (fun _ vi _ => n + 1 - (intOf vi).toNat)
  case atStart => exact ⟨0, none, 0, [], [], rfl, rfl, by omega, Lib.hid (World.ownsRow_nil _ _ _ _), Lib.hid ⟨rfl, rfl⟩, Lib.hid (Below.refl _ _), Lib.hid (by simp), Lib.hid (by simp), Lib.hid fun _ => ⟨rfl, rfl⟩⟩
  case round =>
    obtain ⟨i, a, c, xs, F, rfl, rfl, hir, HO, HP, HB, HF, HND, H0⟩ := hrel
    by_cases hii : (i : Int) < (n : Int)
    · have hi0 : (0 : Int) ≤ (i : Int) := by omega
      have hi1 : i < l.length := by have := HN.out; omega
      obtain ⟨b, o, rfl, hbw, ht⟩ := HS.out (by omega)
      obtain ⟨a1, n1, c1, a2, n2, c2, e0, e1, e2, hv⟩ := fn_first ht hi1
      have hokx := HOK.out l[i] (List.getElem_mem hi1)
      have htk : l.take (i + 1) = l.take i ++ [l[i]] := (List.take_append_getElem hi1).symm
      obtain ⟨x, hxx⟩ : ∃ x, x = l[i] := ⟨_, rfl⟩
      rw [← hxx] at e0 hv hokx htk
      have HTK := Lib.hid htk
      have hbel : ∀ k, wr.cell? ⟨b, k, none⟩ = w.cell? ⟨b, k, none⟩ := fun k => HB.out.cell (p := ⟨b, k, none⟩) hbw
      have e0' := (hbel _).trans e0
      have e1' := (hbel _).trans e1
      have e2' := (hbel _).trans e2
      have HBA : Hid (Below w.heap.size w (wr.alloc (.cells #[.string x.nm, .slice a1 n1 c1, .slice a2 n2 c2] 42))) := Lib.hid (HB.out.alloc HB.out.size _)
      have HC := Lib.hid (HE.out x hokx _ (wr.alloc (.cells #[.string x.nm, .slice a1 n1 c1, .slice a2 n2 c2] 42)) (hv.below HBA.out))
      clear hbel e0 e1 e2 ht hv hokx htk hxx hi1
      go_wp2_with fail
      refine HC.out.mono ?_
      rintro e w2 ⟨vz, Fz, rfl, hQ, hbz, hfz, hnz⟩
      obtain ⟨a1z, n1z, c1z, a2z, n2z, c2z, rfl, hOz⟩ := hQ
      have hs1 : wr.heap.size + 1 ≤ w2.heap.size := by have := hbz.size; simpa using this
      have HBZ := Lib.hid hbz
      have HFZ := Lib.hid hfz
      have HNZ := Lib.hid hnz
      have HOZ := Lib.hid hOz
      have oA : (w2.alloc (.cells #[.string x.nm, .slice a1z n1z c1z, .slice a2z n2z c2z] 42)).ownsRow w.heap.size 42 3 (.slice a i c) i xs := owns_below (owns_below (owns_below HO.out ((Below.refl _ wr).alloc (Nat.le_refl _) (.cells #[.string x.nm, .slice a1 n1 c1, .slice a2 n2 c2] 42))) HBZ.out) ((Below.refl _ w2).alloc (Nat.le_refl _) (.cells #[.string x.nm, .slice a1z n1z c1z, .slice a2z n2z c2z] 42))
      have D1 := World.news_of_block (heap_alloc_new w2 (.cells #[.string x.nm, .slice a1z n1z c1z, .slice a2z n2z c2z] 42))
      have D2 : ∀ u ∈ ([.string x.nm, .slice a1z n1z c1z, .slice a2z n2z c2z] : List Value), u.oneCell' = true := by
        intro u hu
        simp only [List.mem_cons, List.not_mem_nil, or_false] at hu
        rcases hu with rfl | rfl | rfl <;> rfl
      have D3 : i + 1 ≤ maxLen := by unfold maxLen; omega
      have D4 : (i + 1) * 64 ≤ 140737488355328 := by omega
      have D5 : w.heap.size ≤ (w2.alloc (.cells #[.string x.nm, .slice a1z n1z c1z, .slice a2z n2z c2z] 42)).heap.size := by have := HB.out.size; simp; omega
      have D6 : (w2.alloc (.cells #[.string x.nm, .slice a1z n1z c1z, .slice a2z n2z c2z] 42)).heap.size = w2.heap.size + 1 := by simp
      clear hbz hfz hnz hOz HC
      go_wp2_with (first
        | (at_builtin; refine wpList_append_lies _ rfl _ _ 38 rfl w.heap.size 42 i0 (.agg #[.string ⟨#[]⟩, .slice none 0 0, .slice none 0 0]) 3 64 Tryd.underlying38 hi hz0 hz1 hz2 rfl (by decide) (.slice a i c) i xs rfl oA ⟨w2.heap.size, 0, none⟩ 1 1 [.string x.nm, .slice a1z n1z c1z, .slice a2z n2z c2z] rfl rfl D1 D2 (by decide) D3 D4 D5 (w2.heap.size + 1) D6 ?_
           intro g cap4 w4 oA4 gr4 hg4 hlt4
           have hst := clone_step (n := i + 1) (cap := cap4) HF.out HND.out (own_lt HO.out) HB.out HBZ.out HFZ.out HNZ.out gr4 hg4 hlt4
           have OA4 := Lib.hid oA4
           have HST := Lib.hid hst
           clear oA4 gr4 hg4 hlt4 hst))
      go_roundw
      case rel =>
        obtain ⟨p1, p2, p3, p4, p5⟩ := HST.out
        exact ⟨i + 1, some ⟨g, 0, none⟩, cap4, xs ++ [.string x.nm, .slice a1z n1z c1z, .slice a2z n2z c2z], F ++ Fz, rfl, by go_num, by omega, OA4, Lib.hid (by rw [HTK.out]; exact FnO.app (FnO.keep HP.out p1) (FnO.keep HOZ.out p2)), Lib.hid p3, Lib.hid p4, Lib.hid p5, Lib.hid (fun h => by omega)⟩
      case measure => simp [intOf]; omega
    · have HEQ : Hid (i = n) := Lib.hid (by omega)
      go_wp2_with fail
      go_ret
      have hno := HO.out
      have hP := HP.out
      have hin := HEQ.out
      rw [List.take_of_length_le (by have := HN.out; omega)] at hP
      obtain ⟨G, g1, g2, g3⟩ := rowO_end (P := fun xs F => FnO wr l xs F) hno (fun h => (H0.out h).1) (by omega) (fun h => (H0.out h).2) hP HF.out HND.out
      exact madeC_mk (F := G) rfl (by rw [← hin]; exact g1) HB.out g2 g3
end Go.Proofs.YtoidogfnjpmceaaDoor
