/- syn.cloneAll of constructors, datas, definitions, and what clones one. Conditions: lengths. -/
import Derived.Test.YtledjcplbldokaaGreatDoorCl5
import Derived.Deep.RegionHeld3
import Derived.Deep.DrawnRows
namespace Go.Proofs.YtledjcplbldokaaGreatDoor
open Go.ChangeShapes Go.WideShapes Go.ChangeAt Go.RowKit
attribute [local go_sem ↓] Go.wp_at_zero Go.wp_at_succ

def okCo (x : Co) : Prop := x.2.cost ≤ 1000000
def okDa (x : Da) : Prop := x.2.1.length ≤ 1000000 ∧ x.2.2.length ≤ 1000000 ∧ ∀ c ∈ x.2.2, okCo c
def okDe (x : De) : Prop := x.2.1.length ≤ 1000000 ∧ x.2.2.cost ≤ 1000000
set_option maxRecDepth 100000 in
set_option maxHeartbeats 8000000 in
theorem cloneCons_any (x : Co) (hok : okCo x) (v : Value) (w : World) (hv : CoV w x v) : Calls Tryz.prog 36 #[v] w (MadeC w (CoQ x)) := by
  obtain ⟨n1, a1, c1, rfl, hnm, hs⟩ := hv
  have HS := Lib.hid hs
  have HNM := Lib.hid hnm
  have HOK : Hid (x.2.cost ≤ 1000000) := Lib.hid hok
  have HLN : Hid (x.2.len ≤ 1000000) := Lib.hid (Nat.le_trans (ty_len_cost _) hok)
  clear hs hok
  have HB0 : Hid (Below w.heap.size w ((w.alloc (.cells #[.string x.1, .slice a1 n1 c1] 48)).alloc (.cells #[.string ⟨#[]⟩, .slice none 0 0] 48))) := Lib.hid (((Below.refl _ w).alloc (Nat.le_refl _) _).alloc (by simp) _)
  have hA := box2a w #[.string x.1, .slice a1 n1 c1] #[.string ⟨#[]⟩, .slice none 0 0] 48 48
  have hB := box2b w #[.string x.1, .slice a1 n1 c1] #[.string ⟨#[]⟩, .slice none 0 0] 48 48
  have A0 := hA 0 (.string x.1) rfl
  have A1 := hA 1 (.slice a1 n1 c1) rfl
  have Z0 := hB 0 (.string ⟨#[]⟩) rfl
  have Z1 := hB 1 (.slice none 0 0) rfl
  clear hA hB
  have hr := heap_alloc_new (w.alloc (.cells #[.string x.1, .slice a1 n1 c1] 48)) (.cells #[.string ⟨#[]⟩, .slice none 0 0] 48)
  have hs : (w.alloc (.cells #[.string x.1, .slice a1 n1 c1] 48)).heap.size = w.heap.size + 1 := by simp
  rw [hs] at hr
  have hZF : ∀ j, ((w.alloc (.cells #[.string x.1, .slice a1 n1 c1] 48)).alloc (.cells #[.string ⟨#[]⟩, .slice none 0 0] 48)).frozen? ⟨w.heap.size + 1, j, none⟩ = false := fun j => World.frozen?_alloc2_new _ _ _ _
  have ZF := hZF 0
  have ZF1 := hZF 1
  clear hZF
  have HR := Lib.hid hr
  clear hr hs
  have HSZ : Hid (w.heap.size < ((w.alloc (.cells #[.string x.1, .slice a1 n1 c1] 48)).alloc (.cells #[.string ⟨#[]⟩, .slice none 0 0] 48)).heap.size ∧ w.heap.size + 1 < ((w.alloc (.cells #[.string x.1, .slice a1 n1 c1] 48)).alloc (.cells #[.string ⟨#[]⟩, .slice none 0 0] 48)).heap.size) := Lib.hid (by simp <;> omega)
  have HC1 := Lib.hid (show ∀ w', Below w.heap.size w w' → Calls Tryz.prog 62 #[.slice a1 n1 c1, .func (.func 63) #[] #[]] w' (MadeC w' fun q v' F => RowO 50 2 q v' x.2.len F (fun xs F => TyO q x.2 xs F)) from fun w' hb => cloneAllTy_any 1000000 (cloneType_any 1000000 (Nat.le_refl _)) x.2 HOK.out HLN.out _ w' (HS.out.mono hb.size fun _ _ p q => TyIn.below hb p q))
  go_enter Tryz.func36, Tryz.ntmps36
  go_wp2_with fail
  go_region_held3 (fun w' => w'.cell? ⟨w.heap.size, 0, none⟩ = some (.string x.1) ∧ w'.cell? ⟨w.heap.size, 1, none⟩ = some (.slice a1 n1 c1)) (first | go_keep | (simp [*]; done) | (refine ⟨?_, ?_⟩ <;> (first | assumption | (rw [HKK.out.cell (p := ⟨w.heap.size, _, none⟩) HSZ.out.1]; assumption) | (rw [HKK.out.cell (p := ⟨w.heap.size + 1, _, none⟩) HSZ.out.2]; assumption) | (rw [HKK.out.frozen (p := ⟨w.heap.size + 1, _, none⟩) HSZ.out.2]; assumption)))) (first | (go_at_call 62; refine (HC1.out _ (Below.drew HB0.out)).mono ?_; rintro e u1 ⟨vz1, F1, rfl, hQ1, hb1, hf1, hn1⟩; obtain ⟨n1z, a1z, c1z, rfl, hO1⟩ := row_open hQ1; have HKK : Hid (Below ((w.alloc (.cells #[.string x.1, .slice a1 n1 c1] 48)).alloc (.cells #[.string ⟨#[]⟩, .slice none 0 0] 48)).heap.size ((w.alloc (.cells #[.string x.1, .slice a1 n1 c1] 48)).alloc (.cells #[.string ⟨#[]⟩, .slice none 0 0] 48)) u1) := Lib.hid ((Below.drew (Below.refl _ ((w.alloc (.cells #[.string x.1, .slice a1 n1 c1] 48)).alloc (.cells #[.string ⟨#[]⟩, .slice none 0 0] 48)))).trans hb1); have HB1 : Hid (Below w.heap.size w u1) := Lib.hid (HB0.out.trans (HKK.out.mono HB0.out.size)); have HQ1 := Lib.hid (And.intro hO1 (And.intro hb1 (And.intro hf1 hn1))); clear hO1 hb1 hf1 hn1; have Z0 := (HKK.out.cell (p := ⟨w.heap.size + 1, 0, none⟩) HSZ.out.2).trans Z0; have ZF := (HKK.out.frozen (p := ⟨w.heap.size + 1, 0, none⟩) HSZ.out.2).trans ZF; have Z1 := (HKK.out.cell (p := ⟨w.heap.size + 1, 1, none⟩) HSZ.out.2).trans Z1; have ZF1 := (HKK.out.frozen (p := ⟨w.heap.size + 1, 1, none⟩) HSZ.out.2).trans ZF1))
  all_goals (
    go_wp2_with fail
    have hr0 : u1.heap[w.heap.size + 1]? = some (.cells #[.string ⟨#[]⟩, .slice none 0 0] 48) := (HKK.out.block (w.heap.size + 1) HSZ.out.2).trans HR.out
    have hr1 : (World.heap _)[w.heap.size + 1]? = some (.cells #[.string x.1, .slice none 0 0] 48 (0, 0)) := row_set (.string x.1) hr0 (i := 0)
    clear hr0
    have hr2 : (World.heap _)[w.heap.size + 1]? = some (.cells #[.string x.1, .slice a1z n1z c1z] 48 (0, 0)) := row_set (.slice a1z n1z c1z) hr1 (i := 1)
    clear hr1
    have hrow := hr2
    refine bodyPost_ret (results_row1 rfl _ _ (w.heap.size + 1) 48 _ (0, 0) _ rfl hrow Tryz.underlying48 rfl (sizeCo _ _)) rfl ?_
    have hs0 : w.heap.size + 2 ≤ ((w.alloc (.cells #[.string x.1, .slice a1 n1 c1] 48)).alloc (.cells #[.string ⟨#[]⟩, .slice none 0 0] 48)).drew.heap.size := by show _ ≤ ((w.alloc (.cells #[.string x.1, .slice a1 n1 c1] 48)).alloc (.cells #[.string ⟨#[]⟩, .slice none 0 0] 48)).heap.size; simp
    obtain ⟨hO1, hb1, hf1, hn1⟩ := HQ1.out
    have hs1 := hb1.size
    have hsF : ((u1.setCell ⟨w.heap.size + 1, 0, none⟩ (.string x.1)).setCell ⟨w.heap.size + 1, 1, none⟩ (.slice a1z n1z c1z)).heap.size = u1.heap.size := by simp only [set_size]
    have hfar : ∀ b, w.heap.size + 2 ≤ b → ((u1.setCell ⟨w.heap.size + 1, 0, none⟩ (.string x.1)).setCell ⟨w.heap.size + 1, 1, none⟩ (.slice a1z n1z c1z)).heap[b]? = u1.heap[b]? := fun b hb => by
      refine (Below.heap_setCell _ _ _ _ (by simp; omega)).trans ?_
      refine (Below.heap_setCell _ _ _ _ (by simp; omega)).trans ?_
      rfl
    have KF1 : KeepF u1 _ F1 := keep_made (fun b h => ⟨by have := (hf1 b h).1; omega, (hf1 b h).2⟩) (Below.refl _ u1) hfar (by omega)
    exact madeC_mk (F := F1) rfl (⟨n1z, a1z, c1z, rfl, ⟨_, [], F1, [], rfl, by simp, HNM.out, (hO1.keep KF1 fun _ _ hs hp => TyO.keep hp (KF1.sub hs)), rfl, rfl⟩⟩) ((HB1.out.setCell (p := ⟨w.heap.size + 1, 0, none⟩) (by simp) (.string x.1)).setCell (p := ⟨w.heap.size + 1, 1, none⟩) (by simp) (.slice a1z n1z c1z)) (fun b h => ⟨by have := (hf1 b h).1; omega, by have := (hf1 b h).2; omega⟩) hn1)
set_option maxRecDepth 100000 in
set_option maxHeartbeats 8000000 in
theorem cloneAllCo_any (HE : ∀ x : Co, okCo x → ∀ (v : Value) (w : World), CoV w x v → Calls Tryz.prog 36 #[v] w (MadeC w (CoQ x))) (l : List Co) (hok : ∀ x ∈ l, okCo x) (hlen : l.length ≤ 1000000) (v : Value) (w : World) (h : SlAt w v l.length fun b o => CoIn w l b o) :
    Calls Tryz.prog 35 #[v, .func (.func 36) #[] #[]] w (MadeC w fun w' v' F => RowO 48 2 w' v' l.length F (fun xs F => CoO w' l xs F)) := by
  have HE := Lib.hid HE
  have HOK := Lib.hid hok
  obtain ⟨hn, ao, cap, rfl, -, hs⟩ := h
  obtain ⟨n, hnn⟩ : ∃ n, n = l.length := ⟨_, rfl⟩
  have HN := Lib.hid hnn
  have HS := Lib.hid hs
  rw [← hnn] at hn hlen HS ⊢
  have hx : (n : Int) ≤ 1000000 := by omega
  obtain ⟨i0, hi, hz0, hz1, hz2⟩ := info_parts infoCo
  clear hs hnn hok
  go_enter Tryz.func35, Tryz.ntmps35
  go_wp2_with fail
  go_loopw [5, 10] (fun vo vi wr => ∃ (i : Nat) (a : Option Addr) (c : Nat) (xs : List Value) (F : List Nat), vo = .slice a i c ∧ vi = .int .i64 (i : Int) ∧ i ≤ n ∧ Hid (wr.ownsRow w.heap.size 48 2 (.slice a i c) i xs) ∧ Hid (CoO wr (l.take i) xs F) ∧ Hid (Below w.heap.size w wr) ∧ Hid (∀ b ∈ F, w.heap.size ≤ b ∧ b < wr.heap.size ∧ some b ≠ (Value.slice a i c).ownBlock) ∧ Hid F.Nodup ∧ Hid (i = 0 → Value.slice a i c = .slice none 0 0 ∧ F = [])) (fun _ vi _ => n + 1 - (intOf vi).toNat)
  case atStart => exact ⟨0, none, 0, [], [], rfl, rfl, by omega, Lib.hid (World.ownsRow_nil _ _ _ _), Lib.hid ⟨rfl, rfl⟩, Lib.hid (Below.refl _ _), Lib.hid (by simp), Lib.hid (by simp), Lib.hid fun _ => ⟨rfl, rfl⟩⟩
  case round =>
    obtain ⟨i, a, c, xs, F, rfl, rfl, hir, HO, HP, HB, HF, HND, H0⟩ := hrel
    by_cases hii : (i : Int) < (n : Int)
    · have hi0 : (0 : Int) ≤ (i : Int) := by omega
      have hi1 : i < l.length := by have := HN.out; omega
      obtain ⟨b, o, rfl, hbw, ht⟩ := HS.out (by omega)
      obtain ⟨n1, a1, c1, e0, e1, hv⟩ := co_first ht hi1
      have hokx := HOK.out l[i] (List.getElem_mem hi1)
      have htk : l.take (i + 1) = l.take i ++ [l[i]] := (List.take_append_getElem hi1).symm
      obtain ⟨x, hxx⟩ : ∃ x, x = l[i] := ⟨_, rfl⟩
      rw [← hxx] at e0 hv hokx htk
      have HTK := Lib.hid htk
      have hbel : ∀ k, wr.cell? ⟨b, k, none⟩ = w.cell? ⟨b, k, none⟩ := fun k => HB.out.cell (p := ⟨b, k, none⟩) hbw
      have e0' := (hbel _).trans e0
      have e1' := (hbel _).trans e1
      have HBA : Hid (Below w.heap.size w (wr.alloc (.cells #[.string x.1, .slice a1 n1 c1] 48))) := Lib.hid (HB.out.alloc HB.out.size _)
      have HC := Lib.hid (HE.out x hokx _ (wr.alloc (.cells #[.string x.1, .slice a1 n1 c1] 48)) (hv.below HBA.out))
      clear hbel e0 e1 ht hv hokx htk hxx hi1
      go_wp2_with fail
      refine HC.out.mono ?_
      rintro e w2 ⟨vz, Fz, rfl, hQ, hbz, hfz, hnz⟩
      obtain ⟨n1z, a1z, c1z, rfl, hOz⟩ := hQ
      have hs1 : wr.heap.size + 1 ≤ w2.heap.size := by have := hbz.size; simpa using this
      have HBZ := Lib.hid hbz
      have HFZ := Lib.hid hfz
      have HNZ := Lib.hid hnz
      have HOZ := Lib.hid hOz
      have oA : (w2.alloc (.cells #[.string x.1, .slice a1z n1z c1z] 48)).ownsRow w.heap.size 48 2 (.slice a i c) i xs := owns_below (owns_below (owns_below HO.out ((Below.refl _ wr).alloc (Nat.le_refl _) (.cells #[.string x.1, .slice a1 n1 c1] 48))) HBZ.out) ((Below.refl _ w2).alloc (Nat.le_refl _) (.cells #[.string x.1, .slice a1z n1z c1z] 48))
      have D1 := World.news_of_block (heap_alloc_new w2 (.cells #[.string x.1, .slice a1z n1z c1z] 48))
      have D2 : ∀ u ∈ ([.string x.1, .slice a1z n1z c1z] : List Value), u.oneCell' = true := by
        intro u hu
        simp only [List.mem_cons, List.not_mem_nil, or_false] at hu
        rcases hu with rfl | rfl <;> rfl
      have D3 : i + 1 ≤ maxLen := by unfold maxLen; omega
      have D4 : (i + 1) * 40 ≤ 140737488355328 := by omega
      have D5 : w.heap.size ≤ (w2.alloc (.cells #[.string x.1, .slice a1z n1z c1z] 48)).heap.size := by have := HB.out.size; simp; omega
      have D6 : (w2.alloc (.cells #[.string x.1, .slice a1z n1z c1z] 48)).heap.size = w2.heap.size + 1 := by simp
      clear hbz hfz hnz hOz HC
      go_wp2_with (first
        | (at_builtin; refine wpList_append_lies _ rfl _ _ 43 rfl w.heap.size 48 i0 (.agg #[.string ⟨#[]⟩, .slice none 0 0]) 2 40 Tryz.underlying43 hi hz0 hz1 hz2 rfl (by decide) (.slice a i c) i xs rfl oA ⟨w2.heap.size, 0, none⟩ 1 1 [.string x.1, .slice a1z n1z c1z] rfl rfl D1 D2 (by decide) D3 D4 D5 (w2.heap.size + 1) D6 ?_
           intro g cap4 w4 oA4 gr4 hg4 hlt4
           have hst := clone_step (n := i + 1) (cap := cap4) HF.out HND.out (own_lt HO.out) HB.out HBZ.out HFZ.out HNZ.out gr4 hg4 hlt4
           have OA4 := Lib.hid oA4
           have HST := Lib.hid hst
           clear oA4 gr4 hg4 hlt4 hst))
      go_roundw
      case rel =>
        obtain ⟨p1, p2, p3, p4, p5⟩ := HST.out
        exact ⟨i + 1, some ⟨g, 0, none⟩, cap4, xs ++ [.string x.1, .slice a1z n1z c1z], F ++ Fz, rfl, by go_num, by omega, OA4, Lib.hid (by rw [HTK.out]; exact CoO.app (CoO.keep HP.out p1) (CoO.keep HOZ.out p2)), Lib.hid p3, Lib.hid p4, Lib.hid p5, Lib.hid (fun h => by omega)⟩
      case measure => simp [intOf]; omega
    · have HEQ : Hid (i = n) := Lib.hid (by omega)
      go_wp2_with fail
      go_ret
      have hno := HO.out
      have hP := HP.out
      have hin := HEQ.out
      rw [List.take_of_length_le (by have := HN.out; omega)] at hP
      obtain ⟨G, g1, g2, g3⟩ := rowO_end (P := fun xs F => CoO wr l xs F) hno (fun h => (H0.out h).1) (by omega) (fun h => (H0.out h).2) hP HF.out HND.out
      exact madeC_mk (F := G) rfl (by rw [← hin]; exact g1) HB.out g2 g3
set_option maxRecDepth 100000 in
set_option maxHeartbeats 8000000 in
theorem cloneData_any (x : Da) (hok : okDa x) (v : Value) (w : World) (hv : DaV w x v) : Calls Tryz.prog 15 #[v] w (MadeC w (DaQ x)) := by
  obtain ⟨n1, a1, c1, n2, a2, c2, rfl, hnm, hs, ht⟩ := hv
  have HS := Lib.hid hs
  have HT := Lib.hid ht
  have HNM := Lib.hid hnm
  have HOK : Hid (x.2.1.length ≤ 1000000 ∧ x.2.2.length ≤ 1000000 ∧ ∀ c ∈ x.2.2, okCo c) := Lib.hid hok
  clear hs ht hok
  have HB0 : Hid (Below w.heap.size w ((w.alloc (.cells #[.string x.1, .slice a1 n1 c1, .slice a2 n2 c2] 45)).alloc (.cells #[.string ⟨#[]⟩, .slice none 0 0, .slice none 0 0] 45))) := Lib.hid (((Below.refl _ w).alloc (Nat.le_refl _) _).alloc (by simp) _)
  have hA := box2a w #[.string x.1, .slice a1 n1 c1, .slice a2 n2 c2] #[.string ⟨#[]⟩, .slice none 0 0, .slice none 0 0] 45 45
  have hB := box2b w #[.string x.1, .slice a1 n1 c1, .slice a2 n2 c2] #[.string ⟨#[]⟩, .slice none 0 0, .slice none 0 0] 45 45
  have A0 := hA 0 (.string x.1) rfl
  have A1 := hA 1 (.slice a1 n1 c1) rfl
  have A2 := hA 2 (.slice a2 n2 c2) rfl
  have Z0 := hB 0 (.string ⟨#[]⟩) rfl
  have Z1 := hB 1 (.slice none 0 0) rfl
  have Z2 := hB 2 (.slice none 0 0) rfl
  clear hA hB
  have hr := heap_alloc_new (w.alloc (.cells #[.string x.1, .slice a1 n1 c1, .slice a2 n2 c2] 45)) (.cells #[.string ⟨#[]⟩, .slice none 0 0, .slice none 0 0] 45)
  have hs : (w.alloc (.cells #[.string x.1, .slice a1 n1 c1, .slice a2 n2 c2] 45)).heap.size = w.heap.size + 1 := by simp
  rw [hs] at hr
  have hZF : ∀ j, ((w.alloc (.cells #[.string x.1, .slice a1 n1 c1, .slice a2 n2 c2] 45)).alloc (.cells #[.string ⟨#[]⟩, .slice none 0 0, .slice none 0 0] 45)).frozen? ⟨w.heap.size + 1, j, none⟩ = false := fun j => World.frozen?_alloc2_new _ _ _ _
  have ZF := hZF 0
  have ZF1 := hZF 1
  have ZF2 := hZF 2
  clear hZF
  have HR := Lib.hid hr
  clear hr hs
  have HSZ : Hid (w.heap.size < ((w.alloc (.cells #[.string x.1, .slice a1 n1 c1, .slice a2 n2 c2] 45)).alloc (.cells #[.string ⟨#[]⟩, .slice none 0 0, .slice none 0 0] 45)).heap.size ∧ w.heap.size + 1 < ((w.alloc (.cells #[.string x.1, .slice a1 n1 c1, .slice a2 n2 c2] 45)).alloc (.cells #[.string ⟨#[]⟩, .slice none 0 0, .slice none 0 0] 45)).heap.size) := Lib.hid (by simp <;> omega)
  have HC1 := Lib.hid (show ∀ w', Below w.heap.size w w' → Calls Tryz.prog 34 #[.slice a1 n1 c1] w' (MadeC w' fun q v' F => RowO 9 1 q v' x.2.1.length F (fun xs F => TxO x.2.1 xs F)) from fun w' hb => cloneNames_any x.2.1 _ w' HOK.out.1 (HS.out.mono hb.size fun _ _ p q => TxIn.below hb p q))
  have HC2 := Lib.hid (show ∀ w', Below w.heap.size w w' → Calls Tryz.prog 35 #[.slice a2 n2 c2, .func (.func 36) #[] #[]] w' (MadeC w' fun q v' F => RowO 48 2 q v' x.2.2.length F (fun xs F => CoO q x.2.2 xs F)) from fun w' hb => cloneAllCo_any cloneCons_any x.2.2 HOK.out.2.2 HOK.out.2.1 _ w' (HT.out.mono hb.size fun _ _ p q => CoIn.below hb p q))
  go_enter Tryz.func15, Tryz.ntmps15
  go_wp2_with fail
  go_region_held3 (fun w' => w'.cell? ⟨w.heap.size, 0, none⟩ = some (.string x.1) ∧ w'.cell? ⟨w.heap.size, 1, none⟩ = some (.slice a1 n1 c1) ∧ w'.cell? ⟨w.heap.size, 2, none⟩ = some (.slice a2 n2 c2)) (first | go_keep | (simp [*]; done) | (refine ⟨?_, ?_, ?_⟩ <;> (first | assumption | (rw [HKK.out.cell (p := ⟨w.heap.size, _, none⟩) HSZ.out.1]; assumption) | (rw [HKK.out.cell (p := ⟨w.heap.size + 1, _, none⟩) HSZ.out.2]; assumption) | (rw [HKK.out.frozen (p := ⟨w.heap.size + 1, _, none⟩) HSZ.out.2]; assumption)))) (first | (go_at_call 34; refine (HC1.out _ (Below.drew HB0.out)).mono ?_; rintro e u1 ⟨vz1, F1, rfl, hQ1, hb1, hf1, hn1⟩; obtain ⟨n1z, a1z, c1z, rfl, hO1⟩ := row_open hQ1; have HKK : Hid (Below ((w.alloc (.cells #[.string x.1, .slice a1 n1 c1, .slice a2 n2 c2] 45)).alloc (.cells #[.string ⟨#[]⟩, .slice none 0 0, .slice none 0 0] 45)).heap.size ((w.alloc (.cells #[.string x.1, .slice a1 n1 c1, .slice a2 n2 c2] 45)).alloc (.cells #[.string ⟨#[]⟩, .slice none 0 0, .slice none 0 0] 45)) u1) := Lib.hid ((Below.drew (Below.refl _ ((w.alloc (.cells #[.string x.1, .slice a1 n1 c1, .slice a2 n2 c2] 45)).alloc (.cells #[.string ⟨#[]⟩, .slice none 0 0, .slice none 0 0] 45)))).trans hb1); have HB1 : Hid (Below w.heap.size w u1) := Lib.hid (HB0.out.trans (HKK.out.mono HB0.out.size)); have HQ1 := Lib.hid (And.intro hO1 (And.intro hb1 (And.intro hf1 hn1))); clear hO1 hb1 hf1 hn1) | (go_at_call 35; refine (HC2.out _ (HB1.out)).mono ?_; rintro e u2 ⟨vz2, F2, rfl, hQ2, hb2, hf2, hn2⟩; obtain ⟨n2z, a2z, c2z, rfl, hO2⟩ := row_open hQ2; have HKQ := HKK.out.trans (hb2.mono HKK.out.size); clear HKK; have HKK := Lib.hid HKQ; clear HKQ; have HB2 : Hid (Below w.heap.size w u2) := Lib.hid (HB0.out.trans (HKK.out.mono HB0.out.size)); have HQ2 := Lib.hid (And.intro hO2 (And.intro hb2 (And.intro hf2 hn2))); clear hO2 hb2 hf2 hn2; have Z0 := (HKK.out.cell (p := ⟨w.heap.size + 1, 0, none⟩) HSZ.out.2).trans Z0; have ZF := (HKK.out.frozen (p := ⟨w.heap.size + 1, 0, none⟩) HSZ.out.2).trans ZF; have Z1 := (HKK.out.cell (p := ⟨w.heap.size + 1, 1, none⟩) HSZ.out.2).trans Z1; have ZF1 := (HKK.out.frozen (p := ⟨w.heap.size + 1, 1, none⟩) HSZ.out.2).trans ZF1; have Z2 := (HKK.out.cell (p := ⟨w.heap.size + 1, 2, none⟩) HSZ.out.2).trans Z2; have ZF2 := (HKK.out.frozen (p := ⟨w.heap.size + 1, 2, none⟩) HSZ.out.2).trans ZF2))
  all_goals (
    go_wp2_with fail
    have hr0 : u2.heap[w.heap.size + 1]? = some (.cells #[.string ⟨#[]⟩, .slice none 0 0, .slice none 0 0] 45) := (HKK.out.block (w.heap.size + 1) HSZ.out.2).trans HR.out
    have hr1 : (World.heap _)[w.heap.size + 1]? = some (.cells #[.string x.1, .slice none 0 0, .slice none 0 0] 45 (0, 0)) := row_set (.string x.1) hr0 (i := 0)
    clear hr0
    have hr2 : (World.heap _)[w.heap.size + 1]? = some (.cells #[.string x.1, .slice a1z n1z c1z, .slice none 0 0] 45 (0, 0)) := row_set (.slice a1z n1z c1z) hr1 (i := 1)
    clear hr1
    have hr3 : (World.heap _)[w.heap.size + 1]? = some (.cells #[.string x.1, .slice a1z n1z c1z, .slice a2z n2z c2z] 45 (0, 0)) := row_set (.slice a2z n2z c2z) hr2 (i := 2)
    clear hr2
    have hrow := hr3
    refine bodyPost_ret (results_row1 rfl _ _ (w.heap.size + 1) 45 _ (0, 0) _ rfl hrow Tryz.underlying45 rfl (sizeDa _ _ _)) rfl ?_
    have hs0 : w.heap.size + 2 ≤ ((w.alloc (.cells #[.string x.1, .slice a1 n1 c1, .slice a2 n2 c2] 45)).alloc (.cells #[.string ⟨#[]⟩, .slice none 0 0, .slice none 0 0] 45)).drew.heap.size := by show _ ≤ ((w.alloc (.cells #[.string x.1, .slice a1 n1 c1, .slice a2 n2 c2] 45)).alloc (.cells #[.string ⟨#[]⟩, .slice none 0 0, .slice none 0 0] 45)).heap.size; simp
    obtain ⟨hO1, hb1, hf1, hn1⟩ := HQ1.out
    have hs1 := hb1.size
    obtain ⟨hO2, hb2, hf2, hn2⟩ := HQ2.out
    have hs2 := hb2.size
    have hsF : (((u2.setCell ⟨w.heap.size + 1, 0, none⟩ (.string x.1)).setCell ⟨w.heap.size + 1, 1, none⟩ (.slice a1z n1z c1z)).setCell ⟨w.heap.size + 1, 2, none⟩ (.slice a2z n2z c2z)).heap.size = u2.heap.size := by simp only [set_size]
    have hfar : ∀ b, w.heap.size + 2 ≤ b → (((u2.setCell ⟨w.heap.size + 1, 0, none⟩ (.string x.1)).setCell ⟨w.heap.size + 1, 1, none⟩ (.slice a1z n1z c1z)).setCell ⟨w.heap.size + 1, 2, none⟩ (.slice a2z n2z c2z)).heap[b]? = u2.heap[b]? := fun b hb => by
      refine (Below.heap_setCell _ _ _ _ (by simp; omega)).trans ?_
      refine (Below.heap_setCell _ _ _ _ (by simp; omega)).trans ?_
      refine (Below.heap_setCell _ _ _ _ (by simp; omega)).trans ?_
      rfl
    have KF1 : KeepF u1 _ F1 := keep_made (fun b h => ⟨by have := (hf1 b h).1; omega, (hf1 b h).2⟩) ((Below.refl _ u1).trans (hb2.mono (by omega))) hfar (by omega)
    have KF2 : KeepF u2 _ F2 := keep_made (fun b h => ⟨by have := (hf2 b h).1; omega, (hf2 b h).2⟩) (Below.refl _ u2) hfar (by omega)
    exact madeC_mk (F := F1 ++ F2) rfl (⟨n1z, a1z, c1z, n2z, a2z, c2z, rfl, ⟨_, _, [], F1, F2, [], rfl, by simp, HNM.out, (hO1.keep KF1 fun _ _ _ hp => hp), (hO2.keep KF2 fun _ _ hs hp => CoO.keep hp (KF2.sub hs)), rfl, rfl⟩⟩) (((HB2.out.setCell (p := ⟨w.heap.size + 1, 0, none⟩) (by simp) (.string x.1)).setCell (p := ⟨w.heap.size + 1, 1, none⟩) (by simp) (.slice a1z n1z c1z)).setCell (p := ⟨w.heap.size + 1, 2, none⟩) (by simp) (.slice a2z n2z c2z)) (mem_app (fun b h => ⟨by have := (hf1 b h).1; omega, by have := (hf1 b h).2; omega⟩) (fun b h => ⟨by have := (hf2 b h).1; omega, by have := (hf2 b h).2; omega⟩)) (nodup_range hn1 hn2 (fun b h => (hf1 b h).2) (fun b h => (hf2 b h).1)))
set_option maxRecDepth 100000 in
set_option maxHeartbeats 8000000 in
theorem cloneAllDa_any (HE : ∀ x : Da, okDa x → ∀ (v : Value) (w : World), DaV w x v → Calls Tryz.prog 15 #[v] w (MadeC w (DaQ x))) (l : List Da) (hok : ∀ x ∈ l, okDa x) (hlen : l.length ≤ 1000000) (v : Value) (w : World) (h : SlAt w v l.length fun b o => DaIn w l b o) :
    Calls Tryz.prog 14 #[v, .func (.func 15) #[] #[]] w (MadeC w fun w' v' F => RowO 45 3 w' v' l.length F (fun xs F => DaO w' l xs F)) := by
  have HE := Lib.hid HE
  have HOK := Lib.hid hok
  obtain ⟨hn, ao, cap, rfl, -, hs⟩ := h
  obtain ⟨n, hnn⟩ : ∃ n, n = l.length := ⟨_, rfl⟩
  have HN := Lib.hid hnn
  have HS := Lib.hid hs
  rw [← hnn] at hn hlen HS ⊢
  have hx : (n : Int) ≤ 1000000 := by omega
  obtain ⟨i0, hi, hz0, hz1, hz2⟩ := info_parts infoDa
  clear hs hnn hok
  go_enter Tryz.func14, Tryz.ntmps14
  go_wp2_with fail
  go_loopw [5, 10] (fun vo vi wr => ∃ (i : Nat) (a : Option Addr) (c : Nat) (xs : List Value) (F : List Nat), vo = .slice a i c ∧ vi = .int .i64 (i : Int) ∧ i ≤ n ∧ Hid (wr.ownsRow w.heap.size 45 3 (.slice a i c) i xs) ∧ Hid (DaO wr (l.take i) xs F) ∧ Hid (Below w.heap.size w wr) ∧ Hid (∀ b ∈ F, w.heap.size ≤ b ∧ b < wr.heap.size ∧ some b ≠ (Value.slice a i c).ownBlock) ∧ Hid F.Nodup ∧ Hid (i = 0 → Value.slice a i c = .slice none 0 0 ∧ F = [])) (fun _ vi _ => n + 1 - (intOf vi).toNat)
  case atStart => exact ⟨0, none, 0, [], [], rfl, rfl, by omega, Lib.hid (World.ownsRow_nil _ _ _ _), Lib.hid ⟨rfl, rfl⟩, Lib.hid (Below.refl _ _), Lib.hid (by simp), Lib.hid (by simp), Lib.hid fun _ => ⟨rfl, rfl⟩⟩
  case round =>
    obtain ⟨i, a, c, xs, F, rfl, rfl, hir, HO, HP, HB, HF, HND, H0⟩ := hrel
    by_cases hii : (i : Int) < (n : Int)
    · have hi0 : (0 : Int) ≤ (i : Int) := by omega
      have hi1 : i < l.length := by have := HN.out; omega
      obtain ⟨b, o, rfl, hbw, ht⟩ := HS.out (by omega)
      obtain ⟨n1, a1, c1, n2, a2, c2, e0, e1, e2, hv⟩ := da_first ht hi1
      have hokx := HOK.out l[i] (List.getElem_mem hi1)
      have htk : l.take (i + 1) = l.take i ++ [l[i]] := (List.take_append_getElem hi1).symm
      obtain ⟨x, hxx⟩ : ∃ x, x = l[i] := ⟨_, rfl⟩
      rw [← hxx] at e0 hv hokx htk
      have HTK := Lib.hid htk
      have hbel : ∀ k, wr.cell? ⟨b, k, none⟩ = w.cell? ⟨b, k, none⟩ := fun k => HB.out.cell (p := ⟨b, k, none⟩) hbw
      have e0' := (hbel _).trans e0
      have e1' := (hbel _).trans e1
      have e2' := (hbel _).trans e2
      have HBA : Hid (Below w.heap.size w (wr.alloc (.cells #[.string x.1, .slice a1 n1 c1, .slice a2 n2 c2] 45))) := Lib.hid (HB.out.alloc HB.out.size _)
      have HC := Lib.hid (HE.out x hokx _ (wr.alloc (.cells #[.string x.1, .slice a1 n1 c1, .slice a2 n2 c2] 45)) (hv.below HBA.out))
      clear hbel e0 e1 e2 ht hv hokx htk hxx hi1
      go_wp2_with fail
      refine HC.out.mono ?_
      rintro e w2 ⟨vz, Fz, rfl, hQ, hbz, hfz, hnz⟩
      obtain ⟨n1z, a1z, c1z, n2z, a2z, c2z, rfl, hOz⟩ := hQ
      have hs1 : wr.heap.size + 1 ≤ w2.heap.size := by have := hbz.size; simpa using this
      have HBZ := Lib.hid hbz
      have HFZ := Lib.hid hfz
      have HNZ := Lib.hid hnz
      have HOZ := Lib.hid hOz
      have oA : (w2.alloc (.cells #[.string x.1, .slice a1z n1z c1z, .slice a2z n2z c2z] 45)).ownsRow w.heap.size 45 3 (.slice a i c) i xs := owns_below (owns_below (owns_below HO.out ((Below.refl _ wr).alloc (Nat.le_refl _) (.cells #[.string x.1, .slice a1 n1 c1, .slice a2 n2 c2] 45))) HBZ.out) ((Below.refl _ w2).alloc (Nat.le_refl _) (.cells #[.string x.1, .slice a1z n1z c1z, .slice a2z n2z c2z] 45))
      have D1 := World.news_of_block (heap_alloc_new w2 (.cells #[.string x.1, .slice a1z n1z c1z, .slice a2z n2z c2z] 45))
      have D2 : ∀ u ∈ ([.string x.1, .slice a1z n1z c1z, .slice a2z n2z c2z] : List Value), u.oneCell' = true := by
        intro u hu
        simp only [List.mem_cons, List.not_mem_nil, or_false] at hu
        rcases hu with rfl | rfl | rfl <;> rfl
      have D3 : i + 1 ≤ maxLen := by unfold maxLen; omega
      have D4 : (i + 1) * 64 ≤ 140737488355328 := by omega
      have D5 : w.heap.size ≤ (w2.alloc (.cells #[.string x.1, .slice a1z n1z c1z, .slice a2z n2z c2z] 45)).heap.size := by have := HB.out.size; simp; omega
      have D6 : (w2.alloc (.cells #[.string x.1, .slice a1z n1z c1z, .slice a2z n2z c2z] 45)).heap.size = w2.heap.size + 1 := by simp
      clear hbz hfz hnz hOz HC
      go_wp2_with (first
        | (at_builtin; refine wpList_append_lies _ rfl _ _ 22 rfl w.heap.size 45 i0 (.agg #[.string ⟨#[]⟩, .slice none 0 0, .slice none 0 0]) 3 64 Tryz.underlying22 hi hz0 hz1 hz2 rfl (by decide) (.slice a i c) i xs rfl oA ⟨w2.heap.size, 0, none⟩ 1 1 [.string x.1, .slice a1z n1z c1z, .slice a2z n2z c2z] rfl rfl D1 D2 (by decide) D3 D4 D5 (w2.heap.size + 1) D6 ?_
           intro g cap4 w4 oA4 gr4 hg4 hlt4
           have hst := clone_step (n := i + 1) (cap := cap4) HF.out HND.out (own_lt HO.out) HB.out HBZ.out HFZ.out HNZ.out gr4 hg4 hlt4
           have OA4 := Lib.hid oA4
           have HST := Lib.hid hst
           clear oA4 gr4 hg4 hlt4 hst))
      go_roundw
      case rel =>
        obtain ⟨p1, p2, p3, p4, p5⟩ := HST.out
        exact ⟨i + 1, some ⟨g, 0, none⟩, cap4, xs ++ [.string x.1, .slice a1z n1z c1z, .slice a2z n2z c2z], F ++ Fz, rfl, by go_num, by omega, OA4, Lib.hid (by rw [HTK.out]; exact DaO.app (DaO.keep HP.out p1) (DaO.keep HOZ.out p2)), Lib.hid p3, Lib.hid p4, Lib.hid p5, Lib.hid (fun h => by omega)⟩
      case measure => simp [intOf]; omega
    · have HEQ : Hid (i = n) := Lib.hid (by omega)
      go_wp2_with fail
      go_ret
      have hno := HO.out
      have hP := HP.out
      have hin := HEQ.out
      rw [List.take_of_length_le (by have := HN.out; omega)] at hP
      obtain ⟨G, g1, g2, g3⟩ := rowO_end (P := fun xs F => DaO wr l xs F) hno (fun h => (H0.out h).1) (by omega) (fun h => (H0.out h).2) hP HF.out HND.out
      exact madeC_mk (F := G) rfl (by rw [← hin]; exact g1) HB.out g2 g3
set_option maxRecDepth 100000 in
set_option maxHeartbeats 8000000 in
theorem cloneDef_any (x : De) (hok : okDe x) (v : Value) (w : World) (hv : DeV w x v) : Calls Tryz.prog 17 #[v] w (MadeC w (DeQ x)) := by
  obtain ⟨n0, a0, c0, op, nm, num, n1, a1, c1, n2, a2, c2, n3, a3, c3, rfl, hnm, hs, hx⟩ := hv
  have hx0 := hx
  obtain ⟨_, _, _, names, L, alts, _, _, _, _, _, _, _, _, _, hxe, e, r1, r2, r3, r4, r5, -⟩ := hx
  simp at e
  obtain ⟨rfl, rfl, rfl, -⟩ := e
  have HS := Lib.hid hs
  have HX : Hid (ExV w (.expr op nm num names L alts .nil) (.agg #[.int .i64 op, .string nm, .int .i64 num, .slice a1 n1 c1, .slice a2 n2 c2, .slice a3 n3 c3])) := Lib.hid (by rw [← hxe]; exact hx0)
  have HNM := Lib.hid hnm
  have HXE := Lib.hid hxe
  have HOK : Hid (x.2.1.length ≤ 1000000 ∧ (Ex.expr op nm num names L alts .nil).cost ≤ 1000000) := Lib.hid (by rw [← hxe]; exact hok)
  have HW : Hid ((Ex.expr op nm num names L alts .nil).wf true) := Lib.hid ⟨rfl, r4, r5, trivial⟩
  clear hs hx0 hok hxe r1 r2 r3 r4 r5
  have HB0 : Hid (Below w.heap.size w ((w.alloc (.cells #[.string x.1, .slice a0 n0 c0, .int .i64 op, .string nm, .int .i64 num, .slice a1 n1 c1, .slice a2 n2 c2, .slice a3 n3 c3] 37)).alloc (.cells #[.string ⟨#[]⟩, .slice none 0 0, .int .i64 0, .string ⟨#[]⟩, .int .i64 0, .slice none 0 0, .slice none 0 0, .slice none 0 0] 37))) := Lib.hid (((Below.refl _ w).alloc (Nat.le_refl _) _).alloc (by simp) _)
  have hA := box2a w #[.string x.1, .slice a0 n0 c0, .int .i64 op, .string nm, .int .i64 num, .slice a1 n1 c1, .slice a2 n2 c2, .slice a3 n3 c3] #[.string ⟨#[]⟩, .slice none 0 0, .int .i64 0, .string ⟨#[]⟩, .int .i64 0, .slice none 0 0, .slice none 0 0, .slice none 0 0] 37 37
  have hB := box2b w #[.string x.1, .slice a0 n0 c0, .int .i64 op, .string nm, .int .i64 num, .slice a1 n1 c1, .slice a2 n2 c2, .slice a3 n3 c3] #[.string ⟨#[]⟩, .slice none 0 0, .int .i64 0, .string ⟨#[]⟩, .int .i64 0, .slice none 0 0, .slice none 0 0, .slice none 0 0] 37 37
  have A0 := hA 0 (.string x.1) rfl
  have A1 := hA 1 (.slice a0 n0 c0) rfl
  have A2 := hA 2 (.int .i64 op) rfl
  have A3 := hA 3 (.string nm) rfl
  have A4 := hA 4 (.int .i64 num) rfl
  have A5 := hA 5 (.slice a1 n1 c1) rfl
  have A6 := hA 6 (.slice a2 n2 c2) rfl
  have A7 := hA 7 (.slice a3 n3 c3) rfl
  have Z0 := hB 0 (.string ⟨#[]⟩) rfl
  have Z1 := hB 1 (.slice none 0 0) rfl
  have Z2 := hB 2 (.int .i64 0) rfl
  have Z3 := hB 3 (.string ⟨#[]⟩) rfl
  have Z4 := hB 4 (.int .i64 0) rfl
  have Z5 := hB 5 (.slice none 0 0) rfl
  have Z6 := hB 6 (.slice none 0 0) rfl
  have Z7 := hB 7 (.slice none 0 0) rfl
  clear hA hB
  have hr := heap_alloc_new (w.alloc (.cells #[.string x.1, .slice a0 n0 c0, .int .i64 op, .string nm, .int .i64 num, .slice a1 n1 c1, .slice a2 n2 c2, .slice a3 n3 c3] 37)) (.cells #[.string ⟨#[]⟩, .slice none 0 0, .int .i64 0, .string ⟨#[]⟩, .int .i64 0, .slice none 0 0, .slice none 0 0, .slice none 0 0] 37)
  have hs : (w.alloc (.cells #[.string x.1, .slice a0 n0 c0, .int .i64 op, .string nm, .int .i64 num, .slice a1 n1 c1, .slice a2 n2 c2, .slice a3 n3 c3] 37)).heap.size = w.heap.size + 1 := by simp
  rw [hs] at hr
  have hZF : ∀ j, ((w.alloc (.cells #[.string x.1, .slice a0 n0 c0, .int .i64 op, .string nm, .int .i64 num, .slice a1 n1 c1, .slice a2 n2 c2, .slice a3 n3 c3] 37)).alloc (.cells #[.string ⟨#[]⟩, .slice none 0 0, .int .i64 0, .string ⟨#[]⟩, .int .i64 0, .slice none 0 0, .slice none 0 0, .slice none 0 0] 37)).frozen? ⟨w.heap.size + 1, j, none⟩ = false := fun j => World.frozen?_alloc2_new _ _ _ _
  have ZF := hZF 0
  have ZF1 := hZF 1
  have ZF2 := hZF 2
  have ZF3 := hZF 3
  have ZF4 := hZF 4
  have ZF5 := hZF 5
  have ZF6 := hZF 6
  have ZF7 := hZF 7
  clear hZF
  have HR := Lib.hid hr
  clear hr hs
  have HSZ : Hid (w.heap.size < ((w.alloc (.cells #[.string x.1, .slice a0 n0 c0, .int .i64 op, .string nm, .int .i64 num, .slice a1 n1 c1, .slice a2 n2 c2, .slice a3 n3 c3] 37)).alloc (.cells #[.string ⟨#[]⟩, .slice none 0 0, .int .i64 0, .string ⟨#[]⟩, .int .i64 0, .slice none 0 0, .slice none 0 0, .slice none 0 0] 37)).heap.size ∧ w.heap.size + 1 < ((w.alloc (.cells #[.string x.1, .slice a0 n0 c0, .int .i64 op, .string nm, .int .i64 num, .slice a1 n1 c1, .slice a2 n2 c2, .slice a3 n3 c3] 37)).alloc (.cells #[.string ⟨#[]⟩, .slice none 0 0, .int .i64 0, .string ⟨#[]⟩, .int .i64 0, .slice none 0 0, .slice none 0 0, .slice none 0 0] 37)).heap.size) := Lib.hid (by simp <;> omega)
  have HC1 := Lib.hid (show ∀ w', Below w.heap.size w w' → Calls Tryz.prog 34 #[.slice a0 n0 c0] w' (MadeC w' fun q v' F => RowO 9 1 q v' x.2.1.length F (fun xs F => TxO x.2.1 xs F)) from fun w' hb => cloneNames_any x.2.1 _ w' HOK.out.1 (HS.out.mono hb.size fun _ _ p q => TxIn.below hb p q))
  have HC2 := Lib.hid (show ∀ w', Below w.heap.size w w' → Calls Tryz.prog 37 #[.agg #[.int .i64 op, .string nm, .int .i64 num, .slice a1 n1 c1, .slice a2 n2 c2, .slice a3 n3 c3]] w' (MadeC w' (ExQ op nm num names L alts)) from fun w' hb => cloneExpr_any 1000000 (Nat.le_refl _) op nm num names L alts HOK.out.2 _ w' (HX.out.below hb))
  go_enter Tryz.func17, Tryz.ntmps17
  go_wp2_with fail
  go_region_held3 (fun w' => w'.cell? ⟨w.heap.size, 0, none⟩ = some (.string x.1) ∧ w'.cell? ⟨w.heap.size, 1, none⟩ = some (.slice a0 n0 c0) ∧ w'.cell? ⟨w.heap.size, 2, none⟩ = some (.int .i64 op) ∧ w'.cell? ⟨w.heap.size, 3, none⟩ = some (.string nm) ∧ w'.cell? ⟨w.heap.size, 4, none⟩ = some (.int .i64 num) ∧ w'.cell? ⟨w.heap.size, 5, none⟩ = some (.slice a1 n1 c1) ∧ w'.cell? ⟨w.heap.size, 6, none⟩ = some (.slice a2 n2 c2) ∧ w'.cell? ⟨w.heap.size, 7, none⟩ = some (.slice a3 n3 c3)) (first | go_keep | (simp [*]; done) | (refine ⟨?_, ?_, ?_, ?_, ?_, ?_, ?_, ?_⟩ <;> (first | assumption | (rw [HKK.out.cell (p := ⟨w.heap.size, _, none⟩) HSZ.out.1]; assumption) | (rw [HKK.out.cell (p := ⟨w.heap.size + 1, _, none⟩) HSZ.out.2]; assumption) | (rw [HKK.out.frozen (p := ⟨w.heap.size + 1, _, none⟩) HSZ.out.2]; assumption)))) (first | (go_at_call 34; refine (HC1.out _ (Below.drew HB0.out)).mono ?_; rintro e u1 ⟨vz1, F1, rfl, hQ1, hb1, hf1, hn1⟩; obtain ⟨n0z, a0z, c0z, rfl, hO1⟩ := row_open hQ1; have HKK : Hid (Below ((w.alloc (.cells #[.string x.1, .slice a0 n0 c0, .int .i64 op, .string nm, .int .i64 num, .slice a1 n1 c1, .slice a2 n2 c2, .slice a3 n3 c3] 37)).alloc (.cells #[.string ⟨#[]⟩, .slice none 0 0, .int .i64 0, .string ⟨#[]⟩, .int .i64 0, .slice none 0 0, .slice none 0 0, .slice none 0 0] 37)).heap.size ((w.alloc (.cells #[.string x.1, .slice a0 n0 c0, .int .i64 op, .string nm, .int .i64 num, .slice a1 n1 c1, .slice a2 n2 c2, .slice a3 n3 c3] 37)).alloc (.cells #[.string ⟨#[]⟩, .slice none 0 0, .int .i64 0, .string ⟨#[]⟩, .int .i64 0, .slice none 0 0, .slice none 0 0, .slice none 0 0] 37)) u1) := Lib.hid ((Below.drew (Below.refl _ ((w.alloc (.cells #[.string x.1, .slice a0 n0 c0, .int .i64 op, .string nm, .int .i64 num, .slice a1 n1 c1, .slice a2 n2 c2, .slice a3 n3 c3] 37)).alloc (.cells #[.string ⟨#[]⟩, .slice none 0 0, .int .i64 0, .string ⟨#[]⟩, .int .i64 0, .slice none 0 0, .slice none 0 0, .slice none 0 0] 37)))).trans hb1); have HB1 : Hid (Below w.heap.size w u1) := Lib.hid (HB0.out.trans (HKK.out.mono HB0.out.size)); have HQ1 := Lib.hid (And.intro hO1 (And.intro hb1 (And.intro hf1 hn1))); clear hO1 hb1 hf1 hn1) | (go_at_call 37; refine (HC2.out _ (HB1.out)).mono ?_; rintro e u2 ⟨vz2, F2, rfl, hQ2, hb2, hf2, hn2⟩; obtain ⟨n1z, a1z, c1z, n2z, a2z, c2z, n3z, a3z, c3z, rfl, hO2⟩ := hQ2; have HKQ := HKK.out.trans (hb2.mono HKK.out.size); clear HKK; have HKK := Lib.hid HKQ; clear HKQ; have HB2 : Hid (Below w.heap.size w u2) := Lib.hid (HB0.out.trans (HKK.out.mono HB0.out.size)); have HQ2 := Lib.hid (And.intro hO2 (And.intro hb2 (And.intro hf2 hn2))); clear hO2 hb2 hf2 hn2; have Z0 := (HKK.out.cell (p := ⟨w.heap.size + 1, 0, none⟩) HSZ.out.2).trans Z0; have ZF := (HKK.out.frozen (p := ⟨w.heap.size + 1, 0, none⟩) HSZ.out.2).trans ZF; have Z1 := (HKK.out.cell (p := ⟨w.heap.size + 1, 1, none⟩) HSZ.out.2).trans Z1; have ZF1 := (HKK.out.frozen (p := ⟨w.heap.size + 1, 1, none⟩) HSZ.out.2).trans ZF1; have Z2 := (HKK.out.cell (p := ⟨w.heap.size + 1, 2, none⟩) HSZ.out.2).trans Z2; have ZF2 := (HKK.out.frozen (p := ⟨w.heap.size + 1, 2, none⟩) HSZ.out.2).trans ZF2; have Z3 := (HKK.out.cell (p := ⟨w.heap.size + 1, 3, none⟩) HSZ.out.2).trans Z3; have ZF3 := (HKK.out.frozen (p := ⟨w.heap.size + 1, 3, none⟩) HSZ.out.2).trans ZF3; have Z4 := (HKK.out.cell (p := ⟨w.heap.size + 1, 4, none⟩) HSZ.out.2).trans Z4; have ZF4 := (HKK.out.frozen (p := ⟨w.heap.size + 1, 4, none⟩) HSZ.out.2).trans ZF4; have Z5 := (HKK.out.cell (p := ⟨w.heap.size + 1, 5, none⟩) HSZ.out.2).trans Z5; have ZF5 := (HKK.out.frozen (p := ⟨w.heap.size + 1, 5, none⟩) HSZ.out.2).trans ZF5; have Z6 := (HKK.out.cell (p := ⟨w.heap.size + 1, 6, none⟩) HSZ.out.2).trans Z6; have ZF6 := (HKK.out.frozen (p := ⟨w.heap.size + 1, 6, none⟩) HSZ.out.2).trans ZF6; have Z7 := (HKK.out.cell (p := ⟨w.heap.size + 1, 7, none⟩) HSZ.out.2).trans Z7; have ZF7 := (HKK.out.frozen (p := ⟨w.heap.size + 1, 7, none⟩) HSZ.out.2).trans ZF7))
  all_goals (
    go_wp2_with fail
    have hr0 : u2.heap[w.heap.size + 1]? = some (.cells #[.string ⟨#[]⟩, .slice none 0 0, .int .i64 0, .string ⟨#[]⟩, .int .i64 0, .slice none 0 0, .slice none 0 0, .slice none 0 0] 37) := (HKK.out.block (w.heap.size + 1) HSZ.out.2).trans HR.out
    have hr1 : (World.heap _)[w.heap.size + 1]? = some (.cells #[.string x.1, .slice none 0 0, .int .i64 0, .string ⟨#[]⟩, .int .i64 0, .slice none 0 0, .slice none 0 0, .slice none 0 0] 37 (0, 0)) := row_set (.string x.1) hr0 (i := 0)
    clear hr0
    have hr2 : (World.heap _)[w.heap.size + 1]? = some (.cells #[.string x.1, .slice a0z n0z c0z, .int .i64 0, .string ⟨#[]⟩, .int .i64 0, .slice none 0 0, .slice none 0 0, .slice none 0 0] 37 (0, 0)) := row_set (.slice a0z n0z c0z) hr1 (i := 1)
    clear hr1
    have hr3 : (World.heap _)[w.heap.size + 1]? = some (.cells #[.string x.1, .slice a0z n0z c0z, .int .i64 op, .string ⟨#[]⟩, .int .i64 0, .slice none 0 0, .slice none 0 0, .slice none 0 0] 37 (0, 0)) := row_set (.int .i64 op) hr2 (i := 2)
    clear hr2
    have hr4 : (World.heap _)[w.heap.size + 1]? = some (.cells #[.string x.1, .slice a0z n0z c0z, .int .i64 op, .string nm, .int .i64 0, .slice none 0 0, .slice none 0 0, .slice none 0 0] 37 (0, 0)) := row_set (.string nm) hr3 (i := 3)
    clear hr3
    have hr5 : (World.heap _)[w.heap.size + 1]? = some (.cells #[.string x.1, .slice a0z n0z c0z, .int .i64 op, .string nm, .int .i64 num, .slice none 0 0, .slice none 0 0, .slice none 0 0] 37 (0, 0)) := row_set (.int .i64 num) hr4 (i := 4)
    clear hr4
    have hr6 : (World.heap _)[w.heap.size + 1]? = some (.cells #[.string x.1, .slice a0z n0z c0z, .int .i64 op, .string nm, .int .i64 num, .slice a1z n1z c1z, .slice none 0 0, .slice none 0 0] 37 (0, 0)) := row_set (.slice a1z n1z c1z) hr5 (i := 5)
    clear hr5
    have hr7 : (World.heap _)[w.heap.size + 1]? = some (.cells #[.string x.1, .slice a0z n0z c0z, .int .i64 op, .string nm, .int .i64 num, .slice a1z n1z c1z, .slice a2z n2z c2z, .slice none 0 0] 37 (0, 0)) := row_set (.slice a2z n2z c2z) hr6 (i := 6)
    clear hr6
    have hr8 : (World.heap _)[w.heap.size + 1]? = some (.cells #[.string x.1, .slice a0z n0z c0z, .int .i64 op, .string nm, .int .i64 num, .slice a1z n1z c1z, .slice a2z n2z c2z, .slice a3z n3z c3z] 37 (0, 0)) := row_set (.slice a3z n3z c3z) hr7 (i := 7)
    clear hr7
    have hrow := hr8
    refine bodyPost_ret (results_row1 rfl _ _ (w.heap.size + 1) 37 _ (0, 0) _ rfl hrow Tryz.underlying37 rfl (sizeDe _ _ _ _ _ _ _ _)) rfl ?_
    have hs0 : w.heap.size + 2 ≤ ((w.alloc (.cells #[.string x.1, .slice a0 n0 c0, .int .i64 op, .string nm, .int .i64 num, .slice a1 n1 c1, .slice a2 n2 c2, .slice a3 n3 c3] 37)).alloc (.cells #[.string ⟨#[]⟩, .slice none 0 0, .int .i64 0, .string ⟨#[]⟩, .int .i64 0, .slice none 0 0, .slice none 0 0, .slice none 0 0] 37)).drew.heap.size := by show _ ≤ ((w.alloc (.cells #[.string x.1, .slice a0 n0 c0, .int .i64 op, .string nm, .int .i64 num, .slice a1 n1 c1, .slice a2 n2 c2, .slice a3 n3 c3] 37)).alloc (.cells #[.string ⟨#[]⟩, .slice none 0 0, .int .i64 0, .string ⟨#[]⟩, .int .i64 0, .slice none 0 0, .slice none 0 0, .slice none 0 0] 37)).heap.size; simp
    obtain ⟨hO1, hb1, hf1, hn1⟩ := HQ1.out
    have hs1 := hb1.size
    obtain ⟨hO2, hb2, hf2, hn2⟩ := HQ2.out
    have hs2 := hb2.size
    have hsF : ((((((((u2.setCell ⟨w.heap.size + 1, 0, none⟩ (.string x.1)).setCell ⟨w.heap.size + 1, 1, none⟩ (.slice a0z n0z c0z)).setCell ⟨w.heap.size + 1, 2, none⟩ (.int .i64 op)).setCell ⟨w.heap.size + 1, 3, none⟩ (.string nm)).setCell ⟨w.heap.size + 1, 4, none⟩ (.int .i64 num)).setCell ⟨w.heap.size + 1, 5, none⟩ (.slice a1z n1z c1z)).setCell ⟨w.heap.size + 1, 6, none⟩ (.slice a2z n2z c2z)).setCell ⟨w.heap.size + 1, 7, none⟩ (.slice a3z n3z c3z)).heap.size = u2.heap.size := by simp only [set_size]
    have hfar : ∀ b, w.heap.size + 2 ≤ b → ((((((((u2.setCell ⟨w.heap.size + 1, 0, none⟩ (.string x.1)).setCell ⟨w.heap.size + 1, 1, none⟩ (.slice a0z n0z c0z)).setCell ⟨w.heap.size + 1, 2, none⟩ (.int .i64 op)).setCell ⟨w.heap.size + 1, 3, none⟩ (.string nm)).setCell ⟨w.heap.size + 1, 4, none⟩ (.int .i64 num)).setCell ⟨w.heap.size + 1, 5, none⟩ (.slice a1z n1z c1z)).setCell ⟨w.heap.size + 1, 6, none⟩ (.slice a2z n2z c2z)).setCell ⟨w.heap.size + 1, 7, none⟩ (.slice a3z n3z c3z)).heap[b]? = u2.heap[b]? := fun b hb => by
      refine (Below.heap_setCell _ _ _ _ (by simp; omega)).trans ?_
      refine (Below.heap_setCell _ _ _ _ (by simp; omega)).trans ?_
      refine (Below.heap_setCell _ _ _ _ (by simp; omega)).trans ?_
      refine (Below.heap_setCell _ _ _ _ (by simp; omega)).trans ?_
      refine (Below.heap_setCell _ _ _ _ (by simp; omega)).trans ?_
      refine (Below.heap_setCell _ _ _ _ (by simp; omega)).trans ?_
      refine (Below.heap_setCell _ _ _ _ (by simp; omega)).trans ?_
      refine (Below.heap_setCell _ _ _ _ (by simp; omega)).trans ?_
      rfl
    have KF1 : KeepF u1 _ F1 := keep_made (fun b h => ⟨by have := (hf1 b h).1; omega, (hf1 b h).2⟩) ((Below.refl _ u1).trans (hb2.mono (by omega))) hfar (by omega)
    have KF2 : KeepF u2 _ F2 := keep_made (fun b h => ⟨by have := (hf2 b h).1; omega, (hf2 b h).2⟩) (Below.refl _ u2) hfar (by omega)
    exact madeC_mk (F := F1 ++ F2) rfl (⟨n0z, a0z, c0z, op, nm, num, n1z, a1z, c1z, n2z, a2z, c2z, n3z, a3z, c3z, rfl, ⟨_, [.int .i64 op, .string nm, .int .i64 num, .slice a1z n1z c1z, .slice a2z n2z c2z, .slice a3z n3z c3z], [], F1, F2, [], rfl, rfl, by simp, HNM.out, by rw [HXE.out]; exact HW.out, by rw [HXE.out]; rfl, (hO1.keep KF1 fun _ _ _ hp => hp), by rw [HXE.out]; exact ExO.keep hO2 KF2, rfl, rfl⟩⟩) ((((((((HB2.out.setCell (p := ⟨w.heap.size + 1, 0, none⟩) (by simp) (.string x.1)).setCell (p := ⟨w.heap.size + 1, 1, none⟩) (by simp) (.slice a0z n0z c0z)).setCell (p := ⟨w.heap.size + 1, 2, none⟩) (by simp) (.int .i64 op)).setCell (p := ⟨w.heap.size + 1, 3, none⟩) (by simp) (.string nm)).setCell (p := ⟨w.heap.size + 1, 4, none⟩) (by simp) (.int .i64 num)).setCell (p := ⟨w.heap.size + 1, 5, none⟩) (by simp) (.slice a1z n1z c1z)).setCell (p := ⟨w.heap.size + 1, 6, none⟩) (by simp) (.slice a2z n2z c2z)).setCell (p := ⟨w.heap.size + 1, 7, none⟩) (by simp) (.slice a3z n3z c3z)) (mem_app (fun b h => ⟨by have := (hf1 b h).1; omega, by have := (hf1 b h).2; omega⟩) (fun b h => ⟨by have := (hf2 b h).1; omega, by have := (hf2 b h).2; omega⟩)) (nodup_range hn1 hn2 (fun b h => (hf1 b h).2) (fun b h => (hf2 b h).1)))
set_option maxRecDepth 100000 in
set_option maxHeartbeats 8000000 in
theorem cloneAllDe_any (HE : ∀ x : De, okDe x → ∀ (v : Value) (w : World), DeV w x v → Calls Tryz.prog 17 #[v] w (MadeC w (DeQ x))) (l : List De) (hok : ∀ x ∈ l, okDe x) (hlen : l.length ≤ 1000000) (v : Value) (w : World) (h : SlAt w v l.length fun b o => DeIn w l b o) :
    Calls Tryz.prog 16 #[v, .func (.func 17) #[] #[]] w (MadeC w fun w' v' F => RowO 37 8 w' v' l.length F (fun xs F => DeO w' l xs F)) := by
  have HE := Lib.hid HE
  have HOK := Lib.hid hok
  obtain ⟨hn, ao, cap, rfl, -, hs⟩ := h
  obtain ⟨n, hnn⟩ : ∃ n, n = l.length := ⟨_, rfl⟩
  have HN := Lib.hid hnn
  have HS := Lib.hid hs
  rw [← hnn] at hn hlen HS ⊢
  have hx : (n : Int) ≤ 1000000 := by omega
  obtain ⟨i0, hi, hz0, hz1, hz2⟩ := info_parts infoDe
  clear hs hnn hok
  go_enter Tryz.func16, Tryz.ntmps16
  go_wp2_with fail
  go_loopw [5, 10] (fun vo vi wr => ∃ (i : Nat) (a : Option Addr) (c : Nat) (xs : List Value) (F : List Nat), vo = .slice a i c ∧ vi = .int .i64 (i : Int) ∧ i ≤ n ∧ Hid (wr.ownsRow w.heap.size 37 8 (.slice a i c) i xs) ∧ Hid (DeO wr (l.take i) xs F) ∧ Hid (Below w.heap.size w wr) ∧ Hid (∀ b ∈ F, w.heap.size ≤ b ∧ b < wr.heap.size ∧ some b ≠ (Value.slice a i c).ownBlock) ∧ Hid F.Nodup ∧ Hid (i = 0 → Value.slice a i c = .slice none 0 0 ∧ F = [])) (fun _ vi _ => n + 1 - (intOf vi).toNat)
  case atStart => exact ⟨0, none, 0, [], [], rfl, rfl, by omega, Lib.hid (World.ownsRow_nil _ _ _ _), Lib.hid ⟨rfl, rfl⟩, Lib.hid (Below.refl _ _), Lib.hid (by simp), Lib.hid (by simp), Lib.hid fun _ => ⟨rfl, rfl⟩⟩
  case round =>
    obtain ⟨i, a, c, xs, F, rfl, rfl, hir, HO, HP, HB, HF, HND, H0⟩ := hrel
    by_cases hii : (i : Int) < (n : Int)
    · have hi0 : (0 : Int) ≤ (i : Int) := by omega
      have hi1 : i < l.length := by have := HN.out; omega
      obtain ⟨b, o, rfl, hbw, ht⟩ := HS.out (by omega)
      obtain ⟨n0, a0, c0, op, nm, num, n1, a1, c1, n2, a2, c2, n3, a3, c3, e0, e1, e2, e3, e4, e5, e6, e7, hv⟩ := de_first ht hi1
      have hokx := HOK.out l[i] (List.getElem_mem hi1)
      have htk : l.take (i + 1) = l.take i ++ [l[i]] := (List.take_append_getElem hi1).symm
      obtain ⟨x, hxx⟩ : ∃ x, x = l[i] := ⟨_, rfl⟩
      rw [← hxx] at e0 hv hokx htk
      have HTK := Lib.hid htk
      have hbel : ∀ k, wr.cell? ⟨b, k, none⟩ = w.cell? ⟨b, k, none⟩ := fun k => HB.out.cell (p := ⟨b, k, none⟩) hbw
      have e0' := (hbel _).trans e0
      have e1' := (hbel _).trans e1
      have e2' := (hbel _).trans e2
      have e3' := (hbel _).trans e3
      have e4' := (hbel _).trans e4
      have e5' := (hbel _).trans e5
      have e6' := (hbel _).trans e6
      have e7' := (hbel _).trans e7
      have HBA : Hid (Below w.heap.size w (wr.alloc (.cells #[.string x.1, .slice a0 n0 c0, .int .i64 op, .string nm, .int .i64 num, .slice a1 n1 c1, .slice a2 n2 c2, .slice a3 n3 c3] 37))) := Lib.hid (HB.out.alloc HB.out.size _)
      have HC := Lib.hid (HE.out x hokx _ (wr.alloc (.cells #[.string x.1, .slice a0 n0 c0, .int .i64 op, .string nm, .int .i64 num, .slice a1 n1 c1, .slice a2 n2 c2, .slice a3 n3 c3] 37)) (hv.below HBA.out))
      clear hbel e0 e1 e2 e3 e4 e5 e6 e7 ht hv hokx htk hxx hi1
      go_wp2_with fail
      refine HC.out.mono ?_
      rintro e w2 ⟨vz, Fz, rfl, hQ, hbz, hfz, hnz⟩
      obtain ⟨n0z, a0z, c0z, opz, nmz, numz, n1z, a1z, c1z, n2z, a2z, c2z, n3z, a3z, c3z, rfl, hOz⟩ := hQ
      have hs1 : wr.heap.size + 1 ≤ w2.heap.size := by have := hbz.size; simpa using this
      have HBZ := Lib.hid hbz
      have HFZ := Lib.hid hfz
      have HNZ := Lib.hid hnz
      have HOZ := Lib.hid hOz
      have oA : (w2.alloc (.cells #[.string x.1, .slice a0z n0z c0z, .int .i64 opz, .string nmz, .int .i64 numz, .slice a1z n1z c1z, .slice a2z n2z c2z, .slice a3z n3z c3z] 37)).ownsRow w.heap.size 37 8 (.slice a i c) i xs := owns_below (owns_below (owns_below HO.out ((Below.refl _ wr).alloc (Nat.le_refl _) (.cells #[.string x.1, .slice a0 n0 c0, .int .i64 op, .string nm, .int .i64 num, .slice a1 n1 c1, .slice a2 n2 c2, .slice a3 n3 c3] 37))) HBZ.out) ((Below.refl _ w2).alloc (Nat.le_refl _) (.cells #[.string x.1, .slice a0z n0z c0z, .int .i64 opz, .string nmz, .int .i64 numz, .slice a1z n1z c1z, .slice a2z n2z c2z, .slice a3z n3z c3z] 37))
      have D1 := World.news_of_block (heap_alloc_new w2 (.cells #[.string x.1, .slice a0z n0z c0z, .int .i64 opz, .string nmz, .int .i64 numz, .slice a1z n1z c1z, .slice a2z n2z c2z, .slice a3z n3z c3z] 37))
      have D2 : ∀ u ∈ ([.string x.1, .slice a0z n0z c0z, .int .i64 opz, .string nmz, .int .i64 numz, .slice a1z n1z c1z, .slice a2z n2z c2z, .slice a3z n3z c3z] : List Value), u.oneCell' = true := by
        intro u hu
        simp only [List.mem_cons, List.not_mem_nil, or_false] at hu
        rcases hu with rfl | rfl | rfl | rfl | rfl | rfl | rfl | rfl <;> rfl
      have D3 : i + 1 ≤ maxLen := by unfold maxLen; omega
      have D4 : (i + 1) * 144 ≤ 140737488355328 := by omega
      have D5 : w.heap.size ≤ (w2.alloc (.cells #[.string x.1, .slice a0z n0z c0z, .int .i64 opz, .string nmz, .int .i64 numz, .slice a1z n1z c1z, .slice a2z n2z c2z, .slice a3z n3z c3z] 37)).heap.size := by have := HB.out.size; simp; omega
      have D6 : (w2.alloc (.cells #[.string x.1, .slice a0z n0z c0z, .int .i64 opz, .string nmz, .int .i64 numz, .slice a1z n1z c1z, .slice a2z n2z c2z, .slice a3z n3z c3z] 37)).heap.size = w2.heap.size + 1 := by simp
      clear hbz hfz hnz hOz HC
      go_wp2_with (first
        | (at_builtin; refine wpList_append_lies _ rfl _ _ 23 rfl w.heap.size 37 i0 (.agg #[.string ⟨#[]⟩, .slice none 0 0, .int .i64 0, .string ⟨#[]⟩, .int .i64 0, .slice none 0 0, .slice none 0 0, .slice none 0 0]) 8 144 Tryz.underlying23 hi hz0 hz1 hz2 rfl (by decide) (.slice a i c) i xs rfl oA ⟨w2.heap.size, 0, none⟩ 1 1 [.string x.1, .slice a0z n0z c0z, .int .i64 opz, .string nmz, .int .i64 numz, .slice a1z n1z c1z, .slice a2z n2z c2z, .slice a3z n3z c3z] rfl rfl D1 D2 (by decide) D3 D4 D5 (w2.heap.size + 1) D6 ?_
           intro g cap4 w4 oA4 gr4 hg4 hlt4
           have hst := clone_step (n := i + 1) (cap := cap4) HF.out HND.out (own_lt HO.out) HB.out HBZ.out HFZ.out HNZ.out gr4 hg4 hlt4
           have OA4 := Lib.hid oA4
           have HST := Lib.hid hst
           clear oA4 gr4 hg4 hlt4 hst))
      go_roundw
      case rel =>
        obtain ⟨p1, p2, p3, p4, p5⟩ := HST.out
        exact ⟨i + 1, some ⟨g, 0, none⟩, cap4, xs ++ [.string x.1, .slice a0z n0z c0z, .int .i64 opz, .string nmz, .int .i64 numz, .slice a1z n1z c1z, .slice a2z n2z c2z, .slice a3z n3z c3z], F ++ Fz, rfl, by go_num, by omega, OA4, Lib.hid (by rw [HTK.out]; exact DeO.app (DeO.keep HP.out p1) (DeO.keep HOZ.out p2)), Lib.hid p3, Lib.hid p4, Lib.hid p5, Lib.hid (fun h => by omega)⟩
      case measure => simp [intOf]; omega
    · have HEQ : Hid (i = n) := Lib.hid (by omega)
      go_wp2_with fail
      go_ret
      have hno := HO.out
      have hP := HP.out
      have hin := HEQ.out
      rw [List.take_of_length_le (by have := HN.out; omega)] at hP
      obtain ⟨G, g1, g2, g3⟩ := rowO_end (P := fun xs F => DeO wr l xs F) hno (fun h => (H0.out h).1) (by omega) (fun h => (H0.out h).2) hP HF.out HND.out
      exact madeC_mk (F := G) rfl (by rw [← hin]; exact g1) HB.out g2 g3
end Go.Proofs.YtledjcplbldokaaGreatDoor
