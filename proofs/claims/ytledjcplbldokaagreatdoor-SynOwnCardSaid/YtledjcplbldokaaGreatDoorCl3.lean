/- syn.cloneAll of types, expressions, alternatives. Conditions: what clones one does so. -/
import Derived.Test.YtledjcplbldokaaGreatDoorCl2
import Derived.Deep.RegionHeld3
import Derived.Deep.DrawnRows
namespace Go.Proofs.YtledjcplbldokaaGreatDoor
open Go.ChangeShapes Go.WideShapes Go.ChangeAt Go.RowKit
attribute [local go_sem ↓] Go.wp_at_zero Go.wp_at_succ

theorem owns_below {w w' : World} {B E k n : Nat} {v : Value} {xs : List Value} (h : w.ownsRow B E k v n xs) (hb : Below w.heap.size w w') : w'.ownsRow B E k v n xs := by
  refine ⟨h.1, ?_⟩
  rcases h.2 with h | ⟨g, cap, cur, h1, h2, h3, h4⟩
  · exact .inl h
  · exact .inr ⟨g, cap, cur, h1, h2, (hb.block g (Array.getElem?_eq_some_iff.1 h3).1).trans h3, h4⟩
theorem clone_step {w wr w2 w4 : World} {F Fz : List Nat} {v : Value} {g n cap : Nat} {OBJ NEW : Obj}
    (hfr : ∀ b ∈ F, w.heap.size ≤ b ∧ b < wr.heap.size ∧ some b ≠ v.ownBlock) (hnd : F.Nodup) (hv : ∀ q, v.ownBlock = some q → w.heap.size ≤ q ∧ q < wr.heap.size)
    (hb : Below w.heap.size w wr) (hbz : Below (wr.alloc OBJ).heap.size (wr.alloc OBJ) w2) (hfz : ∀ b ∈ Fz, (wr.alloc OBJ).heap.size ≤ b ∧ b < w2.heap.size) (hnz : Fz.Nodup)
    (gr : (w2.alloc NEW).grownBy w4 v.ownBlock) (hg : v.ownBlock = some g ∨ g = w2.heap.size + 1) (hlt : g < w4.heap.size) :
    KeepF wr w4 F ∧ KeepF w2 w4 Fz ∧ Below w.heap.size w w4 ∧ (∀ b ∈ F ++ Fz, w.heap.size ≤ b ∧ b < w4.heap.size ∧ some b ≠ (Value.slice (some ⟨g, 0, none⟩) n cap).ownBlock) ∧ (F ++ Fz).Nodup := by
  have s1 : wr.heap.size + 1 ≤ w2.heap.size := by have := hbz.size; simpa using this
  have s2 : w2.heap.size + 1 ≤ w4.heap.size := by have := gr.size; simpa using this
  have hz : ∀ b ∈ Fz, wr.heap.size + 1 ≤ b ∧ b < w2.heap.size := fun b hb => by have := hfz b hb; simpa using this
  have old : ∀ b, b < wr.heap.size → some b ≠ v.ownBlock → w4.heap[b]? = wr.heap[b]? := fun b h1 h2 =>
    ((gr.block b (by simp; omega) h2).trans (Below.heap_alloc w2 _ b (by omega))).trans ((hbz.block b (by simp; omega)).trans (Below.heap_alloc wr _ b h1))
  have new : ∀ b ∈ Fz, some b ≠ v.ownBlock := fun b hb e => by
    have h1 := hz b hb
    have h2 := hv b e.symm
    omega
  refine ⟨⟨by omega, fun b hb => old b (hfr b hb).2.1 (hfr b hb).2.2⟩, ⟨by omega, fun b hb => ?_⟩, ?_, fun b hbm => ?_, ?_⟩
  · exact (gr.block b (by have := hz b hb; simp; omega) (new b hb)).trans (Below.heap_alloc w2 _ b (hz b hb).2)
  · refine Below.grown (((hb.alloc hb.size OBJ).trans (hbz.mono (by have := hb.size; simp; omega))).alloc (by have := hb.size; omega) NEW) gr (by have := hb.size; simp; omega) fun q hq => (hv q hq).1
  · have hgg : ∀ c, c ≠ g → some c ≠ (Value.slice (some ⟨g, 0, none⟩) n cap).ownBlock := fun c hc e => by
      simp only [Value.ownBlock] at e
      injection e with e
      exact hc e
    rcases List.mem_append.1 hbm with h | h
    · obtain ⟨h1, h2, h3⟩ := hfr b h
      refine ⟨h1, by omega, hgg b fun e => ?_⟩
      rcases hg with hg | hg
      · rw [hg, e] at h3; exact h3 rfl
      · omega
    · have h1 := hz b h
      have h2 := hb.size
      refine ⟨by omega, by omega, hgg b fun e => ?_⟩
      rcases hg with hg | hg
      · have := hv g hg; omega
      · omega
  · refine List.nodup_append.2 ⟨hnd, hnz, fun a ha c hc e => ?_⟩
    subst e
    have h1 := hfr a ha
    have h2 := hz a hc
    omega
theorem own_lt {w : World} {B E k n : Nat} {v : Value} {xs : List Value} (h : w.ownsRow B E k v n xs) : ∀ q, v.ownBlock = some q → B ≤ q ∧ q < w.heap.size := h.lt
theorem rowO_end {E k : Nat} {w W : World} {v : Value} {n : Nat} {xs : List Value} {F : List Nat} {P : List Value → List Nat → Prop} (ho : W.ownsRow w.heap.size E k v n xs) (hv : n = 0 → v = .slice none 0 0) (hn : n ≤ reach) (hF : n = 0 → F = []) (hP : P xs F)
    (hfr : ∀ b ∈ F, w.heap.size ≤ b ∧ b < W.heap.size ∧ some b ≠ v.ownBlock) (hnd : F.Nodup) : ∃ G, RowO E k W v n G P ∧ (∀ b ∈ G, w.heap.size ≤ b ∧ b < W.heap.size) ∧ G.Nodup := by
  rcases Nat.eq_zero_or_pos n with h0 | h0
  · exact ⟨[], .inl ⟨h0, hv h0, rfl⟩, by simp, by simp⟩
  · have hno := ho
    rcases hno.2 with ⟨-, e1⟩ | ⟨g, cap', cur, rfl, hg, hgg, _⟩
    · omega
    · have hgl := (Array.getElem?_eq_some_iff.1 hgg).1
      refine ⟨g :: F, .inr ⟨h0, hn, g, cap', xs, F, rfl, owns_zero ho, hP, rfl⟩, fun b hb => ?_, List.nodup_cons.2 ⟨fun h => (hfr g h).2.2 rfl, hnd⟩⟩
      rcases List.mem_cons.1 hb with rfl | h
      · exact ⟨hg, hgl⟩
      · exact ⟨(hfr b h).1, (hfr b h).2.1⟩
set_option maxRecDepth 100000 in
set_option maxHeartbeats 8000000 in
theorem cloneAllTy_any (m : Nat) (HE : ∀ (nm : ByteArray) (args : Ty), (.node nm args .nil : Ty).cost ≤ m → ∀ (v : Value) (w : World), TyV w (.node nm args .nil) v → Calls Tryz.prog 63 #[v] w (MadeC w (TyQ nm args))) :
    ∀ f : Ty, f.cost ≤ m → f.len ≤ 1000000 → ∀ (v : Value) (w : World), (SlAt w v f.len fun b o => TyIn w f b o 0) → Calls Tryz.prog 62 #[v, .func (.func 63) #[] #[]] w (MadeC w fun w' v' F => RowO 50 2 w' v' f.len F (fun xs F => TyO w' f xs F)) := by
  intro f hcost hlen v w h
  have HE := Lib.hid HE
  obtain ⟨hn, ao, cap, rfl, -, hs⟩ := h
  obtain ⟨n, hnn⟩ : ∃ n, n = f.len := ⟨_, rfl⟩
  have HN := Lib.hid hnn
  have HIN0 : Hid (0 < f.len → ∃ b o, ao = some ⟨b, o, none⟩ ∧ b < w.heap.size ∧ TyIn w f b o 0) := Lib.hid hs
  rw [← hnn] at hn hlen ⊢
  have hx : (n : Int) ≤ 1000000 := by omega
  have HCO := Lib.hid hcost
  skip
  obtain ⟨i0, hi, hz0, hz1, hz2⟩ := info_parts infoTy
  clear hs hnn hcost 
  go_enter Tryz.func62, Tryz.ntmps62
  go_wp2_with fail
  go_loopw [5, 10] (fun vo vi wr => ∃ (i : Nat) (a : Option Addr) (c : Nat) (xs : List Value) (F : List Nat) (D r : Ty), vo = .slice a i c ∧ vi = .int .i64 (i : Int) ∧ i + r.len = n ∧ Hid (D.app r = f) ∧ Hid (wr.ownsRow w.heap.size 50 2 (.slice a i c) i xs) ∧ Hid (TyO wr D xs F) ∧ Hid (Below w.heap.size w wr) ∧ Hid (∀ b ∈ F, w.heap.size ≤ b ∧ b < wr.heap.size ∧ some b ≠ (Value.slice a i c).ownBlock) ∧ Hid F.Nodup ∧ Hid (i = 0 → Value.slice a i c = .slice none 0 0 ∧ F = []) ∧ Hid (r.cost ≤ m) ∧ Hid (0 < r.len → ∃ b o, ao = some ⟨b, o, none⟩ ∧ b < w.heap.size ∧ TyIn w r b o i)) (fun _ vi _ => n + 1 - (intOf vi).toNat)
  case atStart => exact ⟨0, none, 0, [], [], .nil, f, rfl, rfl, by rw [Nat.zero_add]; exact HN.out.symm, Lib.hid rfl, Lib.hid (World.ownsRow_nil _ _ _ _), Lib.hid ⟨rfl, rfl⟩, Lib.hid (Below.refl _ _), Lib.hid (by simp), Lib.hid (by simp), Lib.hid fun _ => ⟨rfl, rfl⟩, HCO, HIN0⟩
  case round =>
    clear HCO HIN0 
    obtain ⟨i, a, c, xs, F, D, r, rfl, rfl, hir, HD, HO, HP, HB, HF, HND, H0, HCO, HIN⟩ := hrel
    cases r with
    | nil =>
      simp only [Ty.len, Nat.add_zero] at hir
      have hii : ¬ (i : Int) < (n : Int) := by omega
      have HEQ := Lib.hid hir
      go_wp2_with fail
      go_ret
      have hDf : D = f := by rw [← HD.out, Ty.app_nil]
      have hno := HO.out
      have hP := HP.out
      rw [hDf] at hP
      have hin := HEQ.out
      obtain ⟨G, g1, g2, g3⟩ := rowO_end (P := fun xs F => TyO wr f xs F) hno (fun h => (H0.out h).1) (by omega) (fun h => (H0.out h).2) hP HF.out HND.out
      exact madeC_mk (F := G) rfl (by rw [← hin]; exact g1) HB.out g2 g3
    | node nm args r =>
      simp only [Ty.len] at hir
      obtain ⟨b, o, rfl, hbw, ht⟩ := HIN.out (by simp only [Ty.len]; omega)
      obtain ⟨n1, a1, c1, e0, e1, hv, hr⟩ := ty_first ht
      have hbel : ∀ k, wr.cell? ⟨b, k, none⟩ = w.cell? ⟨b, k, none⟩ := fun k => HB.out.cell (p := ⟨b, k, none⟩) hbw
      have e0' := (hbel _).trans e0
      have e1' := (hbel _).trans e1
      have hii : (i : Int) < (n : Int) := by omega
      have hi0 : (0 : Int) ≤ (i : Int) := by omega
      have HBA : Hid (Below w.heap.size w (wr.alloc (.cells #[.string nm, .slice a1 n1 c1] 50))) := Lib.hid (HB.out.alloc HB.out.size _)
      have HC := Lib.hid (HE.out nm args (by have := HCO.out; simp only [Ty.cost] at this ⊢; omega) _ (wr.alloc (.cells #[.string nm, .slice a1 n1 c1] 50)) (hv.below HBA.out))
      have HRR := Lib.hid hr
      clear hbel e0 e1 ht hv hr
      go_wp2_with fail
      refine HC.out.mono ?_
      rintro e w2 ⟨vz, Fz, rfl, hQ, hbz, hfz, hnz⟩
      obtain ⟨n1z, a1z, c1z, rfl, hOz⟩ := hQ
      have hs1 : wr.heap.size + 1 ≤ w2.heap.size := by have := hbz.size; simpa using this
      have HBZ := Lib.hid hbz
      have HFZ := Lib.hid hfz
      have HNZ := Lib.hid hnz
      have HOZ := Lib.hid hOz
      have oA : (w2.alloc (.cells #[.string nm, .slice a1z n1z c1z] 50)).ownsRow w.heap.size 50 2 (.slice a i c) i xs := owns_below (owns_below (owns_below HO.out ((Below.refl _ wr).alloc (Nat.le_refl _) (.cells #[.string nm, .slice a1 n1 c1] 50))) HBZ.out) ((Below.refl _ w2).alloc (Nat.le_refl _) (.cells #[.string nm, .slice a1z n1z c1z] 50))
      have D1 := World.news_of_block (heap_alloc_new w2 (.cells #[.string nm, .slice a1z n1z c1z] 50))
      have D2 : ∀ u ∈ ([.string nm, .slice a1z n1z c1z] : List Value), u.oneCell' = true := by
        intro u hu
        simp only [List.mem_cons, List.not_mem_nil, or_false] at hu
        rcases hu with rfl | rfl <;> rfl
      have D3 : i + 1 ≤ maxLen := by unfold maxLen; omega
      have D4 : (i + 1) * 40 ≤ 140737488355328 := by omega
      have D5 : w.heap.size ≤ (w2.alloc (.cells #[.string nm, .slice a1z n1z c1z] 50)).heap.size := by have := HB.out.size; simp; omega
      have D6 : (w2.alloc (.cells #[.string nm, .slice a1z n1z c1z] 50)).heap.size = w2.heap.size + 1 := by simp
      clear hbz hfz hnz hOz HC
      go_wp2_with (first
        | (at_builtin; refine wpList_append_lies _ rfl _ _ 46 rfl w.heap.size 50 i0 (.agg #[.string ⟨#[]⟩, .slice none 0 0]) 2 40 Tryz.underlying46 hi hz0 hz1 hz2 rfl (by decide) (.slice a i c) i xs rfl oA ⟨w2.heap.size, 0, none⟩ 1 1 [.string nm, .slice a1z n1z c1z] rfl rfl D1 D2 (by decide) D3 D4 D5 (w2.heap.size + 1) D6 ?_
           intro g cap4 w4 oA4 gr4 hg4 hlt4
           have hst := clone_step (n := i + 1) (cap := cap4) HF.out HND.out (own_lt HO.out) HB.out HBZ.out HFZ.out HNZ.out gr4 hg4 hlt4
           have OA4 := Lib.hid oA4
           have HST := Lib.hid hst
           clear oA4 gr4 hg4 hlt4 hst))
      go_roundw
      case rel =>
        obtain ⟨p1, p2, p3, p4, p5⟩ := HST.out
        refine ⟨i + 1, some ⟨g, 0, none⟩, cap4, xs ++ [.string nm, .slice a1z n1z c1z], F ++ Fz, D.app (.node nm args .nil), r, rfl, by go_num, by omega, Lib.hid ?_, OA4, Lib.hid (TyO.app (TyO.keep HP.out p1) (TyO.keep HOZ.out p2)), Lib.hid p3, Lib.hid p4, Lib.hid p5, Lib.hid (fun h => by omega), Lib.hid (by have := HCO.out; simp only [Ty.cost] at this; omega), Lib.hid fun _ => ⟨b, o, rfl, hbw, HRR.out⟩⟩
        rw [Ty.app_assoc]
        exact HD.out
      case measure => simp [intOf]; omega
set_option maxRecDepth 100000 in
set_option maxHeartbeats 8000000 in
theorem cloneAllEx_any (m : Nat) (HE : ∀ (op : Int) (nm : ByteArray) (num : Int) (names : List ByteArray) (L : Ex) (alts : Ex), (.expr op nm num names L alts .nil : Ex).cost ≤ m → ∀ (v : Value) (w : World), ExV w (.expr op nm num names L alts .nil) v → Calls Tryz.prog 37 #[v] w (MadeC w (ExQ op nm num names L alts))) :
    ∀ f : Ex, f.cost ≤ m → f.wf true → f.len ≤ 1000000 → ∀ (v : Value) (w : World), (SlAt w v f.len fun b o => ExIn w f b o 0) → Calls Tryz.prog 64 #[v, .func (.func 37) #[] #[]] w (MadeC w fun w' v' F => RowO 35 6 w' v' f.len F (fun xs F => ExO w' f xs F)) := by
  intro f hcost hwf hlen v w h
  have HE := Lib.hid HE
  obtain ⟨hn, ao, cap, rfl, -, hs⟩ := h
  obtain ⟨n, hnn⟩ : ∃ n, n = f.len := ⟨_, rfl⟩
  have HN := Lib.hid hnn
  have HIN0 : Hid (0 < f.len → ∃ b o, ao = some ⟨b, o, none⟩ ∧ b < w.heap.size ∧ ExIn w f b o 0) := Lib.hid hs
  rw [← hnn] at hn hlen ⊢
  have hx : (n : Int) ≤ 1000000 := by omega
  have HCO := Lib.hid hcost
  have HWF0 := Lib.hid hwf
  obtain ⟨i0, hi, hz0, hz1, hz2⟩ := info_parts infoEx
  clear hs hnn hcost hwf
  go_enter Tryz.func64, Tryz.ntmps64
  go_wp2_with fail
  go_loopw [5, 10] (fun vo vi wr => ∃ (i : Nat) (a : Option Addr) (c : Nat) (xs : List Value) (F : List Nat) (D r : Ex), vo = .slice a i c ∧ vi = .int .i64 (i : Int) ∧ i + r.len = n ∧ Hid (D.app r = f) ∧ Hid (wr.ownsRow w.heap.size 35 6 (.slice a i c) i xs) ∧ Hid (ExO wr D xs F) ∧ Hid (Below w.heap.size w wr) ∧ Hid (∀ b ∈ F, w.heap.size ≤ b ∧ b < wr.heap.size ∧ some b ≠ (Value.slice a i c).ownBlock) ∧ Hid F.Nodup ∧ Hid (i = 0 → Value.slice a i c = .slice none 0 0 ∧ F = []) ∧ Hid (r.cost ≤ m) ∧ Hid (0 < r.len → ∃ b o, ao = some ⟨b, o, none⟩ ∧ b < w.heap.size ∧ ExIn w r b o i) ∧ Hid (r.wf true)) (fun _ vi _ => n + 1 - (intOf vi).toNat)
  case atStart => exact ⟨0, none, 0, [], [], .nil, f, rfl, rfl, by rw [Nat.zero_add]; exact HN.out.symm, Lib.hid rfl, Lib.hid (World.ownsRow_nil _ _ _ _), Lib.hid ⟨rfl, rfl⟩, Lib.hid (Below.refl _ _), Lib.hid (by simp), Lib.hid (by simp), Lib.hid fun _ => ⟨rfl, rfl⟩, HCO, HIN0, HWF0⟩
  case round =>
    clear HCO HIN0 HWF0
    obtain ⟨i, a, c, xs, F, D, r, rfl, rfl, hir, HD, HO, HP, HB, HF, HND, H0, HCO, HIN, HWF⟩ := hrel
    cases r with
    | nil =>
      simp only [Ex.len, Nat.add_zero] at hir
      have hii : ¬ (i : Int) < (n : Int) := by omega
      have HEQ := Lib.hid hir
      go_wp2_with fail
      go_ret
      have hDf : D = f := by rw [← HD.out, Ex.app_nil]
      have hno := HO.out
      have hP := HP.out
      rw [hDf] at hP
      have hin := HEQ.out
      obtain ⟨G, g1, g2, g3⟩ := rowO_end (P := fun xs F => ExO wr f xs F) hno (fun h => (H0.out h).1) (by omega) (fun h => (H0.out h).2) hP HF.out HND.out
      exact madeC_mk (F := G) rfl (by rw [← hin]; exact g1) HB.out g2 g3
    | alt => exact absurd HWF.out.1 (by simp)
    | expr op nm num names L alts r =>
      simp only [Ex.len] at hir
      obtain ⟨b, o, rfl, hbw, ht⟩ := HIN.out (by simp only [Ex.len]; omega)
      obtain ⟨n1, a1, c1, n2, a2, c2, n3, a3, c3, e0, e1, e2, e3, e4, e5, hv, hr⟩ := ex_first HWF.out ht
      have hbel : ∀ k, wr.cell? ⟨b, k, none⟩ = w.cell? ⟨b, k, none⟩ := fun k => HB.out.cell (p := ⟨b, k, none⟩) hbw
      have e0' := (hbel _).trans e0
      have e1' := (hbel _).trans e1
      have e2' := (hbel _).trans e2
      have e3' := (hbel _).trans e3
      have e4' := (hbel _).trans e4
      have e5' := (hbel _).trans e5
      have hii : (i : Int) < (n : Int) := by omega
      have hi0 : (0 : Int) ≤ (i : Int) := by omega
      have HBA : Hid (Below w.heap.size w (wr.alloc (.cells #[.int .i64 op, .string nm, .int .i64 num, .slice a1 n1 c1, .slice a2 n2 c2, .slice a3 n3 c3] 35))) := Lib.hid (HB.out.alloc HB.out.size _)
      have HC := Lib.hid (HE.out op nm num names L alts (by have := HCO.out; simp only [Ex.cost] at this ⊢; omega) _ (wr.alloc (.cells #[.int .i64 op, .string nm, .int .i64 num, .slice a1 n1 c1, .slice a2 n2 c2, .slice a3 n3 c3] 35)) (hv.below HBA.out))
      have HRR := Lib.hid hr
      clear hbel e0 e1 e2 e3 e4 e5 ht hv hr
      go_wp2_with fail
      refine HC.out.mono ?_
      rintro e w2 ⟨vz, Fz, rfl, hQ, hbz, hfz, hnz⟩
      obtain ⟨n1z, a1z, c1z, n2z, a2z, c2z, n3z, a3z, c3z, rfl, hOz⟩ := hQ
      have hs1 : wr.heap.size + 1 ≤ w2.heap.size := by have := hbz.size; simpa using this
      have HBZ := Lib.hid hbz
      have HFZ := Lib.hid hfz
      have HNZ := Lib.hid hnz
      have HOZ := Lib.hid hOz
      have oA : (w2.alloc (.cells #[.int .i64 op, .string nm, .int .i64 num, .slice a1z n1z c1z, .slice a2z n2z c2z, .slice a3z n3z c3z] 35)).ownsRow w.heap.size 35 6 (.slice a i c) i xs := owns_below (owns_below (owns_below HO.out ((Below.refl _ wr).alloc (Nat.le_refl _) (.cells #[.int .i64 op, .string nm, .int .i64 num, .slice a1 n1 c1, .slice a2 n2 c2, .slice a3 n3 c3] 35))) HBZ.out) ((Below.refl _ w2).alloc (Nat.le_refl _) (.cells #[.int .i64 op, .string nm, .int .i64 num, .slice a1z n1z c1z, .slice a2z n2z c2z, .slice a3z n3z c3z] 35))
      have D1 := World.news_of_block (heap_alloc_new w2 (.cells #[.int .i64 op, .string nm, .int .i64 num, .slice a1z n1z c1z, .slice a2z n2z c2z, .slice a3z n3z c3z] 35))
      have D2 : ∀ u ∈ ([.int .i64 op, .string nm, .int .i64 num, .slice a1z n1z c1z, .slice a2z n2z c2z, .slice a3z n3z c3z] : List Value), u.oneCell' = true := by
        intro u hu
        simp only [List.mem_cons, List.not_mem_nil, or_false] at hu
        rcases hu with rfl | rfl | rfl | rfl | rfl | rfl <;> rfl
      have D3 : i + 1 ≤ maxLen := by unfold maxLen; omega
      have D4 : (i + 1) * 104 ≤ 140737488355328 := by omega
      have D5 : w.heap.size ≤ (w2.alloc (.cells #[.int .i64 op, .string nm, .int .i64 num, .slice a1z n1z c1z, .slice a2z n2z c2z, .slice a3z n3z c3z] 35)).heap.size := by have := HB.out.size; simp; omega
      have D6 : (w2.alloc (.cells #[.int .i64 op, .string nm, .int .i64 num, .slice a1z n1z c1z, .slice a2z n2z c2z, .slice a3z n3z c3z] 35)).heap.size = w2.heap.size + 1 := by simp
      clear hbz hfz hnz hOz HC
      go_wp2_with (first
        | (at_builtin; refine wpList_append_lies _ rfl _ _ 32 rfl w.heap.size 35 i0 (.agg #[.int .i64 0, .string ⟨#[]⟩, .int .i64 0, .slice none 0 0, .slice none 0 0, .slice none 0 0]) 6 104 Tryz.underlying32 hi hz0 hz1 hz2 rfl (by decide) (.slice a i c) i xs rfl oA ⟨w2.heap.size, 0, none⟩ 1 1 [.int .i64 op, .string nm, .int .i64 num, .slice a1z n1z c1z, .slice a2z n2z c2z, .slice a3z n3z c3z] rfl rfl D1 D2 (by decide) D3 D4 D5 (w2.heap.size + 1) D6 ?_
           intro g cap4 w4 oA4 gr4 hg4 hlt4
           have hst := clone_step (n := i + 1) (cap := cap4) HF.out HND.out (own_lt HO.out) HB.out HBZ.out HFZ.out HNZ.out gr4 hg4 hlt4
           have OA4 := Lib.hid oA4
           have HST := Lib.hid hst
           clear oA4 gr4 hg4 hlt4 hst))
      go_roundw
      case rel =>
        obtain ⟨p1, p2, p3, p4, p5⟩ := HST.out
        refine ⟨i + 1, some ⟨g, 0, none⟩, cap4, xs ++ [.int .i64 op, .string nm, .int .i64 num, .slice a1z n1z c1z, .slice a2z n2z c2z, .slice a3z n3z c3z], F ++ Fz, D.app (.expr op nm num names L alts .nil), r, rfl, by go_num, by omega, Lib.hid ?_, OA4, Lib.hid (ExO.app (ExO.keep HP.out p1) (ExO.keep HOZ.out p2)), Lib.hid p3, Lib.hid p4, Lib.hid p5, Lib.hid (fun h => by omega), Lib.hid (by have := HCO.out; simp only [Ex.cost] at this; omega), Lib.hid fun _ => ⟨b, o, rfl, hbw, HRR.out⟩, Lib.hid (ex_wf HWF.out).2.2⟩
        rw [Ex.app_assoc]
        exact HD.out
      case measure => simp [intOf]; omega
set_option maxRecDepth 100000 in
set_option maxHeartbeats 8000000 in
theorem cloneAllAl_any (m : Nat) (HE : ∀ (take : Int) (anm : ByteArray) (anum : Int) (anames : List ByteArray) (ae : Ex), (.alt take anm anum anames ae .nil : Ex).cost ≤ m → ∀ (v : Value) (w : World), AlV w (.alt take anm anum anames ae .nil) v → Calls Tryz.prog 66 #[v] w (MadeC w (AlQ take anm anum anames ae))) :
    ∀ f : Ex, f.cost ≤ m → f.wf false → f.len ≤ 1000000 → ∀ (v : Value) (w : World), (SlAt w v f.len fun b o => ExIn w f b o 0) → Calls Tryz.prog 65 #[v, .func (.func 66) #[] #[]] w (MadeC w fun w' v' F => RowO 83 10 w' v' f.len F (fun xs F => ExO w' f xs F)) := by
  intro f hcost hwf hlen v w h
  have HE := Lib.hid HE
  obtain ⟨hn, ao, cap, rfl, -, hs⟩ := h
  obtain ⟨n, hnn⟩ : ∃ n, n = f.len := ⟨_, rfl⟩
  have HN := Lib.hid hnn
  have HIN0 : Hid (0 < f.len → ∃ b o, ao = some ⟨b, o, none⟩ ∧ b < w.heap.size ∧ ExIn w f b o 0) := Lib.hid hs
  rw [← hnn] at hn hlen ⊢
  have hx : (n : Int) ≤ 1000000 := by omega
  have HCO := Lib.hid hcost
  have HWF0 := Lib.hid hwf
  obtain ⟨i0, hi, hz0, hz1, hz2⟩ := info_parts infoAl
  clear hs hnn hcost hwf
  go_enter Tryz.func65, Tryz.ntmps65
  go_wp2_with fail
  go_loopw [5, 10] (fun vo vi wr => ∃ (i : Nat) (a : Option Addr) (c : Nat) (xs : List Value) (F : List Nat) (D r : Ex), vo = .slice a i c ∧ vi = .int .i64 (i : Int) ∧ i + r.len = n ∧ Hid (D.app r = f) ∧ Hid (wr.ownsRow w.heap.size 83 10 (.slice a i c) i xs) ∧ Hid (ExO wr D xs F) ∧ Hid (Below w.heap.size w wr) ∧ Hid (∀ b ∈ F, w.heap.size ≤ b ∧ b < wr.heap.size ∧ some b ≠ (Value.slice a i c).ownBlock) ∧ Hid F.Nodup ∧ Hid (i = 0 → Value.slice a i c = .slice none 0 0 ∧ F = []) ∧ Hid (r.cost ≤ m) ∧ Hid (0 < r.len → ∃ b o, ao = some ⟨b, o, none⟩ ∧ b < w.heap.size ∧ ExIn w r b o i) ∧ Hid (r.wf false)) (fun _ vi _ => n + 1 - (intOf vi).toNat)
  case atStart => exact ⟨0, none, 0, [], [], .nil, f, rfl, rfl, by rw [Nat.zero_add]; exact HN.out.symm, Lib.hid rfl, Lib.hid (World.ownsRow_nil _ _ _ _), Lib.hid ⟨rfl, rfl⟩, Lib.hid (Below.refl _ _), Lib.hid (by simp), Lib.hid (by simp), Lib.hid fun _ => ⟨rfl, rfl⟩, HCO, HIN0, HWF0⟩
  case round =>
    clear HCO HIN0 HWF0
    obtain ⟨i, a, c, xs, F, D, r, rfl, rfl, hir, HD, HO, HP, HB, HF, HND, H0, HCO, HIN, HWF⟩ := hrel
    cases r with
    | nil =>
      simp only [Ex.len, Nat.add_zero] at hir
      have hii : ¬ (i : Int) < (n : Int) := by omega
      have HEQ := Lib.hid hir
      go_wp2_with fail
      go_ret
      have hDf : D = f := by rw [← HD.out, Ex.app_nil]
      have hno := HO.out
      have hP := HP.out
      rw [hDf] at hP
      have hin := HEQ.out
      obtain ⟨G, g1, g2, g3⟩ := rowO_end (P := fun xs F => ExO wr f xs F) hno (fun h => (H0.out h).1) (by omega) (fun h => (H0.out h).2) hP HF.out HND.out
      exact madeC_mk (F := G) rfl (by rw [← hin]; exact g1) HB.out g2 g3
    | expr => exact absurd HWF.out.1 (by simp)
    | alt take anm anum anames ae r =>
      simp only [Ex.len] at hir
      obtain ⟨b, o, rfl, hbw, ht⟩ := HIN.out (by simp only [Ex.len]; omega)
      obtain ⟨n0, a0, c0, op, nm, num, n1, a1, c1, n2, a2, c2, n3, a3, c3, e0, e1, e2, e3, e4, e5, e6, e7, e8, e9, hv, hr⟩ := al_first HWF.out ht
      have hbel : ∀ k, wr.cell? ⟨b, k, none⟩ = w.cell? ⟨b, k, none⟩ := fun k => HB.out.cell (p := ⟨b, k, none⟩) hbw
      have e0' := (hbel _).trans e0
      have e1' := (hbel _).trans e1
      have e2' := (hbel _).trans e2
      have e3' := (hbel _).trans e3
      have e4' := (hbel _).trans e4
      have e5' := (hbel _).trans e5
      have e6' := (hbel _).trans e6
      have e7' := (hbel _).trans e7
      have e8' := (hbel _).trans e8
      have e9' := (hbel _).trans e9
      have hii : (i : Int) < (n : Int) := by omega
      have hi0 : (0 : Int) ≤ (i : Int) := by omega
      have HBA : Hid (Below w.heap.size w (wr.alloc (.cells #[.int .i64 take, .string anm, .int .i64 anum, .slice a0 n0 c0, .int .i64 op, .string nm, .int .i64 num, .slice a1 n1 c1, .slice a2 n2 c2, .slice a3 n3 c3] 83))) := Lib.hid (HB.out.alloc HB.out.size _)
      have HC := Lib.hid (HE.out take anm anum anames ae (by have := HCO.out; simp only [Ex.cost] at this ⊢; omega) _ (wr.alloc (.cells #[.int .i64 take, .string anm, .int .i64 anum, .slice a0 n0 c0, .int .i64 op, .string nm, .int .i64 num, .slice a1 n1 c1, .slice a2 n2 c2, .slice a3 n3 c3] 83)) (hv.below HBA.out))
      have HRR := Lib.hid hr
      clear hbel e0 e1 e2 e3 e4 e5 e6 e7 e8 e9 ht hv hr
      go_wp2_with fail
      refine HC.out.mono ?_
      rintro e w2 ⟨vz, Fz, rfl, hQ, hbz, hfz, hnz⟩
      obtain ⟨n0z, a0z, c0z, opz, nmz, numz, n1z, a1z, c1z, n2z, a2z, c2z, n3z, a3z, c3z, rfl, hOz⟩ := hQ
      have hs1 : wr.heap.size + 1 ≤ w2.heap.size := by have := hbz.size; simpa using this
      have HBZ := Lib.hid hbz
      have HFZ := Lib.hid hfz
      have HNZ := Lib.hid hnz
      have HOZ := Lib.hid hOz
      have oA : (w2.alloc (.cells #[.int .i64 take, .string anm, .int .i64 anum, .slice a0z n0z c0z, .int .i64 opz, .string nmz, .int .i64 numz, .slice a1z n1z c1z, .slice a2z n2z c2z, .slice a3z n3z c3z] 83)).ownsRow w.heap.size 83 10 (.slice a i c) i xs := owns_below (owns_below (owns_below HO.out ((Below.refl _ wr).alloc (Nat.le_refl _) (.cells #[.int .i64 take, .string anm, .int .i64 anum, .slice a0 n0 c0, .int .i64 op, .string nm, .int .i64 num, .slice a1 n1 c1, .slice a2 n2 c2, .slice a3 n3 c3] 83))) HBZ.out) ((Below.refl _ w2).alloc (Nat.le_refl _) (.cells #[.int .i64 take, .string anm, .int .i64 anum, .slice a0z n0z c0z, .int .i64 opz, .string nmz, .int .i64 numz, .slice a1z n1z c1z, .slice a2z n2z c2z, .slice a3z n3z c3z] 83))
      have D1 := World.news_of_block (heap_alloc_new w2 (.cells #[.int .i64 take, .string anm, .int .i64 anum, .slice a0z n0z c0z, .int .i64 opz, .string nmz, .int .i64 numz, .slice a1z n1z c1z, .slice a2z n2z c2z, .slice a3z n3z c3z] 83))
      have D2 : ∀ u ∈ ([.int .i64 take, .string anm, .int .i64 anum, .slice a0z n0z c0z, .int .i64 opz, .string nmz, .int .i64 numz, .slice a1z n1z c1z, .slice a2z n2z c2z, .slice a3z n3z c3z] : List Value), u.oneCell' = true := by
        intro u hu
        simp only [List.mem_cons, List.not_mem_nil, or_false] at hu
        rcases hu with rfl | rfl | rfl | rfl | rfl | rfl | rfl | rfl | rfl | rfl <;> rfl
      have D3 : i + 1 ≤ maxLen := by unfold maxLen; omega
      have D4 : (i + 1) * 160 ≤ 140737488355328 := by omega
      have D5 : w.heap.size ≤ (w2.alloc (.cells #[.int .i64 take, .string anm, .int .i64 anum, .slice a0z n0z c0z, .int .i64 opz, .string nmz, .int .i64 numz, .slice a1z n1z c1z, .slice a2z n2z c2z, .slice a3z n3z c3z] 83)).heap.size := by have := HB.out.size; simp; omega
      have D6 : (w2.alloc (.cells #[.int .i64 take, .string anm, .int .i64 anum, .slice a0z n0z c0z, .int .i64 opz, .string nmz, .int .i64 numz, .slice a1z n1z c1z, .slice a2z n2z c2z, .slice a3z n3z c3z] 83)).heap.size = w2.heap.size + 1 := by simp
      clear hbz hfz hnz hOz HC
      go_wp2_with (first
        | (at_builtin; refine wpList_append_lies _ rfl _ _ 33 rfl w.heap.size 83 i0 (.agg #[.int .i64 0, .string ⟨#[]⟩, .int .i64 0, .slice none 0 0, .int .i64 0, .string ⟨#[]⟩, .int .i64 0, .slice none 0 0, .slice none 0 0, .slice none 0 0]) 10 160 Tryz.underlying33 hi hz0 hz1 hz2 rfl (by decide) (.slice a i c) i xs rfl oA ⟨w2.heap.size, 0, none⟩ 1 1 [.int .i64 take, .string anm, .int .i64 anum, .slice a0z n0z c0z, .int .i64 opz, .string nmz, .int .i64 numz, .slice a1z n1z c1z, .slice a2z n2z c2z, .slice a3z n3z c3z] rfl rfl D1 D2 (by decide) D3 D4 D5 (w2.heap.size + 1) D6 ?_
           intro g cap4 w4 oA4 gr4 hg4 hlt4
           have hst := clone_step (n := i + 1) (cap := cap4) HF.out HND.out (own_lt HO.out) HB.out HBZ.out HFZ.out HNZ.out gr4 hg4 hlt4
           have OA4 := Lib.hid oA4
           have HST := Lib.hid hst
           clear oA4 gr4 hg4 hlt4 hst))
      go_roundw
      case rel =>
        obtain ⟨p1, p2, p3, p4, p5⟩ := HST.out
        refine ⟨i + 1, some ⟨g, 0, none⟩, cap4, xs ++ [.int .i64 take, .string anm, .int .i64 anum, .slice a0z n0z c0z, .int .i64 opz, .string nmz, .int .i64 numz, .slice a1z n1z c1z, .slice a2z n2z c2z, .slice a3z n3z c3z], F ++ Fz, D.app (.alt take anm anum anames ae .nil), r, rfl, by go_num, by omega, Lib.hid ?_, OA4, Lib.hid (ExO.app (ExO.keep HP.out p1) (ExO.keep HOZ.out p2)), Lib.hid p3, Lib.hid p4, Lib.hid p5, Lib.hid (fun h => by omega), Lib.hid (by have := HCO.out; simp only [Ex.cost] at this; omega), Lib.hid fun _ => ⟨b, o, rfl, hbw, HRR.out⟩, Lib.hid (al_wf HWF.out).2.2⟩
        rw [Ex.app_assoc]
        exact HD.out
      case measure => simp [intOf]; omega
end Go.Proofs.YtledjcplbldokaaGreatDoor
