/- syn.Clone: a program in new rows. Conditions: lengths. -/
import Derived.Test.YtledjcplbldokaaGreatDoorCl6
import Derived.Deep.RegionHeld3
import Derived.Deep.DrawnRows
namespace Go.Proofs.YtledjcplbldokaaGreatDoor
open Go.ChangeShapes Go.WideShapes Go.ChangeAt Go.RowKit
attribute [local go_sem ↓] Go.wp_at_zero Go.wp_at_succ

theorem sizePr (a b : Value) : (Tryz.prog.info? 25).map (·.size) = some (#[a, b] : Array Value).size := by
  show _ = some 2
  kernel_rfl
/-- A program in new rows. -/
def PrQ (ds : List Da) (fs : List De) (w : World) (v : Value) (F : List Nat) : Prop := ∃ n1 a1 c1 n2 a2 c2 F1 F2, v = .agg #[.slice a1 n1 c1, .slice a2 n2 c2] ∧ RowO 45 3 w (.slice a1 n1 c1) ds.length F1 (fun xs F => DaO w ds xs F) ∧ RowO 37 8 w (.slice a2 n2 c2) fs.length F2 (fun xs F => DeO w fs xs F) ∧ F = F1 ++ F2
set_option maxRecDepth 100000 in
set_option maxHeartbeats 8000000 in
theorem Clone_any (ds : List Da) (fs : List De) (v : Value) (w : World) (hp : PrV w ds fs v) (hd : ∀ x ∈ ds, okDa x) (hf : ∀ x ∈ fs, okDe x) (hld : ds.length ≤ 1000000) (hlf : fs.length ≤ 1000000) :
    Calls Tryz.prog 6 #[v] w (MadeC w (PrQ ds fs)) := by
  obtain ⟨v1, v2, rfl, h1, h2⟩ := hp
  obtain ⟨nd, ad, cd, -, rfl⟩ := sl_form h1
  obtain ⟨nf, af, cf, -, rfl⟩ := sl_form h2
  have HD := Lib.hid h1
  have HF := Lib.hid h2
  have HOK := Lib.hid (And.intro hd (And.intro hf (And.intro hld hlf)))
  clear h1 h2 hd hf hld hlf
  have HB0 : Hid (Below w.heap.size w ((w.alloc (.cells #[.slice ad nd cd, .slice af nf cf] 25)).alloc (.cells #[.slice none 0 0, .slice none 0 0] 25))) := Lib.hid (((Below.refl _ w).alloc (Nat.le_refl _) _).alloc (by simp) _)
  have hA := box2a w #[.slice ad nd cd, .slice af nf cf] #[.slice none 0 0, .slice none 0 0] 25 25
  have hB := box2b w #[.slice ad nd cd, .slice af nf cf] #[.slice none 0 0, .slice none 0 0] 25 25
  have A0 := hA 0 (.slice ad nd cd) rfl
  have A1 := hA 1 (.slice af nf cf) rfl
  have Z0 := hB 0 (.slice none 0 0) rfl
  have Z1 := hB 1 (.slice none 0 0) rfl
  clear hA hB
  have hr := heap_alloc_new (w.alloc (.cells #[.slice ad nd cd, .slice af nf cf] 25)) (.cells #[.slice none 0 0, .slice none 0 0] 25)
  have hs : (w.alloc (.cells #[.slice ad nd cd, .slice af nf cf] 25)).heap.size = w.heap.size + 1 := by simp
  rw [hs] at hr
  have hZF : ∀ j, ((w.alloc (.cells #[.slice ad nd cd, .slice af nf cf] 25)).alloc (.cells #[.slice none 0 0, .slice none 0 0] 25)).frozen? ⟨w.heap.size + 1, j, none⟩ = false := fun j => World.frozen?_alloc2_new _ _ _ _
  have ZF := hZF 0
  have ZF1 := hZF 1
  clear hZF
  have HR := Lib.hid hr
  clear hr hs
  have HSZ : Hid (w.heap.size < ((w.alloc (.cells #[.slice ad nd cd, .slice af nf cf] 25)).alloc (.cells #[.slice none 0 0, .slice none 0 0] 25)).heap.size ∧ w.heap.size + 1 < ((w.alloc (.cells #[.slice ad nd cd, .slice af nf cf] 25)).alloc (.cells #[.slice none 0 0, .slice none 0 0] 25)).heap.size) := Lib.hid (by simp <;> omega)
  have HC1 := Lib.hid (show ∀ w', Below w.heap.size w w' → Calls Tryz.prog 14 #[.slice ad nd cd, .func (.func 15) #[] #[]] w' (MadeC w' fun q v' F => RowO 45 3 q v' ds.length F (fun xs F => DaO q ds xs F)) from fun w' hb => cloneAllDa_any cloneData_any ds HOK.out.1 HOK.out.2.2.1 _ w' (HD.out.mono hb.size fun _ _ p q => DaIn.below hb p q))
  have HC2 := Lib.hid (show ∀ w', Below w.heap.size w w' → Calls Tryz.prog 16 #[.slice af nf cf, .func (.func 17) #[] #[]] w' (MadeC w' fun q v' F => RowO 37 8 q v' fs.length F (fun xs F => DeO q fs xs F)) from fun w' hb => cloneAllDe_any cloneDef_any fs HOK.out.2.1 HOK.out.2.2.2 _ w' (HF.out.mono hb.size fun _ _ p q => DeIn.below hb p q))
  go_enter Tryz.func6, Tryz.ntmps6
  go_wp2_with fail
  go_region_held3 (fun w' => w'.cell? ⟨w.heap.size, 0, none⟩ = some (.slice ad nd cd) ∧ w'.cell? ⟨w.heap.size, 1, none⟩ = some (.slice af nf cf)) (first | go_keep | (simp [*]; done) | (refine ⟨?_, ?_⟩ <;> (first | assumption | (rw [HKK.out.cell (p := ⟨w.heap.size, _, none⟩) HSZ.out.1]; assumption) | (rw [HKK.out.cell (p := ⟨w.heap.size + 1, _, none⟩) HSZ.out.2]; assumption) | (rw [HKK.out.frozen (p := ⟨w.heap.size + 1, _, none⟩) HSZ.out.2]; assumption)))) (first | (go_at_call 14; refine (HC1.out _ (Below.drew HB0.out)).mono ?_; rintro e u1 ⟨vz1, F1, rfl, hQ1, hb1, hf1, hn1⟩; obtain ⟨n1z, a1z, c1z, rfl, hO1⟩ := row_open hQ1; have HKK : Hid (Below ((w.alloc (.cells #[.slice ad nd cd, .slice af nf cf] 25)).alloc (.cells #[.slice none 0 0, .slice none 0 0] 25)).heap.size ((w.alloc (.cells #[.slice ad nd cd, .slice af nf cf] 25)).alloc (.cells #[.slice none 0 0, .slice none 0 0] 25)) u1) := Lib.hid ((Below.drew (Below.refl _ ((w.alloc (.cells #[.slice ad nd cd, .slice af nf cf] 25)).alloc (.cells #[.slice none 0 0, .slice none 0 0] 25)))).trans hb1); have HB1 : Hid (Below w.heap.size w u1) := Lib.hid (HB0.out.trans (HKK.out.mono HB0.out.size)); have HQ1 := Lib.hid (And.intro hO1 (And.intro hb1 (And.intro hf1 hn1))); clear hO1 hb1 hf1 hn1) | (go_at_call 16; refine (HC2.out _ (HB1.out)).mono ?_; rintro e u2 ⟨vz2, F2, rfl, hQ2, hb2, hf2, hn2⟩; obtain ⟨n2z, a2z, c2z, rfl, hO2⟩ := row_open hQ2; have HKQ := HKK.out.trans (hb2.mono HKK.out.size); clear HKK; have HKK := Lib.hid HKQ; clear HKQ; have HB2 : Hid (Below w.heap.size w u2) := Lib.hid (HB0.out.trans (HKK.out.mono HB0.out.size)); have HQ2 := Lib.hid (And.intro hO2 (And.intro hb2 (And.intro hf2 hn2))); clear hO2 hb2 hf2 hn2; have Z0 := (HKK.out.cell (p := ⟨w.heap.size + 1, 0, none⟩) HSZ.out.2).trans Z0; have ZF := (HKK.out.frozen (p := ⟨w.heap.size + 1, 0, none⟩) HSZ.out.2).trans ZF; have Z1 := (HKK.out.cell (p := ⟨w.heap.size + 1, 1, none⟩) HSZ.out.2).trans Z1; have ZF1 := (HKK.out.frozen (p := ⟨w.heap.size + 1, 1, none⟩) HSZ.out.2).trans ZF1))
  all_goals (
    go_wp2_with fail
    have hr0 : u2.heap[w.heap.size + 1]? = some (.cells #[.slice none 0 0, .slice none 0 0] 25) := (HKK.out.block (w.heap.size + 1) HSZ.out.2).trans HR.out
    have hr1 : (World.heap _)[w.heap.size + 1]? = some (.cells #[.slice a1z n1z c1z, .slice none 0 0] 25 (0, 0)) := row_set (.slice a1z n1z c1z) hr0 (i := 0)
    clear hr0
    have hr2 : (World.heap _)[w.heap.size + 1]? = some (.cells #[.slice a1z n1z c1z, .slice a2z n2z c2z] 25 (0, 0)) := row_set (.slice a2z n2z c2z) hr1 (i := 1)
    clear hr1
    have hrow := hr2
    refine bodyPost_ret (results_row1 rfl _ _ (w.heap.size + 1) 25 _ (0, 0) _ rfl hrow Tryz.underlying25 rfl (sizePr _ _)) rfl ?_
    have hs0 : w.heap.size + 2 ≤ ((w.alloc (.cells #[.slice ad nd cd, .slice af nf cf] 25)).alloc (.cells #[.slice none 0 0, .slice none 0 0] 25)).drew.heap.size := by show _ ≤ ((w.alloc (.cells #[.slice ad nd cd, .slice af nf cf] 25)).alloc (.cells #[.slice none 0 0, .slice none 0 0] 25)).heap.size; simp
    obtain ⟨hO1, hb1, hf1, hn1⟩ := HQ1.out
    have hs1 := hb1.size
    obtain ⟨hO2, hb2, hf2, hn2⟩ := HQ2.out
    have hs2 := hb2.size
    have hsF : ((u2.setCell ⟨w.heap.size + 1, 0, none⟩ (.slice a1z n1z c1z)).setCell ⟨w.heap.size + 1, 1, none⟩ (.slice a2z n2z c2z)).heap.size = u2.heap.size := by simp only [set_size]
    have hfar : ∀ b, w.heap.size + 2 ≤ b → ((u2.setCell ⟨w.heap.size + 1, 0, none⟩ (.slice a1z n1z c1z)).setCell ⟨w.heap.size + 1, 1, none⟩ (.slice a2z n2z c2z)).heap[b]? = u2.heap[b]? := fun b hb => by
      refine (Below.heap_setCell _ _ _ _ (by simp; omega)).trans ?_
      refine (Below.heap_setCell _ _ _ _ (by simp; omega)).trans ?_
      rfl
    have KF1 : KeepF u1 _ F1 := keep_made (fun b h => ⟨by have := (hf1 b h).1; omega, (hf1 b h).2⟩) ((Below.refl _ u1).trans (hb2.mono (by omega))) hfar (by omega)
    have KF2 : KeepF u2 _ F2 := keep_made (fun b h => ⟨by have := (hf2 b h).1; omega, (hf2 b h).2⟩) (Below.refl _ u2) hfar (by omega)
    exact madeC_mk (F := F1 ++ F2) rfl (⟨n1z, a1z, c1z, n2z, a2z, c2z, F1, F2, rfl, (hO1.keep KF1 fun _ _ hs hp => DaO.keep hp (KF1.sub hs)), (hO2.keep KF2 fun _ _ hs hp => DeO.keep hp (KF2.sub hs)), rfl⟩) ((HB2.out.setCell (p := ⟨w.heap.size + 1, 0, none⟩) (by simp) (.slice a1z n1z c1z)).setCell (p := ⟨w.heap.size + 1, 1, none⟩) (by simp) (.slice a2z n2z c2z)) (mem_app (fun b h => ⟨by have := (hf1 b h).1; omega, by have := (hf1 b h).2; omega⟩) (fun b h => ⟨by have := (hf2 b h).1; omega, by have := (hf2 b h).2; omega⟩)) (nodup_range hn1 hn2 (fun b h => (hf1 b h).2) (fun b h => (hf2 b h).1)))

theorem coCost_mem : ∀ {l : List Co} {x : Co}, x ∈ l → x.2.cost ≤ coCost l
  | y :: r, x, h => by
    simp only [coCost]
    rcases List.mem_cons.1 h with rfl | h
    · omega
    · have := coCost_mem h; omega
theorem daCost_mem : ∀ {l : List Da} {x : Da}, x ∈ l → x.2.1.length + x.2.2.length + coCost x.2.2 ≤ daCost l
  | y :: r, x, h => by
    simp only [daCost]
    rcases List.mem_cons.1 h with rfl | h
    · omega
    · have := daCost_mem h; omega
theorem deCost_mem : ∀ {l : List De} {x : De}, x ∈ l → x.2.1.length + x.2.2.cost ≤ deCost l
  | y :: r, x, h => by
    simp only [deCost]
    rcases List.mem_cons.1 h with rfl | h
    · omega
    · have := deCost_mem h; omega
theorem small_ok {ds : List Da} {fs : List De} {most : Nat} (h : SmallP ds fs most) (hm : most ≤ 1000000) : (∀ x ∈ ds, okDa x) ∧ ∀ x ∈ fs, okDe x := by
  have := h.cost
  refine ⟨fun x hx => ⟨?_, ?_, fun c hc => ?_⟩, fun x hx => ⟨?_, ?_⟩⟩
  · have := daCost_mem hx; omega
  · have := daCost_mem hx; omega
  · have := daCost_mem hx; have := coCost_mem hc; show c.2.cost ≤ 1000000; omega
  · have := deCost_mem hx; omega
  · have := deCost_mem hx; omega
/-- A made program is read as one that came in. -/
theorem prV_of_rows {w : World} {ds : List Da} {fs : List De} {v1 v2 : Value} {F1 F2 : List Nat} (h1 : RowO 45 3 w v1 ds.length F1 (fun xs F => DaO w ds xs F)) (h2 : RowO 37 8 w v2 fs.length F2 (fun xs F => DeO w fs xs F)) : PrV w ds fs (.agg #[v1, v2]) :=
  ⟨v1, v2, rfl, h1.in fun g xs F' hp hc => DaO.in hp hc, h2.in fun g xs F' hp hc => DeO.in hp hc⟩
end Go.Proofs.YtledjcplbldokaaGreatDoor
