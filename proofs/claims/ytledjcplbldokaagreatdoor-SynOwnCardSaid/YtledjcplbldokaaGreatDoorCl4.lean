/- syn.cloneType: a type in new rows. Conditions: lengths. -/
import Derived.Test.YtledjcplbldokaaGreatDoorCl3
import Derived.Deep.RegionHeld3
import Derived.Deep.DrawnRows
namespace Go.Proofs.YtledjcplbldokaaGreatDoor
open Go.ChangeShapes Go.WideShapes Go.ChangeAt Go.RowKit
attribute [local go_sem ↓] Go.wp_at_zero Go.wp_at_succ

theorem row_open {E k : Nat} {w : World} {v : Value} {n : Nat} {F : List Nat} {P : List Value → List Nat → Prop} (h : RowO E k w v n F P) : ∃ m a c, v = .slice a m c ∧ RowO E k w v n F P := by
  obtain ⟨m, a, c, e⟩ := rowO_form h
  exact ⟨m, a, c, e, h⟩
theorem row_set {w : World} {g i : Nat} {cs : Array Value} {t : TypeId} {f : Nat × Nat} (v : Value) (h : w.heap[g]? = some (.cells cs t f)) : (w.setCell ⟨g, i, none⟩ v).heap[g]? = some (.cells (cs.setIfInBounds i v) t f) := by
  simp [World.setCell, Array.getElem?_modify, h]
theorem results_row1 {P : Program} {fn : Func} {p : Tmp} {ty : TypeId} (h : fn.results = #[.cell p ty]) (tmps : Array Value) (w : World) (g : Nat) (t : TypeId) (cs : Array Value) (fr : Nat × Nat) (d : TypeDesc)
    (hp : tmps.getD p undef = .pointer (some ⟨g, 0, none⟩)) (hg : w.heap[g]? = some (.cells cs t fr))
    (hu : P.underlying ty = some d) (hd : (match d with | .struct _ | .array _ _ => true | _ => false) = true) (hi : (P.info? ty).map (·.size) = some cs.size) :
    (results fn tmps).run P w = .ok (.agg cs) w := by
  have hp' : tmps[p]?.getD undef = .pointer (some ⟨g, 0, none⟩) := by simpa using hp
  simp [results, h, hp', asAddr, run_loadVar_row w g t ty cs fr d hg hu hd hi]
theorem set_size (w : World) (a : Addr) (v : Value) : (w.setCell a v).heap.size = w.heap.size := by simp [World.setCell]
theorem keep_made {u u' wF : World} {F : List Nat} {B : Nat} (hf : ∀ b ∈ F, B ≤ b ∧ b < u.heap.size) (hb : Below u.heap.size u u') (hF : ∀ b, B ≤ b → wF.heap[b]? = u'.heap[b]?) (hs : u'.heap.size ≤ wF.heap.size) : KeepF u wF F :=
  ⟨Nat.le_trans hb.size hs, fun b h => (hF b (hf b h).1).trans (hb.block b (hf b h).2)⟩
theorem nodup_range {F G : List Nat} {s : Nat} (h1 : F.Nodup) (h2 : G.Nodup) (h3 : ∀ b ∈ F, b < s) (h4 : ∀ b ∈ G, s ≤ b) : (F ++ G).Nodup :=
  List.nodup_append.2 ⟨h1, h2, fun a ha c hc e => by subst e; have := h3 a ha; have := h4 a hc; omega⟩
theorem mem_app {F G : List Nat} {p : Nat → Prop} (h1 : ∀ b ∈ F, p b) (h2 : ∀ b ∈ G, p b) : ∀ b ∈ F ++ G, p b := fun b h => (List.mem_append.1 h).elim (h1 b) (h2 b)
theorem sizeTy (x0 x1 : Value) : (Tryz.prog.info? 50).map (·.size) = some (#[x0, x1] : Array Value).size := by
  show _ = some 2
  kernel_rfl
theorem sizeEx (x0 x1 x2 x3 x4 x5 : Value) : (Tryz.prog.info? 35).map (·.size) = some (#[x0, x1, x2, x3, x4, x5] : Array Value).size := by
  show _ = some 6
  kernel_rfl
theorem sizeAl (x0 x1 x2 x3 x4 x5 x6 x7 x8 x9 : Value) : (Tryz.prog.info? 83).map (·.size) = some (#[x0, x1, x2, x3, x4, x5, x6, x7, x8, x9] : Array Value).size := by
  show _ = some 10
  kernel_rfl
theorem sizeCo (x0 x1 : Value) : (Tryz.prog.info? 48).map (·.size) = some (#[x0, x1] : Array Value).size := by
  show _ = some 2
  kernel_rfl
theorem sizeDa (x0 x1 x2 : Value) : (Tryz.prog.info? 45).map (·.size) = some (#[x0, x1, x2] : Array Value).size := by
  show _ = some 3
  kernel_rfl
theorem sizeDe (x0 x1 x2 x3 x4 x5 x6 x7 : Value) : (Tryz.prog.info? 37).map (·.size) = some (#[x0, x1, x2, x3, x4, x5, x6, x7] : Array Value).size := by
  show _ = some 8
  kernel_rfl
set_option maxRecDepth 100000 in
set_option maxHeartbeats 8000000 in
theorem cloneType_any (m : Nat) (hm : m ≤ 1000000) : ∀ (nm : ByteArray) (args : Ty), (Ty.node nm args .nil).cost ≤ m → ∀ (v : Value) (w : World), TyV w (.node nm args .nil) v → Calls Tryz.prog 63 #[v] w (MadeC w (TyQ nm args)) := by
  induction m with
  | zero => intro nm args h; simp only [Ty.cost] at h; omega
  | succ m IH =>
    intro nm args hcost v w hv
    obtain ⟨_, _, n1, a1, c1, he, rfl, hnm, hs⟩ := hv
    injection he with q1 q2
    subst q1 q2
    have HI := Lib.hid (IH (by omega))
    have HS := Lib.hid hs
    have HNM := Lib.hid hnm
    have hcst : args.cost ≤ m := by simp only [Ty.cost] at hcost; omega
    have HCO := Lib.hid hcst
    have HLN : Hid (args.len ≤ 1000000) := Lib.hid (by have := ty_len_cost args; omega)
    clear IH hs hcost hcst
    have HB0 : Hid (Below w.heap.size w ((w.alloc (.cells #[.string nm, .slice a1 n1 c1] 50)).alloc (.cells #[.string ⟨#[]⟩, .slice none 0 0] 50))) := Lib.hid (((Below.refl _ w).alloc (Nat.le_refl _) _).alloc (by simp) _)
    have hA := box2a w #[.string nm, .slice a1 n1 c1] #[.string ⟨#[]⟩, .slice none 0 0] 50 50
    have hB := box2b w #[.string nm, .slice a1 n1 c1] #[.string ⟨#[]⟩, .slice none 0 0] 50 50
    have A0 := hA 0 (.string nm) rfl
    have A1 := hA 1 (.slice a1 n1 c1) rfl
    have Z0 := hB 0 (.string ⟨#[]⟩) rfl
    have Z1 := hB 1 (.slice none 0 0) rfl
    clear hA hB
    have hr := heap_alloc_new (w.alloc (.cells #[.string nm, .slice a1 n1 c1] 50)) (.cells #[.string ⟨#[]⟩, .slice none 0 0] 50)
    have hs : (w.alloc (.cells #[.string nm, .slice a1 n1 c1] 50)).heap.size = w.heap.size + 1 := by simp
    rw [hs] at hr
    have hZF : ∀ j, ((w.alloc (.cells #[.string nm, .slice a1 n1 c1] 50)).alloc (.cells #[.string ⟨#[]⟩, .slice none 0 0] 50)).frozen? ⟨w.heap.size + 1, j, none⟩ = false := fun j => World.frozen?_alloc2_new _ _ _ _
    have ZF := hZF 0
    have ZF1 := hZF 1
    clear hZF
    have HR := Lib.hid hr
    clear hr hs
    have HSZ : Hid (w.heap.size < ((w.alloc (.cells #[.string nm, .slice a1 n1 c1] 50)).alloc (.cells #[.string ⟨#[]⟩, .slice none 0 0] 50)).heap.size ∧ w.heap.size + 1 < ((w.alloc (.cells #[.string nm, .slice a1 n1 c1] 50)).alloc (.cells #[.string ⟨#[]⟩, .slice none 0 0] 50)).heap.size) := Lib.hid (by simp <;> omega)
    have HC1 := Lib.hid (show ∀ w', Below w.heap.size w w' → Calls Tryz.prog 62 #[.slice a1 n1 c1, .func (.func 63) #[] #[]] w' (MadeC w' fun q v' F => RowO 50 2 q v' args.len F (fun xs F => TyO q args xs F)) from fun w' hb => cloneAllTy_any m HI.out args HCO.out HLN.out _ w' (HS.out.mono hb.size fun _ _ p q => TyIn.below hb p q))
    go_enter Tryz.func63, Tryz.ntmps63
    go_wp2_with fail
    go_region_held3 (fun w' => w'.cell? ⟨w.heap.size, 0, none⟩ = some (.string nm) ∧ w'.cell? ⟨w.heap.size, 1, none⟩ = some (.slice a1 n1 c1)) (first | go_keep | (simp [*]; done) | (refine ⟨?_, ?_⟩ <;> (first | assumption | (rw [HKK.out.cell (p := ⟨w.heap.size, _, none⟩) HSZ.out.1]; assumption) | (rw [HKK.out.cell (p := ⟨w.heap.size + 1, _, none⟩) HSZ.out.2]; assumption) | (rw [HKK.out.frozen (p := ⟨w.heap.size + 1, _, none⟩) HSZ.out.2]; assumption)))) (first | (go_at_call 62; refine (HC1.out _ (Below.drew HB0.out)).mono ?_; rintro e u1 ⟨vz1, F1, rfl, hQ1, hb1, hf1, hn1⟩; obtain ⟨n1z, a1z, c1z, rfl, hO1⟩ := row_open hQ1; have HKK : Hid (Below ((w.alloc (.cells #[.string nm, .slice a1 n1 c1] 50)).alloc (.cells #[.string ⟨#[]⟩, .slice none 0 0] 50)).heap.size ((w.alloc (.cells #[.string nm, .slice a1 n1 c1] 50)).alloc (.cells #[.string ⟨#[]⟩, .slice none 0 0] 50)) u1) := Lib.hid ((Below.drew (Below.refl _ ((w.alloc (.cells #[.string nm, .slice a1 n1 c1] 50)).alloc (.cells #[.string ⟨#[]⟩, .slice none 0 0] 50)))).trans hb1); have HB1 : Hid (Below w.heap.size w u1) := Lib.hid (HB0.out.trans (HKK.out.mono HB0.out.size)); have HQ1 := Lib.hid (And.intro hO1 (And.intro hb1 (And.intro hf1 hn1))); clear hO1 hb1 hf1 hn1; have Z0 := (HKK.out.cell (p := ⟨w.heap.size + 1, 0, none⟩) HSZ.out.2).trans Z0; have ZF := (HKK.out.frozen (p := ⟨w.heap.size + 1, 0, none⟩) HSZ.out.2).trans ZF; have Z1 := (HKK.out.cell (p := ⟨w.heap.size + 1, 1, none⟩) HSZ.out.2).trans Z1; have ZF1 := (HKK.out.frozen (p := ⟨w.heap.size + 1, 1, none⟩) HSZ.out.2).trans ZF1))
    all_goals (
      go_wp2_with fail
      have hr0 : u1.heap[w.heap.size + 1]? = some (.cells #[.string ⟨#[]⟩, .slice none 0 0] 50) := (HKK.out.block (w.heap.size + 1) HSZ.out.2).trans HR.out
      have hr1 : (World.heap _)[w.heap.size + 1]? = some (.cells #[.string nm, .slice none 0 0] 50 (0, 0)) := row_set (.string nm) hr0 (i := 0)
      clear hr0
      have hr2 : (World.heap _)[w.heap.size + 1]? = some (.cells #[.string nm, .slice a1z n1z c1z] 50 (0, 0)) := row_set (.slice a1z n1z c1z) hr1 (i := 1)
      clear hr1
      have hrow := hr2
      refine bodyPost_ret (results_row1 rfl _ _ (w.heap.size + 1) 50 _ (0, 0) _ rfl hrow Tryz.underlying50 rfl (sizeTy _ _)) rfl ?_
      have hs0 : w.heap.size + 2 ≤ ((w.alloc (.cells #[.string nm, .slice a1 n1 c1] 50)).alloc (.cells #[.string ⟨#[]⟩, .slice none 0 0] 50)).drew.heap.size := by show _ ≤ ((w.alloc (.cells #[.string nm, .slice a1 n1 c1] 50)).alloc (.cells #[.string ⟨#[]⟩, .slice none 0 0] 50)).heap.size; simp
      obtain ⟨hO1, hb1, hf1, hn1⟩ := HQ1.out
      have hs1 := hb1.size
      have hsF : ((u1.setCell ⟨w.heap.size + 1, 0, none⟩ (.string nm)).setCell ⟨w.heap.size + 1, 1, none⟩ (.slice a1z n1z c1z)).heap.size = u1.heap.size := by simp only [set_size]
      have hfar : ∀ b, w.heap.size + 2 ≤ b → ((u1.setCell ⟨w.heap.size + 1, 0, none⟩ (.string nm)).setCell ⟨w.heap.size + 1, 1, none⟩ (.slice a1z n1z c1z)).heap[b]? = u1.heap[b]? := fun b hb => by
        refine (Below.heap_setCell _ _ _ _ (by simp; omega)).trans ?_
        refine (Below.heap_setCell _ _ _ _ (by simp; omega)).trans ?_
        rfl
      have KF1 : KeepF u1 _ F1 := keep_made (fun b h => ⟨by have := (hf1 b h).1; omega, (hf1 b h).2⟩) (Below.refl _ u1) hfar (by omega)
      exact madeC_mk (F := F1) rfl (⟨n1z, a1z, c1z, rfl, ⟨_, [], F1, [], rfl, by simp, HNM.out, (hO1.keep KF1 fun _ _ hs hp => TyO.keep hp (KF1.sub hs)), rfl, rfl⟩⟩) ((HB1.out.setCell (p := ⟨w.heap.size + 1, 0, none⟩) (by simp) (.string nm)).setCell (p := ⟨w.heap.size + 1, 1, none⟩) (by simp) (.slice a1z n1z c1z)) (fun b h => ⟨by have := (hf1 b h).1; omega, by have := (hf1 b h).2; omega⟩) hn1)
end Go.Proofs.YtledjcplbldokaaGreatDoor
