/- Tags: Set: its contract. Conditions: how many; how they lie in memory. -/
import Derived.Test.YtcplajplbocieaaDoorTg4
import Derived.Test.YtcplajplbocieaaDoorTg7
import Derived.Laws.AppendOwn
import Derived.OwnWalk
namespace Go.Proofs.YtcplajplbocieaaDoor
open Go.RowKit Go.Sort Go.Lib

/-- The tags in their order, each once. -/
def sortT (l : List Tg) : List Tg := l.mergeSort fun x y => !(ltOf cmpT) y x
def setT (l : List Tg) : List Tg := compactUpTo (sortT l).toArray (sortT l).toArray.size
theorem infoTag : (Tryd.prog.info? 23).map (fun i => (i.zero, i.size, i.bytes)) = some (some (.agg zeroT), 3, 32) := by kernel_rfl
theorem info_parts {x : Option TypeInfo} {z : Value} {s b : Nat} (h : x.map (fun i => (i.zero, i.size, i.bytes)) = some (some z, s, b)) : ∃ i, x = some i ∧ i.zero = some z ∧ i.size = s ∧ i.bytes = b := by
  cases x with
  | none => cases h
  | some i => simp at h; exact ⟨i, rfl, h.1, h.2.1, h.2.2⟩
theorem len_sortT (l : List Tg) : (sortT l).length = l.length := List.length_mergeSort _
theorem below_grow {B : Nat} {a w : World} (h : Below B a w) (os : Array Obj) (hB : B ≤ w.heap.size) : Below B a (grow w os) :=
  ⟨h.os, h.tape, h.output, Nat.le_trans h.size (by rw [size_grow]; exact Nat.le_add_right _ _), fun k hk => by show (w.heap ++ os)[k]? = _; rw [Array.getElem?_append_left (by omega)]; exact h.block k hk⟩
theorem below_putRow {B : Nat} {a w : World} (h : Below B a w) (g o : Nat) (F : Array Value) (hg : B ≤ g) : Below B a (putRow id w g o F) :=
  ⟨h.os, h.tape, h.output, Nat.le_trans h.size (by show _ ≤ (w.heap.modify g _).size; rw [Array.size_modify]; exact Nat.le_refl _), fun k hk => by
    show (w.heap.modify g _)[k]? = _
    rw [Array.getElem?_modify, if_neg (by omega)]
    exact h.block k hk⟩
theorem below_sort {B : Nat} {a w : World} (h : Below B a w) (g n : Nat) (d : Array Tg) (os : Array Obj) (hg : B ≤ g) (hB : B ≤ w.heap.size) : Below B a (sortWorldK encT 3 w g 0 n d os) := by
  unfold sortWorldK
  refine below_grow ?_ os (by rw [Go.Sort.size_putRowK]; exact hB)
  exact below_putRow (w := Sort.ahead w n) ⟨h.os, h.tape, h.output, h.size, h.block⟩ g 0 _ hg
theorem own_holds {w : World} {g : Nat} {cur : Array Value} {l : List Tg} (hc : w.heap[g]? = some (.cells cur 23 (0, 0))) (ht : cur.toList.take (l.length * 3) = (flatK encT 3 l.toArray).toList) (_hs : l.length * 3 ≤ cur.size) : HoldsK encT 3 w g 0 l.toArray := by
  intro j hj
  have hj' : j < l.length * 3 := by simpa using hj
  rw [Nat.zero_add]
  have e : cur[j]? = some (flatK encT 3 l.toArray)[j]! := by
    have h1 : (cur.toList.take (l.length * 3))[j]? = some (flatK encT 3 l.toArray)[j]! := by
      rw [ht, Array.getElem?_toList, Array.getElem?_eq_getElem hj, getElem!_pos _ j hj]
    rw [List.getElem?_take, if_pos hj', Array.getElem?_toList] at h1
    exact h1
  constructor
  · simp only [World.cell?, hc]
    exact e
  · simp [World.frozen?, hc]
theorem get_some {xs : List Value} {i : Nat} (h : i < xs.length) : xs[i]? = some xs[i]! := by
  rw [List.getElem!_eq_getElem?_getD, List.getElem?_eq_getElem h]
  rfl
theorem flat_at {w : World} {b o : Nat} {l : List Tg} (h3 : ∀ j, j < l.length → ∀ i v, (encT l[j]!)[i]? = some v → w.cell? ⟨b, o + j * 3 + i, none⟩ = some v) (j : Nat) (u : Value) (hu : (flatK encT 3 l.toArray).toList[j]? = some u) : w.cell? ((⟨b, o, none⟩ : Addr).add j) = some u := by
  have hadd : (⟨b, o, none⟩ : Addr).add j = ⟨b, o + j, none⟩ := by unfold Addr.add; split <;> simp_all
  rw [hadd]
  have hj : j < l.length * 3 := by
    rcases Nat.lt_or_ge j (l.length * 3) with h | h
    · exact h
    · rw [List.getElem?_eq_none (by simpa using h)] at hu; cases hu
  have e : u = (encT l[j / 3]!)[j % 3]! := by
    have hsz : j < (flatK encT 3 l.toArray).size := by simpa using hj
    rw [Array.getElem?_toList, Array.getElem?_eq_getElem hsz] at hu
    have h1 := get_flatK encT 3 l.toArray j (by simpa using hj)
    rw [getElem!_pos _ j hsz] at h1
    rw [← Option.some.inj hu, h1]
    simp
  have := h3 (j / 3) (by omega) (j % 3) u (by
    rw [e]
    have hlt : j % 3 < (encT l[j / 3]!).length := by rw [len_encT]; omega
    exact get_some hlt)
  rw [show o + j = o + j / 3 * 3 + j % 3 by omega]
  exact this
theorem flat_one (l : List Tg) : ∀ u ∈ (flatK encT 3 l.toArray).toList, u.oneCell' = true := by
  intro u hu
  simp only [flatK, Array.toList_map, List.mem_map] at hu
  obtain ⟨t, ht, rfl⟩ := hu
  have hlt : t % 3 < (encT l.toArray[t / 3]!).length := by rw [len_encT]; omega
  exact one_encT _ _ (List.mem_of_getElem? (get_some hlt))
theorem cmpLays (g : Nat) (n : Nat) (w : World) : CmpLays Tryd.prog 27 #[] encT 3 cmpT g 0 n w := fun _ _ _ _ x y => compare_any x y _
set_option maxRecDepth 100000 in
theorem compact_nil (w : World) : Calls Tryd.prog 29 #[.slice none 0 0] w fun e w' => e = .returned (.slice none 0 0) ∧ w' = w := by
  go_enter Tryd.func29, Tryd.ntmps29
  go_wp2_with fail
  go_ret
  exact ⟨rfl, rfl⟩
/-- A slice of the call's own, in order, each once. -/
def SetP (w : World) (l : List Tg) (e : Ending) (w' : World) : Prop := ∃ ao cap, e = .returned (.slice ao l.length cap) ∧ TgAt w' ao l ∧ (ao = none → cap = 0) ∧ Below w.heap.size w w'
theorem setP_mk {w w' : World} {l : List Tg} {ao : Option Addr} {cap : Nat} (h1 : TgAt w' ao l) (h2 : ao = none → cap = 0) (h3 : Below w.heap.size w w') : SetP w l (.returned (.slice ao l.length cap)) w' := ⟨ao, cap, rfl, h1, h2, h3⟩
set_option maxRecDepth 100000 in
set_option maxHeartbeats 4000000 in
theorem set_none (ao : Option Addr) (cap : Nat) (hc : ao = none → cap = 0) (w : World) : Calls Tryd.prog 13 #[.slice ao 0 cap] w (SetP w []) := by
  have HS := Lib.hid (fun (w1 : World) => AnyF.slices_SortFunc_none Tryd.laySort none 0 (.func (.func 27) #[] #[]) w1)
  have HC := Lib.hid compact_nil
  obtain ⟨i0, hi, hz0, hz1, hz2⟩ := info_parts infoTag
  have hnil := World.ownsRow_nil w w.heap.size 23 3
  cases ao with
  | none =>
    obtain rfl := hc rfl
    go_enter Tryd.func13, Tryd.ntmps13
    go_wp2_with (first
      | (go_at_call 28; refine (HS.out _).mono ?_; rintro e w2 ⟨rfl, rfl⟩)
      | (go_at_call 29; refine (HC.out _).mono ?_; rintro e w3 ⟨rfl, rfl⟩))
    go_ret
    exact setP_mk (l := []) (Or.inl rfl) (fun _ => rfl) (Below.refl _ _)
  | some ad =>
    go_enter Tryd.func13, Tryd.ntmps13
    go_wp2_with (first
      | (at_builtin; refine wpList_append_own _ rfl _ _ 24 rfl w.heap.size 23 i0 (.agg zeroT) 3 32 Tryd.underlying24 hi hz0 hz1 hz2 rfl (by decide) _ _ _ rfl hnil ad 0 cap [] rfl rfl (fun j u hu => by cases hu) (fun u hu => by cases hu) (by simp [maxLen]) (by omega) (Nat.le_refl _) ?_
         intro v' w1 hown hgr hv
         obtain rfl := hv.2 ⟨rfl, rfl⟩
         have HG := Lib.hid (show Below w.heap.size w w1 from Below.grown (Below.refl _ w) hgr (Nat.le_refl _) (fun k hk => by cases hk))
         clear hown hgr hv)
      | (go_at_call 28; refine (HS.out _).mono ?_; rintro e w2 ⟨rfl, rfl⟩)
      | (go_at_call 29; refine (HC.out _).mono ?_; rintro e w3 ⟨rfl, rfl⟩))
    go_ret
    exact setP_mk (l := []) (Or.inl rfl) (fun _ => rfl) HG.out
set_option maxRecDepth 100000 in
set_option maxHeartbeats 4000000 in
theorem set_some (b o cap : Nat) (l : List Tg) (hl : l.length ≤ 100000) (hp : 0 < l.length) (w : World) (hb : b < w.heap.size) (h3 : ∀ j, j < l.length → ∀ i v, (encT l[j]!)[i]? = some v → w.cell? ⟨b, o + j * 3 + i, none⟩ = some v) :
    Calls Tryd.prog 13 #[.slice (some ⟨b, o, none⟩) l.length cap] w (SetP w (setT l)) := by
  have hnews := flat_at h3
  have hnl : (flatK encT 3 l.toArray).toList.length = l.length * 3 := by simp
  have hone := flat_one l
  have HO := Lib.hid (fun (w1 : World) (g : Nat) (cur : Array Value) (hc : w1.heap[g]? = some (.cells cur 23 (0, 0))) (ht : cur.toList.take (l.length * 3) = (flatK encT 3 l.toArray).toList) (hs : l.length * 3 ≤ cur.size) => own_holds (l := l) hc ht hs)
  have HS := Lib.hid (show ∀ (w1 : World) (g c : Nat), HoldsK encT 3 w1 g 0 l.toArray → g < w1.heap.size → Calls Tryd.prog 28 #[.slice (some ⟨g, 0, none⟩) l.length c, .func (.func 27) #[] #[]] w1 fun e w' => e = .returned (.tuple #[]) ∧ ∃ n os, w' = sortWorldK encT 3 w1 g 0 n (sortT l).toArray os from fun w1 g c h1 h2 =>
    AnyQ.slices_SortFunc_total Tryd.laySort 3 Tryd.isAgg23 Tryd.sizeOf23 encT (fun _ => rfl) one_encT cmpT swo_tag 27 #[] g 0 c l.toArray w1 (enters_of Tryd.func27 (by kernel_rfl) rfl) (cmpLays g l.toArray.size w1) h1 h2 (by simp; omega) tot_tag)
  have HC := Lib.hid (show ∀ (w2 : World) (g c : Nat), HoldsK encT 3 w2 g 0 (sortT l).toArray → g < w2.heap.size → w.heap.size ≤ g → Below w.heap.size w w2 → l.length ≤ c → Calls Tryd.prog 29 #[.slice (some ⟨g, 0, none⟩) l.length c] w2 fun e w' => e = .returned (.slice (some ⟨g, 0, none⟩) (setT l).length c) ∧ Below w.heap.size w w' ∧ TgAt w' (some ⟨g, 0, none⟩) (setT l) from fun w2 g c h1 h2 h3 h4 h5 => by
    have hs : (sortT l).toArray.size = l.length := len_sortT l
    have := compact_any g 0 c w.heap.size (sortT l).toArray w w2 eqAt neqAt h1 h2 h3 h4 (by rw [hs]; omega) (by rw [hs]; exact h5)
    rw [hs] at this
    refine this.mono ?_
    rintro e w' ⟨he, ⟨hb, hgw⟩, hc⟩
    have hz : setT l = compactUpTo (sortT l).toArray l.length := by unfold setT; rw [hs]
    rw [hz]
    exact ⟨he, hb, Or.inr ⟨g, 0, rfl, hgw, hc⟩⟩)
  generalize (flatK encT 3 l.toArray).toList = news at *
  have HL : Hid (∀ (w1 : World) (g n : Nat) (os : Array Obj), HoldsK encT 3 w1 g 0 l.toArray → g < w1.heap.size → HoldsK encT 3 (sortWorldK encT 3 w1 g 0 n (sortT l).toArray os) g 0 (sortT l).toArray ∧ g < (sortWorldK encT 3 w1 g 0 n (sortT l).toArray os).heap.size) := Lib.hid fun w1 g n os h1 h2 =>
    ⟨holdsK_sortWorldK_c encT 3 w1 g 0 l.toArray (sortT l).toArray n os h1 h2 (len_sortT l), Nat.lt_of_lt_of_le h2 (size_sortWorldK_c encT 3 w1 g 0 n (sortT l).toArray os)⟩
  obtain ⟨i0, hi, hz0, hz1, hz2⟩ := info_parts infoTag
  have D4 : 0 + l.length ≤ maxLen := by simp only [maxLen]; omega
  have D5 : (0 + l.length) * 32 ≤ 140737488355328 := by omega
  have hnil := World.ownsRow_nil w w.heap.size 23 3
  generalize hN : l.length = N at *
  go_enter Tryd.func13, Tryd.ntmps13
  go_wp2_with (first
    | (at_builtin; refine wpList_append_own _ rfl _ _ 24 rfl w.heap.size 23 i0 (.agg zeroT) 3 32 Tryd.underlying24 hi hz0 hz1 hz2 rfl (by decide) _ _ _ rfl hnil ⟨b, o, none⟩ N cap news rfl hnl hnews hone D4 D5 (Nat.le_refl _) ?_
       intro v' w1 hown hgr _
       rw [Nat.zero_add, List.nil_append] at hown
       obtain ⟨hx1, hx2⟩ := hown
       obtain ⟨g, c, cur, rfl, hg, hcur, hnc, hcm, hcs, htk⟩ : ∃ g cap cur, v' = .slice (some ⟨g, 0, none⟩) N cap ∧ w.heap.size ≤ g ∧ w1.heap[g]? = some (.cells cur 23 (0, 0)) ∧ N ≤ cap ∧ cap ≤ maxLen ∧ cur.size = cap * 3 ∧ cur.toList.take (N * 3) = news := hx2.resolve_left (fun h => absurd h.2 (by omega))
       have HK := Lib.hid (HO.out w1 g cur hcur htk (by omega))
       have HG := Lib.hid (show w.heap.size ≤ g ∧ g < w1.heap.size ∧ Below w.heap.size w w1 ∧ N ≤ c from ⟨hg, (Array.getElem?_eq_some_iff.1 hcur).1, Below.grown (Below.refl _ w) hgr (Nat.le_refl _) (fun k hk => by cases hk), hnc⟩)
       clear hx1 hx2 hgr hg hcur hnc hcm hcs htk)
    | (go_at_call 28; refine (HS.out _ _ _ HK.out HG.out.2.1).mono ?_; rintro e w2 ⟨rfl, q, os, hw2⟩; have HW := Lib.hid hw2; clear hw2)
    | (go_at_call 29; refine (HC.out _ _ _ (by rw [HW.out]; exact (HL.out _ _ q os HK.out HG.out.2.1).1) (by rw [HW.out]; exact (HL.out _ _ q os HK.out HG.out.2.1).2) HG.out.1 (by rw [HW.out]; exact below_sort HG.out.2.2.1 _ _ _ _ HG.out.1 HG.out.2.2.1.size) HG.out.2.2.2).mono ?_; rintro e w3 ⟨rfl, hb3, ht3⟩))
  go_ret
  exact setP_mk ht3 (fun h => by cases h) hb3
theorem set_nil : setT [] = [] := by simp [setT, sortT, compactUpTo]
theorem set_any (ao : Option Addr) (cap : Nat) (l : List Tg) (hl : l.length ≤ 100000) (hc : ao = none → cap = 0) (w : World) (h : TgAt w ao l) : Calls Tryd.prog 13 #[.slice ao l.length cap] w (SetP w (setT l)) := by
  rcases h with rfl | ⟨b, o, rfl, h2, h3⟩
  · rw [set_nil]; exact set_none ao cap hc w
  · rcases Nat.eq_zero_or_pos l.length with hz | hz
    · obtain rfl := List.length_eq_zero_iff.1 hz
      rw [set_nil]; exact set_none _ cap hc w
    · exact set_some b o cap l hl hz w h2 h3
end Go.Proofs.YtcplajplbocieaaDoor
