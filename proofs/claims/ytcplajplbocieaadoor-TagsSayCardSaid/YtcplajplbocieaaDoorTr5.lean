/- Tags: the document's own PutTag: its contract. Conditions: tags in order; how many; how they lie in memory. -/
import Derived.Test.YtcplajplbocieaaDoorTr1
import Derived.Test.YtcplajplbocieaaDoorTg9
import Derived.Test.YtcplajplbocieaaDoorTu1
import Derived.Deep.AppendLies
import Derived.Deep.RegionHeld3
namespace Go.Proofs.YtcplajplbocieaaDoor
open Go.RowKit Go.Sort Go.Lib

theorem put_there (l : List Tg) (hr : l.Pairwise fun x y => ltT x y = true) (x : Tg) (hx : x ∈ l) : l = setT (l ++ [x]) :=
  rising_ext _ _ hr (rising_setT _) fun y => by
    rw [mem_setT, List.mem_append, List.mem_singleton]
    exact ⟨Or.inl, fun h => h.elim id fun e => e ▸ hx⟩
theorem put_here (l : List Tg) (hr : l.Pairwise fun x y => ltT x y = true) (x : Tg) (k : Nat) (hk : k ≤ l.length) (h1 : ∀ j, j < k → ltT l[j]! x = true) (h2 : k < l.length → ltT x l[k]! = true) : l.take k ++ ([x] ++ l.drop k) = setT (l ++ [x]) := by
  refine rising_ext _ _ ?_ (rising_setT _) fun y => ?_
  · have hlow : ∀ y ∈ l.take k, ltT y x = true := fun y hy => by
      obtain ⟨j, hj, e⟩ := List.getElem_of_mem hy
      have hjk : j < k := by rw [List.length_take] at hj; omega
      have := h1 j hjk
      rw [getElem!_pos l j (by omega)] at this
      rw [List.getElem_take] at e
      rw [← e]; exact this
    have hhigh : ∀ y ∈ l.drop k, ltT x y = true := fun y hy => by
      obtain ⟨j, hj, e⟩ := List.getElem_of_mem hy
      rw [List.length_drop] at hj
      rw [List.getElem_drop] at e
      have h3 := h2 (by omega)
      rw [getElem!_pos l k (by omega)] at h3
      by_cases hj0 : j = 0
      · subst hj0; rw [← e]; simpa using h3
      · have := List.pairwise_iff_getElem.1 hr k (k + j) (by omega) (by omega) (by omega)
        rw [← e]; exact ltT_trans h3 this
    refine List.pairwise_append.2 ⟨hr.sublist (List.take_sublist k l), ?_, ?_⟩
    · rw [List.singleton_append, List.pairwise_cons]
      exact ⟨hhigh, hr.sublist (List.drop_sublist k l)⟩
    · intro y hy z hz
      rcases List.mem_append.1 hz with hz | hz
      · rw [List.mem_singleton.1 hz]; exact hlow y hy
      · exact ltT_trans (hlow y hy) (hhigh z hz)
  · rw [mem_setT, List.mem_append, List.mem_append, List.mem_append, List.mem_singleton]
    have e : y ∈ l ↔ y ∈ l.take k ∨ y ∈ l.drop k := by rw [← List.mem_append, List.take_append_drop]
    rw [e]
    constructor
    · rintro (h | h | h)
      · exact Or.inl (Or.inl h)
      · exact Or.inr h
      · exact Or.inl (Or.inr h)
    · rintro ((h | h) | h)
      · exact Or.inl h
      · exact Or.inr (Or.inr h)
      · exact Or.inr (Or.inl h)
theorem tgAt_take {w : World} {ao : Option Addr} {l : List Tg} (h : TgAt w ao l) (k : Nat) : TgAt w ao (l.take k) := by
  rcases h with rfl | ⟨b, o, e, hb, hc⟩
  · exact Or.inl (by simp)
  · refine Or.inr ⟨b, o, e, hb, fun j hj i v hi => ?_⟩
    have hjl : j < l.length := by rw [List.length_take] at hj; omega
    refine hc j hjl i v ?_
    rw [getElem!_pos _ j hj, List.getElem_take] at hi
    rw [getElem!_pos l j hjl]; exact hi
theorem own_low {w : World} {base base' : Nat} {e : TypeId} {sz n : Nat} {v : Value} {xs : List Value} (h : w.ownsRow base e sz v n xs) (hb : base' ≤ base) : w.ownsRow base' e sz v n xs := by
  refine ⟨h.1, ?_⟩
  rcases h.2 with h | ⟨g, cap, cur, h1, h2, h3⟩
  · exact Or.inl h
  · exact Or.inr ⟨g, cap, cur, h1, Nat.le_trans hb h2, h3⟩
theorem tgAt_drop {w : World} {b o : Nat} {l : List Tg} (h : TgAt w (some ⟨b, o, none⟩) l) (k : Nat) : TgAt w (some ⟨b, o + k * 3, none⟩) (l.drop k) := by
  rcases h with rfl | ⟨b', o', e, hb, hc⟩
  · exact Or.inl (by simp)
  · injection e with e
    injection e with e1 e2
    subst e1 e2
    refine Or.inr ⟨b, o + k * 3, rfl, hb, fun j hj i v hi => ?_⟩
    rw [List.length_drop] at hj
    have hjl : k + j < l.length := by omega
    have := hc (k + j) hjl i v (by
      rw [getElem!_pos _ j (by rw [List.length_drop]; exact hj), List.getElem_drop] at hi
      rw [getElem!_pos l (k + j) hjl]; exact hi)
    rw [show o + k * 3 + j * 3 + i = o + (k + j) * 3 + i by omega]
    exact this
/-- A slice of the call's own, with room for what it holds. -/
def PutP (w : World) (l : List Tg) (e : Ending) (w' : World) : Prop := ∃ ao cap, e = .returned (.slice ao l.length cap) ∧ TgAt w' ao l ∧ (ao = none → cap = 0) ∧ (ao = none ∨ ∃ b o, ao = some ⟨b, o, none⟩) ∧ l.length ≤ cap ∧ Below w.heap.size w w'
theorem own_tg2 {w : World} {base : Nat} {v : Value} {l : List Tg} (h : w.ownsRow base 23 3 v l.length (flatL l)) : ∃ ao cap, v = .slice ao l.length cap ∧ TgAt w ao l ∧ (ao = none → cap = 0) ∧ (ao = none ∨ ∃ b o, ao = some ⟨b, o, none⟩) ∧ l.length ≤ cap := by
  obtain ⟨ao, cap, rfl, ht, hc⟩ := own_tg h
  refine ⟨ao, cap, rfl, ht, hc, ?_⟩
  rcases h.2 with ⟨h1, hz⟩ | ⟨g, cap', cur, h1, _, _, hn, _⟩
  · injection h1 with h1 _ _
    subst h1
    exact ⟨Or.inl rfl, by omega⟩
  · injection h1 with h1 _ h2
    subst h1 h2
    exact ⟨Or.inr ⟨g, 0, rfl⟩, hn⟩
theorem put_done {w w7 : World} {base n k : Nat} {v : Value} {l : List Tg} {x : Tg} (h : w7.ownsRow base 23 3 v (k + 1 + (n - k)) (flatL (l.take k) ++ [.int .i64 x.k, .string x.s, .int .i64 x.n] ++ flatL (l.drop k))) (hn : n = l.length) (hk : k ≤ n) (e : l.take k ++ ([x] ++ l.drop k) = setT (l ++ [x])) (hb : Below w.heap.size w w7) : PutP w (setT (l ++ [x])) (.returned v) w7 := by
  have h1 : flatL (l.take k) ++ [.int .i64 x.k, .string x.s, .int .i64 x.n] ++ flatL (l.drop k) = flatL (setT (l ++ [x])) := by
    rw [← e, flatL_append, flatL_append, ← List.append_assoc]
    rfl
  have h2 : k + 1 + (n - k) = (setT (l ++ [x])).length := by
    rw [← e, List.length_append, List.length_append, List.length_take, List.length_drop, List.length_singleton]
    omega
  rw [h1, h2] at h
  obtain ⟨ao, cap, rfl, ht, hc, hf, hl⟩ := own_tg2 h
  exact ⟨ao, cap, rfl, ht, hc, hf, hl, hb⟩
set_option maxRecDepth 100000 in
set_option maxHeartbeats 0 in
theorem put_core (l : List Tg) (hr : l.Pairwise fun x y => ltT x y = true) (n cap : Nat) (hn : n = l.length) (hlen : n ≤ 1000) (hcap : n ≤ cap) (xk xn : Int) (xs : ByteArray) (ao : Option Addr) (hc : ao = none → cap = 0) (hform : ao = none ∨ ∃ b o, ao = some ⟨b, o, none⟩) (w : World) (h : TgAt w ao l) :
    Calls Tryd.prog 30 #[.slice ao n cap, .agg #[.int .i64 xk, .string xs, .int .i64 xn]] w (PutP w (setT (l ++ [⟨xk, xs, xn⟩]))) := by
  have HN := Lib.hid (And.intro hn (And.intro hr (And.intro hc hcap)))
  have HT := Lib.hid h
  have HB0 := Lib.hid ((Below.refl _ w).alloc (Nat.le_refl _) (.cells #[.int .i64 xk, .string xs, .int .i64 xn] 23))
  have HBX := Lib.hid (show BoxT (w.alloc (.cells #[.int .i64 xk, .string xs, .int .i64 xn] 23)) w.heap.size ⟨xk, xs, xn⟩ from BoxT.of _ _ _ (t := 23) (fr := (0, 0)) (heap_alloc_new w _))
  have HSZ : Hid (w.heap.size < (w.alloc (.cells #[.int .i64 xk, .string xs, .int .i64 xn] 23)).heap.size) := Lib.hid (by simp)
  obtain ⟨i0, hi, hz0, hz1, hz2⟩ := info_parts infoTag
  have HF := Lib.hid hform
  clear hn h hr hc hform
  go_enter Tryd.func30, Tryd.ntmps30
  go_wp2_with fail
  generalize (w.alloc (.cells #[.int .i64 xk, .string xs, .int .i64 xn] 23)) = w1 at *
  go_loopg [5] n (fun gg vi wr => ∃ k : Nat, k ≤ n ∧ n - k ≤ gg ∧ vi = .int .i64 k ∧ Hid (Below w1.heap.size w1 wr) ∧ Hid (∀ j, j < k → ltT l[j]! ⟨xk, xs, xn⟩ = true))
  case atStart => exact ⟨0, Nat.zero_le _, by omega, rfl, Lib.hid (Below.refl _ _), Lib.hid fun j hj => absurd hj (Nat.not_lt_zero _)⟩
  case round =>
    obtain ⟨k, hk, hgm, rfl, HR, HJ⟩ := hrel
    have hbx : ∀ s : Aft wr, BoxT s.at w.heap.size ⟨xk, xs, xn⟩ := fun s => HBX.out.below HSZ.out (HR.out.trans (s.below.mono HR.out.size))
    have HBW := Lib.hid hbx
    have b0 := fun s : Aft wr => (hbx s).1
    have b1 := fun s : Aft wr => (hbx s).2.1
    have b2 := fun s : Aft wr => (hbx s).2.2
    clear hbx
    by_cases hlt : k < n
    · have hltz : (k : Int) < (n : Int) := by omega
      have hl : k < l.length := by rw [← HN.out.1]; exact hlt
      rcases HT.out with hnil | ⟨g, o, rfl, hgl, hcell⟩
      · rw [hnil] at hl; exact absurd hl (Nat.not_lt_zero _)
      obtain ⟨y, hy⟩ : ∃ y, l[k]! = y := ⟨_, rfl⟩
      have HCE : Hid (∀ j v, (encT y)[j]? = some v → ∀ w', Below w1.heap.size w1 w' → w'.cell? ⟨g, o + k * 3 + j, none⟩ = some v) := Lib.hid fun j v hv w' hb => by
        rw [(HB0.out.trans (hb.mono HB0.out.size)).cell (p := ⟨g, _, none⟩) hgl]
        exact hcell k hl j v (by rw [hy]; exact hv)
      have hce : ∀ j v, (encT y)[j]? = some v → ∀ s : Aft wr, s.at.cell? ⟨g, o + k * 3 + j, none⟩ = some v := fun j v hv s => HCE.out j v hv s.at (HR.out.trans (s.below.mono HR.out.size))
      have HS := Lib.hid (lessTag_any y ⟨xk, xs, xn⟩)
      have HY := Lib.hid hy
      cases hq : ltT y ⟨xk, xs, xn⟩
      · rw [hq] at HS
        have HQ := Lib.hid hq
        clear hcell hy hq
        obtain ⟨yk, ys, yn⟩ := y
        have e0 := hce 0 _ rfl
        have e1 := hce 1 _ rfl
        have e2 := hce 2 _ rfl
        simp only [encT, Nat.add_zero] at e0 e1 e2 b0 b1 b2 HS
        clear hce
        go_wp2_with fail
        refine region_quiet_lit (C := fun w' => ∃ s : Aft wr, w' = s.at) (by kernel_rfl) (by kernel_rfl) ⟨⟨wr.drew, Below.drew (Below.refl _ _)⟩, rfl⟩ ?_
        repeat (go_big_quiet_step (with_reducible exact call_ok (HS.out _)))
        refine wpQuiet_nil ?_
        rintro w' ⟨s, rfl⟩
        clear e0 e1 e2 b0 b1 b2
        go_wp2_with fail
        have HR2 : Hid (Below w1.heap.size w1 s.at) := Lib.hid (HR.out.trans (s.below.mono HR.out.size))
        clear HR HBW
        generalize s.at = ws at *
        -- (4)
        have hbx : ∀ s : Aft ws, BoxT s.at w.heap.size ⟨xk, xs, xn⟩ := fun s => HBX.out.below HSZ.out (HR2.out.trans (s.below.mono HR2.out.size))
        have b0 := fun s : Aft ws => (hbx s).1
        have b1 := fun s : Aft ws => (hbx s).2.1
        have b2 := fun s : Aft ws => (hbx s).2.2
        have hce : ∀ j v, (encT ⟨yk, ys, yn⟩)[j]? = some v → ∀ s : Aft ws, s.at.cell? ⟨g, o + k * 3 + j, none⟩ = some v := fun j v hv s => HCE.out j v hv s.at (HR2.out.trans (s.below.mono HR2.out.size))
        have e0 := hce 0 _ rfl
        have e1 := hce 1 _ rfl
        have e2 := hce 2 _ rfl
        have HSM := Lib.hid (sameTag_any ⟨yk, ys, yn⟩ ⟨xk, xs, xn⟩)
        clear hbx hce
        cases hq2 : eqT ⟨yk, ys, yn⟩ ⟨xk, xs, xn⟩
        all_goals
          rw [hq2] at HSM
          have HQ2 := Lib.hid hq2
          clear hq2
          simp only [encT, Nat.add_zero] at e0 e1 e2 b0 b1 b2 HSM
          refine region_quiet_lit (C := fun w' => ∃ s : Aft ws, w' = s.at) (by kernel_rfl) (by kernel_rfl) ⟨⟨ws.drew, Below.drew (Below.refl _ _)⟩, rfl⟩ ?_
          repeat (go_big_quiet_step (with_reducible exact call_ok (HSM.out _)))
          refine wpQuiet_nil ?_
          rintro w' ⟨s, rfl⟩
          clear e0 e1 e2 b0 b1 b2
          go_wp2_with fail
          have HR3 : Hid (Below w1.heap.size w1 s.at) := Lib.hid (HR2.out.trans (s.below.mono HR2.out.size))
          generalize s.at = wt at *
        · have HTG : Hid (∀ w', Below w1.heap.size w1 w' → Calls Tryd.prog 24 #[.slice (some ⟨g, o, none⟩) k cap] w' fun e w'' => ∃ v, e = .returned v ∧ w''.ownsRow w1.heap.size 23 3 v k (flatL (l.take k)) ∧ Below w'.heap.size w' w'') := Lib.hid fun w' hb => by
            have hb1 := HB0.out.trans (hb.mono HB0.out.size)
            refine (tags_core (l.take k) (some ⟨g, o, none⟩) k cap (by rw [List.length_take]; have := HN.out.1; omega) (by omega) w' (tgAt_take (HT.out.below hb1) k)).mono ?_
            rintro e w'' ⟨v, he, ho, hbb⟩
            exact ⟨v, he, own_low ho hb.size, hbb⟩
          obtain ⟨b0, b1, b2⟩ := HBX.out.below HSZ.out HR3.out
          simp only at b0 b1 b2
          have n0 := World.new_ne wt _ b0
          have hcapz : (k : Int) ≤ (cap : Int) := by omega
          have D3 : k + 1 ≤ maxLen := by simp only [maxLen]; omega
          have D4 : (k + 1) * 32 ≤ 140737488355328 := by omega
          have DX := one_encT ⟨xk, xs, xn⟩
          simp only [encT] at DX
          have HWA : Hid (∀ j u, ([.int .i64 xk, .string xs, .int .i64 xn] : List Value)[j]? = some u → ∀ w', Below (wt.heap.size + 1) (wt.alloc (.cells #[.int .i64 xk, .string xs, .int .i64 xn] 23)) w' → w'.cell? ((⟨wt.heap.size, 0, none⟩ : Addr).add j) = some u) := Lib.hid fun j u hj w' hb => by
            rw [← cell_three_new wt ⟨xk, xs, xn⟩ 23 j u hj, addr_add, hb.cell (p := ⟨wt.heap.size, _, none⟩) (Nat.lt_succ_self _)]
            rfl
          have HSX : Hid (∀ w', Below w1.heap.size w1 w' → w1.heap.size ≤ (w'.alloc (.cells #[.int .i64 xk, .string xs, .int .i64 xn] 23)).heap.size ∧ Below w1.heap.size w1 (w'.alloc (.cells #[.int .i64 xk, .string xs, .int .i64 xn] 23))) := Lib.hid fun w' hb => ⟨(hb.alloc hb.size _).size, hb.alloc hb.size _⟩
          go_region_held3 (fun w' => w'.cell? ⟨w.heap.size, 0, none⟩ = some (.int .i64 xk) ∧ w'.cell? ⟨w.heap.size, 1, none⟩ = some (.string xs) ∧ w'.cell? ⟨w.heap.size, 2, none⟩ = some (.int .i64 xn)) (first | exact HBX.out.below HSZ.out HBU.out | go_keep | (simp [*]; done)) (first
            | (go_at_call 24; refine (HTG.out wt.drew (Below.drew HR3.out)).mono ?_; rintro e u ⟨v9, rfl, ho9, hb9⟩; have HO9 := Lib.hid ho9; have HBU : Hid (Below w1.heap.size w1 u) := Lib.hid ((Below.drew HR3.out).trans (hb9.mono (Below.drew HR3.out).size)); clear ho9 hb9; obtain ⟨d0, d1, d2⟩ := HBX.out.below HSZ.out HBU.out; simp only at d0 d1 d2; have m0 := World.new_ne u _ d0)
            | (go_at_call 24; refine (HTG.out _ (Below.drew (HSX.out wt HR3.out).2)).mono ?_; rintro e u ⟨v9, rfl, ho9, hb9⟩; have HO9 := Lib.hid ho9; have HB9 : Hid (Below (wt.heap.size + 1) (wt.alloc (.cells #[.int .i64 xk, .string xs, .int .i64 xn] 23)) u) := Lib.hid (Below.trans (Below.drew (Below.refl _ _)) (hb9.mono (by show _ ≤ (wt.alloc _).heap.size; simp))); have HBU : Hid (Below w1.heap.size w1 u) := Lib.hid ((Below.drew (HSX.out wt HR3.out).2).trans (hb9.mono (Below.drew (HSX.out wt HR3.out).2).size)); clear ho9 hb9)
            | (refine step_append_lies _ (by rfl) (.tmp 38) (.tmp 40) 24 (by rfl) w1.heap.size 23 i0 (.agg zeroT) 3 32 Tryd.underlying24 hi hz0 hz1 hz2 rfl (by decide) v9 k (flatL (l.take k)) (by rfl) (HO9.out.alloc _) ⟨u.heap.size, 0, none⟩ 1 1 [.int .i64 xk, .string xs, .int .i64 xn] (by rfl) rfl (cell_three_new u ⟨xk, xs, xn⟩ 23) DX (by decide) D3 D4 (HSX.out u HBU.out).1 (u.heap.size + 1) (by simp) ?_; intro g6 c6 w6 hown6 hgrow6 hat6 hlt6; have HO6 := Lib.hid hown6; have HBV : Hid (Below w1.heap.size w1 w6) := Lib.hid ((HSX.out u HBU.out).2.grown hgrow6 (HSX.out u HBU.out).1 (fun q hq => ((HO9.out).lt q hq).1)); clear hown6 hgrow6 hat6 HBU; have HBU := HBV; clear HBV)
            | (refine step_append_lies _ (by rfl) (.tmp 38) (.tmp 40) 24 (by rfl) w1.heap.size 23 i0 (.agg zeroT) 3 32 Tryd.underlying24 hi hz0 hz1 hz2 rfl (by decide) v9 k (flatL (l.take k)) (by rfl) HO9.out ⟨wt.heap.size, 0, none⟩ 1 1 [.int .i64 xk, .string xs, .int .i64 xn] (by rfl) rfl (fun j uu hj => HWA.out j uu hj u HB9.out) DX (by decide) D3 D4 HBU.out.size u.heap.size rfl ?_; intro g6 c6 w6 hown6 hgrow6 hat6 hlt6; have HO6 := Lib.hid hown6; have HBV : Hid (Below w1.heap.size w1 w6) := Lib.hid (HBU.out.grown hgrow6 HBU.out.size (fun q hq => ((HO9.out).lt q hq).1)); clear hown6 hgrow6 hat6 HBU; have HBU := HBV; clear HBV))
          all_goals
            have HT6 := Lib.hid (tgAt_drop (HT.out.below (HB0.out.trans (HBU.out.mono HB0.out.size))) k)
            have E1 : k + 1 + (n - k) ≤ maxLen := by simp only [maxLen]; omega
            have E2 : (k + 1 + (n - k)) * 32 ≤ 140737488355328 := by omega
            have E3 : n - k = (l.drop k).length := by rw [List.length_drop]; have := HN.out.1; omega
            have E4 := Lib.hid E3
            have HRL := Lib.hid (fun q hq => ((HO6.out).lt q hq).1)
            have HO7 := Lib.hid (own_low HO6.out HB0.out.size)
            clear E3
            go_wp2_with (at_builtin; refine wpList_append_tg _ rfl _ _ 24 rfl w1.heap.size 23 i0 (.agg zeroT) 32 Tryd.underlying24 hi hz0 hz1 hz2 rfl (.slice (some ⟨g6, 0, none⟩) (k + 1) c6) _ _ rfl HO6.out (some ⟨g, o + k * 3, none⟩) (l.drop k) _ (cap - k) rfl E4.out HT6.out (fun h => by cases h) E1 E2 HBU.out.size ?_; intro v7 w7 ho7 gr7; have HO8 := Lib.hid ho7; have HG7 : Hid (Below w1.heap.size w1 w7) := Lib.hid (HBU.out.grown gr7 HBU.out.size (fun q hq => HRL.out q hq)); clear ho7 gr7)
            go_ret
            exact put_done HO8.out HN.out.1 hk (put_here l HN.out.2.1 _ k (by have := HN.out.1; omega) HJ.out (fun _ => by rw [HY.out]; exact (ltT_total _ _ (fun e => by rw [e, (eqT_iff _ _).2 rfl] at HQ2; exact absurd HQ2.out (by simp))).resolve_right (by rw [HQ.out]; simp))) (HB0.out.trans (HG7.out.mono HB0.out.size))
        · refine (tags_core l (some ⟨g, o, none⟩) n cap HN.out.1 (by omega) wt (HT.out.below (HB0.out.trans (HR3.out.mono HB0.out.size)))).mono ?_
          rintro e w9 ⟨v9, rfl, ho9, hb9⟩
          go_wp2_with fail
          go_ret
          have hm : (⟨xk, xs, xn⟩ : Tg) ∈ l := by rw [← (eqT_iff _ _).1 HQ2.out, ← HY.out, getElem!_pos l k hl]; exact List.getElem_mem hl
          rw [HN.out.1] at ho9
          obtain ⟨a9, c9, rfl, ht9, hc9, hf9, hl9⟩ := own_tg2 ho9
          have e := put_there l HN.out.2.1 _ hm
          have hb := (HB0.out.trans (HR3.out.mono HB0.out.size))
          refine ⟨a9, c9, ?_, ?_, hc9, hf9, by rw [← e]; exact hl9, hb.trans (hb9.mono hb.size)⟩
          · rw [← e]; rfl
          · rw [← e]; exact ht9
      · rw [hq] at HS
        have HQ := Lib.hid hq
        clear hcell hy hq
        obtain ⟨yk, ys, yn⟩ := y
        have e0 := hce 0 _ rfl
        have e1 := hce 1 _ rfl
        have e2 := hce 2 _ rfl
        simp only [encT, Nat.add_zero] at e0 e1 e2 b0 b1 b2 HS
        clear hce
        go_wp2_with fail
        refine region_quiet_lit (C := fun w' => ∃ s : Aft wr, w' = s.at) (by kernel_rfl) (by kernel_rfl) ⟨⟨wr.drew, Below.drew (Below.refl _ _)⟩, rfl⟩ ?_
        repeat (go_big_quiet_step (with_reducible exact call_ok (HS.out _)))
        refine wpQuiet_nil ?_
        rintro w' ⟨s, rfl⟩
        clear e0 e1 e2 b0 b1 b2
        go_wp2_with fail
        go_roundg (n - (k + 1))
        case measure => omega
        case rel => exact ⟨k + 1, by omega, Nat.le_refl _, by go_num, Lib.hid (HR.out.trans (s.below.mono HR.out.size)), Lib.hid fun j hj => by
          by_cases e : j = k
          · subst e; rw [HY.out]; exact HQ.out
          · exact HJ.out j (by omega)⟩
    · have hltz : ¬ (k : Int) < (n : Int) := by omega
      have HKN := Lib.hid (show k = n by omega)
      clear b0 b1 b2
      go_wp2_with fail
      refine region_quiet_lit (C := fun w' => ∃ s : Aft wr, w' = s.at) (by kernel_rfl) (by kernel_rfl) ⟨⟨wr.drew, Below.drew (Below.refl _ _)⟩, rfl⟩ ?_
      repeat (go_big_quiet_step (fail))
      refine wpQuiet_nil ?_
      rintro w' ⟨s, rfl⟩
      go_wp2_with fail
      have HR2 : Hid (Below w1.heap.size w1 s.at) := Lib.hid (HR.out.trans (s.below.mono HR.out.size))
      clear HR HBW
      generalize s.at = ws at *
      refine region_quiet_lit (C := fun w' => ∃ s : Aft ws, w' = s.at) (by kernel_rfl) (by kernel_rfl) ⟨⟨ws.drew, Below.drew (Below.refl _ _)⟩, rfl⟩ ?_
      repeat (go_big_quiet_step (fail))
      refine wpQuiet_nil ?_
      rintro w' ⟨s, rfl⟩
      go_wp2_with fail
      have HR3 : Hid (Below w1.heap.size w1 s.at) := Lib.hid (HR2.out.trans (s.below.mono HR2.out.size))
      clear HR2
      generalize s.at = wt at *
      rcases HF.out with rfl | ⟨g, o, rfl⟩
      · have hnl : l = [] := HT.out.resolve_right (fun ⟨b, o, e, _⟩ => by cases e)
        subst hnl
        obtain rfl : n = 0 := HN.out.1
        obtain rfl : k = 0 := by omega
        obtain rfl : cap = 0 := HN.out.2.2.1 rfl
        have HTG : Hid (∀ w', Below w1.heap.size w1 w' → Calls Tryd.prog 24 #[.slice none 0 0] w' fun e w'' => ∃ v, e = .returned v ∧ w''.ownsRow w1.heap.size 23 3 v 0 (flatL (([] : List Tg).take 0)) ∧ Below w'.heap.size w' w'') := Lib.hid fun w' hb => by
          have hb1 := HB0.out.trans (hb.mono HB0.out.size)
          refine (tags_core (([] : List Tg).take 0) none 0 0 (by rw [List.length_take]; have := HN.out.1; omega) (by omega) w' (tgAt_take (HT.out.below hb1) 0)).mono ?_
          rintro e w'' ⟨v, he, ho, hbb⟩
          exact ⟨v, he, own_low ho hb.size, hbb⟩
        obtain ⟨b0, b1, b2⟩ := HBX.out.below HSZ.out HR3.out
        simp only at b0 b1 b2
        have n0 := World.new_ne wt _ b0
        have D3 : 0 + 1 ≤ maxLen := by simp only [maxLen]; omega
        have D4 : (0 + 1) * 32 ≤ 140737488355328 := by omega
        have DX := one_encT ⟨xk, xs, xn⟩
        simp only [encT] at DX
        have HWA : Hid (∀ j u, ([.int .i64 xk, .string xs, .int .i64 xn] : List Value)[j]? = some u → ∀ w', Below (wt.heap.size + 1) (wt.alloc (.cells #[.int .i64 xk, .string xs, .int .i64 xn] 23)) w' → w'.cell? ((⟨wt.heap.size, 0, none⟩ : Addr).add j) = some u) := Lib.hid fun j u hj w' hb => by
          rw [← cell_three_new wt ⟨xk, xs, xn⟩ 23 j u hj, addr_add, hb.cell (p := ⟨wt.heap.size, _, none⟩) (Nat.lt_succ_self _)]
          rfl
        have HSX : Hid (∀ w', Below w1.heap.size w1 w' → w1.heap.size ≤ (w'.alloc (.cells #[.int .i64 xk, .string xs, .int .i64 xn] 23)).heap.size ∧ Below w1.heap.size w1 (w'.alloc (.cells #[.int .i64 xk, .string xs, .int .i64 xn] 23))) := Lib.hid fun w' hb => ⟨(hb.alloc hb.size _).size, hb.alloc hb.size _⟩
        go_region_held3 (fun w' => w'.cell? ⟨w.heap.size, 0, none⟩ = some (.int .i64 xk) ∧ w'.cell? ⟨w.heap.size, 1, none⟩ = some (.string xs) ∧ w'.cell? ⟨w.heap.size, 2, none⟩ = some (.int .i64 xn)) (first | exact HBX.out.below HSZ.out HBU.out | go_keep | (simp [*]; done)) (first
          | (go_at_call 24; refine (HTG.out wt.drew (Below.drew HR3.out)).mono ?_; rintro e u ⟨v9, rfl, ho9, hb9⟩; have HO9 := Lib.hid ho9; have HBU : Hid (Below w1.heap.size w1 u) := Lib.hid ((Below.drew HR3.out).trans (hb9.mono (Below.drew HR3.out).size)); clear ho9 hb9; obtain ⟨d0, d1, d2⟩ := HBX.out.below HSZ.out HBU.out; simp only at d0 d1 d2; have m0 := World.new_ne u _ d0)
          | (go_at_call 24; refine (HTG.out _ (Below.drew (HSX.out wt HR3.out).2)).mono ?_; rintro e u ⟨v9, rfl, ho9, hb9⟩; have HO9 := Lib.hid ho9; have HB9 : Hid (Below (wt.heap.size + 1) (wt.alloc (.cells #[.int .i64 xk, .string xs, .int .i64 xn] 23)) u) := Lib.hid (Below.trans (Below.drew (Below.refl _ _)) (hb9.mono (by show _ ≤ (wt.alloc _).heap.size; simp))); have HBU : Hid (Below w1.heap.size w1 u) := Lib.hid ((Below.drew (HSX.out wt HR3.out).2).trans (hb9.mono (Below.drew (HSX.out wt HR3.out).2).size)); clear ho9 hb9)
          | (refine step_append_lies _ (by rfl) (.tmp 38) (.tmp 40) 24 (by rfl) w1.heap.size 23 i0 (.agg zeroT) 3 32 Tryd.underlying24 hi hz0 hz1 hz2 rfl (by decide) v9 0 (flatL (([] : List Tg).take 0)) (by rfl) (HO9.out.alloc _) ⟨u.heap.size, 0, none⟩ 1 1 [.int .i64 xk, .string xs, .int .i64 xn] (by rfl) rfl (cell_three_new u ⟨xk, xs, xn⟩ 23) DX (by decide) D3 D4 (HSX.out u HBU.out).1 (u.heap.size + 1) (by simp) ?_; intro g6 c6 w6 hown6 hgrow6 hat6 hlt6; have HO6 := Lib.hid hown6; have HBV : Hid (Below w1.heap.size w1 w6) := Lib.hid ((HSX.out u HBU.out).2.grown hgrow6 (HSX.out u HBU.out).1 (fun q hq => ((HO9.out).lt q hq).1)); clear hown6 hgrow6 hat6 HBU; have HBU := HBV; clear HBV)
          | (refine step_append_lies _ (by rfl) (.tmp 38) (.tmp 40) 24 (by rfl) w1.heap.size 23 i0 (.agg zeroT) 3 32 Tryd.underlying24 hi hz0 hz1 hz2 rfl (by decide) v9 0 (flatL (([] : List Tg).take 0)) (by rfl) HO9.out ⟨wt.heap.size, 0, none⟩ 1 1 [.int .i64 xk, .string xs, .int .i64 xn] (by rfl) rfl (fun j uu hj => HWA.out j uu hj u HB9.out) DX (by decide) D3 D4 HBU.out.size u.heap.size rfl ?_; intro g6 c6 w6 hown6 hgrow6 hat6 hlt6; have HO6 := Lib.hid hown6; have HBV : Hid (Below w1.heap.size w1 w6) := Lib.hid (HBU.out.grown hgrow6 HBU.out.size (fun q hq => ((HO9.out).lt q hq).1)); clear hown6 hgrow6 hat6 HBU; have HBU := HBV; clear HBV))
        all_goals
          have E1 : 0 + 1 + (0 - 0) ≤ maxLen := by simp only [maxLen]; omega
          have E2 : (0 + 1 + (0 - 0)) * 32 ≤ 140737488355328 := by omega
          have HRL := Lib.hid (fun q hq => ((HO6.out).lt q hq).1)
          go_wp2_with (at_builtin; refine wpList_append_tg _ rfl _ _ 24 rfl w1.heap.size 23 i0 (.agg zeroT) 32 Tryd.underlying24 hi hz0 hz1 hz2 rfl (.slice (some ⟨g6, 0, none⟩) (0 + 1) c6) _ _ rfl HO6.out none [] _ _ rfl rfl (Or.inl rfl) (fun _ => rfl) E1 E2 HBU.out.size ?_; intro v7 w7 ho7 gr7; have HO8 := Lib.hid ho7; have HG7 : Hid (Below w1.heap.size w1 w7) := Lib.hid (HBU.out.grown gr7 HBU.out.size (fun q hq => HRL.out q hq)); clear ho7 gr7)
          go_ret
          exact put_done (n := 0) (k := 0) HO8.out HN.out.1 (Nat.le_refl _) (put_here [] HN.out.2.1 _ 0 (Nat.zero_le _) (fun j hj => absurd hj (Nat.not_lt_zero _)) (fun hh => absurd hh (by simp))) (HB0.out.trans (HG7.out.mono HB0.out.size))
      · have HTG : Hid (∀ w', Below w1.heap.size w1 w' → Calls Tryd.prog 24 #[.slice (some ⟨g, o, none⟩) k cap] w' fun e w'' => ∃ v, e = .returned v ∧ w''.ownsRow w1.heap.size 23 3 v k (flatL (l.take k)) ∧ Below w'.heap.size w' w'') := Lib.hid fun w' hb => by
          have hb1 := HB0.out.trans (hb.mono HB0.out.size)
          refine (tags_core (l.take k) (some ⟨g, o, none⟩) k cap (by rw [List.length_take]; have := HN.out.1; omega) (by omega) w' (tgAt_take (HT.out.below hb1) k)).mono ?_
          rintro e w'' ⟨v, he, ho, hbb⟩
          exact ⟨v, he, own_low ho hb.size, hbb⟩
        obtain ⟨b0, b1, b2⟩ := HBX.out.below HSZ.out HR3.out
        simp only at b0 b1 b2
        have n0 := World.new_ne wt _ b0
        have hcapz : (k : Int) ≤ (cap : Int) := by omega
        have D3 : k + 1 ≤ maxLen := by simp only [maxLen]; omega
        have D4 : (k + 1) * 32 ≤ 140737488355328 := by omega
        have DX := one_encT ⟨xk, xs, xn⟩
        simp only [encT] at DX
        have HWA : Hid (∀ j u, ([.int .i64 xk, .string xs, .int .i64 xn] : List Value)[j]? = some u → ∀ w', Below (wt.heap.size + 1) (wt.alloc (.cells #[.int .i64 xk, .string xs, .int .i64 xn] 23)) w' → w'.cell? ((⟨wt.heap.size, 0, none⟩ : Addr).add j) = some u) := Lib.hid fun j u hj w' hb => by
          rw [← cell_three_new wt ⟨xk, xs, xn⟩ 23 j u hj, addr_add, hb.cell (p := ⟨wt.heap.size, _, none⟩) (Nat.lt_succ_self _)]
          rfl
        have HSX : Hid (∀ w', Below w1.heap.size w1 w' → w1.heap.size ≤ (w'.alloc (.cells #[.int .i64 xk, .string xs, .int .i64 xn] 23)).heap.size ∧ Below w1.heap.size w1 (w'.alloc (.cells #[.int .i64 xk, .string xs, .int .i64 xn] 23))) := Lib.hid fun w' hb => ⟨(hb.alloc hb.size _).size, hb.alloc hb.size _⟩
        go_region_held3 (fun w' => w'.cell? ⟨w.heap.size, 0, none⟩ = some (.int .i64 xk) ∧ w'.cell? ⟨w.heap.size, 1, none⟩ = some (.string xs) ∧ w'.cell? ⟨w.heap.size, 2, none⟩ = some (.int .i64 xn)) (first | exact HBX.out.below HSZ.out HBU.out | go_keep | (simp [*]; done)) (first
          | (go_at_call 24; refine (HTG.out wt.drew (Below.drew HR3.out)).mono ?_; rintro e u ⟨v9, rfl, ho9, hb9⟩; have HO9 := Lib.hid ho9; have HBU : Hid (Below w1.heap.size w1 u) := Lib.hid ((Below.drew HR3.out).trans (hb9.mono (Below.drew HR3.out).size)); clear ho9 hb9; obtain ⟨d0, d1, d2⟩ := HBX.out.below HSZ.out HBU.out; simp only at d0 d1 d2; have m0 := World.new_ne u _ d0)
          | (go_at_call 24; refine (HTG.out _ (Below.drew (HSX.out wt HR3.out).2)).mono ?_; rintro e u ⟨v9, rfl, ho9, hb9⟩; have HO9 := Lib.hid ho9; have HB9 : Hid (Below (wt.heap.size + 1) (wt.alloc (.cells #[.int .i64 xk, .string xs, .int .i64 xn] 23)) u) := Lib.hid (Below.trans (Below.drew (Below.refl _ _)) (hb9.mono (by show _ ≤ (wt.alloc _).heap.size; simp))); have HBU : Hid (Below w1.heap.size w1 u) := Lib.hid ((Below.drew (HSX.out wt HR3.out).2).trans (hb9.mono (Below.drew (HSX.out wt HR3.out).2).size)); clear ho9 hb9)
          | (refine step_append_lies _ (by rfl) (.tmp 38) (.tmp 40) 24 (by rfl) w1.heap.size 23 i0 (.agg zeroT) 3 32 Tryd.underlying24 hi hz0 hz1 hz2 rfl (by decide) v9 k (flatL (l.take k)) (by rfl) (HO9.out.alloc _) ⟨u.heap.size, 0, none⟩ 1 1 [.int .i64 xk, .string xs, .int .i64 xn] (by rfl) rfl (cell_three_new u ⟨xk, xs, xn⟩ 23) DX (by decide) D3 D4 (HSX.out u HBU.out).1 (u.heap.size + 1) (by simp) ?_; intro g6 c6 w6 hown6 hgrow6 hat6 hlt6; have HO6 := Lib.hid hown6; have HBV : Hid (Below w1.heap.size w1 w6) := Lib.hid ((HSX.out u HBU.out).2.grown hgrow6 (HSX.out u HBU.out).1 (fun q hq => ((HO9.out).lt q hq).1)); clear hown6 hgrow6 hat6 HBU; have HBU := HBV; clear HBV)
          | (refine step_append_lies _ (by rfl) (.tmp 38) (.tmp 40) 24 (by rfl) w1.heap.size 23 i0 (.agg zeroT) 3 32 Tryd.underlying24 hi hz0 hz1 hz2 rfl (by decide) v9 k (flatL (l.take k)) (by rfl) HO9.out ⟨wt.heap.size, 0, none⟩ 1 1 [.int .i64 xk, .string xs, .int .i64 xn] (by rfl) rfl (fun j uu hj => HWA.out j uu hj u HB9.out) DX (by decide) D3 D4 HBU.out.size u.heap.size rfl ?_; intro g6 c6 w6 hown6 hgrow6 hat6 hlt6; have HO6 := Lib.hid hown6; have HBV : Hid (Below w1.heap.size w1 w6) := Lib.hid (HBU.out.grown hgrow6 HBU.out.size (fun q hq => ((HO9.out).lt q hq).1)); clear hown6 hgrow6 hat6 HBU; have HBU := HBV; clear HBV))
        all_goals
          have E1 : k + 1 + (n - k) ≤ maxLen := by simp only [maxLen]; omega
          have E2 : (k + 1 + (n - k)) * 32 ≤ 140737488355328 := by omega
          have HD0 := Lib.hid (show l.drop k = [] from List.drop_eq_nil_of_le (by have := HN.out.1; have := HKN.out; omega))
          have E4 := Lib.hid (show n - k = ([] : List Tg).length by have := HKN.out; show _ = 0; omega)
          have HRL := Lib.hid (fun q hq => ((HO6.out).lt q hq).1)
          rcases Nat.lt_or_ge k cap with hkc | hkc
          · have hkcz : (k : Int) < (cap : Int) := by omega
            go_wp2_with (at_builtin; refine wpList_append_tg _ rfl _ _ 24 rfl w1.heap.size 23 i0 (.agg zeroT) 32 Tryd.underlying24 hi hz0 hz1 hz2 rfl (.slice (some ⟨g6, 0, none⟩) (k + 1) c6) _ _ rfl HO6.out (some ⟨g, o + k * 3, none⟩) [] _ _ rfl E4.out (Or.inl rfl) (fun h => by cases h) E1 E2 HBU.out.size ?_; intro v7 w7 ho7 gr7; have HO8 := Lib.hid ho7; have HG7 : Hid (Below w1.heap.size w1 w7) := Lib.hid (HBU.out.grown gr7 HBU.out.size (fun q hq => HRL.out q hq)); clear ho7 gr7)
            go_ret
            exact put_done (by rw [HD0.out]; exact HO8.out) HN.out.1 hk (put_here l HN.out.2.1 _ k (by have := HN.out.1; omega) HJ.out (fun hh => absurd hh (by have := HN.out.1; have := HKN.out; omega))) (HB0.out.trans (HG7.out.mono HB0.out.size))
          · have hkcz : ¬ (k : Int) < (cap : Int) := by omega
            go_wp2_with (at_builtin; refine wpList_append_tg _ rfl _ _ 24 rfl w1.heap.size 23 i0 (.agg zeroT) 32 Tryd.underlying24 hi hz0 hz1 hz2 rfl (.slice (some ⟨g6, 0, none⟩) (k + 1) c6) _ _ rfl HO6.out (some ⟨g, o, none⟩) [] _ _ rfl E4.out (Or.inl rfl) (fun h => by cases h) E1 E2 HBU.out.size ?_; intro v7 w7 ho7 gr7; have HO8 := Lib.hid ho7; have HG7 : Hid (Below w1.heap.size w1 w7) := Lib.hid (HBU.out.grown gr7 HBU.out.size (fun q hq => HRL.out q hq)); clear ho7 gr7)
            go_ret
            exact put_done (by rw [HD0.out]; exact HO8.out) HN.out.1 hk (put_here l HN.out.2.1 _ k (by have := HN.out.1; omega) HJ.out (fun hh => absurd hh (by have := HN.out.1; have := HKN.out; omega))) (HB0.out.trans (HG7.out.mono HB0.out.size))
end Go.Proofs.YtcplajplbocieaaDoor
