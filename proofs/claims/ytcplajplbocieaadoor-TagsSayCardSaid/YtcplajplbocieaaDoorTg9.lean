/- Tags, as plain data: what is in order, each once. Conditions: none. -/
import Derived.Test.YtcplajplbocieaaDoorTg8
namespace Go.Proofs.YtcplajplbocieaaDoor
open Go.RowKit Go.Sort Go.Lib

theorem ltT_irrefl (x : Tg) : ltT x x = false := swo_tag.irrefl x
theorem ltT_trans {x y z : Tg} (h : ltT x y = true) (g : ltT y z = true) : ltT x z = true := swo_tag.trans _ _ _ h g
theorem ltT_asymm {x y : Tg} (h : ltT x y = true) : ltT y x = false := by
  cases g : ltT y x
  · rfl
  · have := ltT_trans h g; rw [ltT_irrefl] at this; cases this
theorem ltT_total (x y : Tg) (h : x ≠ y) : ltT x y = true ∨ ltT y x = true := by
  cases g : ltT x y
  · cases k : ltT y x
    · exact absurd (tot_tag x y g k) h
    · exact Or.inr rfl
  · exact Or.inl rfl
theorem sorted_sortT (l : List Tg) : (sortT l).Pairwise fun x y => ltT y x = false := by
  have h := List.pairwise_mergeSort (le := fun x y : Tg => !(ltOf cmpT) y x) (fun a b c h1 h2 => by
      simp only [Bool.not_eq_true'] at *
      exact swo_tag.ntrans _ _ _ h2 h1) (fun a b => by
      cases h : ltOf cmpT b a
      · rfl
      · have : ltOf cmpT a b = false := ltT_asymm h
        rw [this]; rfl) l
  refine h.imp fun {x y} h1 => ?_
  show ltOf cmpT y x = false
  simpa using h1
theorem mem_sortT (l : List Tg) (x : Tg) : x ∈ sortT l ↔ x ∈ l := List.mem_mergeSort
theorem le_at (d : Array Tg) (hs : d.toList.Pairwise fun x y => ltT y x = false) (i j : Nat) (hij : i ≤ j) (hj : j < d.size) : ltT d[j]! d[i]! = false := by
  rcases Nat.lt_or_eq_of_le hij with h | rfl
  · have := List.pairwise_iff_getElem.1 hs i j (by simpa using Nat.lt_trans h hj) (by simpa using hj) h
    rw [getElem!_pos d j hj, getElem!_pos d i (by omega)]
    simpa using this
  · exact ltT_irrefl _
theorem compact_facts (d : Array Tg) (hs : d.toList.Pairwise fun x y => ltT y x = false) : ∀ m, m ≤ d.size → ((compactUpTo d m).Pairwise fun x y => ltT x y = true) ∧ (∀ x, x ∈ compactUpTo d m ↔ ∃ j, j < m ∧ d[j]! = x) := by
  intro m
  induction m with
  | zero => intro _; refine ⟨by simp [compactUpTo], fun x => ?_⟩; simp [compactUpTo]
  | succ m ih =>
    intro hm
    obtain ⟨h1, h2⟩ := ih (by omega)
    rw [compactUpTo_succ]
    cases hk : keeps d m
    · have he : ¬ m = 0 ∧ d[m]! = d[m - 1]! := by
        simp only [keeps, ne_eq, decide_eq_false_iff_not, not_or, Decidable.not_not] at hk; exact hk
      refine ⟨by simpa using h1, fun x => ?_⟩
      simp only [Bool.false_eq_true, if_false, List.append_nil, h2 x]
      constructor
      · rintro ⟨j, hj, e⟩; exact ⟨j, by omega, e⟩
      · rintro ⟨j, hj, e⟩
        by_cases h : j = m
        · subst h; exact ⟨j - 1, by omega, by rw [← he.2]; exact e⟩
        · exact ⟨j, by omega, e⟩
    · have he : m = 0 ∨ d[m]! ≠ d[m - 1]! := by simpa [keeps] using hk
      simp only [if_true]
      refine ⟨List.pairwise_append.2 ⟨h1, by simp, fun y hy z hz => ?_⟩, fun x => ?_⟩
      · obtain rfl := List.mem_singleton.1 hz
        obtain ⟨j, hj, rfl⟩ := (h2 y).1 hy
        have hm0 : d[m]! ≠ d[m - 1]! := he.resolve_left (by omega)
        have g1 := le_at d hs (m - 1) m (by omega) (by omega)
        have g2 := le_at d hs j (m - 1) (by omega) (by omega)
        have g3 : ltT d[m - 1]! d[m]! = true := (ltT_total _ _ hm0).resolve_left (by rw [g1]; simp)
        cases g4 : ltT d[j]! d[m - 1]!
        · rw [tot_tag _ _ g4 g2]; exact g3
        · exact ltT_trans g4 g3
      · rw [List.mem_append, List.mem_singleton, h2 x]
        constructor
        · rintro (⟨j, hj, e⟩ | e)
          · exact ⟨j, by omega, e⟩
          · exact ⟨m, by omega, e.symm⟩
        · rintro ⟨j, hj, e⟩
          by_cases h : j = m
          · subst h; exact Or.inr e.symm
          · exact Or.inl ⟨j, by omega, e⟩
theorem rising_setT (l : List Tg) : (setT l).Pairwise fun x y => ltT x y = true :=
  (compact_facts _ (by simpa using sorted_sortT l) _ (Nat.le_refl _)).1
theorem mem_setT (l : List Tg) (x : Tg) : x ∈ setT l ↔ x ∈ l := by
  rw [← mem_sortT l x]
  refine ((compact_facts _ (by simpa using sorted_sortT l) _ (Nat.le_refl _)).2 x).trans ⟨?_, ?_⟩
  · rintro ⟨j, hj, e⟩
    rw [getElem!_pos _ j hj] at e
    rw [← e]
    simp
  · intro h
    obtain ⟨j, hj, e⟩ := List.getElem_of_mem h
    exact ⟨j, by simpa using hj, by rw [getElem!_pos _ j (by simpa using hj)]; simpa using e⟩
/-- Two that rise, of the same tags, are one. -/
theorem rising_ext : ∀ (l m : List Tg), (l.Pairwise fun x y => ltT x y = true) → (m.Pairwise fun x y => ltT x y = true) → (∀ x, x ∈ l ↔ x ∈ m) → l = m
  | [], [], _, _, _ => rfl
  | [], y :: m, _, _, h => absurd ((h y).2 (by simp)) (by simp)
  | x :: l, [], _, _, h => absurd ((h x).1 (by simp)) (by simp)
  | x :: l, y :: m, h1, h2, h => by
    rw [List.pairwise_cons] at h1 h2
    have e : x = y := by
      have hx := (h x).1 (by simp)
      have hy := (h y).2 (by simp)
      rcases List.mem_cons.1 hx with e | hx
      · exact e
      rcases List.mem_cons.1 hy with e | hy
      · exact e.symm
      have := ltT_asymm (h1.1 y hy)
      rw [h2.1 x hx] at this
      cases this
    subst e
    congr 1
    refine rising_ext l m h1.2 h2.2 fun z => ⟨fun hz => ?_, fun hz => ?_⟩
    · rcases List.mem_cons.1 ((h z).1 (List.mem_cons_of_mem _ hz)) with e | h'
      · subst e; have := h1.1 z hz; rw [ltT_irrefl] at this; cases this
      · exact h'
    · rcases List.mem_cons.1 ((h z).2 (List.mem_cons_of_mem _ hz)) with e | h'
      · subst e; have := h2.1 z hz; rw [ltT_irrefl] at this; cases this
      · exact h'
theorem set_same (l m : List Tg) (h : ∀ x, x ∈ l ↔ x ∈ m) : setT l = setT m :=
  rising_ext _ _ (rising_setT l) (rising_setT m) fun x => by rw [mem_setT, mem_setT, h]
theorem set_set (l : List Tg) : setT (setT l) = setT l := set_same _ _ fun x => mem_setT l x
theorem any_has (l : List Tg) (x : Tg) : (l.any fun y => eqT x y) = decide (x ∈ l) := by
  rcases Classical.em (x ∈ l) with h | h
  · rw [decide_eq_true h]
    exact List.any_eq_true.2 ⟨x, h, (eqT_iff x x).2 rfl⟩
  · rw [decide_eq_false h]
    refine Bool.eq_false_iff.2 fun e => ?_
    obtain ⟨y, hy, e⟩ := List.any_eq_true.1 e
    exact h ((eqT_iff x y).1 e ▸ hy)
theorem rising_at (l : List Tg) (i : Nat) (h : i + 1 < (setT l).length) : ltT (setT l)[i]! (setT l)[i + 1]! = true := by
  have := List.pairwise_iff_getElem.1 (rising_setT l) i (i + 1) (by omega) h (by omega)
  rw [getElem!_pos _ i (by omega), getElem!_pos _ (i + 1) h]
  exact this
theorem len_setT (l : List Tg) : (setT l).length ≤ l.length := by
  unfold setT compactUpTo
  rw [List.length_map]
  refine Nat.le_trans (List.length_filter_le _ _) ?_
  rw [List.length_range]
  exact Nat.le_of_eq (len_sortT l)
end Go.Proofs.YtcplajplbocieaaDoor
