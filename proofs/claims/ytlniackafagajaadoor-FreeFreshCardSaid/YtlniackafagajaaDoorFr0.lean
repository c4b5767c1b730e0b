/- A name with a number behind: the texts, told apart; lists of texts. No conditions. -/
import Derived.Test.YtlniackafagajaaDoorTexts
import Derived.Test.YtlniackafagajaaDoorDec
namespace Go.Proofs.YtlniackafagajaaDoor
open Go.RowKit

theorem bytes_eq {s t : ByteArray} (h : s.toList = t.toList) : s = t := by
  rw [ByteArray.toList_eq, ByteArray.toList_eq] at h
  exact ByteArray.ext (Array.toList_inj.1 h)
theorem beq_bytes (s t : ByteArray) : (s.toList == t.toList) = true ↔ s = t := by
  rw [beq_iff_eq]
  exact ⟨bytes_eq, fun h => by rw [h]⟩
theorem hasB_mem (l : List ByteArray) (s : ByteArray) : hasB l s = true ↔ s ∈ l := by
  unfold hasB
  rw [List.any_eq_true]
  constructor
  · rintro ⟨x, hx, h⟩
    rw [(beq_bytes _ _).1 h] at hx
    exact hx
  · intro h
    exact ⟨s, h, by simp⟩
theorem hasB_append (l r : List ByteArray) (s : ByteArray) : hasB (l ++ r) s = (hasB l s || hasB r s) := by
  unfold hasB; rw [List.any_append]

/-- base, with the number j behind, if it isn't 0. -/
def frB (base : ByteArray) (j : Nat) : ByteArray := if j = 0 then base else base ++ ⟨#[95]⟩ ++ ⟨(Lib.itoa (j : Int)).toArray⟩
theorem frB_zero (base : ByteArray) : frB base 0 = base := rfl
theorem frB_succ (base : ByteArray) (j : Nat) (h : 0 < j) : frB base j = base ++ ⟨#[95]⟩ ++ ⟨(Lib.itoa (j : Int)).toArray⟩ := by
  unfold frB; rw [if_neg (by omega)]
theorem frB_data (base : ByteArray) (j : Nat) (h : 0 < j) : (frB base j).data.toList = base.data.toList ++ 95 :: Lib.itoa (j : Int) := by
  rw [frB_succ base j h, ByteArray.data_append, ByteArray.data_append]
  simp
theorem frB_size (base : ByteArray) (j : Nat) (hj : (j : Int) ≤ 9223372036854775807) : (frB base j).size ≤ base.size + 21 := by
  rcases Nat.eq_zero_or_pos j with rfl | h
  · rw [frB_zero]; omega
  · have e : (frB base j).size = (frB base j).data.toList.length := rfl
    have e2 : base.size = base.data.toList.length := rfl
    have := itoa_len (j : Int) (by omega) hj
    rw [e, frB_data base j h, List.length_append, List.length_cons, e2]
    omega
theorem frB_inj (base : ByteArray) {i j : Nat} (h : frB base i = frB base j) : i = j := by
  have key : ∀ a b : Nat, a = 0 → 0 < b → frB base a = frB base b → False := fun a b ha hb e => by
    subst ha
    have e2 := congrArg (fun s : ByteArray => s.data.toList.length) e
    simp only [frB_zero] at e2
    rw [frB_data base b hb, List.length_append, List.length_cons] at e2
    omega
  rcases Nat.eq_zero_or_pos i with hi | hi
  · rcases Nat.eq_zero_or_pos j with hj | hj
    · omega
    · exact (key i j hi hj h).elim
  · rcases Nat.eq_zero_or_pos j with hj | hj
    · exact (key j i hj hi h.symm).elim
    · have e := congrArg (fun s : ByteArray => s.data.toList) h
      simp only [frB_data base i hi, frB_data base j hj] at e
      have e2 := List.append_cancel_left e
      have e3 := itoa_inj (List.cons.inj e2).2
      omega

/-- So many different texts of a list: the list is as long. -/
theorem pigeon (l : List ByteArray) (f : Nat → ByteArray) (hf : ∀ i j, f i = f j → i = j) : ∀ n, (∀ i, i < n → f i ∈ l) → n ≤ l.length := by
  intro n h
  have hn : ((List.range n).map f).Nodup := by
    rw [List.nodup_iff_pairwise_ne, List.pairwise_map]
    exact (List.nodup_iff_pairwise_ne.1 List.nodup_range).imp fun hne e => hne (hf _ _ e)
  have := hn.length_le_of_subset (l₂ := l) (fun x hx => by
    obtain ⟨i, hi, rfl⟩ := List.mem_map.1 hx
    exact h i (by simpa using hi))
  simpa using this
theorem frB_room (base : ByteArray) (l : List ByteArray) (n : Nat) (h : ∀ i, i < n → hasB l (frB base i) = true) : n ≤ l.length :=
  pigeon l (frB base) (fun _ _ => frB_inj base) n fun i hi => (hasB_mem l _).1 (h i hi)
end Go.Proofs.YtlniackafagajaaDoor
