/- TagsKinds: the law's walk. Conditions: the listed variables read as start-up lays them. -/
import Derived.Test.YtcplajplbocieaaDoorTk1
namespace Go.Proofs.YtcplajplbocieaaDoor
open Go.RowKit Go.Sort Go.Lib

theorem itoa_pos (n : Int) (h0 : -9223372036854775808 ≤ n) (h1 : n ≤ 9223372036854775807) : 1 ≤ (Lib.itoa n).length := by
  rcases Int.lt_or_le n 0 with h | h
  · obtain ⟨u, rfl⟩ : ∃ u : Nat, n = -((u : Nat) : Int) := ⟨n.natAbs, by omega⟩
    rw [Lib.itoa_neg u (by omega), List.length_cons]; omega
  · obtain ⟨u, rfl⟩ : ∃ u : Nat, n = ((u : Nat) : Int) := ⟨n.natAbs, by omega⟩
    rw [Lib.itoa_nonneg]
    by_cases hu : u < 10
    · rw [Lib.decDigits_one hu]; simp
    · rw [Lib.decDigits, dif_neg hu, List.length_append, List.length_singleton]; omega
theorem text_len (k n : Int) (s : ByteArray) (hk : 1 ≤ k ∧ k ≤ 6) (h0 : -9223372036854775808 ≤ n) (h1 : n ≤ 9223372036854775807) : (3 : Int) ≤ ((textT ⟨k, s, n⟩).size : Int) := by
  have hp := itoa_pos n h0 h1
  unfold textT
  simp only
  rw [if_pos hk]
  have hl : (letT k).size = 1 := by
    have : k = 1 ∨ k = 2 ∨ k = 3 ∨ k = 4 ∨ k = 5 ∨ k = 6 := by omega
    rcases this with rfl | rfl | rfl | rfl | rfl | rfl <;> rfl
  rw [ByteArray.size_append, ByteArray.size_append, ByteArray.size_append, hl]
  have : (⟨(Lib.itoa n).toArray⟩ : ByteArray).size = (Lib.itoa n).length := by rw [Lib.size_eq]
  rw [this]
  show (3 : Int) ≤ ((1 + s.size + 1 + (Lib.itoa n).length : Nat) : Int)
  omega
theorem tgAt_one (w : World) (x : Tg) : TgAt (w.alloc (.cells (encT x).toArray 23)) (some ⟨w.heap.size, 0, none⟩) [x] := by
  refine Or.inr ⟨_, 0, rfl, by simp, fun j hj i v hi => ?_⟩
  obtain rfl : j = 0 := by simp at hj; omega
  have hr := heap_alloc_new w (.cells (encT x).toArray 23)
  rw [cell_of_row _ w.heap.size (0 + 0 * 3 + i) _ _ _ hr]
  simpa using hi
set_option maxRecDepth 100000 in
set_option maxHeartbeats 8000000 in
theorem kinds_good (k n : Int) (s : ByteArray) (hs : s.size ≤ 60) (h0 : -9223372036854775808 ≤ n) (h1 : n ≤ 9223372036854775807) (hk : k = 1 ∨ k = 2 ∨ k = 3 ∨ k = 4 ∨ k = 5 ∨ k = 6) (hv : validT ⟨k, s, n⟩ = true) (w : World) (ht : Tabs w) :
    Calls Tryd.prog 6 #[.int .i64 k, .int .i64 n, .string s] w (Grew (.bool true) w) := by
  have H0 := Lib.hid (first_any w ht)
  have HV := Lib.hid (valid_any ⟨k, s, n⟩ (by simp only; omega))
  rw [hv] at HV
  have HW := Lib.hid (waits_any ⟨k, s, n⟩)
  have HBA := Lib.hid (bare_any ⟨k, s, n⟩)
  have HT := Lib.hid (fun (w' : World) (hb : Below w.heap.size w w') => text_any ⟨k, s, n⟩ (by simp only; omega) h0 h1 (by simp only; omega) w' (var_below hb (g := 1) (by kernel_rfl) ht))
  have HL := Lib.hid (less_any ⟨k, s, n⟩ ⟨k, s, n⟩)
  have hl : ltT ⟨k, s, n⟩ ⟨k, s, n⟩ = false := swo_tag.irrefl _
  rw [hl] at HL
  have HHS := Lib.hid (fun w' => has_any (some ⟨w'.heap.size, 0, none⟩) 1 [⟨k, s, n⟩] (by simp) ⟨k, s, n⟩ _ (tgAt_one w' ⟨k, s, n⟩))
  have hh : ([⟨k, s, n⟩] : List Tg).any (fun y => eqT ⟨k, s, n⟩ y) = true := by
    simp [(eqT_iff (⟨k, s, n⟩ : Tg) ⟨k, s, n⟩).2 rfl]
  rw [hh] at HHS
  have htl := text_len k n s (by omega) h0 h1
  generalize textT ⟨k, s, n⟩ = tx at *
  simp only [encT, List.length_singleton] at HV HW HBA HT HL HHS
  have HAL := Lib.hid (fun (w0 w1 : World) (b0 : Below w.heap.size w w0) (b1 : Below (w0.alloc (.cells #[.int .i64 k, .string s, .int .i64 n] 23)).heap.size (w0.alloc (.cells #[.int .i64 k, .string s, .int .i64 n] 23)) w1) => show Below w.heap.size w w1 from (b0.alloc b0.size _).trans (b1.mono (b0.alloc b0.size _).size))
  have HCE := Lib.hid (fun (w0 w1 : World) (b1 : Below (w0.alloc (.cells #[.int .i64 k, .string s, .int .i64 n] 23)).heap.size (w0.alloc (.cells #[.int .i64 k, .string s, .int .i64 n] 23)) w1) (w2 : World) (b2 : Below w1.heap.size w1 w2) =>
    show (w2.cell? ⟨w0.heap.size, 0, none⟩ = some (.int .i64 k) ∧ w2.cell? ⟨w0.heap.size, 1, none⟩ = some (.string s) ∧ w2.cell? ⟨w0.heap.size, 2, none⟩ = some (.int .i64 n)) from by
      have b := b1.trans (b2.mono b1.size)
      refine ⟨?_, ?_, ?_⟩ <;> (rw [b.cell (p := ⟨w0.heap.size, _, none⟩) (by simp)]; simp))
  clear hv ht hl hh
  have hs1 : ¬ (60 : Int) < (s.size : Int) := by omega
  rcases hk with rfl | rfl | rfl | rfl | rfl | rfl
  all_goals
    go_enter Tryd.func6, Tryd.ntmps6
    go_wp2_with (first
      | (go_at_call 7; refine H0.out.mono ?_; rintro e w0 ⟨rfl, hb0⟩)
      | (go_at_call 9; refine (HV.out _).mono ?_; rintro e w1 ⟨rfl, hb1⟩; obtain ⟨c0, c1, c2⟩ := HCE.out _ _ hb1 w1 (Below.refl _ w1); have HB1 := Lib.hid (HAL.out _ _ hb0 hb1); have HK := Lib.hid (HCE.out _ _ hb1); have HSZ : Hid (w0.heap.size < w1.heap.size) := Lib.hid (Nat.lt_of_lt_of_le (by simp) hb1.size); clear hb0 hb1)
      | (go_at_call 17; refine (HW.out _).mono ?_; rintro e w2 ⟨rfl, hb2⟩; clear c0 c1 c2; obtain ⟨c0, c1, c2⟩ := HK.out w2 hb2)
      | (go_at_call 19; refine (HBA.out _).mono ?_; rintro e w3 ⟨rfl, hb3⟩; have HB3 := Lib.hid (hb2.trans (hb3.mono hb2.size)); clear hb2 hb3 c0 c1 c2; obtain ⟨c0, c1, c2⟩ := HK.out w3 HB3.out)
      | (go_at_call 21; refine (HT.out _ (HB1.out.trans (HB3.out.mono HB1.out.size))).mono ?_; rintro e w4 ⟨rfl, hb4⟩; have HB4 := Lib.hid (HB3.out.trans (hb4.mono HB3.out.size)); clear hb4 c0 c1 c2; obtain ⟨c0, c1, c2⟩ := HK.out w4 HB4.out; have e0 := (fun o => (HK.out (w4.alloc o) (HB4.out.alloc HB4.out.size o)).1); have e1 := (fun o => (HK.out (w4.alloc o) (HB4.out.alloc HB4.out.size o)).2.1); have e2 := (fun o => (HK.out (w4.alloc o) (HB4.out.alloc HB4.out.size o)).2.2))
      | (go_at_call 15; refine (HHS.out _).mono ?_; rintro e w5 ⟨rfl, hb5⟩; have HB5 := Lib.hid ((HB4.out.alloc HB4.out.size _).trans (hb5.mono (HB4.out.alloc HB4.out.size _).size)); clear hb5 c0 c1 c2 e0 e1 e2; obtain ⟨c0, c1, c2⟩ := HK.out w5 HB5.out)
      | (go_at_call 10; refine (HL.out _).mono ?_; rintro e w6 ⟨rfl, hb6⟩; have HB6 := Lib.hid (HB5.out.trans (hb6.mono HB5.out.size)); clear hb6 c0 c1 c2))
    apply bodyPost_ret
    case hr => exact results_tmp rfl _ _ _
    case hd => rfl
    case hR => exact ⟨rfl, HB1.out.trans (HB6.out.mono HB1.out.size)⟩
set_option maxRecDepth 100000 in
theorem kinds_long (k n : Int) (s : ByteArray) (hs : 60 < s.size) (w : World) (ht : Tabs w) :
    Calls Tryd.prog 6 #[.int .i64 k, .int .i64 n, .string s] w (Grew (.bool true) w) := by
  have H0 := Lib.hid (first_any w ht)
  have hs1 : (60 : Int) < (s.size : Int) := by omega
  clear hs
  go_enter Tryd.func6, Tryd.ntmps6
  go_wp2_with (go_at_call 7; refine H0.out.mono ?_; rintro e w0 ⟨rfl, hb0⟩)
  apply bodyPost_ret
  case hr => exact results_tmp rfl _ _ _
  case hd => rfl
  case hR => exact ⟨rfl, hb0⟩
theorem i64_bounds {n : Int} (h : (Lit.int .i64 n).wf = true) : -9223372036854775808 ≤ n ∧ n ≤ 9223372036854775807 := by
  have e : IntKind.i64.min ≤ n ∧ n ≤ 9223372036854775807 := by simpa [Lit.wf] using h
  have m : IntKind.i64.min = -9223372036854775808 := rfl
  omega
theorem tagsKinds_any (k n : Int) (s : ByteArray) {p : Prop} (_hk : p) (hn : (Lit.int .i64 n).wf = true) {q : Prop} (_q : q) (w : World) (ht : Tabs w) :
    Calls Tryd.prog 6 #[.int .i64 k, .int .i64 n, .string s] w (Grew (.bool true) w) := by
  obtain ⟨h0, h1⟩ := i64_bounds hn
  rcases Nat.lt_or_ge 60 s.size with hs | hs
  · exact kinds_long k n s hs w ht
  cases hv : validT ⟨k, s, n⟩
  · rcases Nat.eq_zero_or_pos s.size with hz | hz
    · obtain rfl := ba_none s hz
      exact kinds_bad_none k n hv w ht
    · exact kinds_bad_some k n s hs hz hv w ht
  · refine kinds_good k n s hs h0 h1 ?_ hv w ht
    by_cases h1 : k = 1; · exact Or.inl h1
    by_cases h2 : k = 2; · exact Or.inr (Or.inl h2)
    by_cases h3 : k = 3; · exact Or.inr (Or.inr (Or.inl h3))
    by_cases h4 : k = 4; · exact Or.inr (Or.inr (Or.inr (Or.inl h4)))
    by_cases h5 : k = 5; · exact Or.inr (Or.inr (Or.inr (Or.inr (Or.inl h5))))
    by_cases h6 : k = 6; · exact Or.inr (Or.inr (Or.inr (Or.inr (Or.inr h6))))
    unfold validT at hv
    simp only at hv
    rw [if_neg h1, if_neg h2, if_neg h3, if_neg h4, if_neg (by omega)] at hv
    cases hv
end Go.Proofs.YtcplajplbocieaaDoor
