/- NumWords: the walk of the law, out of the contracts of what it calls. Conditions: the table of powers of ten and num's table as start-up lays them. -/
import Derived.Test.YtmpkgbpnejajpaaDoorPrim2
namespace Go.Proofs.YtmpkgbpnejajpaaDoor
open Go.RowKit

theorem dow (i : Nat) (hi : i < 16) (a b : Int) : ∃ x f : Int, (f = 0 ∨ (b = 0 ∧ f = -2 ∧ (i = 3 ∨ i = 4))) ∧ ∀ w, Calls Tryd.prog 9 #[.string (nmA i), .int .i64 a, .int .i64 b] w fun e w' => e = .returned (.tuple #[.int .i64 x, .int .i64 f, .bool (decide (i < 7))]) ∧ w = w' := by
  have none : ∀ j, (nmA j = nmA j) → ((nmA j).toList == [43]) = false → ((nmA j).toList == [45]) = false → ((nmA j).toList == [42]) = false → ((nmA j).toList == [100, 105, 118]) = false → ((nmA j).toList == [109, 111, 100]) = false → ((nmA j).toList == [60]) = false → ((nmA j).toList == [61]) = false → decide (j < 7) = false → ∃ x f : Int, (f = 0 ∨ (b = 0 ∧ f = -2 ∧ (j = 3 ∨ j = 4))) ∧ ∀ w, Calls Tryd.prog 9 #[.string (nmA j), .int .i64 a, .int .i64 b] w fun e w' => e = .returned (.tuple #[.int .i64 x, .int .i64 f, .bool (decide (j < 7))]) ∧ w = w' :=
    fun j _ h1 h2 h3 h4 h5 h6 h7 h8 => ⟨0, 0, Or.inl rfl, fun w => by rw [h8]; exact do_none (nmA j) a b w h1 h2 h3 h4 h5 h6 h7⟩
  rcases i with _ | _ | _ | _ | _ | _ | _ | i
  · exact ⟨_, _, Or.inl rfl, do_add a b⟩
  · exact ⟨_, _, Or.inl rfl, do_sub a b⟩
  · exact ⟨_, _, Or.inl rfl, do_mul a b⟩
  · by_cases hb : b = 0
    · subst hb; exact ⟨_, _, Or.inr ⟨rfl, rfl, Or.inl rfl⟩, do_div0 a⟩
    · exact ⟨_, _, Or.inl rfl, fun w => do_div a b w (by simpa using hb)⟩
  · by_cases hb : b = 0
    · subst hb; exact ⟨_, _, Or.inr ⟨rfl, rfl, Or.inr rfl⟩, do_mod0 a⟩
    · exact ⟨_, _, Or.inl rfl, fun w => do_mod a b w (by simpa using hb)⟩
  · exact ⟨_, _, Or.inl rfl, do_lt a b⟩
  · exact ⟨_, _, Or.inl rfl, do_eq a b⟩
  · rcases i with _ | _ | _ | _ | _ | _ | _ | _ | _ | i
    case succ => exfalso; omega
    all_goals (refine none _ rfl ?_ ?_ ?_ ?_ ?_ ?_ ?_ rfl <;> (rw [ByteArray.toList_eq]; decide))

/-- What the law asks of the i-th name: its sort. -/
theorem sorts (i : Nat) (hi : i < 16) :
    (i < 7 ∧ arA i = 2 ∧ flA i = false ∧ ((nmA i).toList == [102, 108, 111, 97, 116]) = false ∧ ((nmA i).toList == [119, 104, 111, 108, 101]) = false)
    ∨ (7 ≤ i ∧ i ≤ 10 ∧ arA i = 2 ∧ flA i = true ∧ ((nmA i).toList == [102, 108, 111, 97, 116]) = false ∧ ((nmA i).toList == [119, 104, 111, 108, 101]) = false)
    ∨ (10 < i ∧ arA i = 2 ∧ flA i = false ∧ ((nmA i).toList == [102, 108, 111, 97, 116]) = false ∧ ((nmA i).toList == [119, 104, 111, 108, 101]) = false)
    ∨ (10 < i ∧ arA i = 1 ∧ flA i = true ∧ ((nmA i).toList == [102, 108, 111, 97, 116]) = true)
    ∨ (10 < i ∧ arA i = 1 ∧ flA i = false ∧ ((nmA i).toList == [102, 108, 111, 97, 116]) = false ∧ ((nmA i).toList == [119, 104, 111, 108, 101]) = true) := by
  rw [ByteArray.toList_eq]
  rcases i with _ | _ | _ | _ | _ | _ | _ | _ | _ | _ | _ | _ | _ | _ | _ | _ | i
  all_goals first | (exfalso; omega) | decide

theorem div_at : ((nmA 3).toList == [100, 105, 118]) = true := by rw [ByteArray.toList_eq]; decide
theorem div_at' : ((nmA 4).toList == [100, 105, 118]) = false := by rw [ByteArray.toList_eq]; decide
theorem mod_at : ((nmA 4).toList == [109, 111, 100]) = true := by rw [ByteArray.toList_eq]; decide
theorem nm_apart (i k : Nat) (hi : i < 16) (hk : k < i) : ((nmA k).toList == (nmA i).toList) = false := by
  rw [ByteArray.toList_eq, ByteArray.toList_eq]
  have h : ∀ i : Fin 16, ∀ k : Fin 16, k < i → ((nmA k).data.toList == (nmA i).data.toList) = false := by decide
  exact h ⟨i, hi⟩ ⟨k, by omega⟩ hk

theorem Txts.drewN {w : World} {b o : Nat} {l : List ByteArray} (h : Txts w b o l) (n : Nat) : Txts (w.drewN n) b o l := fun k hk => by
  rw [World.cell?_drewN]; exact h k hk

set_option maxRecDepth 100000 in
set_option maxHeartbeats 40000000 in
theorem words_core (a b : Int) (w : World)
    (H0 : Hid (Calls Tryd.prog 8 #[] w (Grew (.bool true) w)))
    (HP : Hid (∀ w1, Below w.heap.size w w1 → Calls Tryd.prog 21 #[] w1 (NewNames w1)))
    (HA : Hid (∀ i, i < 16 → ∀ w1, Below w.heap.size w w1 → Calls Tryd.prog 13 #[.string (nmA i)] w1 (Grew (.tuple #[.int .i64 (arA i), .bool true]) w1)))
    (HF : Hid (∀ i, i < 16 → ∀ w1, Below w.heap.size w w1 → Calls Tryd.prog 18 #[.string (nmA i)] w1 (Grew (.bool (flA i)) w1)))
    (HE : Hid (∀ w1, Below w.heap.size w w1 → Calls Tryd.prog 13 #[.string ⟨#[]⟩] w1 (Grew (.tuple #[.int .i64 0, .bool false]) w1)))
    (HS : Hid (∀ nb w1, Txts w1 nb 0 nmL → Calls Tryd.prog 23 #[.slice (some ⟨nb, 0, none⟩) 16 16, .string ⟨#[115, 101, 113]⟩] w1 fun e w' => e = .returned (.bool true) ∧ w1 = w')) :
    Calls Tryd.prog 7 #[.int .i64 a, .int .i64 b] w (Grew (.bool true) w) := by
  have HW := Lib.hid (fun i hi => dow i hi a b)
  go_enter Tryd.func7, Tryd.ntmps7
  simp only [List.append]
  go_wp2_with fail
  refine H0.out.mono ?_
  rintro e w0 ⟨rfl, hb0⟩
  go_wp2_with fail
  refine (HP.out w0 hb0).mono ?_
  rintro e w1 ⟨nb, rfl, hn1, hn2, hn3, hn4⟩
  have HB1 := Lib.hid (hb0.trans (hn4.mono hb0.size))
  have HT1 := Lib.hid hn2
  clear hn2 hn4 hb0 hn1
  go_wp2_with fail
  go_loopw [7] (fun vi wr => ∃ i : Nat, i ≤ 16 ∧ vi = .int .i64 i ∧ Hid (Below w.heap.size w wr ∧ Txts wr nb 0 nmL ∧ nb < wr.heap.size)) (fun vi _ => 17 - (intOf vi).toNat)
  case atStart => exact ⟨0, by omega, rfl, Lib.hid ⟨HB1.out, HT1.out, hn3⟩⟩
  case round =>
    obtain ⟨i, hi, rfl, hR⟩ := hrel
    obtain ⟨wo, rfl⟩ : ∃ wo : World, wo = wr := ⟨_, rfl⟩
    by_cases hi16 : i < 16
    · have hc1 : wo.cell? ⟨nb, i, none⟩ = some (.string (nmA i)) := by
        have := hR.out.2.1 i hi16
        rw [Nat.zero_add, nmL_get i hi16] at this
        exact this
      obtain ⟨x, f, hf, hd⟩ := HW.out i hi16
      have HD := Lib.hid hd
      clear hd
      have hA := HA.out i hi16
      have hF := HF.out i hi16
      have hsort := sorts i hi16
      rcases hf with rfl | ⟨rfl, rfl, hi34⟩
      · rcases hsort with ⟨s1, har, hfl, hp1, hp2⟩ | ⟨s1, s2, har, hfl, hp1, hp2⟩ | ⟨s1, har, hfl, hp1, hp2⟩ | ⟨s1, har, hfl, hp1⟩ | ⟨s1, har, hfl, hp1, hp2⟩
        all_goals
          rw [har] at hA
          rw [hfl] at hF
          have HA' := Lib.hid hA
          have HF' := Lib.hid hF
          clear hA hF har hfl
          first
            | rw [show decide (i < 7) = true from decide_eq_true s1] at HD
            | rw [show decide (i < 7) = false from decide_eq_false (by omega)] at HD
          go_wp2_with fail
          refine (HA'.out wo hR.out.1).mono ?_
          rintro e w2 ⟨rfl, hb2⟩
          have hc2 : w2.cell? ⟨nb, i, none⟩ = some (.string (nmA i)) := (hb2.cell (p := ⟨nb, i, none⟩) hR.out.2.2).trans hc1
          have HB2 := Lib.hid hb2
          clear hb2
          go_wp2_with fail
          refine (HD.out _).mono ?_
          rintro e w' ⟨rfl, rfl⟩
          go_wp2_with fail
          refine (HF'.out _ (hR.out.1.trans (HB2.out.mono hR.out.1.size))).mono ?_
          rintro e w3 ⟨rfl, hb3⟩
          have HR3 : Hid (Below w.heap.size w w3 ∧ Txts w3 nb 0 nmL ∧ nb < w3.heap.size) := Lib.hid (by
            have h2 := hR.out.1.trans (HB2.out.mono hR.out.1.size)
            have hz2 : nb < w2.heap.size := Nat.lt_of_lt_of_le hR.out.2.2 HB2.out.size
            exact ⟨h2.trans (hb3.mono h2.size), (hR.out.2.1.below _ HB2.out hR.out.2.2).below _ hb3 hz2, Nat.lt_of_lt_of_le hz2 hb3.size⟩)
          have hc3 : w3.cell? ⟨nb, i, none⟩ = some (.string (nmA i)) := (hb3.cell (p := ⟨nb, i, none⟩) (Nat.lt_of_lt_of_le hR.out.2.2 HB2.out.size)).trans hc2
          clear hb3 hc2 hc1
          go_wp2_with fail
          go_loopw [13] (fun vk wq => ∃ k m : Nat, k ≤ i ∧ vk = .int .i64 k ∧ wq = w3.drewN m) (fun vk _ => 17 - (intOf vk).toNat)
          case atStart => exact ⟨0, 0, by omega, rfl, rfl⟩
          case round =>
            obtain ⟨k, m, hk, rfl, rfl⟩ := hrel
            by_cases hki : k < i
            · have hck : w3.cell? ⟨nb, k, none⟩ = some (.string (nmA k)) := by
                have hk16 : k < 16 := by omega
                have := HR3.out.2.1 k hk16
                rw [Nat.zero_add, nmL_get k hk16] at this
                exact this
              have hne := nm_apart i k (by omega) hki
              have hkz : (k : Int) < 16 := by omega
              have hk0 : (0 : Int) ≤ (k : Int) := by omega
              have hiz : (i : Int) < 16 := by omega
              have hi0 : (0 : Int) ≤ (i : Int) := by omega
              go_wp2_with fail
              go_quiet (fail)
              go_wp2_with fail
              go_roundw
              case rel => exact ⟨k + 1, _, by omega, by go_num, rfl⟩
              case measure => simp [intOf]; omega
            · obtain rfl : k = i := by omega
              go_wp2_with fail
              go_roundw
              case rel => exact ⟨k + 1, by omega, by go_num, Lib.hid ⟨below_drewN HR3.out.1 m, HR3.out.2.1.drewN m, by simpa using HR3.out.2.2⟩⟩
              case measure => simp [intOf]; omega
      · have hi4 : i ≤ 4 := by omega
        have hs1 : i < 7 ∧ arA i = 2 ∧ flA i = false ∧ ((nmA i).toList == [102, 108, 111, 97, 116]) = false ∧ ((nmA i).toList == [119, 104, 111, 108, 101]) = false := by
          rcases hsort with h | h | h | h | h
          · exact h
          all_goals (exfalso; omega)
        obtain ⟨s1, har, hfl, hp1, hp2⟩ := hs1
        have hq : ((nmA i).toList == [100, 105, 118]) = true ∨ (((nmA i).toList == [100, 105, 118]) = false ∧ ((nmA i).toList == [109, 111, 100]) = true) := by
          rcases hi34 with rfl | rfl
          · exact Or.inl div_at
          · exact Or.inr ⟨div_at', mod_at⟩
        clear hi34 hsort
        rw [har] at hA
        rw [hfl] at hF
        have HA' := Lib.hid hA
        have HF' := Lib.hid hF
        clear hA hF har hfl
        rw [show decide (i < 7) = true from decide_eq_true s1] at HD
        rcases hq with q1 | ⟨q1, q2⟩
        · have q1' : ((nmA i).toList != [100, 105, 118]) = false := by rw [bne, q1]; rfl
          go_wp2_with fail
          refine (HA'.out wo hR.out.1).mono ?_
          rintro e w2 ⟨rfl, hb2⟩
          have hc2 : w2.cell? ⟨nb, i, none⟩ = some (.string (nmA i)) := (hb2.cell (p := ⟨nb, i, none⟩) hR.out.2.2).trans hc1
          have HB2 := Lib.hid hb2
          clear hb2
          go_wp2_with fail
          refine (HD.out _).mono ?_
          rintro e w' ⟨rfl, rfl⟩
          go_wp2_with fail
          refine (HF'.out _ (hR.out.1.trans (HB2.out.mono hR.out.1.size))).mono ?_
          rintro e w3 ⟨rfl, hb3⟩
          have HR3 : Hid (Below w.heap.size w w3 ∧ Txts w3 nb 0 nmL ∧ nb < w3.heap.size) := Lib.hid (by
            have h2 := hR.out.1.trans (HB2.out.mono hR.out.1.size)
            have hz2 : nb < w2.heap.size := Nat.lt_of_lt_of_le hR.out.2.2 HB2.out.size
            exact ⟨h2.trans (hb3.mono h2.size), (hR.out.2.1.below _ HB2.out hR.out.2.2).below _ hb3 hz2, Nat.lt_of_lt_of_le hz2 hb3.size⟩)
          have hc3 : w3.cell? ⟨nb, i, none⟩ = some (.string (nmA i)) := (hb3.cell (p := ⟨nb, i, none⟩) (Nat.lt_of_lt_of_le hR.out.2.2 HB2.out.size)).trans hc2
          clear hb3 hc2 hc1
          go_wp2_with fail
          go_loopw [13] (fun vk wq => ∃ k m : Nat, k ≤ i ∧ vk = .int .i64 k ∧ wq = w3.drewN m) (fun vk _ => 17 - (intOf vk).toNat)
          case atStart => exact ⟨0, 0, by omega, rfl, rfl⟩
          case round =>
            obtain ⟨k, m, hk, rfl, rfl⟩ := hrel
            by_cases hki : k < i
            · have hck : w3.cell? ⟨nb, k, none⟩ = some (.string (nmA k)) := by
                have hk16 : k < 16 := by omega
                have := HR3.out.2.1 k hk16
                rw [Nat.zero_add, nmL_get k hk16] at this
                exact this
              have hne := nm_apart i k (by omega) hki
              have hkz : (k : Int) < 16 := by omega
              have hk0 : (0 : Int) ≤ (k : Int) := by omega
              have hiz : (i : Int) < 16 := by omega
              have hi0 : (0 : Int) ≤ (i : Int) := by omega
              go_wp2_with fail
              go_quiet (fail)
              go_wp2_with fail
              go_roundw
              case rel => exact ⟨k + 1, _, by omega, by go_num, rfl⟩
              case measure => simp [intOf]; omega
            · obtain rfl : k = i := by omega
              go_wp2_with fail
              go_roundw
              case rel => exact ⟨k + 1, by omega, by go_num, Lib.hid ⟨below_drewN HR3.out.1 m, HR3.out.2.1.drewN m, by simpa using HR3.out.2.2⟩⟩
              case measure => simp [intOf]; omega
        · have q1' : ((nmA i).toList != [100, 105, 118]) = true := by rw [bne, q1]; rfl
          have q2' : ((nmA i).toList != [109, 111, 100]) = false := by rw [bne, q2]; rfl
          go_wp2_with fail
          refine (HA'.out wo hR.out.1).mono ?_
          rintro e w2 ⟨rfl, hb2⟩
          have hc2 : w2.cell? ⟨nb, i, none⟩ = some (.string (nmA i)) := (hb2.cell (p := ⟨nb, i, none⟩) hR.out.2.2).trans hc1
          have HB2 := Lib.hid hb2
          clear hb2
          go_wp2_with fail
          refine (HD.out _).mono ?_
          rintro e w' ⟨rfl, rfl⟩
          go_wp2_with fail
          refine (HF'.out _ (hR.out.1.trans (HB2.out.mono hR.out.1.size))).mono ?_
          rintro e w3 ⟨rfl, hb3⟩
          have HR3 : Hid (Below w.heap.size w w3 ∧ Txts w3 nb 0 nmL ∧ nb < w3.heap.size) := Lib.hid (by
            have h2 := hR.out.1.trans (HB2.out.mono hR.out.1.size)
            have hz2 : nb < w2.heap.size := Nat.lt_of_lt_of_le hR.out.2.2 HB2.out.size
            exact ⟨h2.trans (hb3.mono h2.size), (hR.out.2.1.below _ HB2.out hR.out.2.2).below _ hb3 hz2, Nat.lt_of_lt_of_le hz2 hb3.size⟩)
          have hc3 : w3.cell? ⟨nb, i, none⟩ = some (.string (nmA i)) := (hb3.cell (p := ⟨nb, i, none⟩) (Nat.lt_of_lt_of_le hR.out.2.2 HB2.out.size)).trans hc2
          clear hb3 hc2 hc1
          go_wp2_with fail
          go_loopw [13] (fun vk wq => ∃ k m : Nat, k ≤ i ∧ vk = .int .i64 k ∧ wq = w3.drewN m) (fun vk _ => 17 - (intOf vk).toNat)
          case atStart => exact ⟨0, 0, by omega, rfl, rfl⟩
          case round =>
            obtain ⟨k, m, hk, rfl, rfl⟩ := hrel
            by_cases hki : k < i
            · have hck : w3.cell? ⟨nb, k, none⟩ = some (.string (nmA k)) := by
                have hk16 : k < 16 := by omega
                have := HR3.out.2.1 k hk16
                rw [Nat.zero_add, nmL_get k hk16] at this
                exact this
              have hne := nm_apart i k (by omega) hki
              have hkz : (k : Int) < 16 := by omega
              have hk0 : (0 : Int) ≤ (k : Int) := by omega
              have hiz : (i : Int) < 16 := by omega
              have hi0 : (0 : Int) ≤ (i : Int) := by omega
              go_wp2_with fail
              go_quiet (fail)
              go_wp2_with fail
              go_roundw
              case rel => exact ⟨k + 1, _, by omega, by go_num, rfl⟩
              case measure => simp [intOf]; omega
            · obtain rfl : k = i := by omega
              go_wp2_with fail
              go_roundw
              case rel => exact ⟨k + 1, by omega, by go_num, Lib.hid ⟨below_drewN HR3.out.1 m, HR3.out.2.1.drewN m, by simpa using HR3.out.2.2⟩⟩
              case measure => simp [intOf]; omega
    · go_wp2_with fail
      refine (HE.out wo hR.out.1).mono ?_
      rintro e w2 ⟨rfl, hb2⟩
      have hbz := hR.out.1.trans (hb2.mono hR.out.1.size)
      have HT2 := Lib.hid (hR.out.2.1.below _ hb2 hR.out.2.2)
      clear hb2
      go_wp2_with fail
      refine (HS.out nb w2 HT2.out).mono ?_
      rintro e w3 ⟨rfl, rfl⟩
      go_wp2_with fail
      go_ret
      exact ⟨rfl, hbz⟩

theorem nm_none : ∀ k (_ : k < 16), ((nmA k).toList == (⟨#[]⟩ : ByteArray).toList) = false := fun k hk => by
  rw [ByteArray.toList_eq, ByteArray.toList_eq]
  have h : ∀ k : Fin 16, ((nmA k).data.toList == (⟨#[]⟩ : ByteArray).data.toList) = false := by decide
  exact h ⟨k, hk⟩
theorem seq_has : hasB nmL ⟨#[115, 101, 113]⟩ = true := hasB_at _ 15 (by omega) (by rw [ByteArray.toList_eq, ByteArray.toList_eq]; decide)

/-- NumWords. -/
theorem numWords_any (a b : Int) (_ : (Lit.int .i64 a).wf = true) (_ : (Lit.int .i64 b).wf = true) (w : World) (h : Tabs w ∧ PrimsIs w) :
    Calls Tryd.prog 7 #[.int .i64 a, .int .i64 b] w (Grew (.bool true) w) := by
  obtain ⟨ht, hp⟩ := h
  refine words_core a b w (Lib.hid (first_any w ht)) (Lib.hid fun w1 hb => prims_any w1 (hp.below hb))
    (Lib.hid fun i hi w1 hb => arity_at (nmA i) i hi w1 (hp.below hb) (fun k hk => nm_apart i k hi hk) (by simp))
    (Lib.hid fun i hi w1 hb => floaty_at (nmA i) i hi w1 (hp.below hb) (fun k hk => nm_apart i k hi hk) (by simp))
    (Lib.hid fun w1 hb => arity_none ⟨#[]⟩ w1 (hp.below hb) nm_none)
    (Lib.hid fun nb w1 h1 => ?_)
  have := has_any nmL 16 nb 0 ⟨#[115, 101, 113]⟩ w1 (by rw [nmL_len]; omega) h1
  rw [seq_has] at this
  exact this
end Go.Proofs.YtmpkgbpnejajpaaDoor
