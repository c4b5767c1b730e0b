/- lex.Words, of any text of at most 65536 bytes: the words, each with its place. No conditions. -/
import Derived.Test.YtlblhlnpmdfblaaDoorLex1
namespace Go.Proofs.YtlblhlnpmdfblaaDoor
open Go.RowKit

def cellsW (l : List (ByteArray × Nat)) : List Value := l.flatMap fun x => [.string x.1, .int .i64 (x.2 : Int)]
theorem cellsW_snoc (l : List (ByteArray × Nat)) (t : ByteArray) (p : Nat) : cellsW (l ++ [(t, p)]) = cellsW l ++ [.string t, .int .i64 (p : Int)] := by
  unfold cellsW; rw [List.flatMap_append]; rfl
theorem cellsW_at : ∀ (l : List (ByteArray × Nat)) (i : Nat) (h : i < l.length), (cellsW l)[2 * i]? = some (.string l[i].1) ∧ (cellsW l)[2 * i + 1]? = some (.int .i64 (l[i].2 : Int)) := by
  intro l
  induction l with
  | nil => intro i h; simp at h
  | cons x l ih =>
    intro i h
    have e : cellsW (x :: l) = .string x.1 :: .int .i64 (x.2 : Int) :: cellsW l := rfl
    rw [e]
    cases i with
    | zero => exact ⟨rfl, rfl⟩
    | succ i =>
      have := ih i (by simpa using h)
      rw [show 2 * (i + 1) = 2 * i + 2 by omega]
      simpa using this
/-- A row of words in memory. -/
def WdsAt (w : World) (base : Nat) (ao : Option Addr) (l : List (ByteArray × Nat)) : Prop :=
  ∀ i (h : i < l.length), ∃ b, ao = some ⟨b, 0, none⟩ ∧ base ≤ b ∧ b < w.heap.size ∧ w.cell? ⟨b, i * 2, none⟩ = some (.string l[i].1) ∧ w.cell? ⟨b, i * 2 + 1, none⟩ = some (.int .i64 (l[i].2 : Int))
theorem WdsAt.below {w w' : World} {base : Nat} {ao : Option Addr} {l : List (ByteArray × Nat)} (h : WdsAt w base ao l) (hb : Below w.heap.size w w') : WdsAt w' base ao l := fun i hi => by
  obtain ⟨b, h1, h2, h3, h4, h5⟩ := h i hi
  exact ⟨b, h1, h2, Nat.lt_of_lt_of_le h3 hb.size, (hb.cell (p := ⟨b, i * 2, none⟩) h3).trans h4, (hb.cell (p := ⟨b, i * 2 + 1, none⟩) h3).trans h5⟩
theorem WdsAt.drewN {w : World} {base : Nat} {ao : Option Addr} {l : List (ByteArray × Nat)} (h : WdsAt w base ao l) (n : Nat) : WdsAt (w.drewN n) base ao l := fun i hi => by
  obtain ⟨b, h1, h2, h3, h4, h5⟩ := h i hi
  exact ⟨b, h1, h2, by simpa using h3, by rw [World.cell?_drewN]; exact h4, by rw [World.cell?_drewN]; exact h5⟩
theorem addr_add (g j : Nat) : (⟨g, 0, none⟩ : Addr).add j = ⟨g, j, none⟩ := by unfold Addr.add; split <;> simp_all
theorem wdsAt_of_owns {w : World} {base : Nat} {T : TypeId} {ao : Option Addr} {l : List (ByteArray × Nat)} {cap : Nat} (h : w.ownsRow base T 2 (.slice ao l.length cap) l.length (cellsW l)) : WdsAt w base ao l := fun i hi => by
  rcases h.2 with ⟨_, hn⟩ | ⟨g, c, cur, hv, hb, hg, _⟩
  · omega
  · injection hv with hv _ _
    subst hv
    have hc := h.cells (g := g) rfl
    obtain ⟨h1, h2⟩ := cellsW_at l i hi
    rw [Nat.mul_comm 2 i] at h1 h2
    have c1 := hc _ _ h1
    have c2 := hc _ _ h2
    rw [addr_add] at c1 c2
    exact ⟨g, rfl, hb, (Array.getElem?_eq_some_iff.1 hg).1, c1, c2⟩
theorem grown_of_below {w w' : World} (hb : Below w.heap.size w w') : w.grownBy w' none := ⟨hb.os, hb.tape, hb.output, hb.size, fun k hk _ => hb.block k hk⟩
theorem owns_below {w w' : World} {base : Nat} {e : TypeId} {size : Nat} {v : Value} {n : Nat} {xs : List Value} (h : w.ownsRow base e size v n xs) (hb : Below w.heap.size w w') : w'.ownsRow base e size v n xs :=
  h.kept (grown_of_below hb) (by cases v.ownBlock <;> simp)
/-- What an append leaves: a slice of one more. -/
theorem slice_of_owns {w : World} {base : Nat} {e : TypeId} {size : Nat} {v : Value} {n : Nat} {xs : List Value} (h : w.ownsRow base e size v n xs) : ∃ ao cap, v = .slice ao n cap := by
  rcases h.2 with ⟨h1, h2⟩ | ⟨g, c, cur, hv, _⟩
  · exact ⟨none, 0, by rw [h1, h2]⟩
  · exact ⟨_, _, hv⟩
theorem cell_two_new (w : World) (x y : Value) (t : TypeId) : ∀ j u, [x, y][j]? = some u → (w.alloc (.cells #[x, y] t)).cell? ((⟨w.heap.size, 0, none⟩ : Addr).add j) = some u := by
  intro j u hj
  rw [addr_add, cell_of_row _ w.heap.size j #[x, y] t (0, 0) (heap_alloc_new w _)]
  simpa using hj
theorem ext_list (s : ByteArray) (a b : Nat) : s.extract a b = ⟨((s.data.toList.drop a).take (b - a)).toArray⟩ := by
  apply ByteArray.ext
  rw [ByteArray.data_extract]
  apply Array.toList_inj.1
  rw [Array.toList_extract, List.extract_eq_take_drop]
/-- The words, told. -/
def NewWds (l : List (ByteArray × Nat)) (x : Value) (w : World) (e : Ending) (w' : World) : Prop := ∃ ao cap, e = .returned (.tuple #[.slice ao l.length cap, x]) ∧ WdsAt w' w.heap.size ao l ∧ Below w.heap.size w w'

theorem infoWord : (Tryd.prog.info? 48).map (fun i => (i.zero, i.size, i.bytes)) = some (some (.agg #[.string ⟨#[]⟩, .int .i64 0]), 2, 24) := by kernel_rfl

set_option maxRecDepth 100000 in
set_option maxHeartbeats 4000000 in
theorem words_any (s : ByteArray) (hs : s.size ≤ 65536) (w : World) :
    Calls Tryd.prog 15 #[.string s] w (NewWds (words s.data.toList) .nilIface w) := by
  obtain ⟨i0, hi, hz0, hz1, hz2⟩ := info_parts infoWord
  have hsl := Lib.size_eq s
  obtain ⟨l, hl⟩ : ∃ l, l = s.data.toList := ⟨_, rfl⟩
  rw [← hl] at hsl ⊢
  have HL := Lib.hid hl
  clear hl
  go_enter Tryd.func15, Tryd.ntmps15
  go_wp2_with fail
  go_loopw [4, 5] (fun vl vi wr => ∃ (i : Nat) (done : List (ByteArray × Nat)) (ao : Option Addr) (cap : Nat), i ≤ s.size ∧ vi = .int .i64 i ∧ vl = .slice ao done.length cap ∧
      Hid (wr.ownsRow w.heap.size 48 2 (.slice ao done.length cap) done.length (cellsW done) ∧ Below w.heap.size w wr ∧ done.length ≤ i ∧ done ++ wds .gap i (l.drop i) = words l))
    (fun _ vi _ => s.size + 1 - (intOf vi).toNat)
  case atStart => exact ⟨0, [], none, 0, by omega, rfl, rfl, Lib.hid ⟨World.ownsRow_nil _ _ _ _, Below.refl _ _, Nat.le_refl _, rfl⟩⟩
  case round =>
    obtain ⟨i, done, ao, cap, hil, rfl, rfl, hR⟩ := hrel
    by_cases hi' : i < s.size
    · have hill : i < l.length := by omega
      have hg : l[i] = s[i] := by
        have := HL.out
        subst this
        exact ba_get s i hi' hill
      cases hsp : spI (s[i].toNat : Int)
      · cases h59 : ((s[i].toNat : Int) == 59)
        · obtain ⟨k, hik, hks, htx, hcall⟩ : ∃ k, i < k ∧ k ≤ s.size ∧ wds .gap i (l.drop i) = (s.extract i k, i) :: wds .gap k (l.drop k) ∧
              ∀ w, Calls Tryd.prog 26 #[.string s, .int .i64 i] w fun e w' => e = .returned (.int .i64 k) ∧ w = w' := by
            cases hbr : brI (s[i].toNat : Int)
            · obtain ⟨k, k1, k2, k3, k4⟩ := scan (fun c => enI (c.toNat : Int)) l (i + 1) (by omega)
              have hno : ∀ j (hj : j < l.length), i ≤ j → j < k → enI (l[j].toNat : Int) = false := fun j hj j1 j2 => by
                by_cases hji : j = i
                · subst hji; rw [hg]; simp [enI, hbr, hsp, h59]
                · exact k3 j hj (by omega) j2
              refine ⟨k, by omega, by omega, ?_, fun w => eow_run s i k (by omega) (by omega) (by omega) (fun j hj j1 j2 => ?_) (fun hk => ?_) w⟩
              · rw [wds_word l i k hill (by omega) (by omega) hno k4, ext_list, HL.out]
              · have := hno j (by omega) j1 j2
                simp only [HL.out] at this
                rwa [ba_get s j hj] at this
              · have := k4 (by omega)
                simp only [HL.out] at this
                rwa [ba_get s k hk] at this
            · refine ⟨i + 1, by omega, by omega, ?_, fun w => eow_br s i (by omega) hi' hbr w⟩
              rw [wds_br l i hill (by rw [hg]; exact hsp) (by rw [hg]; exact h59) (by rw [hg]; exact hbr), ext_list, HL.out, Nat.add_sub_cancel_left]
          have HC := Lib.hid hcall
          have HX := Lib.hid htx
          clear hcall htx
          have hkz : (k : Int) ≤ (s.size : Int) := by omega
          have hikz : (i : Int) ≤ (k : Int) := by omega
          have hlt : (i : Int) < (s.size : Int) := by omega
          go_wp2_with fail
          refine (isSpace_any _ _).mono ?_
          rintro e w' ⟨rfl, rfl⟩
          go_wp2_with fail
          refine (HC.out _).mono ?_
          rintro e w' ⟨rfl, rfl⟩
          go_wp2_with fail
          refine (clone_any _ _ (by simp only [ByteArray.size_extract]; omega)).mono ?_
          rintro e w1 ⟨rfl, hb1⟩
          have HB1 := Lib.hid hb1
          clear hb1
          have hown := (owns_below hR.out.1 HB1.out).alloc (.cells #[.string (s.extract i k), .int .i64 (i : Int)] 48)
          have hlen : done.length ≤ 65536 := by have := hR.out.2.2.1; omega
          have hsz : w.heap.size ≤ w1.heap.size := by have h1 := hR.out.2.1.size; have h2 := HB1.out.size; omega
          go_wp2_with (at_builtin; refine wpList_append_own _ rfl _ _ 42 rfl w.heap.size 48 i0 (.agg #[.string ⟨#[]⟩, .int .i64 0]) 2 24 Tryd.underlying42 hi hz0 hz1 hz2 rfl (by decide) _ _ _ rfl hown ⟨w1.heap.size, 0, none⟩ 1 1 [.string (s.extract i k), .int .i64 (i : Int)] rfl rfl (cell_two_new _ _ _ _) ?c1 ?c2 ?c3 ?c4 ?_)
          case c1 => intro u hu; simp at hu; rcases hu with rfl | rfl <;> rfl
          case c2 => unfold maxLen; omega
          case c3 => omega
          case c4 => simp; omega
          intro v' w3 hown' hgrow3 _
          obtain ⟨ao3, cap3, rfl⟩ := slice_of_owns hown'
          go_wp2_with fail
          go_roundw
          case rel =>
            have hbb := hR.out.2.1.trans (HB1.out.mono hR.out.2.1.size)
            refine ⟨k, done ++ [(s.extract i k, i)], ao3, cap3, by omega, rfl, by rw [List.length_append]; rfl, Lib.hid ⟨?_, ?_, ?_, ?_⟩⟩
            · rw [List.length_append, cellsW_snoc]; exact hown'
            · exact (hbb.alloc hsz _).grown hgrow3 (by simp; omega) (fun q hq => (hown.lt q hq).1)
            · rw [List.length_append]; have := hR.out.2.2.1; simp; omega
            · rw [← hR.out.2.2.2, HX.out, List.append_assoc]; rfl
          case measure => simp [intOf]; omega
        · obtain ⟨k, k1, k2, k3, k4⟩ := scan (fun c => (c.toNat : Int) == 10) l i (by omega)
          have hk : i < k := by
            rcases Nat.lt_or_ge i k with h | h
            · exact h
            · exfalso
              obtain rfl : k = i := by omega
              have h2 := k4 hill
              rw [hg] at h2
              simp only [beq_iff_eq] at h2 h59
              omega
          have hcall : ∀ w, Calls Tryd.prog 25 #[.string s, .int .i64 i] w fun e w' => e = .returned (.int .i64 k) ∧ w = w' := fun w =>
            eol_run s i k (by omega) (by omega) (by omega) (fun j hj j1 j2 => by
              have := k3 j (by omega) j1 j2
              simp only [HL.out] at this
              rwa [ba_get s j hj] at this) (fun hk => by
              have := k4 (by omega)
              simp only [HL.out] at this
              rwa [ba_get s k hk] at this) w
          have HC := Lib.hid hcall
          have HX := Lib.hid (wds_note l i k hill (by rw [hg]; exact hsp) (by rw [hg]; exact h59) hk (by omega) (fun j hj j1 j2 => k3 j hj (by omega) j2) k4)
          clear hcall k3 k4
          have hlt : (i : Int) < (s.size : Int) := by omega
          go_wp2_with fail
          refine (isSpace_any _ _).mono ?_
          rintro e w' ⟨rfl, rfl⟩
          go_wp2_with fail
          refine (HC.out _).mono ?_
          rintro e w' ⟨rfl, rfl⟩
          go_wp2_with fail
          go_roundw
          case rel => exact ⟨k, done, ao, cap, by omega, rfl, rfl, Lib.hid ⟨hR.out.1, hR.out.2.1, by have := hR.out.2.2.1; omega, by rw [← HX.out]; exact hR.out.2.2.2⟩⟩
          case measure => simp [intOf]; omega
      · have hlt : (i : Int) < (s.size : Int) := by omega
        go_wp2_with fail
        refine (isSpace_any _ _).mono ?_
        rintro e w' ⟨rfl, rfl⟩
        go_wp2_with fail
        go_roundw
        case rel => exact ⟨i + 1, done, ao, cap, by omega, by go_num, rfl, Lib.hid ⟨hR.out.1, hR.out.2.1, by have := hR.out.2.2.1; omega, by rw [← wds_sp l i hill (by rw [hg]; exact hsp)]; exact hR.out.2.2.2⟩⟩
        case measure => simp [intOf]; omega
    · go_wp2_with fail
      go_ret2
      have hR' := hR.out
      have hd : done = words l := by
        have := hR'.2.2.2
        rwa [wds_gap_end i l i (by omega), List.append_nil] at this
      subst hd
      exact ⟨ao, cap, rfl, wdsAt_of_owns hR'.1, hR'.2.1⟩
end Go.Proofs.YtlblhlnpmdfblaaDoor
