/- tree.Deep and tree.Same, of forests in memory. No conditions but the forests' sizes. -/
import Derived.Test.YtlblhlnpmdfblaaDoorTree2
namespace Go.Proofs.YtlblhlnpmdfblaaDoor
open Go.RowKit

theorem isList_any (t : ByteArray) (l : Value) (p : Nat) (w : World) : Calls Tryd.prog 21 #[.agg #[.string t, l, .int .i64 (p : Int)]] w fun e w' => e = .returned (.bool t.toList.isEmpty) ∧ Below w.heap.size w w' := by
  go_enter Tryd.func21, Tryd.ntmps21
  go_wp2_with fail
  go_ret
  exact ⟨rfl, (Below.refl _ w).alloc (Nat.le_refl _) _⟩
theorem fo_deep_size (f : Fo) : f.deep ≤ f.size := by induction f <;> simp_all [Fo.deep, Fo.size] <;> omega
set_option maxRecDepth 100000 in
set_option maxHeartbeats 4000000 in
theorem deep_any (m : Nat) (hm : m ≤ 100000) : ∀ (f : Fo), f.size ≤ m → f.wok → ∀ (ao : Option Addr) (cap n : Nat) (w : World), n = f.len → FoAt w f ao 0 →
    Calls Tryd.prog 11 #[.slice ao n cap] w (Grew (.int .i64 (f.deep : Int)) w) := by
  induction m with
  | zero =>
    intro f hf _ ao cap n w hn ha
    cases f with
    | nil =>
      subst hn
      simp only [Fo.len, Fo.deep]
      go_enter Tryd.func11, Tryd.ntmps11
      go_wp2_with fail
      go_loopw [3, 8] (fun vd vi wr => vi = .int .i64 0 ∧ vd = .int .i64 0 ∧ wr = w) (fun _ vi _ => 1 - (intOf vi).toNat)
      case atStart => exact ⟨rfl, rfl, rfl⟩
      case round =>
        obtain ⟨rfl, rfl, rfl⟩ := hrel
        go_wp2_with fail
        go_ret
        exact ⟨rfl, Below.refl _ _⟩
    | word t p r => simp [Fo.size] at hf
    | list s p r => simp [Fo.size] at hf
  | succ m IH =>
    intro f hf hwk ao cap n w hn ha
    have hn2 : n ≤ 100000 := by have := len_size f; omega
    have HI := Lib.hid (IH (by omega))
    have HN := Lib.hid hn
    have HF := Lib.hid ha
    have HZ := Lib.hid hf
    have HK := Lib.hid hwk
    have hds := fo_deep_size f
    have hdz : f.deep ≤ 100000 := by omega
    clear IH hn ha hf hwk hds
    obtain ⟨dd, hdd⟩ : ∃ dd, dd = f.deep := ⟨_, rfl⟩
    have HDD := Lib.hid hdd
    rw [← hdd] at hdz ⊢
    clear hdd
    go_enter Tryd.func11, Tryd.ntmps11
    go_wp2_with fail
    go_loopw [3, 8] (fun vd vi wr => ∃ (i d : Nat) (r : Fo), vi = .int .i64 i ∧ vd = .int .i64 d ∧ i + r.len = n ∧ Hid (FoAt wr r ao i ∧ Below w.heap.size w wr ∧ max d r.deep = dd ∧ r.size ≤ m + 1 ∧ r.wok)) (fun _ vi _ => n + 1 - (intOf vi).toNat)
    case atStart => exact ⟨0, 0, f, rfl, rfl, by rw [Nat.zero_add]; exact HN.out.symm, Lib.hid ⟨HF.out, Below.refl _ _, by rw [HDD.out]; simp, HZ.out, HK.out⟩⟩
    case round =>
      obtain ⟨i, d, r, rfl, rfl, hir, hR⟩ := hrel
      cases r with
      | nil =>
        simp only [Fo.len, Nat.add_zero] at hir
        subst hir
        have hdd : d = dd := by have := hR.out.2.2.1; simp only [Fo.deep] at this; omega
        subst hdd
        go_wp2_with fail
        go_ret
        exact ⟨rfl, hR.out.2.1⟩
      | word t p r =>
        obtain ⟨⟨⟨ao', c', b, off, rfl, hb, c0, c1, c2⟩, h2⟩, hbw, hmx, hz, hw1, hw2⟩ := hR.out
        simp only [Fo.len] at hir
        simp only [Fo.size] at hz
        simp only [Fo.deep] at hmx
        have HR2 := Lib.hid h2
        have HBW := Lib.hid hbw
        have HW2 := Lib.hid hw2
        have HMX := Lib.hid hmx
        have hwsz := hbw.size
        have hin : (i : Int) < (n : Int) := by omega
        have hi0 : (0 : Int) ≤ (i : Int) := by omega
        have HIS := fun w' => isList_any t (.slice ao' 0 c') p w'
        rw [hw1] at HIS
        have HIS := Lib.hid HIS
        clear h2 hbw hw2 hR hmx hw1
        go_wp2_with fail
        refine (HIS.out _).mono ?_
        rintro e w2 ⟨rfl, hb2⟩
        have hb3 := ((Below.refl _ wr).alloc (Nat.le_refl _) (.cells #[.string t, .slice ao' 0 c', .int .i64 (p : Int)] 39)).trans (hb2.mono (by simp))
        have HB3 := Lib.hid hb3
        clear hb2 hb3
        go_wp2_with fail
        go_roundw
        case rel => exact ⟨i + 1, d, r, by go_num, rfl, by omega, Lib.hid ⟨FoAt.below HB3.out HR2.out, HBW.out.trans (HB3.out.mono HBW.out.size), HMX.out, by omega, HW2.out⟩⟩
        case measure => simp [intOf]; omega
      | list sub p r =>
        obtain ⟨⟨⟨ao', c', ⟨b, off, rfl, hb, c0, c1, c2⟩, hsub⟩, h2⟩, hbw, hmx, hz, hw1, hw2⟩ := hR.out
        simp only [Fo.len] at hir
        simp only [Fo.size] at hz
        simp only [Fo.deep] at hmx
        have HR2 := Lib.hid h2
        have HBW := Lib.hid hbw
        have HW2 := Lib.hid hw2
        have HMX := Lib.hid hmx
        have hdsub := fo_deep_size sub
        have hin : (i : Int) < (n : Int) := by omega
        have hi0 : (0 : Int) ≤ (i : Int) := by omega
        have HIS := fun w' => isList_any ⟨#[]⟩ (.slice ao' sub.len c') p w'
        rw [nil_emp] at HIS
        have HIS := Lib.hid HIS
        have HC : Hid (∀ w', Below wr.heap.size wr w' → Calls Tryd.prog 11 #[.slice ao' sub.len c'] w' (Grew (.int .i64 (sub.deep : Int)) w')) := Lib.hid fun w' hb => HI.out sub (by omega) hw1 ao' c' sub.len w' rfl (FoAt.below hb hsub)
        have hda : Hid (∀ o, Below wr.heap.size wr (wr.alloc o)) := Lib.hid fun o => (Below.refl _ wr).alloc (Nat.le_refl _) o
        clear h2 hbw hw2 hR hmx hw1 hsub
        go_wp2_with fail
        refine (HIS.out _).mono ?_
        rintro e w2 ⟨rfl, hb2⟩
        have HB3 := Lib.hid ((hda.out (.cells #[.string ⟨#[]⟩, .slice ao' sub.len c', .int .i64 (p : Int)] 39)).trans (hb2.mono (by simp)))
        have k1 : w2.cell? ⟨wr.heap.size, 1, none⟩ = some (.slice ao' sub.len c') := by
          have := hb2.cell (p := ⟨wr.heap.size, 1, none⟩) (by simp)
          rw [this]
          rw [cell_of_row _ wr.heap.size 1 _ _ _ (heap_alloc_new wr _)]
          rfl
        clear hb2
        have hd1 : (d : Int) ≤ 100000 := by have := HMX.out; omega
        have hd2 : (sub.deep : Int) ≤ 100000 := by omega
        obtain ⟨sd, hsd⟩ : ∃ sd, sd = sub.deep := ⟨_, rfl⟩
        have HSD := Lib.hid hsd
        rw [← hsd] at hd2 HC
        clear hsd hdsub
        go_wp2_with fail
        refine (HC.out _ HB3.out).mono ?_
        rintro e w3 ⟨rfl, hb4⟩
        have HB5 := Lib.hid (HB3.out.trans (hb4.mono HB3.out.size))
        clear hb4
        by_cases hmax : (d : Int) < 1 + (sd : Int)
        · go_wp2_with fail
          go_roundw
          case rel => exact ⟨i + 1, 1 + sd, r, by go_num, by go_num, by omega, Lib.hid ⟨FoAt.below HB5.out HR2.out, HBW.out.trans (HB5.out.mono HBW.out.size), by have := HMX.out; have := HSD.out; omega, by omega, HW2.out⟩⟩
          case measure => simp [intOf]; omega
        · go_wp2_with fail
          go_roundw
          case rel => exact ⟨i + 1, d, r, by go_num, by go_num, by omega, Lib.hid ⟨FoAt.below HB5.out HR2.out, HBW.out.trans (HB5.out.mono HBW.out.size), by have := HMX.out; have := HSD.out; omega, by omega, HW2.out⟩⟩
          case measure => simp [intOf]; omega
end Go.Proofs.YtlblhlnpmdfblaaDoor
