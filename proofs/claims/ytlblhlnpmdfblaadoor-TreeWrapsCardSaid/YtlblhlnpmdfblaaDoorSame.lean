/- tree.Same, of forests in memory that are the same. No conditions but the forests' sizes. -/
import Derived.Test.YtlblhlnpmdfblaaDoorDeep
import Derived.Deep.RegionWith
namespace Go.Proofs.YtlblhlnpmdfblaaDoor
open Go.RowKit

theorem same_nil {f : Fo} (h : f.same .nil = true) : f = .nil := by cases f <;> simp_all [Fo.same]
theorem same_text {t t' : ByteArray} (h : (t.toList == t'.toList) = true) : t = t' := by
  rw [ByteArray.toList_eq, ByteArray.toList_eq] at h
  apply ByteArray.ext
  apply Array.toList_inj.1
  simpa using h
set_option maxRecDepth 100000 in
set_option maxHeartbeats 4000000 in
theorem same_any (m : Nat) (hm : m ≤ 100000) : ∀ (f g : Fo), f.same g = true → g.size ≤ m → ∀ (ao ao' : Option Addr) (cap cap' n n' : Nat) (w : World), n = f.len → n' = g.len → FoAt w f ao 0 → FoAt w g ao' 0 →
    Calls Tryd.prog 13 #[.slice ao n cap, .slice ao' n' cap'] w (Grew (.bool true) w) := by
  induction m with
  | zero =>
    intro f g hs hg ao ao' cap cap' n n' w hn hn' ha hb
    have e : g = .nil := by cases g <;> simp_all [Fo.size]
    subst e
    obtain rfl := same_nil hs
    subst hn hn'
    simp only [Fo.len]
    go_enter Tryd.func13, Tryd.ntmps13
    go_wp2_with fail
    go_loopw [14] (fun vi wr => vi = .int .i64 0 ∧ wr = w) (fun vi _ => 1 - (intOf vi).toNat)
    case atStart => exact ⟨rfl, rfl⟩
    case round =>
      obtain ⟨rfl, rfl⟩ := hrel
      go_wp2_with fail
      go_ret
      exact ⟨rfl, Below.refl _ _⟩
  | succ m IH =>
    intro f g hs hg ao ao' cap cap' n n' w hn hn' ha hb
    have hnn : n = n' := by rw [hn, hn', Fo.same_len _ _ hs]
    subst hnn
    have hn2 : n ≤ 100000 := by have := len_size g; omega
    have HI := Lib.hid (IH (by omega))
    have HN := Lib.hid hn
    have HA := Lib.hid ha
    have HB := Lib.hid hb
    have HS := Lib.hid hs
    have HG := Lib.hid hg
    clear IH hn hn' ha hb hs hg
    go_enter Tryd.func13, Tryd.ntmps13
    go_wp2_with fail
    go_loopw [14] (fun vi wr => ∃ (i : Nat) (rf rg : Fo), vi = .int .i64 i ∧ i + rf.len = n ∧ Hid (FoAt wr rf ao i ∧ FoAt wr rg ao' i ∧ rf.same rg = true ∧ rg.size ≤ m + 1 ∧ Below w.heap.size w wr)) (fun vi _ => n + 1 - (intOf vi).toNat)
    case atStart => exact ⟨0, f, g, rfl, by rw [Nat.zero_add]; exact HN.out.symm, Lib.hid ⟨HA.out, HB.out, HS.out, HG.out, Below.refl _ _⟩⟩
    case round =>
      obtain ⟨i, rf, rg, rfl, hir, hR⟩ := hrel
      cases rf with
      | nil =>
        simp only [Fo.len, Nat.add_zero] at hir
        subst hir
        go_wp2_with fail
        go_ret
        exact ⟨rfl, hR.out.2.2.2.2⟩
      | word t p r =>
        cases rg with
        | nil => have := hR.out.2.2.1; simp [Fo.same] at this
        | list s' p' r' => have := hR.out.2.2.1; simp [Fo.same] at this
        | word t' p' r' =>
          obtain ⟨⟨⟨al, cl, b, off, rfl, hb, c0, c1, c2⟩, h2⟩, ⟨⟨al', cl', b', off', rfl, hb', d0, d1, d2⟩, h2'⟩, hsm, hz, hbw⟩ := hR.out
          simp only [Fo.same, Bool.and_eq_true] at hsm
          obtain ⟨ht, hsm⟩ := hsm
          obtain rfl := same_text ht
          simp only [Fo.len] at hir
          simp only [Fo.size] at hz
          have HR2 := Lib.hid h2
          have HR3 := Lib.hid h2'
          have HBW := Lib.hid hbw
          have HSM := Lib.hid hsm
          have hin : (i : Int) < (n : Int) := by omega
          have hi0 : (0 : Int) ≤ (i : Int) := by omega
          have hne : (t.toList != t.toList) = false := by simp
          have HC : Hid (∀ w', Below wr.heap.size wr w' → Calls Tryd.prog 13 #[.slice al 0 cl, .slice al' 0 cl'] w' (Grew (.bool true) w')) := Lib.hid fun w' hb => HI.out .nil .nil rfl (Nat.zero_le _) al al' cl cl' 0 0 w' rfl rfl trivial trivial
          have hda : Hid (∀ o, Below wr.heap.size wr (wr.alloc o)) := Lib.hid fun o => (Below.refl _ wr).alloc (Nat.le_refl _) o
          have e0 : (wr.alloc (.cells #[.string t, .slice al 0 cl, .int .i64 (p : Int)] 39)).cell? ⟨b', off' + i * 3, none⟩ = some (.string t) := ((hda.out _).cell (p := ⟨b', _, none⟩) hb').trans d0
          have e1 : (wr.alloc (.cells #[.string t, .slice al 0 cl, .int .i64 (p : Int)] 39)).cell? ⟨b', off' + i * 3 + 1, none⟩ = some (.slice al' 0 cl') := ((hda.out _).cell (p := ⟨b', _, none⟩) hb').trans d1
          have f0 : (wr.alloc (.cells #[.string t, .slice al 0 cl, .int .i64 (p : Int)] 39)).cell? ⟨wr.heap.size, 0, none⟩ = some (.string t) := by rw [cell_of_row _ wr.heap.size 0 _ _ _ (heap_alloc_new wr _)]; rfl
          have f1 : (wr.alloc (.cells #[.string t, .slice al 0 cl, .int .i64 (p : Int)] 39)).cell? ⟨wr.heap.size, 1, none⟩ = some (.slice al 0 cl) := by rw [cell_of_row _ wr.heap.size 1 _ _ _ (heap_alloc_new wr _)]; rfl
          clear h2 h2' hbw hsm hR ht
          go_wp2_with fail
          go_region_with (go_at_call 13; refine (HC.out _ ?_).mono ?_; exact Below.drew (hda.out _); rintro e w2 ⟨rfl, hb2⟩; have HB3 := Lib.hid ((Below.drew (hda.out _)).trans (hb2.mono (by simp))); clear hb2)
          all_goals (
            go_wp2_with fail
            go_roundw
            case rel => exact ⟨i + 1, r, r', by go_num, by omega, Lib.hid ⟨FoAt.below HB3.out HR2.out, FoAt.below HB3.out HR3.out, HSM.out, by omega, HBW.out.trans (HB3.out.mono HBW.out.size)⟩⟩
            case measure => simp [intOf]; omega)
      | list s p r =>
        cases rg with
        | nil => have := hR.out.2.2.1; simp [Fo.same] at this
        | word t' p' r' => have := hR.out.2.2.1; simp [Fo.same] at this
        | list s' p' r' =>
          obtain ⟨⟨⟨al, cl, ⟨b, off, rfl, hb, c0, c1, c2⟩, hsub⟩, h2⟩, ⟨⟨al', cl', ⟨b', off', rfl, hb', d0, d1, d2⟩, hsub'⟩, h2'⟩, hsm, hz, hbw⟩ := hR.out
          simp only [Fo.same, Bool.and_eq_true] at hsm
          obtain ⟨ht, hsm⟩ := hsm
          simp only [Fo.len] at hir
          simp only [Fo.size] at hz
          have HR2 := Lib.hid h2
          have HR3 := Lib.hid h2'
          have HBW := Lib.hid hbw
          have HSM := Lib.hid hsm
          have hin : (i : Int) < (n : Int) := by omega
          have hi0 : (0 : Int) ≤ (i : Int) := by omega
          have hne : ((ByteArray.mk #[]).toList != (ByteArray.mk #[]).toList) = false := by simp
          have HC : Hid (∀ w', Below wr.heap.size wr w' → Calls Tryd.prog 13 #[.slice al s.len cl, .slice al' s'.len cl'] w' (Grew (.bool true) w')) := Lib.hid fun w' hb => HI.out s s' ht (by omega) al al' cl cl' s.len s'.len w' rfl rfl (FoAt.below hb hsub) (FoAt.below hb hsub')
          have hda : Hid (∀ o, Below wr.heap.size wr (wr.alloc o)) := Lib.hid fun o => (Below.refl _ wr).alloc (Nat.le_refl _) o
          have e0 : (wr.alloc (.cells #[.string ⟨#[]⟩, .slice al s.len cl, .int .i64 (p : Int)] 39)).cell? ⟨b', off' + i * 3, none⟩ = some (.string ⟨#[]⟩) := ((hda.out _).cell (p := ⟨b', _, none⟩) hb').trans d0
          have e1 : (wr.alloc (.cells #[.string ⟨#[]⟩, .slice al s.len cl, .int .i64 (p : Int)] 39)).cell? ⟨b', off' + i * 3 + 1, none⟩ = some (.slice al' s'.len cl') := ((hda.out _).cell (p := ⟨b', _, none⟩) hb').trans d1
          have f0 : (wr.alloc (.cells #[.string ⟨#[]⟩, .slice al s.len cl, .int .i64 (p : Int)] 39)).cell? ⟨wr.heap.size, 0, none⟩ = some (.string ⟨#[]⟩) := by rw [cell_of_row _ wr.heap.size 0 _ _ _ (heap_alloc_new wr _)]; rfl
          have f1 : (wr.alloc (.cells #[.string ⟨#[]⟩, .slice al s.len cl, .int .i64 (p : Int)] 39)).cell? ⟨wr.heap.size, 1, none⟩ = some (.slice al s.len cl) := by rw [cell_of_row _ wr.heap.size 1 _ _ _ (heap_alloc_new wr _)]; rfl
          clear h2 h2' hbw hsm hR ht hsub hsub'
          go_wp2_with fail
          go_region_with (go_at_call 13; refine (HC.out _ ?_).mono ?_; exact Below.drew (hda.out _); rintro e w2 ⟨rfl, hb2⟩; have HB3 := Lib.hid ((Below.drew (hda.out _)).trans (hb2.mono (by simp))); clear hb2)
          all_goals (
            go_wp2_with fail
            go_roundw
            case rel => exact ⟨i + 1, r, r', by go_num, by omega, Lib.hid ⟨FoAt.below HB3.out HR2.out, FoAt.below HB3.out HR3.out, HSM.out, by omega, HBW.out.trans (HB3.out.mono HBW.out.size)⟩⟩
            case measure => simp [intOf]; omega)
end Go.Proofs.YtlblhlnpmdfblaaDoor
