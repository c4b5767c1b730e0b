/- LexApart: the walk of the law, out of the contracts of what it calls. Conditions: the list's cells read as they do. -/
import Derived.Test.YtoobcaegnokdpaaDoorLexF
import Derived.Test.YtoobcaegnokdpaaDoorLex8
import Derived.Test.YtoobcaegnokdpaaDoorInts
import Derived.Test.YtoobcaegnokdpaaDoorNumber
namespace Go.Proofs.YtoobcaegnokdpaaDoor
open Go.RowKit

/-- The number of a word, and of a gap. -/
def pr (x : Int) : Nat × Nat := ((x % 7).toNat, (x.tdiv 7 % 5).toNat)
theorem pr_lt (x : Int) : (pr x).1 < 7 ∧ (pr x).2 < 5 := by
  have h1 := Int.emod_nonneg x (show (7 : Int) ≠ 0 by decide)
  have h2 := Int.emod_lt_of_pos x (show (0 : Int) < 7 by decide)
  have h3 := Int.emod_nonneg (x.tdiv 7) (show (5 : Int) ≠ 0 by decide)
  have h4 := Int.emod_lt_of_pos (x.tdiv 7) (show (0 : Int) < 5 by decide)
  unfold pr
  constructor <;> (simp only; omega)
theorem pr_eq (x : Int) : x % 7 = ((pr x).1 : Int) ∧ x.tdiv 7 % 5 = ((pr x).2 : Int) := by
  have h1 := Int.emod_nonneg x (show (7 : Int) ≠ 0 by decide)
  have h3 := Int.emod_nonneg (x.tdiv 7) (show (5 : Int) ≠ 0 by decide)
  unfold pr
  constructor <;> (simp only; omega)

/-- Slices of unlike elements lie apart. -/
theorem owns_apart {w : World} {base base' : Nat} {e e' : TypeId} {sz sz' n n' : Nat} {v v' : Value} {xs xs' : List Value} (h : w.ownsRow base e sz v n xs) (h' : w.ownsRow base' e' sz' v' n' xs') (hne : e ≠ e') : v.ownBlock = none ∨ v.ownBlock ≠ v'.ownBlock := by
  rcases h.2 with ⟨rfl, _⟩ | ⟨g, c, cur, rfl, _, hg, _⟩
  · exact Or.inl rfl
  · refine Or.inr fun hb => ?_
    rcases h'.2 with ⟨rfl, _⟩ | ⟨g', c', cur', rfl, _, hg', _⟩
    · simp [Value.ownBlock] at hb
    · simp only [Value.ownBlock, Option.some.injEq] at hb
      subst hb
      rw [hg] at hg'
      injection hg' with hg'
      injection hg' with _ he _
      exact hne he
def wC : Array Value := #[.string ⟨#[40]⟩, .string ⟨#[41]⟩, .string ⟨#[97]⟩, .string ⟨#[45, 53]⟩, .string ⟨#[120, 95, 49]⟩, .string ⟨#[102, 43]⟩, .string ⟨#[67, 111, 110]⟩]
def gC : Array Value := #[.string ⟨#[32]⟩, .string ⟨#[10]⟩, .string ⟨#[9, 32, 13]⟩, .string ⟨#[32, 59, 32, 110, 111, 116, 101, 32, 40, 32, 41, 10]⟩, .string ⟨#[59, 10]⟩]
theorem wC_get (q : Nat) (hq : q < 7) : wC[q]? = some (.string ⟨(w7 q).toArray⟩) := by
  rcases q with _ | _ | _ | _ | _ | _ | _ | q
  case succ.succ.succ.succ.succ.succ.succ => omega
  all_goals rfl
theorem gC_get (g : Nat) (hg : g < 5) : gC[g]? = some (.string ⟨(g5 g).toArray⟩) := by
  rcases g with _ | _ | _ | _ | _ | g
  case succ.succ.succ.succ.succ => omega
  all_goals rfl
/-- The words as values: their texts, their places. -/
def wantsV (l : List (ByteArray × Nat)) : List Value := l.map fun x => .string x.1
def atsV (l : List (ByteArray × Nat)) : List Value := l.map fun x => .int .i64 (x.2 : Int)

theorem owns_at {w : World} {base : Nat} {e : TypeId} {ao : Option Addr} {n cap : Nat} {xs : List Value} (h : w.ownsRow base e 1 (.slice ao n cap) n xs) (i : Nat) (u : Value) (hi : i < n) (hu : xs[i]? = some u) :
    ∃ g, ao = some ⟨g, 0, none⟩ ∧ g < w.heap.size ∧ w.cell? ⟨g, i, none⟩ = some u := by
  rcases h.2 with ⟨_, hn⟩ | ⟨g, c, cur, hv, _, hg, _⟩
  · omega
  · injection hv with hv _ _
    subst hv
    have hc := h.cells (g := g) rfl i u hu
    rw [addr_add] at hc
    exact ⟨g, rfl, (Array.getElem?_eq_some_iff.1 hg).1, hc⟩
theorem wl_ats (L : List (ByteArray × Nat)) (i : Nat) (h : i < L.length) : (atsV L)[i]? = some (.int .i64 (L[i].2 : Int)) ∧ (wantsV L)[i]? = some (.string L[i].1) := by
  unfold atsV wantsV
  rw [List.getElem?_map, List.getElem?_map, List.getElem?_eq_getElem h]
  exact ⟨rfl, rfl⟩
theorem infoInt : (Tryd.prog.info? 3).map (fun i => (i.zero, i.size, i.bytes)) = some (some (.int .i64 0), 1, 8) := by kernel_rfl
theorem infoStr : (Tryd.prog.info? 9).map (fun i => (i.zero, i.size, i.bytes)) = some (some (.string ⟨#[]⟩), 1, 16) := by kernel_rfl
theorem app_data (s : ByteArray) (a b : List UInt8) : s ++ ⟨a.toArray⟩ ++ ⟨b.toArray⟩ = ⟨(s.data.toList ++ a ++ b).toArray⟩ := by
  apply ByteArray.ext
  apply Array.toList_inj.1
  rw [ByteArray.data_append, Array.toList_append, ByteArray.data_append, Array.toList_append]

set_option maxRecDepth 100000 in
set_option maxHeartbeats 1000000 in
theorem apart_core (ao : Option Addr) (l : List Int) (n cap : Nat) (w : World) (hn : n = l.length) (h20 : n ≤ 20) (hwf : ∀ x ∈ l, (Lit.int .i64 x).wf = true)
    (hl : IntsAt w ao l)
    (H0 : Hid (Calls Tryd.prog 8 #[] w (Grew (.bool true) w)))
    (HN : Hid (∀ (x m : Int), 0 < m → m ≤ 1000000 → ∀ w, Calls Tryd.prog 15 #[.int .i64 x, .int .i64 m] w fun e w' => e = .returned (.int .i64 (x % m)) ∧ w = w'))
    (HW : Hid (∀ s : ByteArray, s.size ≤ 65536 → ∀ w, Calls Tryd.prog 9 #[.string s] w (NewWds (words s.data.toList) .nilIface w))) :
    Calls Tryd.prog 4 #[.slice ao n cap] w (Grew (.bool true) w) := by
  obtain ⟨i0, hi, hz0, hz1, hz2⟩ := info_parts infoInt
  obtain ⟨j0, hj, hy0, hy1, hy2⟩ := info_parts infoStr
  have HLl := Lib.hid hl
  have HL := Lib.hid hn
  have HWF := Lib.hid hwf
  clear hl hn hwf
  go_enter Tryd.func4, Tryd.ntmps4
  go_wp2_with fail
  refine H0.out.mono ?_
  rintro e w0 ⟨rfl, hb0⟩
  have HB0 := Lib.hid hb0
  clear hb0
  go_wp2_with fail
  change Code.wp _ _ _ _ ((w0.alloc (.cells wC 9)).alloc (.cells gC 9))
  have hbw : Below w0.heap.size w0 (w0.alloc (.cells wC 9)) := (Below.refl _ _).alloc (Nat.le_refl _) _
  have hbg := (Below.refl _ (w0.alloc (.cells wC 9))).alloc (Nat.le_refl _) (.cells gC 9)
  have hs1 : (w0.alloc (.cells wC 9)).heap.size = w0.heap.size + 1 := by simp
  have HCw : Hid (∀ q, q < 7 → ((w0.alloc (.cells wC 9)).alloc (.cells gC 9)).cell? ⟨w0.heap.size, q, none⟩ = some (.string ⟨(w7 q).toArray⟩)) := Lib.hid fun q hq => by
    rw [hbg.cell (p := ⟨w0.heap.size, q, none⟩) (by rw [hs1]; exact Nat.lt_succ_self _), cell_of_row _ w0.heap.size q wC 9 (0, 0) (heap_alloc_new w0 _)]
    exact wC_get q hq
  have HCg : Hid (∀ g, g < 5 → ((w0.alloc (.cells wC 9)).alloc (.cells gC 9)).cell? ⟨w0.heap.size + 1, g, none⟩ = some (.string ⟨(g5 g).toArray⟩)) := Lib.hid fun g hg => by
    rw [cell_of_row _ (w0.heap.size + 1) g gC 9 (0, 0) (by rw [← hs1]; exact heap_alloc_new _ _)]
    exact gC_get g hg
  have hB3 := HB0.out.trans ((hbw.trans (hbg.mono (by rw [hs1]; omega))).mono HB0.out.size)
  have hs2 : ((w0.alloc (.cells wC 9)).alloc (.cells gC 9)).heap.size = w0.heap.size + 2 := by simp
  have HB3 := Lib.hid hB3
  clear hbw hbg hs1 hB3
  generalize (w0.alloc (.cells wC 9)).alloc (.cells gC 9) = w3 at *
  generalize w0.heap.size = nb at *
  have HS3 := Lib.hid hs2
  clear hs2
  go_loopw [6, 7, 8, 9, 10] (fun vs va vw vi _ wr => ∃ (i : Nat) (L : List (Nat × Nat)) (s : ByteArray) (aA aW : Option Addr) (cA cW : Nat), i ≤ n ∧ vi = .int .i64 i ∧ vs = .string s ∧ va = .slice aA i cA ∧ vw = .slice aW i cW ∧
      Hid (L = (l.take i).map pr ∧ s.data.toList = txt L ∧ Below w.heap.size w wr ∧ Below w3.heap.size w3 wr ∧ wr.ownsRow w3.heap.size 3 1 (.slice aA i cA) i (atsV (wl 0 L)) ∧ wr.ownsRow w3.heap.size 9 1 (.slice aW i cW) i (wantsV (wl 0 L))))
    (fun _ _ _ vi _ _ => n + 1 - (intOf vi).toNat)
  case atStart => exact ⟨0, [], ⟨#[]⟩, none, none, 0, 0, by omega, rfl, rfl, rfl, rfl, Lib.hid ⟨rfl, rfl, HB3.out, Below.refl _ _, World.ownsRow_nil _ _ _ _, World.ownsRow_nil _ _ _ _⟩⟩
  case round =>
    obtain ⟨i, L, s, aA, aW, cA, cW, hin, rfl, rfl, rfl, rfl, hR⟩ := hrel
    by_cases hi' : i < n
    · have hil : i < l.length := by rw [← HL.out]; exact hi'
      obtain ⟨x, hx⟩ : ∃ x, x = l[i] := ⟨_, rfl⟩
      obtain ⟨b, off, rfl, hb, c0⟩ := HLl.out i hil
      have hwx := HWF.out _ (List.getElem_mem hil)
      rw [← hx] at c0 hwx
      have c1 := (hR.out.2.2.1.cell (p := ⟨b, off + i, none⟩) hb).trans c0
      have HC0 := Lib.hid c0
      clear c0
      have hxr : -9223372036854775808 ≤ x ∧ x ≤ 9223372036854775807 := by simpa [Lit.wf, IntKind.min, IntKind.max, IntKind.signed, IntKind.bits] using hwx
      obtain ⟨hx1, hx2⟩ := hxr
      obtain ⟨p1, p2⟩ := pr_lt x
      obtain ⟨q1, q2⟩ := pr_eq x
      have HX := Lib.hid hx
      have HPR : Hid (pr l[i] = pr x) := Lib.hid (by rw [hx])
      clear hx
      obtain ⟨q, hq⟩ : ∃ q, q = (pr x).1 := ⟨_, rfl⟩
      obtain ⟨g, hg⟩ : ∃ g, g = (pr x).2 := ⟨_, rfl⟩
      have HQ := Lib.hid (show pr x = (q, g) by rw [hq, hg])
      rw [← hq] at p1 q1
      rw [← hg] at p2 q2
      clear hq hg hwx
      obtain ⟨wq, hwq⟩ : ∃ wq : ByteArray, wq = ⟨(w7 q).toArray⟩ := ⟨_, rfl⟩
      obtain ⟨gq, hgq⟩ : ∃ gq : ByteArray, gq = ⟨(g5 g).toArray⟩ := ⟨_, rfl⟩
      have zw : wq.size ≤ 3 := by rw [Lib.size_eq, hwq]; exact w7_len q
      have zg : gq.size ≤ 12 := by rw [Lib.size_eq, hgq]; exact g5_len g
      have cw := HCw.out q p1
      have cg := HCg.out g p2
      rw [← hwq] at cw
      rw [← hgq] at cg
      have HWQ := Lib.hid hwq
      have HGQ := Lib.hid hgq
      clear hwq hgq
      have hLl : L.length = i := by rw [hR.out.1, List.length_map, List.length_take]; omega
      have zs : s.size ≤ 300 := by
        rw [Lib.size_eq, hR.out.2.1]
        have := txt_len L
        omega
      have HLL := Lib.hid hLl
      clear hLl
      have hnb : nb < w3.heap.size := by rw [HS3.out]; omega
      have hnb1 : nb + 1 < w3.heap.size := by rw [HS3.out]; omega
      have cwr := (hR.out.2.2.2.1.cell (p := ⟨nb, q, none⟩) hnb).trans cw
      have hwsz : w3.heap.size ≤ wr.heap.size := hR.out.2.2.2.1.size
      have hbase : w.heap.size ≤ w3.heap.size := HB3.out.size
      have oA := hR.out.2.2.2.2.1.alloc (.cells #[.int .i64 (s.size : Int)] 3)
      have oW := hR.out.2.2.2.2.2.alloc (.cells #[.int .i64 (s.size : Int)] 3)
      have hiz : (i : Int) < (n : Int) := by omega
      have hi0 : (0 : Int) ≤ (i : Int) := by omega
      have p1z : (q : Int) < 7 := by omega
      have p2z : (g : Int) < 5 := by omega
      have p10 : (0 : Int) ≤ (q : Int) := by omega
      have p20 : (0 : Int) ≤ (g : Int) := by omega
      have D3 : i + 1 ≤ maxLen := by unfold maxLen; omega
      have D4 : (i + 1) * 8 ≤ 140737488355328 := by omega
      have D4' : (i + 1) * 16 ≤ 140737488355328 := by omega
      have D5 : w3.heap.size ≤ (wr.alloc (.cells #[.int .i64 (s.size : Int)] 3)).heap.size := by simp; omega
      have D2 : ∀ u ∈ ([.int .i64 (s.size : Int)] : List Value), u.oneCell' = true := by intro u hu; simp at hu; subst hu; rfl
      have D2' : ∀ u ∈ ([.string wq] : List Value), u.oneCell' = true := by intro u hu; simp at hu; subst hu; rfl
      have HCG := Lib.hid cg
      clear cw cg
      go_wp2_with (first
        | (go_at_call 15; refine (HN.out _ _ ?h1 ?h2 _).mono ?_; (case h1 => decide); (case h2 => decide); rintro e w' ⟨rfl, rfl⟩)
        | (at_builtin; refine wpList_append_own _ rfl _ _ 36 rfl w3.heap.size 3 i0 (.int .i64 0) 1 8 Tryd.underlying36 hi hz0 hz1 hz2 rfl (by decide) _ _ _ rfl oA ⟨wr.heap.size, 0, none⟩ 1 1 [.int .i64 (s.size : Int)] rfl rfl (cell_one_new _ _ _) D2 D3 D4 D5 ?_
           intro v4 w4 oA4 gr4 _
           have hrow4 : ∀ k, some k = (Value.slice aA i cA).ownBlock → w3.heap.size ≤ k := fun k hk => (oA.lt k hk.symm).1
           have hz4 := gr4.size
           have oW4 := (oW.kept gr4 (owns_apart oW oA (by decide))).alloc (.cells #[.string wq] 9)
           have HBw4 := Lib.hid ((hR.out.2.2.1.alloc (Nat.le_trans hbase hwsz) (.cells #[.int .i64 (s.size : Int)] 3)).grown gr4 (Nat.le_trans hbase D5) (fun k hk => Nat.le_trans hbase (hrow4 k hk.symm)))
           have HB34 := Lib.hid ((hR.out.2.2.2.1.alloc hwsz (.cells #[.int .i64 (s.size : Int)] 3)).grown gr4 D5 (fun k hk => hrow4 k hk.symm))
           have D5' : w3.heap.size ≤ (w4.alloc (.cells #[.string wq] 9)).heap.size := by have := HB34.out.size; simp; omega
           have OA4 := Lib.hid oA4
           obtain ⟨aA4, cA4, rfl⟩ := slice_of_owns oA4
           clear oA4 gr4 hrow4 hz4)
        | (at_builtin; refine wpList_append_own _ rfl _ _ 37 rfl w3.heap.size 9 j0 (.string ⟨#[]⟩) 1 16 Tryd.underlying37 hj hy0 hy1 hy2 rfl (by decide) _ _ _ rfl oW4 ⟨w4.heap.size, 0, none⟩ 1 1 [.string wq] rfl rfl (cell_one_new _ _ _) D2' D3 D4' D5' ?_
           intro v5 w5 oW5 gr5 _
           have hrow5 : ∀ k, some k = (Value.slice aW i cW).ownBlock → w3.heap.size ≤ k := fun k hk => (oW4.lt k hk.symm).1
           have OA5 := Lib.hid ((OA4.out.alloc (.cells #[.string wq] 9)).kept gr5 (owns_apart (OA4.out.alloc (.cells #[.string wq] 9)) oW4 (by decide)))
           have HBw5 := Lib.hid ((HBw4.out.alloc HBw4.out.size (.cells #[.string wq] 9)).grown gr5 (Nat.le_trans hbase D5') (fun k hk => Nat.le_trans hbase (hrow5 k hk.symm)))
           have HB35 := Lib.hid ((HB34.out.alloc HB34.out.size (.cells #[.string wq] 9)).grown gr5 D5' (fun k hk => hrow5 k hk.symm))
           have c5 := (HBw5.out.cell (p := ⟨b, off + i, none⟩) hb).trans HC0.out
           have cg5 := (HB35.out.cell (p := ⟨nb + 1, g, none⟩) hnb1).trans HCG.out
           have OW5 := Lib.hid oW5
           obtain ⟨aW5, cW5, rfl⟩ := slice_of_owns oW5
           clear oW5 gr5 hrow5))
      go_roundw
      case rel =>
        have hR' := hR.out
        have e1 : (wl 0 (L ++ [(q, g)])) = wl 0 L ++ [(wq, s.size)] := by
          rw [wl_snoc, Nat.zero_add, ← hR'.2.1, ← Lib.size_eq, HWQ.out]
        refine ⟨i + 1, L ++ [(q, g)], s ++ wq ++ gq, aA4, aW5, cA4, cW5, by omega, by go_num, rfl, rfl, rfl, Lib.hid ⟨?_, ?_, HBw5.out, HB35.out, ?_, ?_⟩⟩
        · rw [List.take_succ_eq_append_getElem hil, List.map_append, ← hR'.1]
          show L ++ [(q, g)] = L ++ [pr l[i]]
          rw [HPR.out, HQ.out]
        · rw [HWQ.out, HGQ.out, app_data, hR'.2.1, txt_snoc]
        · rw [e1]
          have := OA5.out
          unfold atsV at this ⊢
          rw [List.map_append]
          exact this
        · rw [e1]
          have := OW5.out
          unfold wantsV at this ⊢
          rw [List.map_append]
          exact this
      case measure => simp [intOf]; omega
    · obtain rfl : i = n := by omega
      have hR' := hR.out
      have hLf : L = l.map pr := by rw [hR'.1, List.take_of_length_le (by rw [← HL.out]; exact Nat.le_refl _)]
      have hLn : L.length = i := by rw [hLf, List.length_map, ← HL.out]
      have zs : s.size ≤ 300 := by
        rw [Lib.size_eq, hR'.2.1]
        have := txt_len L
        omega
      have hw : words s.data.toList = wl 0 L := by
        rw [hR'.2.1]
        exact words_txt L (fun y hy => by
          rw [hLf] at hy
          obtain ⟨z, _, rfl⟩ := List.mem_map.1 hy
          exact pr_lt z) 0
      have hwn : (wl 0 L).length = i := by rw [wl_len, hLn]
      have hW := HW.out s (by omega)
      rw [hw] at hW
      have HW' := Lib.hid hW
      have HWN := Lib.hid hwn
      clear hW hw hLf hR' hLn hwn
      obtain ⟨M, hM⟩ : ∃ M, M = wl 0 L := ⟨_, rfl⟩
      rw [← hM] at HW' HWN hR
      clear hM
      go_wp2_with fail
      refine (HW'.out wr).mono ?_
      rintro e w6 ⟨ax, cx, rfl, hv6, hb6⟩
      have HV6 := Lib.hid hv6
      have HB6 := Lib.hid (hR.out.2.2.1.trans (hb6.mono hR.out.2.2.1.size))
      have OA6 := Lib.hid (owns_below hR.out.2.2.2.2.1 hb6)
      have OW6 := Lib.hid (owns_below hR.out.2.2.2.2.2 hb6)
      clear hv6 hb6
      rw [HWN.out]
      go_wp2_with fail
      go_loopw [13] (fun vi wq => ∃ j m : Nat, j ≤ i ∧ vi = .int .i64 j ∧ wq = w6.drewN m) (fun vi _ => i + 1 - (intOf vi).toNat)
      case atStart => exact ⟨0, 0, by omega, rfl, rfl⟩
      case round =>
        obtain ⟨j, m, hji, rfl, rfl⟩ := hrel
        by_cases hlt : j < i
        · have hjM : j < M.length := by rw [HWN.out]; exact hlt
          obtain ⟨u1, u2⟩ := wl_ats M j hjM
          obtain ⟨p, rfl, _, _, d1, d2⟩ := HV6.out j hjM
          obtain ⟨ga, rfl, _, d3⟩ := owns_at OA6.out j _ hlt u1
          obtain ⟨gw, rfl, _, d4⟩ := owns_at OW6.out j _ hlt u2
          have hjz : (j : Int) < (i : Int) := by omega
          have hj0 : (0 : Int) ≤ (j : Int) := by omega
          clear u1 u2
          go_wp2_with fail
          go_quiet (fail)
          go_wp2_with fail
          go_roundw
          case rel => exact ⟨j + 1, _, by omega, by go_num, rfl⟩
          case measure => simp [intOf]; omega
        · obtain rfl : j = i := by omega
          go_wp2_with fail
          apply bodyPost_ret
          case hr => exact results_tmp rfl _ _ _
          case hd => rfl
          case hR => exact ⟨rfl, below_drewN HB6.out _⟩

theorem apart_long (ao : Option Addr) (n cap : Nat) (w : World) (h20 : ¬ n ≤ 20) : Calls Tryd.prog 4 #[.slice ao n cap] w (Grew (.bool true) w) := by
  have h1' : (20 : Int) < (n : Int) := by omega
  have H0 := Lib.hid (first_any w)
  go_enter Tryd.func4, Tryd.ntmps4
  go_wp2_with fail
  refine H0.out.mono ?_
  rintro e w0 ⟨rfl, hb0⟩
  go_wp2_with fail
  apply bodyPost_ret
  case hr => exact results_tmp rfl _ _ _
  case hd => rfl
  case hR => exact ⟨rfl, hb0⟩
theorem lexApart_any (ao : Option Addr) (l : List Int) (cap : Nat) (hl : ∀ x ∈ l, (Lit.int .i64 x).wf = true) (w : World) (h : IntsAt w ao l) (_ : True) :
    Calls Tryd.prog 4 #[.slice ao l.length cap] w (Grew (.bool true) w) := by
  by_cases h20 : l.length ≤ 20
  · exact apart_core ao l l.length cap w rfl h20 hl h (Lib.hid (first_any w)) (Lib.hid number_any) (Lib.hid words_any)
  · exact apart_long ao l.length cap w h20
end Go.Proofs.YtoobcaegnokdpaaDoor
