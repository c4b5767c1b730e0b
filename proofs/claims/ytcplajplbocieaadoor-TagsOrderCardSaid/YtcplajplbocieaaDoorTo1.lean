/- TagsOrder: the law's walk. Conditions: how many; how they lie in memory; the listed table. -/
import Derived.Test.YtcplajplbocieaaDoorTs
import Derived.Test.YtcplajplbocieaaDoorTd
import Derived.Test.YtcplajplbocieaaDoorTgA
import Derived.Test.YtcplajplbocieaaDoorTg9
import Derived.Test.YtcplajplbocieaaDoorTgO
import Derived.Deep.LoopGhost
import Derived.Deep.CutRange
import Derived.Deep.DeepCutAuto
import Derived.BigQuiet
namespace Go.Proofs.YtcplajplbocieaaDoor
open Go.RowKit Go.Sort Go.Lib

/-- a world behind another, with all its rows -/
structure Aft (W : World) where
  «at» : World
  below : Below W.heap.size W «at»
instance (W : World) : Nonempty (Aft W) := ⟨⟨W, Below.refl _ _⟩⟩
theorem call_ok {P : Program} {f : FuncId} {args : Array Value} {v : Value} {W : World} {s : Aft W} (h : Calls P f args s.at (Grew v s.at)) : Calls P f args s.at fun e w'' => e = .returned v ∧ ∃ s' : Aft W, w'' = s'.at :=
  h.mono fun _ w'' ⟨h1, h2⟩ => ⟨h1, ⟨w'', s.below.trans (h2.mono s.below.size)⟩, rfl⟩
theorem region_quiet_lit {P : Program} {C : World → Prop} {id : Nat} {Q : Exit → Act → World → Prop} {a : Act} {w : World} {l : List Oper} (hm : P.follows .mixedOrders = true) (hB : Region.lexB .any l.toArray = true) (hC : C w.drew)
    (h : wpQuiet P l.toArray C (fun a' => ∀ w', C w' → Q .normal a' w') l a) : (Code.region id l.toArray true).wp P Q a w :=
  wp_region_quiet (C := C) hm hB hC (by simpa using h)
/-- A tag in a row of its own. -/
def BoxT (w : World) (b : Nat) (x : Tg) : Prop := w.cell? ⟨b, 0, none⟩ = some (.int .i64 x.k) ∧ w.cell? ⟨b, 1, none⟩ = some (.string x.s) ∧ w.cell? ⟨b, 2, none⟩ = some (.int .i64 x.n)
theorem BoxT.of (w : World) (b : Nat) (x : Tg) {t : TypeId} {fr : Nat × Nat} (h : w.heap[b]? = some (.cells (encT x).toArray t fr)) : BoxT w b x :=
  ⟨cell_of_row w b 0 _ _ _ h, cell_of_row w b 1 _ _ _ h, cell_of_row w b 2 _ _ _ h⟩
theorem BoxT.below {w w' : World} {b : Nat} {x : Tg} (h : BoxT w b x) (hl : b < w.heap.size) (hb : Below w.heap.size w w') : BoxT w' b x := by
  refine ⟨?_, ?_, ?_⟩ <;> rw [hb.cell (p := ⟨b, _, none⟩) hl]
  · exact h.1
  · exact h.2.1
  · exact h.2.2
set_option maxRecDepth 100000 in
set_option maxHeartbeats 0 in
theorem order_core (ak an bk bn ck cn : Int) (sa sb sc : ByteArray) (ao : Option Addr) (cap : Nat) (l : List Tg) (hl : l.length ≤ 20) (hoa : okT ⟨ak, sa, an⟩) (hob : okT ⟨bk, sb, bn⟩) (hc : ao = none → cap = 0) (w : World) (h : TgAt w ao l) (ht : Tabs w) :
    Calls Tryd.prog 4 #[.agg #[.int .i64 ak, .string sa, .int .i64 an], .agg #[.int .i64 bk, .string sb, .int .i64 bn], .agg #[.int .i64 ck, .string sc, .int .i64 cn], .slice ao l.length cap] w (Grew (.bool true) w) := by
  have HX := Lib.hid (And.intro h (And.intro ht (And.intro hoa (And.intro hob hc))))
  clear h ht hoa hob hc
  have H0 := Lib.hid (fun (w' : World) (hb : Below w.heap.size w w') => first_any w' (var_below hb (g := 1) (by kernel_rfl) HX.out.2.1))
  have HSM : Hid (∀ xk xs xn yk ys yn w, Calls Tryd.prog 23 #[.agg #[.int .i64 xk, .string xs, .int .i64 xn], .agg #[.int .i64 yk, .string ys, .int .i64 yn]] w (Grew (.bool (eqT ⟨xk, xs, xn⟩ ⟨yk, ys, yn⟩)) w)) := Lib.hid fun xk xs xn yk ys yn w => sameTag_any ⟨xk, xs, xn⟩ ⟨yk, ys, yn⟩ w
  have HLS : Hid (∀ xk xs xn yk ys yn w, Calls Tryd.prog 10 #[.agg #[.int .i64 xk, .string xs, .int .i64 xn], .agg #[.int .i64 yk, .string ys, .int .i64 yn]] w (Grew (.bool (ltT ⟨xk, xs, xn⟩ ⟨yk, ys, yn⟩)) w)) := Lib.hid fun xk xs xn yk ys yn w => less_any ⟨xk, xs, xn⟩ ⟨yk, ys, yn⟩ w
  have hlz : ¬ (20 : Int) < (l.length : Int) := by omega
  have HLL := Lib.hid hl
  clear hl
  go_enter Tryd.func4, Tryd.ntmps4
  go_wp2_with fail
  obtain ⟨W3, hW3⟩ : ∃ W3, W3 = (((w.alloc (.cells #[.int .i64 ak, .string sa, .int .i64 an] 23)).alloc (.cells #[.int .i64 bk, .string sb, .int .i64 bn] 23)).alloc (.cells #[.int .i64 ck, .string sc, .int .i64 cn] 23)) := ⟨_, rfl⟩
  have HB0 : Hid (Below w.heap.size w W3) := Lib.hid (by rw [hW3]; exact (((Below.refl _ w).alloc (Nat.le_refl _) _).alloc (by simp) _).alloc (by simp; omega) _)
  have HV : Hid (∀ w', Below W3.heap.size W3 w' → BoxT w' w.heap.size ⟨ak, sa, an⟩ ∧ BoxT w' (w.heap.size + 1) ⟨bk, sb, bn⟩ ∧ BoxT w' (w.heap.size + 1 + 1) ⟨ck, sc, cn⟩) := Lib.hid fun w' hb => by
    have hs : W3.heap.size = w.heap.size + 3 := by rw [hW3]; simp
    refine ⟨BoxT.below (BoxT.of W3 _ _ (t := 23) (fr := (0, 0)) ?_) (by omega) hb, BoxT.below (BoxT.of W3 _ _ (t := 23) (fr := (0, 0)) ?_) (by omega) hb, BoxT.below (BoxT.of W3 _ _ (t := 23) (fr := (0, 0)) ?_) (by omega) hb⟩
    · rw [hW3, Below.heap_alloc _ _ _ (by simp; omega), Below.heap_alloc _ _ _ (by simp)]; exact heap_alloc_new w _
    · rw [hW3, Below.heap_alloc _ _ _ (by simp)]
      show _ = some (Obj.cells #[.int .i64 bk, .string sb, .int .i64 bn] 23 (0, 0))
      have := heap_alloc_new (w.alloc (.cells #[.int .i64 ak, .string sa, .int .i64 an] 23)) (.cells #[.int .i64 bk, .string sb, .int .i64 bn] 23)
      simpa using this
    · rw [hW3]
      show _ = some (Obj.cells #[.int .i64 ck, .string sc, .int .i64 cn] 23 (0, 0))
      have := heap_alloc_new ((w.alloc (.cells #[.int .i64 ak, .string sa, .int .i64 an] 23)).alloc (.cells #[.int .i64 bk, .string sb, .int .i64 bn] 23)) (.cells #[.int .i64 ck, .string sc, .int .i64 cn] 23)
      simpa using this
  rw [← hW3]
  clear hW3
  refine (H0.out _ HB0.out).mono ?_
  rintro e w1 ⟨rfl, hb1⟩
  have HB := Lib.hid hb1
  clear hb1
  obtain ⟨⟨a0, a1, a2⟩, ⟨b0, b1, b2⟩, ⟨c0, c1, c2⟩⟩ := HV.out w1 HB.out
  simp only at a0 a1 a2 b0 b1 b2 c0 c1 c2
  go_upto_region 7 with (go_at_call 23; refine (HSM.out _ _ _ _ _ _ _).mono ?_; rintro e w2 ⟨rfl, hb2⟩; have HN := Lib.hid (HB.out.trans (hb2.mono HB.out.size)); clear HB hb2 a0 a1 a2 b0 b1 b2 c0 c1 c2; have HB := HN; clear HN; obtain ⟨⟨a0, a1, a2⟩, ⟨b0, b1, b2⟩, ⟨c0, c1, c2⟩⟩ := HV.out _ HB.out; simp only at a0 a1 a2 b0 b1 b2 c0 c1 c2)
  go_cut [10, 59] (fun s10 s59 wx => s10 = .bool (eqT ⟨ak, sa, an⟩ ⟨bk, sb, bn⟩) ∧ s59 = .bool false ∧ Hid (Below W3.heap.size W3 wx))
  case first =>
    have h4 : (eqT ⟨ak, sa, an⟩ ⟨bk, sb, bn⟩ = true ∧ ltT ⟨ak, sa, an⟩ ⟨bk, sb, bn⟩ = false ∧ ltT ⟨bk, sb, bn⟩ ⟨ak, sa, an⟩ = false) ∨ (eqT ⟨ak, sa, an⟩ ⟨bk, sb, bn⟩ = false ∧ ltT ⟨ak, sa, an⟩ ⟨bk, sb, bn⟩ = false ∧ ltT ⟨bk, sb, bn⟩ ⟨ak, sa, an⟩ = true) ∨ (eqT ⟨ak, sa, an⟩ ⟨bk, sb, bn⟩ = false ∧ ltT ⟨ak, sa, an⟩ ⟨bk, sb, bn⟩ = true ∧ ltT ⟨bk, sb, bn⟩ ⟨ak, sa, an⟩ = false) := by
      generalize (⟨ak, sa, an⟩ : Tg) = x
      generalize (⟨bk, sb, bn⟩ : Tg) = y
      cases he : eqT x y
      · have hne : x ≠ y := fun e => by rw [(eqT_iff _ _).2 e] at he; cases he
        rcases ltT_total x y hne with h | h
        · exact Or.inr (Or.inr ⟨rfl, h, ltT_asymm h⟩)
        · exact Or.inr (Or.inl ⟨rfl, ltT_asymm h, h⟩)
      · obtain rfl := (eqT_iff _ _).1 he
        exact Or.inl ⟨rfl, ltT_irrefl _, ltT_irrefl _⟩
    have h5 : ltT ⟨ak, sa, an⟩ ⟨bk, sb, bn⟩ = true → ltT ⟨bk, sb, bn⟩ ⟨ck, sc, cn⟩ = true → ltT ⟨ak, sa, an⟩ ⟨ck, sc, cn⟩ = true := fun h g => ltT_trans h g
    rcases h4 with ⟨h1, h2, h3⟩ | ⟨h1, h2, h3⟩ | ⟨h1, h2, h3⟩
    · clear h5
      rw [h1]
      go_wp2_with (go_at_call 10; refine (HLS.out _ _ _ _ _ _ _).mono ?_; rintro e w2 ⟨rfl, hb2⟩; have HN := Lib.hid (HB.out.trans (hb2.mono HB.out.size)); clear HB hb2 a0 a1 a2 b0 b1 b2 c0 c1 c2; have HB := HN; clear HN; obtain ⟨⟨a0, a1, a2⟩, ⟨b0, b1, b2⟩, ⟨c0, c1, c2⟩⟩ := HV.out _ HB.out; simp only at a0 a1 a2 b0 b1 b2 c0 c1 c2)
      (try go_wp2_with fail)
      go_meet
      exact ⟨by rw [h1], rfl, HB⟩
    · clear h5
      rw [h1]
      go_wp2_with (go_at_call 10; refine (HLS.out _ _ _ _ _ _ _).mono ?_; rintro e w2 ⟨rfl, hb2⟩; have HN := Lib.hid (HB.out.trans (hb2.mono HB.out.size)); clear HB hb2 a0 a1 a2 b0 b1 b2 c0 c1 c2; have HB := HN; clear HN; obtain ⟨⟨a0, a1, a2⟩, ⟨b0, b1, b2⟩, ⟨c0, c1, c2⟩⟩ := HV.out _ HB.out; simp only at a0 a1 a2 b0 b1 b2 c0 c1 c2)
      (try go_wp2_with fail)
      go_meet
      exact ⟨by rw [h1], rfl, HB⟩
    · have h6 := h5 h2
      clear h5
      rw [h1]
      cases h7 : ltT ⟨bk, sb, bn⟩ ⟨ck, sc, cn⟩
      · clear h6
        go_wp2_with (go_at_call 10; refine (HLS.out _ _ _ _ _ _ _).mono ?_; rintro e w2 ⟨rfl, hb2⟩; have HN := Lib.hid (HB.out.trans (hb2.mono HB.out.size)); clear HB hb2 a0 a1 a2 b0 b1 b2 c0 c1 c2; have HB := HN; clear HN; obtain ⟨⟨a0, a1, a2⟩, ⟨b0, b1, b2⟩, ⟨c0, c1, c2⟩⟩ := HV.out _ HB.out; simp only at a0 a1 a2 b0 b1 b2 c0 c1 c2)
        (try go_wp2_with fail)
        go_meet
        exact ⟨by rw [h1], rfl, HB⟩
      · have h8 := h6 h7
        clear h6
        go_wp2_with (go_at_call 10; refine (HLS.out _ _ _ _ _ _ _).mono ?_; rintro e w2 ⟨rfl, hb2⟩; have HN := Lib.hid (HB.out.trans (hb2.mono HB.out.size)); clear HB hb2 a0 a1 a2 b0 b1 b2 c0 c1 c2; have HB := HN; clear HN; obtain ⟨⟨a0, a1, a2⟩, ⟨b0, b1, b2⟩, ⟨c0, c1, c2⟩⟩ := HV.out _ HB.out; simp only at a0 a1 a2 b0 b1 b2 c0 c1 c2)
        (try go_wp2_with fail)
        go_meet
        exact ⟨by rw [h1], rfl, HB⟩
  case rest =>
    obtain ⟨rfl, rfl, HC⟩ := hcut
    clear HB a0 a1 a2 b0 b1 b2 c0 c1 c2
    have HSET := Lib.hid (set_any ao cap l (by have := HLL.out; omega) HX.out.2.2.2.2 wc (HX.out.1.below (HB0.out.trans (HC.out.mono HB0.out.size))))
    go_wp2_with (go_at_call 13; refine HSET.out.mono ?_; rintro e w5 ⟨ao2, cap2, rfl, ht2, hc2, hb5⟩; have HT2 := Lib.hid ht2; have HB5 := Lib.hid hb5; clear ht2 hc2 hb5)
    have hmem : ∀ x, x ∈ setT l ↔ x ∈ l := mem_setT l
    have hris : ∀ i, i + 1 < (setT l).length → ltT (setT l)[i]! (setT l)[i + 1]! = true := rising_at l
    have hSl : (setT l).length ≤ l.length := len_setT l
    generalize setT l = S at *
    have HM := Lib.hid (And.intro hmem (And.intro hris hSl))
    clear hmem hris hSl HSET
    have HB6 : Hid (Below w.heap.size w w5) := Lib.hid ((HB0.out.trans (HC.out.mono HB0.out.size)).trans (HB5.out.mono (HB0.out.trans (HC.out.mono HB0.out.size)).size))
    have HTL : Hid (TgAt w5 ao l) := Lib.hid (HX.out.1.below HB6.out)
    have HV5 : Hid (∀ w', Below w5.heap.size w5 w' → BoxT w' w.heap.size ⟨ak, sa, an⟩ ∧ BoxT w' (w.heap.size + 1) ⟨bk, sb, bn⟩) := Lib.hid fun w' hb => by
      have b := HC.out.trans ((HB5.out.trans (hb.mono HB5.out.size)).mono HC.out.size)
      exact ⟨(HV.out w' b).1, (HV.out w' b).2.1⟩
    clear HV HC HB0 HB5
    go_loopg [12] S.length (fun gg vi wr => ∃ i : Nat, i ≤ S.length ∧ S.length - i ≤ gg ∧ vi = .int .i64 i ∧ Hid (Below w5.heap.size w5 wr))
    case atStart => exact ⟨0, Nat.zero_le _, by omega, rfl, Lib.hid (Below.refl _ _)⟩
    case round =>
      obtain ⟨i, hi, hgm, rfl, HR⟩ := hrel
      by_cases hlt : i < S.length
      · have hltz : (i : Int) < (S.length : Int) := by omega
        rcases HT2.out with hnil | ⟨g, o, rfl, hgl, hcell⟩
        · rw [hnil] at hlt; exact absurd hlt (Nat.not_lt_zero _)
        obtain ⟨x, hx⟩ : ∃ x, S[i]! = x := ⟨_, rfl⟩
        have hxl : x ∈ l := (HM.out.1 x).1 (by rw [← hx, getElem!_pos S i hlt]; exact List.getElem_mem hlt)
        have hce : ∀ j v, (encT x)[j]? = some v → ∀ s : Aft wr, s.at.cell? ⟨g, o + i * 3 + j, none⟩ = some v := fun j v hv s => by
          rw [(HR.out.trans (s.below.mono HR.out.size)).cell (p := ⟨g, _, none⟩) hgl]
          exact hcell i hlt j v (by rw [hx]; exact hv)
        have HH1 : Hid (∀ w', Below w5.heap.size w5 w' → Calls Tryd.prog 15 #[.slice ao l.length cap, .agg (encT x).toArray] w' (Grew (.bool true) w')) := Lib.hid fun w' hb => by
          have := has_any ao cap l (by have := HLL.out; omega) x w' (HTL.out.below hb)
          rw [any_has l x, decide_eq_true hxl] at this
          exact this
        by_cases hi0 : i = 0
        · subst hi0
          obtain ⟨xk, xs, xn⟩ := x
          have e0 := hce 0 _ rfl
          have e1 := hce 1 _ rfl
          have e2 := hce 2 _ rfl
          simp only [encT, Nat.add_zero, Nat.zero_mul] at e0 e1 e2 HH1
          clear hce hcell hx hxl
          go_wp2_with fail
          refine region_quiet_lit (C := fun w' => ∃ s : Aft wr, w' = s.at) (by kernel_rfl) (by kernel_rfl) ⟨⟨wr.drew, Below.drew (Below.refl _ _)⟩, rfl⟩ ?_
          repeat (go_big_quiet_step (with_reducible exact call_ok (HH1.out _ (HR.out.trans ((Aft.below _).mono HR.out.size)))))
          refine wpQuiet_nil ?_
          rintro w' ⟨s, rfl⟩
          clear e0 e1 e2
          go_wp2_with fail
          go_roundg (S.length - (0 + 1))
          case measure => omega
          case rel => exact ⟨0 + 1, by omega, Nat.le_refl _, by go_num, Lib.hid (HR.out.trans (s.below.mono HR.out.size))⟩
        · have hz : (0 : Int) < (i : Int) := by omega
          have hzn : 0 < i := by omega
          have hSb : (S.length : Int) ≤ 20 := by have := HM.out.2.2; have := HLL.out; omega
          obtain ⟨y, hy⟩ : ∃ y, S[i - 1]! = y := ⟨_, rfl⟩
          have hcp : ∀ j v, (encT y)[j]? = some v → ∀ s : Aft wr, s.at.cell? ⟨g, o + (i - 1) * 3 + j, none⟩ = some v := fun j v hv s => by
            rw [(HR.out.trans (s.below.mono HR.out.size)).cell (p := ⟨g, _, none⟩) hgl]
            exact hcell (i - 1) (by omega) j v (by rw [hy]; exact hv)
          have hyx : ltT y x = true := by
            have := HM.out.2.1 (i - 1) (by omega)
            rw [show i - 1 + 1 = i by omega, hx, hy] at this
            exact this
          have HL1 := Lib.hid (less_any y x)
          rw [hyx] at HL1
          obtain ⟨xk, xs, xn⟩ := x
          obtain ⟨yk, ys, yn⟩ := y
          have e0 := hce 0 _ rfl
          have e1 := hce 1 _ rfl
          have e2 := hce 2 _ rfl
          have f0 := hcp 0 _ rfl
          have f1 := hcp 1 _ rfl
          have f2 := hcp 2 _ rfl
          simp only [encT, Nat.add_zero] at e0 e1 e2 f0 f1 f2 HH1 HL1
          have hi1 : (1 : Int) ≤ (i : Int) := by omega
          clear hce hcp hcell hx hy hxl hyx hi0
          go_wp2_with fail
          refine region_quiet_lit (C := fun w' => ∃ s : Aft wr, w' = s.at) (by kernel_rfl) (by kernel_rfl) ⟨⟨wr.drew, Below.drew (Below.refl _ _)⟩, rfl⟩ ?_
          repeat (go_big_quiet_step (first | with_reducible exact call_ok (HL1.out _) | with_reducible exact call_ok (HH1.out _ (HR.out.trans ((Aft.below _).mono HR.out.size)))))
          refine wpQuiet_nil ?_
          rintro w' ⟨s, rfl⟩
          clear e0 e1 e2 f0 f1 f2
          go_wp2_with fail
          go_roundg (S.length - (i + 1))
          case measure => omega
          case rel => exact ⟨i + 1, by omega, Nat.le_refl _, by go_num, Lib.hid (HR.out.trans (s.below.mono HR.out.size))⟩
      · have hltz : ¬ (i : Int) < (S.length : Int) := by omega
        clear hlt hi hgm
        go_wp2_with fail
        have HR1 := Lib.hid HR.out
        clear HR
        go_loopg [13] l.length (fun gg vi wr => ∃ i : Nat, i ≤ l.length ∧ l.length - i ≤ gg ∧ vi = .int .i64 i ∧ Hid (Below w5.heap.size w5 wr))
        case atStart => exact ⟨0, Nat.zero_le _, by omega, rfl, HR1⟩
        case round =>
          obtain ⟨k, hk, hgk, rfl, HR⟩ := hrel
          by_cases hlk : k < l.length
          · have hlkz : (k : Int) < (l.length : Int) := by omega
            rcases HTL.out with hnil | ⟨g, o, rfl, hgl, hcell⟩
            · rw [hnil] at hlk; exact absurd hlk (Nat.not_lt_zero _)
            obtain ⟨x, hx⟩ : ∃ x, l[k]! = x := ⟨_, rfl⟩
            have hxl : x ∈ S := (HM.out.1 x).2 (by rw [← hx, getElem!_pos l k hlk]; exact List.getElem_mem hlk)
            have hce : ∀ j v, (encT x)[j]? = some v → wr.cell? ⟨g, o + k * 3 + j, none⟩ = some v := fun j v hv => by
              rw [HR.out.cell (p := ⟨g, _, none⟩) hgl]
              exact hcell k hlk j v (by rw [hx]; exact hv)
            have HH1 : Hid (∀ w', Below w5.heap.size w5 w' → Calls Tryd.prog 15 #[.slice ao2 S.length cap2, .agg (encT x).toArray] w' (Grew (.bool true) w')) := Lib.hid fun w' hb => by
              have := has_any ao2 cap2 S (by have := HLL.out; have := HM.out.2.2; omega) x w' (HT2.out.below hb)
              rw [any_has S x, decide_eq_true hxl] at this
              exact this
            obtain ⟨xk, xs, xn⟩ := x
            have e0 := hce 0 _ rfl
            have e1 := hce 1 _ rfl
            have e2 := hce 2 _ rfl
            simp only [encT, Nat.add_zero] at e0 e1 e2 HH1
            clear hce hcell hx hxl
            go_wp2_with (go_at_call 15; refine (HH1.out _ HR.out).mono ?_; rintro e w8 ⟨rfl, hb8⟩; have HB8 := Lib.hid (HR.out.trans (hb8.mono HR.out.size)); clear hb8 e0 e1 e2)
            go_roundg (l.length - (k + 1))
            case measure => omega
            case rel => exact ⟨k + 1, by omega, Nat.le_refl _, by go_num, HB8⟩
          · have hlkz : ¬ (k : Int) < (l.length : Int) := by omega
            clear hlk hk hgk
            go_upto_region 20 with fail
            have HR2 := Lib.hid HR.out
            clear HR HLS HSM HT2 HTL HM
            obtain ⟨ta, hta⟩ : ∃ ta, textT ⟨ak, sa, an⟩ = ta := ⟨_, rfl⟩
            obtain ⟨tb, htb⟩ : ∃ tb, textT ⟨bk, sb, bn⟩ = tb := ⟨_, rfl⟩
            obtain ⟨va, hva⟩ : ∃ va, validT ⟨ak, sa, an⟩ = va := ⟨_, rfl⟩
            obtain ⟨vb, hvb⟩ : ∃ vb, validT ⟨bk, sb, bn⟩ = vb := ⟨_, rfl⟩
            obtain ⟨same, hsm⟩ : ∃ same, eqT ⟨ak, sa, an⟩ ⟨bk, sb, bn⟩ = same := ⟨_, rfl⟩
            rw [hsm]
            have HVA := Lib.hid (valid_any ⟨ak, sa, an⟩ (by have := HX.out.2.2.1.2.2; simp only [reach] at this; simp only; omega))
            have HVB := Lib.hid (valid_any ⟨bk, sb, bn⟩ (by have := HX.out.2.2.2.1.2.2; simp only [reach] at this; simp only; omega))
            rw [hva] at HVA
            rw [hvb] at HVB
            have HTA : Hid (va = true → ∀ w', Below w5.heap.size w5 w' → Calls Tryd.prog 21 #[.agg (encT ⟨ak, sa, an⟩).toArray] w' (Grew (.string ta) w')) := Lib.hid fun hv w' hb => by
              have := text_any ⟨ak, sa, an⟩ (by have := HX.out.2.2.1.2.2; simp only [reach] at this; simp only; omega) HX.out.2.2.1.1 HX.out.2.2.1.2.1 (valid_kind _ (hva.trans hv)) w' (var_below (HB6.out.trans (hb.mono HB6.out.size)) (g := 1) (by kernel_rfl) HX.out.2.1)
              rw [hta] at this
              exact this
            have HTB : Hid (vb = true → ∀ w', Below w5.heap.size w5 w' → Calls Tryd.prog 21 #[.agg (encT ⟨bk, sb, bn⟩).toArray] w' (Grew (.string tb) w')) := Lib.hid fun hv w' hb => by
              have := text_any ⟨bk, sb, bn⟩ (by have := HX.out.2.2.2.1.2.2; simp only [reach] at this; simp only; omega) HX.out.2.2.2.1.1 HX.out.2.2.2.1.2.1 (valid_kind _ (hvb.trans hv)) w' (var_below (HB6.out.trans (hb.mono HB6.out.size)) (g := 1) (by kernel_rfl) HX.out.2.1)
              rw [htb] at this
              exact this
            have HTELL : Hid ((va && (vb && ((ta.toList == tb.toList) != same))) = true → ak = bk ∧ ¬ sa.toList = sb.toList) := Lib.hid fun hd => by
              simp only [Bool.and_eq_true, bne_iff_ne, ne_eq] at hd
              obtain ⟨d1, d2, d3⟩ := hd
              have hne : ¬ (⟨ak, sa, an⟩ : Tg) = ⟨bk, sb, bn⟩ := fun e => by
                rw [← hta, ← htb, ← hsm, e, (eqT_iff _ _).2 rfl] at d3
                simp at d3
              have hsf : same = false := by rw [← hsm]; exact eqT_false _ _ hne
              rw [hsf] at d3
              have hte : ta = tb := ba_inj2 (by simpa using d3)
              have := text_tells ⟨ak, sa, an⟩ ⟨bk, sb, bn⟩ (hva.trans d1) (hvb.trans d2) (by rw [hta, htb, hte])
              exact ⟨this.1, fun e => hne (this.2 (ba_inj2 e))⟩
            clear hta htb hva hvb hsm
            simp only [encT] at HVA HVB HTA HTB
            go_cut [10, 119] (fun s10 s119 wx => s10 = .bool same ∧ s119 = .bool (va && (vb && ((ta.toList == tb.toList) != same))) ∧ Hid (Below w5.heap.size w5 wx))
            case first =>
              have a0 := fun s : Aft wr => (HV5.out s.at (HR2.out.trans (s.below.mono HR2.out.size))).1.1
              have a1 := fun s : Aft wr => (HV5.out s.at (HR2.out.trans (s.below.mono HR2.out.size))).1.2.1
              have a2 := fun s : Aft wr => (HV5.out s.at (HR2.out.trans (s.below.mono HR2.out.size))).1.2.2
              have b0 := fun s : Aft wr => (HV5.out s.at (HR2.out.trans (s.below.mono HR2.out.size))).2.1
              have b1 := fun s : Aft wr => (HV5.out s.at (HR2.out.trans (s.below.mono HR2.out.size))).2.2.1
              have b2 := fun s : Aft wr => (HV5.out s.at (HR2.out.trans (s.below.mono HR2.out.size))).2.2.2
              simp only at a0 a1 a2 b0 b1 b2
              cases va
              · clear HTA HTB HTELL
                refine region_quiet_lit (C := fun w' => ∃ s : Aft wr, w' = s.at) (by kernel_rfl) (by kernel_rfl) ⟨⟨wr.drew, Below.drew (Below.refl _ _)⟩, rfl⟩ ?_
                repeat (go_big_quiet_step (first | with_reducible exact call_ok (HVA.out _)))
                refine wpQuiet_nil ?_
                rintro w' ⟨s, rfl⟩
                (try go_wp2_with fail)
                go_meet
                exact ⟨rfl, rfl, Lib.hid (HR2.out.trans (s.below.mono HR2.out.size))⟩
              · have HTA1 := Lib.hid (HTA.out rfl)
                cases vb
                · clear HTA HTB HTELL
                  refine region_quiet_lit (C := fun w' => ∃ s : Aft wr, w' = s.at) (by kernel_rfl) (by kernel_rfl) ⟨⟨wr.drew, Below.drew (Below.refl _ _)⟩, rfl⟩ ?_
                  repeat (go_big_quiet_step (first | with_reducible exact call_ok (HVA.out _) | with_reducible exact call_ok (HVB.out _)))
                  refine wpQuiet_nil ?_
                  rintro w' ⟨s, rfl⟩
                  (try go_wp2_with fail)
                  go_meet
                  exact ⟨rfl, rfl, Lib.hid (HR2.out.trans (s.below.mono HR2.out.size))⟩
                · have HTB1 := Lib.hid (HTB.out rfl)
                  clear HTA HTB HTELL
                  generalize hte : (ta.toList == tb.toList) = te
                  cases te <;> cases same
                  all_goals
                    refine region_quiet_lit (C := fun w' => ∃ s : Aft wr, w' = s.at) (by kernel_rfl) (by kernel_rfl) ⟨⟨wr.drew, Below.drew (Below.refl _ _)⟩, rfl⟩ ?_
                    repeat (go_big_quiet_step (first
                      | with_reducible exact call_ok (HVA.out _)
                      | with_reducible exact call_ok (HVB.out _)
                      | with_reducible exact call_ok (HTA1.out _ (HR2.out.trans ((Aft.below _).mono HR2.out.size)))
                      | with_reducible exact call_ok (HTB1.out _ (HR2.out.trans ((Aft.below _).mono HR2.out.size)))))
                    refine wpQuiet_nil ?_
                    rintro w' ⟨s, rfl⟩
                    (try go_wp2_with fail)
                    go_meet
                    exact ⟨rfl, by rw [hte]; rfl, Lib.hid (HR2.out.trans (s.below.mono HR2.out.size))⟩
            case rest =>
              obtain ⟨rfl, rfl, HC⟩ := hcut
              clear HVA HVB HTA HTB
              generalize (va && (vb && ((ta.toList == tb.toList) != same))) = D at *
              obtain ⟨⟨a0, a1, a2⟩, ⟨b0, b1, b2⟩⟩ := HV5.out wc HC.out
              simp only at a0 a1 a2 b0 b1 b2
              cases D
              · have HW := Lib.hid (waits_any ⟨ak, sa, an⟩)
                have HBA := Lib.hid (bare_any ⟨ak, sa, an⟩)
                simp only [encT] at HW HBA
                clear HTELL
                have hwb : (ak == 2 || ak == 4) = true → (ak == 5 || ak == 6) = false := fun h => by
                  simp only [Bool.or_eq_true, beq_iff_eq] at h
                  rcases h with h | h <;> subst h <;> rfl
                generalize (ak == 2 || ak == 4) = wa at *
                generalize (ak == 5 || ak == 6) = ba at *
                cases wa
                · clear hwb
                  go_wp2_with (go_at_call 17; refine (HW.out _).mono ?_; rintro e w8 ⟨rfl, hb8⟩; have HB8 := Lib.hid (HC.out.trans (hb8.mono HC.out.size)); clear hb8 a0 a1 a2 b0 b1 b2)
                  apply bodyPost_ret
                  case hr => exact results_tmp rfl _ _ _
                  case hd => rfl
                  case hR => exact ⟨rfl, HB6.out.trans (HB8.out.mono HB6.out.size)⟩
                · obtain rfl := hwb rfl
                  clear hwb
                  go_wp2_with (first
                    | (go_at_call 17; refine (HW.out _).mono ?_; rintro e w8 ⟨rfl, hb8⟩; have HB8 := Lib.hid (HC.out.trans (hb8.mono HC.out.size)); clear hb8 a0 a1 a2 b0 b1 b2; obtain ⟨⟨a0, a1, a2⟩, ⟨b0, b1, b2⟩⟩ := HV5.out w8 HB8.out; simp only at a0 a1 a2 b0 b1 b2)
                    | (go_at_call 19; refine (HBA.out _).mono ?_; rintro e w9 ⟨rfl, hb9⟩; have HB9 := Lib.hid (HB8.out.trans (hb9.mono HB8.out.size)); clear hb9 a0 a1 a2 b0 b1 b2))
                  apply bodyPost_ret
                  case hr => exact results_tmp rfl _ _ _
                  case hd => rfl
                  case hR => exact ⟨rfl, HB6.out.trans (HB9.out.mono HB6.out.size)⟩
              · obtain ⟨hk, hn⟩ := HTELL.out rfl
                have hn1 : (sa.toList == sb.toList) = false := beq_eq_false_iff_ne.2 hn
                have hn2 : (sa.toList != sb.toList) = true := by rw [bne, hn1]; rfl
                have hk1 : (ak == bk) = true := by rw [hk]; exact beq_self_eq_true _
                clear hk HTELL
                go_wp2_with fail
                apply bodyPost_ret
                case hr => exact results_tmp rfl _ _ _
                case hd => rfl
                case hR => exact ⟨rfl, HB6.out.trans (HC.out.mono HB6.out.size)⟩
end Go.Proofs.YtcplajplbocieaaDoor
