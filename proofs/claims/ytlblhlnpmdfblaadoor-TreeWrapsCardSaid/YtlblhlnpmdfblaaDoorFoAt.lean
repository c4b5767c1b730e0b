/- Forests in memory (package tree's nodes), and the law's within(). Conditions: the cells read as they do. -/
import Derived.Test.YtlblhlnpmdfblaaDoorFo
import Derived.Test.YtlblhlnpmdfblaaDoorGrew
import Derived.Laws.AppendOwn
import Derived.Lib.Strings
import Derived.Lib.Walk
import Derived.RegionTactic
import Derived.Deep.QuietTactic
import Derived.BigQuiet
namespace Go.Proofs.YtlblhlnpmdfblaaDoor
open Go.RowKit

namespace Fo
def size : Fo → Nat
  | nil => 0
  | word _ _ r => r.size + 1
  | list s _ r => s.size + r.size + 1
/-- Where the first one stands. -/
def head (to : Nat) : Fo → Nat
  | nil => to
  | word _ p _ => p
  | list _ p _ => p
end Fo

/-- A node's three cells. -/
def NdAt (w : World) (ao : Option Addr) (i : Nat) (t : ByteArray) (l : Value) (p : Nat) : Prop :=
  ∃ b off, ao = some ⟨b, off, none⟩ ∧ b < w.heap.size ∧ w.cell? ⟨b, off + i * 3, none⟩ = some (.string t) ∧ w.cell? ⟨b, off + i * 3 + 1, none⟩ = some l ∧ w.cell? ⟨b, off + i * 3 + 2, none⟩ = some (.int .i64 (p : Int))
/-- A forest in a row of nodes, from the i-th on. -/
def FoAt (w : World) : Fo → Option Addr → Nat → Prop
  | .nil, _, _ => True
  | .word t p r, ao, i => (∃ ao' cap, NdAt w ao i t (.slice ao' 0 cap) p) ∧ FoAt w r ao (i + 1)
  | .list s p r, ao, i => (∃ ao' cap, NdAt w ao i ⟨#[]⟩ (.slice ao' s.len cap) p ∧ FoAt w s ao' 0) ∧ FoAt w r ao (i + 1)
theorem NdAt.below {w w' : World} {ao : Option Addr} {i : Nat} {t : ByteArray} {l : Value} {p : Nat} (h : NdAt w ao i t l p) (hb : Below w.heap.size w w') : NdAt w' ao i t l p := by
  obtain ⟨b, off, h1, h2, h3, h4, h5⟩ := h
  exact ⟨b, off, h1, Nat.lt_of_lt_of_le h2 hb.size, (hb.cell (p := ⟨b, off + i * 3, none⟩) h2).trans h3, (hb.cell (p := ⟨b, off + i * 3 + 1, none⟩) h2).trans h4, (hb.cell (p := ⟨b, off + i * 3 + 2, none⟩) h2).trans h5⟩
theorem FoAt.below {w w' : World} (hb : Below w.heap.size w w') : ∀ {f : Fo} {ao : Option Addr} {i : Nat}, FoAt w f ao i → FoAt w' f ao i
  | .nil, _, _, _ => trivial
  | .word _ _ _, _, _, ⟨⟨ao', cap, h1⟩, h2⟩ => ⟨⟨ao', cap, h1.below hb⟩, FoAt.below hb h2⟩
  | .list _ _ _, _, _, ⟨⟨ao', cap, h1, h3⟩, h2⟩ => ⟨⟨ao', cap, h1.below hb, FoAt.below hb h3⟩, FoAt.below hb h2⟩
theorem FoAt.head {w : World} {f : Fo} {ao : Option Addr} {i : Nat} (h : FoAt w f ao i) (hl : 0 < f.len) (to : Nat) : ∃ b off, ao = some ⟨b, off, none⟩ ∧ w.cell? ⟨b, off + i * 3 + 2, none⟩ = some (.int .i64 (f.head to : Int)) := by
  cases f with
  | nil => simp [Fo.len] at hl
  | word t p r => obtain ⟨⟨ao', cap, b, off, h1, _, _, _, h5⟩, _⟩ := h; exact ⟨b, off, h1, h5⟩
  | list s p r => obtain ⟨⟨ao', cap, ⟨b, off, h1, _, _, _, h5⟩, _⟩, _⟩ := h; exact ⟨b, off, h1, h5⟩

/-- Each node within its list, at its bytes. -/
def FitF (s : ByteArray) : Nat → Nat → Fo → Prop
  | _, _, .nil => True
  | lo, hi, .word t p r => lo ≤ p ∧ 0 < t.size ∧ p + t.size ≤ hi ∧ s.extract p (p + t.size) = t ∧ FitF s (p + t.size) hi r
  | lo, hi, .list sub p r => lo ≤ p ∧ p < hi ∧ (∃ h : p < s.size, (s[p].toNat : Int) = 40) ∧ FitF s (p + 1) (r.head hi) sub ∧ FitF s (p + 1) hi r

theorem emp_is (t : ByteArray) (h : 0 < t.size) : t.toList.isEmpty = false := by
  rw [ByteArray.toList_eq]
  have := Lib.size_eq t
  cases hl : t.data.toList with
  | nil => rw [hl, List.length_nil] at this; omega
  | cons _ _ => rfl

theorem len_size (f : Fo) : f.len ≤ f.size := by induction f <;> simp_all [Fo.len, Fo.size] <;> omega
theorem head_le (s : ByteArray) (lo hi : Nat) (f : Fo) (h : FitF s lo hi f) : f.head hi ≤ hi := by
  cases f with
  | nil => exact Nat.le_refl _
  | word t p r => obtain ⟨_, _, h3, _⟩ := h; simp only [Fo.head]; omega
  | list sub p r => obtain ⟨_, h2, _⟩ := h; simp only [Fo.head]; omega
theorem nil_emp : (ByteArray.mk #[]).toList.isEmpty = true := by rw [ByteArray.toList_eq]; rfl

set_option maxRecDepth 100000 in
set_option maxHeartbeats 4000000 in
theorem within_any (s : ByteArray) (hs : s.size ≤ 100000) (m : Nat) (hm : m ≤ 100000) : ∀ (f : Fo), f.size ≤ m → ∀ (lo hi : Nat) (ao : Option Addr) (cap n : Nat) (w : World), n = f.len → lo ≤ 200000 → hi ≤ s.size → FoAt w f ao 0 → FitF s lo hi f →
    Calls Tryd.prog 12 #[.slice ao n cap, .string s, .int .i64 lo, .int .i64 hi] w fun e w' => e = .returned (.bool true) ∧ w = w' := by
  induction m with
  | zero =>
    intro f hf lo hi ao cap n w hn hlo hhi ha hfit
    cases f with
    | nil =>
      subst hn
      simp only [Fo.len]
      go_enter Tryd.func12, Tryd.ntmps12
      go_wp2_with fail
      go_loop [9, 10] (fun _ vi => vi = .int .i64 0) (fun _ vi => 1 - (intOf vi).toNat)
      case atStart => rfl
      case round =>
        obtain rfl := hrel
        go_wp2_with fail
        go_ret
        exact ⟨rfl, rfl⟩
    | word t p r => simp [Fo.size] at hf
    | list s p r => simp [Fo.size] at hf
  | succ m IH =>
    intro f hf lo hi ao cap n w hn hlo hhi ha hfit
    have hn2 : n ≤ 100000 := by have := len_size f; omega
    have HI := Lib.hid (IH (by omega))
    have HN := Lib.hid hn
    have HF := Lib.hid ha
    have HT := Lib.hid hfit
    have HZ := Lib.hid hf
    clear IH hn ha hfit hf
    go_enter Tryd.func12, Tryd.ntmps12
    go_wp2_with fail
    go_loop [9, 10] (fun vl vi => ∃ (i lo' : Nat) (r : Fo), vi = .int .i64 i ∧ vl = .int .i64 ((lo' : Int) - 1) ∧ i + r.len = n ∧ lo' ≤ 200000 ∧ Hid (FoAt w r ao i ∧ FitF s lo' hi r ∧ r.size ≤ m + 1)) (fun _ vi => n + 1 - (intOf vi).toNat)
    case atStart => exact ⟨0, lo, f, rfl, by go_num, by rw [Nat.zero_add]; exact HN.out.symm, hlo, Lib.hid ⟨HF.out, HT.out, HZ.out⟩⟩
    case round =>
      obtain ⟨i, lo', r, rfl, rfl, hir, hlo', hR⟩ := hrel
      cases r with
      | nil =>
        simp only [Fo.len, Nat.add_zero] at hir
        subst hir
        go_wp2_with fail
        go_ret
        exact ⟨rfl, rfl⟩
      | word t p r =>
        obtain ⟨⟨⟨ao', c', b, off, rfl, hb, c0, c1, c2⟩, h2⟩, ⟨f1, f2, f3, f4, f5⟩, hz⟩ := hR.out
        simp only [Fo.len] at hir
        simp only [Fo.size] at hz
        have he := emp_is t f2
        have HR2 := Lib.hid h2
        have HF5 := Lib.hid f5
        clear h2 f5 hR
        have hin : (i : Int) < (n : Int) := by omega
        have hi0 : (0 : Int) ≤ (i : Int) := by omega
        have g1 : ¬ (p : Int) ≤ (lo' : Int) - 1 := by omega
        have g2 : ¬ (hi : Int) ≤ (p : Int) := by omega
        have g3 : ¬ (hi : Int) < (p : Int) + (t.size : Int) := by omega
        have hsz : t.size ≤ 100000 := by omega
        have hpz : p ≤ 100000 := by omega
        have hxx : (Instr.slice 9 (.string s) (some (.int .i64 (p : Int))) (some (.int .i64 ((p : Int) + (t.size : Int)))) none).run Tryd.prog w = .ok (.string t) w := by
          have := run_slice_string (P := Tryd.prog) w 9 s .i64 .i64 (p : Int) ((p : Int) + (t.size : Int)) Tryd.underlying9 (by omega) (by omega) (by omega)
          rw [show (p : Int).toNat = p by omega, show ((p : Int) + (t.size : Int)).toNat = p + t.size by omega, f4] at this
          exact this
        clear f4
        go_wp2_with fail
        go_round
        case rel => exact ⟨i + 1, p + t.size, r, by go_num, by go_num, by omega, by omega, Lib.hid ⟨HR2.out, HF5.out, by omega⟩⟩
        case measure => simp [intOf]; omega
      | list sub p r =>
        obtain ⟨⟨⟨ao', c', ⟨b, off, rfl, hb, c0, c1, c2⟩, hsub⟩, h2⟩, ⟨f1, f2, ⟨f3, f4⟩, f5, f6⟩, hz⟩ := hR.out
        simp only [Fo.len] at hir
        simp only [Fo.size] at hz
        have he := nil_emp
        have hh := head_le s _ _ _ f6
        have hls := len_size sub
        have hcc := HI.out sub (by omega) (p + 1) (r.head hi) ao' c' sub.len w rfl (by omega) (by omega) hsub f5
        rw [show ((p + 1 : Nat) : Int) = (p : Int) + 1 by omega] at hcc
        have HC := Lib.hid hcc
        clear hcc
        have HR2 := Lib.hid h2
        have HF6 := Lib.hid f6
        have hne : ((s[p].toNat : Int) != 40) = false := by rw [f4]; rfl
        have hin : (i : Int) < (n : Int) := by omega
        have hi0 : (0 : Int) ≤ (i : Int) := by omega
        have g1 : ¬ (p : Int) ≤ (lo' : Int) - 1 := by omega
        have g2 : ¬ (hi : Int) ≤ (p : Int) := by omega
        have hpz : p ≤ 100000 := by omega
        clear f4 f5 f6 hsub hR
        by_cases hr : 0 < r.len
        · obtain ⟨b', off', e1, cn⟩ := h2.head hr hi
          injection e1 with e1
          injection e1 with e1 e2 _
          subst e1 e2
          have hin2 : (i : Int) + 1 < (n : Int) := by omega
          have hrz : r.head hi ≤ 100000 := by omega
          clear h2 hh
          go_wp2_with fail
          refine HC.out.mono ?_
          rintro e w' ⟨rfl, rfl⟩
          go_wp2_with fail
          go_round
          case rel => exact ⟨i + 1, p + 1, r, by go_num, by go_num, by omega, by omega, Lib.hid ⟨HR2.out, HF6.out, by omega⟩⟩
          case measure => simp [intOf]; omega
        · have hrn : r.head hi = hi := by
            cases r with
            | nil => rfl
            | word t p r => simp [Fo.len] at hr
            | list s p r => simp [Fo.len] at hr
          have hin2 : ¬ (i : Int) + 1 < (n : Int) := by omega
          rw [hrn] at HC
          clear h2 hh
          go_wp2_with fail
          refine HC.out.mono ?_
          rintro e w' ⟨rfl, rfl⟩
          go_wp2_with fail
          go_round
          case rel => exact ⟨i + 1, p + 1, r, by go_num, by go_num, by omega, by omega, Lib.hid ⟨HR2.out, HF6.out, by omega⟩⟩
          case measure => simp [intOf]; omega
end Go.Proofs.YtlblhlnpmdfblaaDoor
