/- W14 of stage 1: floats. -/
import Derived.Test.YtdmgaaaomleojaaGreatDoorFlW13
namespace Go.Proofs.YtdmgaaaomleojaaGreatDoor.Fl
open Go.RowKit
/-- The variables of errors that reading a number names. -/
structure Errs (w : World) : Prop where
  syn : ∃ tp p, w.var? Tryz.prog "strconv.ErrSyntax" = some #[.iface tp p]
  rng : ∃ tp p, w.var? Tryz.prog "strconv.ErrRange" = some #[.iface tp p]
  num : ∃ tp p, w.var? Tryz.prog "gristmill/api.ErrNumber" = some #[.iface tp p]
theorem glob5 : Tryz.prog.globalNamed "strconv.ErrSyntax" = some 6 := by kernel_rfl
theorem glob6 : Tryz.prog.globalNamed "strconv.ErrRange" = some 7 := by kernel_rfl
theorem glob0 : Tryz.prog.globalNamed "gristmill/api.ErrNumber" = some 3 := by kernel_rfl
theorem var_below {w w' : World} (hb : Below w.heap.size w w') {n : String} {g : Nat} {v : Value} (hg : Tryz.prog.globalNamed n = some g) (h : w.var? Tryz.prog n = some #[v]) : w'.var? Tryz.prog n = some #[v] := by
  unfold World.var? at *
  rw [hg] at h ⊢
  simp only [Option.bind_some] at h ⊢
  have hlt : g < w.heap.size := by
    rcases Nat.lt_or_ge g w.heap.size with h' | h'
    · exact h'
    · rw [Array.getElem?_eq_none h'] at h; simp at h
  rw [hb.block g hlt]
  exact h
theorem Errs.below {w w' : World} (h : Errs w) (hb : Below w.heap.size w w') : Errs w' := by
  obtain ⟨⟨t1, p1, e1⟩, ⟨t2, p2, e2⟩, ⟨t3, p3, e3⟩⟩ := h
  exact ⟨⟨t1, p1, var_below hb glob5 e1⟩, ⟨t2, p2, var_below hb glob6 e2⟩, ⟨t3, p3, var_below hb glob0 e3⟩⟩
theorem cell_of_var {w : World} {n : String} {g : Nat} {v : Value} (hg : Tryz.prog.globalNamed n = some g) (h : w.var? Tryz.prog n = some #[v]) : w.cell? ⟨g, 0, none⟩ = some v := by
  have := World.var?_cell hg h 0
  simpa using this
/-- A number, and an error that is not nil. -/
def Fell (k : IntKind) (w : World) (e : Ending) (w' : World) : Prop := ∃ (x : Int) (N : Nat), e = .returned (.tuple #[.int k x, .iface 126 (.pointer (some ⟨N, 0, none⟩))]) ∧ Below w.heap.size w w'
set_option maxHeartbeats 4000000 in
set_option maxRecDepth 100000 in
theorem pu_ok (s : ByteArray) (hlim : s.size ≤ 281474976710656) (u : Nat) (h : Lib.parseUintB 53 s.data.toList = .ok u) (w : World) :
    Calls Tryz.prog 88 #[.string s, .int .i64 10, .int .i64 53] w (Grew (.tuple #[.int .u64 u, .nilIface]) w) := by
  have hne : s.size ≠ 0 := fun e => by
    have : s.data.toList = [] := by
      rw [Lib.size_eq] at e; exact List.length_eq_zero_iff.1 e
    rw [this] at h
    cases h
  have hI := ipu53 s hne (by omega) w
  have h' : Lib.parseUintM 9007199254740991 0 s.data.toList = .ok u := by
    unfold Lib.parseUintB at h
    split at h
    · cases h
    · exact h
  rw [h'] at hI
  have HI := Lib.hid (show Calls Tryz.prog 97 #[.string s, .int .i64 10, .int .i64 53] w fun e w' => e = .returned (.tuple #[.int .u64 u, .nilIface]) ∧ w' = Lib.bytesWorld w 5 s from hI)
  have hb := Lib.bytesWorld_below w 5 s
  clear h h' hI hne hlim
  go_enter Tryz.func88, Tryz.ntmps88
  go_wp2_with (go_at_call 97; refine HI.out.mono ?_; rintro e W1 ⟨rfl, rfl⟩)
  go_wp2
  go_ret2
  exact ⟨rfl, hb⟩
set_option maxHeartbeats 4000000 in
set_option maxRecDepth 100000 in
theorem pu_fell (s : ByteArray) (x c : Int) (w W1 : World) (hb1 : Below w.heap.size w W1)
    (hI : Calls Tryz.prog 97 #[.string s, .int .i64 10, .int .i64 53] w fun e w' => e = .returned (.tuple #[.int .u64 x, .iface 125 (.int .i64 c)]) ∧ w' = W1)
    (hE : Calls Tryz.prog 86 #[.string ⟨#[80, 97, 114, 115, 101, 85, 105, 110, 116]⟩, .string s, .int .i64 10, .int .i64 53, .iface 125 (.int .i64 c)] W1 fun e w' => ∃ N, e = .returned (.iface 126 (.pointer (some ⟨N, 0, none⟩))) ∧ Below W1.heap.size W1 w') :
    Calls Tryz.prog 88 #[.string s, .int .i64 10, .int .i64 53] w (Fell .u64 w) := by
  have HI := Lib.hid hI
  have HE := Lib.hid hE
  clear hI hE
  go_enter Tryz.func88, Tryz.ntmps88
  go_wp2_with (go_at_call 97; refine HI.out.mono ?_; rintro e W2 ⟨rfl, rfl⟩)
  go_wp2_with (go_at_call 86; refine HE.out.mono ?_; rintro e W2 ⟨N, rfl, h3⟩)
  go_wp2
  go_ret2
  exact ⟨x, N, rfl, hb1.trans (h3.mono hb1.size)⟩
/-- strconv.ParseUint(s, 10, 53), of a text that is no such number. -/
theorem pu_bad (s : ByteArray) (hlim : s.size ≤ 281474976710656) (h : ∀ u, Lib.parseUintB 53 s.data.toList ≠ .ok u) (w : World) (he : Errs w) :
    Calls Tryz.prog 88 #[.string s, .int .i64 10, .int .i64 53] w (Fell .u64 w) := by
  have hsyn : ∀ W1, Below w.heap.size w W1 → Calls Tryz.prog 86 #[.string ⟨#[80, 97, 114, 115, 101, 85, 105, 110, 116]⟩, .string s, .int .i64 10, .int .i64 53, .iface 125 (.int .i64 2)] W1 fun e w' => ∃ N, e = .returned (.iface 126 (.pointer (some ⟨N, 0, none⟩))) ∧ Below W1.heap.size W1 w' := fun W1 hb => by
    obtain ⟨tp, p, e1⟩ := (he.below hb).syn
    exact (Tryz.strconv_toError_syntax ⟨#[80, 97, 114, 115, 101, 85, 105, 110, 116]⟩ s 10 53 _ W1 hlim (cell_of_var glob5 e1) (Or.inr ⟨tp, p, rfl⟩)).mono fun e w' ⟨N, h1, _, _, h4⟩ => ⟨N, h1, h4⟩
  have hrng : ∀ W1, Below w.heap.size w W1 → Calls Tryz.prog 86 #[.string ⟨#[80, 97, 114, 115, 101, 85, 105, 110, 116]⟩, .string s, .int .i64 10, .int .i64 53, .iface 125 (.int .i64 1)] W1 fun e w' => ∃ N, e = .returned (.iface 126 (.pointer (some ⟨N, 0, none⟩))) ∧ Below W1.heap.size W1 w' := fun W1 hb => by
    obtain ⟨tp, p, e1⟩ := (he.below hb).rng
    exact (Tryz.strconv_toError_range ⟨#[80, 97, 114, 115, 101, 85, 105, 110, 116]⟩ s 10 53 _ W1 hlim (cell_of_var glob6 e1) (Or.inr ⟨tp, p, rfl⟩)).mono fun e w' ⟨N, h1, _, _, h4⟩ => ⟨N, h1, h4⟩
  by_cases hne : s.size = 0
  · have hs : s = ⟨#[]⟩ := by
      apply ByteArray.ext
      exact Array.eq_empty_of_size_eq_zero hne
    subst hs
    exact pu_fell _ 0 2 w w (Below.refl _ _) (Tryz.internal_strconv_ParseUint_empty 10 53 w) (hsyn w (Below.refl _ _))
  · have hI := ipu53 s hne (by omega) w
    have hl : s.data.toList ≠ [] := fun e => hne (by rw [Lib.size_eq, e]; rfl)
    have e1 : Lib.parseUintB 53 s.data.toList = Lib.parseUintM 9007199254740991 0 s.data.toList := by
      unfold Lib.parseUintB; rw [if_neg hl]
    have hb := Lib.bytesWorld_below w 5 s
    cases hp : Lib.parseUintM 9007199254740991 0 s.data.toList with
    | ok u => exact absurd (e1.trans hp) (h u)
    | range =>
      rw [hp] at hI
      exact pu_fell s 9007199254740991 1 w _ hb hI (hrng _ hb)
    | _ =>
      rw [hp] at hI
      exact pu_fell s 0 2 w _ hb hI (hsyn _ hb)
/-- strconv.ParseInt(s, 10, 16). -/
theorem pi_ok (s : ByteArray) (hlim : s.size ≤ 281474976710656) (v : Int) (h : Lib.parseIntB 16 s.data.toList = .ok v) (w : World) :
    Calls Tryz.prog 69 #[.string s, .int .i64 10, .int .i64 16] w (Grew (.tuple #[.int .i64 v, .nilIface]) w) :=
  (Tryz.strconv_ParseInt_10_at16_ok s (by omega) v h w).mono fun e w' ⟨h1, h2⟩ => ⟨h1, by
    rcases h2 with rfl | ⟨t, rfl⟩
    · exact Below.refl _ _
    · exact Lib.bytesWorld_below w 5 t⟩
theorem pi_bad (s : ByteArray) (hlim : s.size ≤ 281474976710656) (h : ∀ v, Lib.parseIntB 16 s.data.toList ≠ .ok v) (w : World) (he : Errs w) :
    Calls Tryz.prog 69 #[.string s, .int .i64 10, .int .i64 16] w (Fell .i64 w) := by
  cases hp : Lib.parseIntB 16 s.data.toList with
  | ok v => exact absurd hp (h v)
  | range =>
    obtain ⟨tp, p, e1⟩ := he.rng
    exact (Tryz.strconv_ParseInt_10_at16_range_var s hlim hp tp p w e1).mono fun e w' ⟨N, h1, _, _, h4⟩ => ⟨_, N, h1, h4⟩
  | _ =>
    obtain ⟨tp, p, e1⟩ := he.syn
    exact (Tryz.strconv_ParseInt_10_at16_syntax_var s hlim hp tp p w e1).mono fun e w' ⟨N, h1, _, _, h4⟩ => ⟨0, N, h1, h4⟩
end Go.Proofs.YtdmgaaaomleojaaGreatDoor.Fl
