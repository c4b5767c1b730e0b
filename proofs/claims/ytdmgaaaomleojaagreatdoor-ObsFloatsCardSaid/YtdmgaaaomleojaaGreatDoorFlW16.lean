/- W16 of stage 1: floats. -/
import Derived.Test.YtdmgaaaomleojaaGreatDoorFlTxt
namespace Go.Proofs.YtdmgaaaomleojaaGreatDoor.Fl
open Go.RowKit
set_option maxRecDepth 100000 in
set_option maxHeartbeats 1000000 in
theorem cut_hit (s : ByteArray) (i : Nat) (hi : Lib.indexByte s.data.toList 112 = i) (hl : i < s.size) (hmax : s.size ≤ 1000) (w : World) :
    Calls Tryz.prog 29 #[.string s, .string ⟨#[112]⟩] w fun e w' => e = .returned (.tuple #[.string (s.extract 0 i), .string (s.extract (i + 1) s.size), .bool true]) ∧ Below w.heap.size w w' := by
  have HI := Lib.hid hi
  clear hi
  have c1 : (0 : Int) ≤ i := by omega
  have c2 : (i : Int) ≤ s.size := by omega
  have c3 : (0 : Int) ≤ i + 1 := by omega
  have c4 : (i + 1 : Int) ≤ s.size := by omega
  go_enter Tryz.func29, Tryz.ntmps29
  go_wp2_with (go_at_call 45; refine (Tryz.stringslite_Index_one _ _ _).mono ?_; rintro e w' ⟨rfl, rfl⟩; rw [HI.out])
  go_region
  all_goals
    go_wp2
    go_ret3
    exact ⟨rfl, Below.drew (Below.refl _ _)⟩
set_option maxRecDepth 100000 in
set_option maxHeartbeats 1000000 in
theorem cut_miss (s : ByteArray) (hi : Lib.indexByte s.data.toList 112 = -1) (w : World) :
    Calls Tryz.prog 29 #[.string s, .string ⟨#[112]⟩] w fun e w' => e = .returned (.tuple #[.string s, .string ⟨#[]⟩, .bool false]) ∧ Below w.heap.size w w' := by
  have HI := Lib.hid hi
  clear hi
  go_enter Tryz.func29, Tryz.ntmps29
  go_wp2_with (go_at_call 45; refine (Tryz.stringslite_Index_one _ _ _).mono ?_; rintro e w' ⟨rfl, rfl⟩; rw [HI.out])
  go_ret3
  exact ⟨rfl, Below.refl _ _⟩
set_option maxRecDepth 100000 in
set_option maxHeartbeats 1000000 in
/-- strings.Cut, out of what it calls. -/
theorem cut_pub (s x y : ByteArray) (b : Bool) (w : World)
    (h : Calls Tryz.prog 29 #[.string s, .string ⟨#[112]⟩] w fun e w' => e = .returned (.tuple #[.string x, .string y, .bool b]) ∧ Below w.heap.size w w') :
    Calls Tryz.prog 17 #[.string s, .string ⟨#[112]⟩] w fun e w' => e = .returned (.tuple #[.string x, .string y, .bool b]) ∧ Below w.heap.size w w' := by
  have H := Lib.hid h
  clear h
  go_enter Tryz.func17, Tryz.ntmps17
  go_wp2_with fail
  refine H.out.mono ?_
  rintro e w1 ⟨rfl, hb⟩
  go_wp2_with fail
  go_ret3
  exact ⟨rfl, hb⟩
/-- strings.Cut at "p", of a short text. -/
theorem cut_some (s : ByteArray) (hmax : s.size ≤ 1000) : ∃ x y b, x.size ≤ s.size ∧ y.size ≤ s.size ∧ (∀ p r, (∀ c ∈ p, c ≠ (112 : UInt8)) → s.data.toList = p ++ 112 :: r → x.data.toList = p ∧ y.data.toList = r) ∧
    ∀ w, Calls Tryz.prog 17 #[.string s, .string ⟨#[112]⟩] w fun e w' => e = .returned (.tuple #[.string x, .string y, .bool b]) ∧ Below w.heap.size w w' := by
  have hge := Lib.indexByte_ge s.data.toList 112
  have hsz := Lib.size_eq s
  by_cases hm : Lib.indexByte s.data.toList 112 = -1
  · refine ⟨s, ⟨#[]⟩, false, Nat.le_refl _, Nat.zero_le _, fun p r hp e => ?_, fun w => cut_pub s _ _ _ w (cut_miss s hm w)⟩
    exfalso
    have := Lib.indexByte_none hm p.length
    rw [e] at this
    simp at this
  · obtain ⟨i, hi⟩ : ∃ i : Nat, Lib.indexByte s.data.toList 112 = i := ⟨(Lib.indexByte s.data.toList 112).toNat, by omega⟩
    obtain ⟨h1, h2⟩ := Lib.indexByte_some hi
    have hl : i < s.size := by
      rw [hsz]
      exact (List.getElem?_eq_some_iff.1 h1).1
    refine ⟨s.extract 0 i, s.extract (i + 1) s.size, true, ?_, ?_, fun p r hp e => ?_, fun w => cut_pub s _ _ _ w (cut_hit s i hi hl hmax w)⟩
    · rw [ByteArray.size_extract]; omega
    · rw [ByteArray.size_extract]; omega
    · have hip : i = p.length := by
        rcases Nat.lt_trichotomy i p.length with g | g | g
        · exfalso
          rw [e, List.getElem?_append_left g] at h1
          exact hp _ (List.mem_of_getElem? h1) rfl
        · exact g
        · exfalso
          have := h2 p.length g
          rw [e] at this
          simp at this
      have hs2 : s.size = p.length + 1 + r.length := by rw [hsz, e]; simp; omega
      rw [Lib.extract_data, Lib.extract_data, e, hip, hs2]
      constructor
      · simp
      · simp
end Go.Proofs.YtdmgaaaomleojaaGreatDoor.Fl
