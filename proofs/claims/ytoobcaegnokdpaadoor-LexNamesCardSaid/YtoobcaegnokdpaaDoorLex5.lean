/- LexNames: the walk of the law, out of the contracts of what it calls. No conditions. -/
import Derived.Test.YtoobcaegnokdpaaDoorLexF
import Derived.Test.YtoobcaegnokdpaaDoorNumber
import Derived.Laws.IdiomStrings
namespace Go.Proofs.YtoobcaegnokdpaaDoor
open Go.RowKit

set_option maxRecDepth 100000 in
set_option maxHeartbeats 8000000 in
theorem names_none (k r x : Int) (s cs : ByteArray) (w : World) (hs : s.size ≤ 60)
    (H0 : Hid (Calls Tryd.prog 8 #[] w (Grew (.bool true) w)))
    (HK : Hid (∀ w, Calls Tryd.prog 15 #[.int .i64 k, .int .i64 9] w fun e w' => e = .returned (.int .i64 r) ∧ w = w'))
    (HN : Hid (∀ (s : ByteArray), s.size ≤ 1000000000 → ∀ w, Calls Tryd.prog 11 #[.string s] w fun e w' => e = .returned (.bool (nameB s)) ∧ w = w'))
    (HU : Hid (∀ (s : ByteArray), s.size ≤ 1000000000 → ∀ w, Calls Tryd.prog 13 #[.string s] w fun e w' => e = .returned (.bool (upperB s)) ∧ w = w'))
    (hix : ∀ W, (Instr.index 9 (.string ⟨#[97, 98, 122, 95, 48, 49, 57, 65, 90]⟩) (.int .i64 r)).run Tryd.prog W = .ok (.int .u8 x) W)
    (hcv : ∀ W : World, (convert 40 9 (.slice (some ⟨W.heap.size, 0, none⟩) 1 1)).run Tryd.prog (W.alloc (.cells #[.int .u8 x] 5)) = .ok (.string cs) (W.alloc (.cells #[.int .u8 x] 5)))
    (zc : cs.size = 1) (z1 : s.size ≤ 1000000000) (_z2 : (s ++ cs).size ≤ 1000000000) (z3 : (s ++ ⟨#[45]⟩).size ≤ 1000000000) (z4 : (s ++ ⟨#[32]⟩).size ≤ 1000000000) (z5 : (s ++ ⟨#[39]⟩).size ≤ 1000000000) (z6 : (⟨#[]⟩ : ByteArray).size ≤ 1000000000)
    (n3 : nameB (s ++ ⟨#[45]⟩) = false) (n4 : nameB (s ++ ⟨#[32]⟩) = false) (n5 : upperB (s ++ ⟨#[39]⟩) = false) (n6 : nameB ⟨#[]⟩ = false) (n7 : upperB ⟨#[]⟩ = false)
    (hA : nameB s = false)
    (hB : upperB s = false) :
    Calls Tryd.prog 7 #[.int .i64 k, .string s] w (Grew (.bool true) w) := by
  have hsz : (s.size : Int) ≤ 60 := by omega
  go_enter Tryd.func7, Tryd.ntmps7
  go_wp2_with fail
  refine H0.out.mono ?_
  rintro e w0 ⟨rfl, hb0⟩
  have HB0 := Lib.hid hb0
  clear hb0
  go_wp2_with (first
    | (go_at_call 11; refine (HN.out _ (by assumption) _).mono ?_; rintro e w' ⟨rfl, rfl⟩)
    | (go_at_call 13; refine (HU.out _ (by assumption) _).mono ?_; rintro e w' ⟨rfl, rfl⟩)
    | (go_at_call 15; refine (HK.out _).mono ?_; rintro e w' ⟨rfl, rfl⟩))
  all_goals
    apply bodyPost_ret
    case hr => exact results_tmp rfl _ _ _
    case hd => rfl
    case hR => exact ⟨rfl, HB0.out.alloc HB0.out.size _⟩

set_option maxRecDepth 100000 in
set_option maxHeartbeats 8000000 in
theorem names_great_long (k r x : Int) (s cs : ByteArray) (w : World) (hs : s.size ≤ 60) (hl0 : ¬ s.size < 40)
    (H0 : Hid (Calls Tryd.prog 8 #[] w (Grew (.bool true) w)))
    (HK : Hid (∀ w, Calls Tryd.prog 15 #[.int .i64 k, .int .i64 9] w fun e w' => e = .returned (.int .i64 r) ∧ w = w'))
    (HN : Hid (∀ (s : ByteArray), s.size ≤ 1000000000 → ∀ w, Calls Tryd.prog 11 #[.string s] w fun e w' => e = .returned (.bool (nameB s)) ∧ w = w'))
    (HU : Hid (∀ (s : ByteArray), s.size ≤ 1000000000 → ∀ w, Calls Tryd.prog 13 #[.string s] w fun e w' => e = .returned (.bool (upperB s)) ∧ w = w'))
    (hix : ∀ W, (Instr.index 9 (.string ⟨#[97, 98, 122, 95, 48, 49, 57, 65, 90]⟩) (.int .i64 r)).run Tryd.prog W = .ok (.int .u8 x) W)
    (hcv : ∀ W : World, (convert 40 9 (.slice (some ⟨W.heap.size, 0, none⟩) 1 1)).run Tryd.prog (W.alloc (.cells #[.int .u8 x] 5)) = .ok (.string cs) (W.alloc (.cells #[.int .u8 x] 5)))
    (zc : cs.size = 1) (z1 : s.size ≤ 1000000000) (_z2 : (s ++ cs).size ≤ 1000000000) (z3 : (s ++ ⟨#[45]⟩).size ≤ 1000000000) (z4 : (s ++ ⟨#[32]⟩).size ≤ 1000000000) (z5 : (s ++ ⟨#[39]⟩).size ≤ 1000000000) (z6 : (⟨#[]⟩ : ByteArray).size ≤ 1000000000)
    (n3 : nameB (s ++ ⟨#[45]⟩) = false) (n4 : nameB (s ++ ⟨#[32]⟩) = false) (n5 : upperB (s ++ ⟨#[39]⟩) = false) (n6 : nameB ⟨#[]⟩ = false) (n7 : upperB ⟨#[]⟩ = false)
    (hA : nameB s = false)
    (hB : upperB s = true) :
    Calls Tryd.prog 7 #[.int .i64 k, .string s] w (Grew (.bool true) w) := by
  have hsz : (s.size : Int) ≤ 60 := by omega
  have hl : ¬ (s.size : Int) < 40 := by omega
  go_enter Tryd.func7, Tryd.ntmps7
  go_wp2_with fail
  refine H0.out.mono ?_
  rintro e w0 ⟨rfl, hb0⟩
  have HB0 := Lib.hid hb0
  clear hb0
  go_wp2_with (first
    | (go_at_call 11; refine (HN.out _ (by assumption) _).mono ?_; rintro e w' ⟨rfl, rfl⟩)
    | (go_at_call 13; refine (HU.out _ (by assumption) _).mono ?_; rintro e w' ⟨rfl, rfl⟩)
    | (go_at_call 15; refine (HK.out _).mono ?_; rintro e w' ⟨rfl, rfl⟩))
  all_goals
    apply bodyPost_ret
    case hr => exact results_tmp rfl _ _ _
    case hd => rfl
    case hR => exact ⟨rfl, HB0.out.alloc HB0.out.size _⟩

set_option maxRecDepth 100000 in
set_option maxHeartbeats 8000000 in
theorem names_great (k r x : Int) (s cs : ByteArray) (w : World) (hs : s.size ≤ 60) (hl0 : s.size < 40)
    (H0 : Hid (Calls Tryd.prog 8 #[] w (Grew (.bool true) w)))
    (HK : Hid (∀ w, Calls Tryd.prog 15 #[.int .i64 k, .int .i64 9] w fun e w' => e = .returned (.int .i64 r) ∧ w = w'))
    (HN : Hid (∀ (s : ByteArray), s.size ≤ 1000000000 → ∀ w, Calls Tryd.prog 11 #[.string s] w fun e w' => e = .returned (.bool (nameB s)) ∧ w = w'))
    (HU : Hid (∀ (s : ByteArray), s.size ≤ 1000000000 → ∀ w, Calls Tryd.prog 13 #[.string s] w fun e w' => e = .returned (.bool (upperB s)) ∧ w = w'))
    (hix : ∀ W, (Instr.index 9 (.string ⟨#[97, 98, 122, 95, 48, 49, 57, 65, 90]⟩) (.int .i64 r)).run Tryd.prog W = .ok (.int .u8 x) W)
    (hcv : ∀ W : World, (convert 40 9 (.slice (some ⟨W.heap.size, 0, none⟩) 1 1)).run Tryd.prog (W.alloc (.cells #[.int .u8 x] 5)) = .ok (.string cs) (W.alloc (.cells #[.int .u8 x] 5)))
    (zc : cs.size = 1) (z1 : s.size ≤ 1000000000) (_z2 : (s ++ cs).size ≤ 1000000000) (z3 : (s ++ ⟨#[45]⟩).size ≤ 1000000000) (z4 : (s ++ ⟨#[32]⟩).size ≤ 1000000000) (z5 : (s ++ ⟨#[39]⟩).size ≤ 1000000000) (z6 : (⟨#[]⟩ : ByteArray).size ≤ 1000000000)
    (n3 : nameB (s ++ ⟨#[45]⟩) = false) (n4 : nameB (s ++ ⟨#[32]⟩) = false) (n5 : upperB (s ++ ⟨#[39]⟩) = false) (n6 : nameB ⟨#[]⟩ = false) (n7 : upperB ⟨#[]⟩ = false)
    (hA : nameB s = false)
    (hB : upperB s = true)
    (hM : upperB (s ++ cs) = true) :
    Calls Tryd.prog 7 #[.int .i64 k, .string s] w (Grew (.bool true) w) := by
  have hsz : (s.size : Int) ≤ 60 := by omega
  have hl : (s.size : Int) < 40 := by omega
  go_enter Tryd.func7, Tryd.ntmps7
  go_wp2_with fail
  refine H0.out.mono ?_
  rintro e w0 ⟨rfl, hb0⟩
  have HB0 := Lib.hid hb0
  clear hb0
  go_wp2_with (first
    | (go_at_call 11; refine (HN.out _ (by assumption) _).mono ?_; rintro e w' ⟨rfl, rfl⟩)
    | (go_at_call 13; refine (HU.out _ (by assumption) _).mono ?_; rintro e w' ⟨rfl, rfl⟩)
    | (go_at_call 15; refine (HK.out _).mono ?_; rintro e w' ⟨rfl, rfl⟩))
  all_goals
    apply bodyPost_ret
    case hr => exact results_tmp rfl _ _ _
    case hd => rfl
    case hR => exact ⟨rfl, HB0.out.alloc HB0.out.size _⟩

set_option maxRecDepth 100000 in
set_option maxHeartbeats 8000000 in
theorem names_long (k r x : Int) (s cs : ByteArray) (w : World) (hs : s.size ≤ 60) (hl0 : ¬ s.size < 40)
    (H0 : Hid (Calls Tryd.prog 8 #[] w (Grew (.bool true) w)))
    (HK : Hid (∀ w, Calls Tryd.prog 15 #[.int .i64 k, .int .i64 9] w fun e w' => e = .returned (.int .i64 r) ∧ w = w'))
    (HN : Hid (∀ (s : ByteArray), s.size ≤ 1000000000 → ∀ w, Calls Tryd.prog 11 #[.string s] w fun e w' => e = .returned (.bool (nameB s)) ∧ w = w'))
    (HU : Hid (∀ (s : ByteArray), s.size ≤ 1000000000 → ∀ w, Calls Tryd.prog 13 #[.string s] w fun e w' => e = .returned (.bool (upperB s)) ∧ w = w'))
    (hix : ∀ W, (Instr.index 9 (.string ⟨#[97, 98, 122, 95, 48, 49, 57, 65, 90]⟩) (.int .i64 r)).run Tryd.prog W = .ok (.int .u8 x) W)
    (hcv : ∀ W : World, (convert 40 9 (.slice (some ⟨W.heap.size, 0, none⟩) 1 1)).run Tryd.prog (W.alloc (.cells #[.int .u8 x] 5)) = .ok (.string cs) (W.alloc (.cells #[.int .u8 x] 5)))
    (zc : cs.size = 1) (z1 : s.size ≤ 1000000000) (_z2 : (s ++ cs).size ≤ 1000000000) (z3 : (s ++ ⟨#[45]⟩).size ≤ 1000000000) (z4 : (s ++ ⟨#[32]⟩).size ≤ 1000000000) (z5 : (s ++ ⟨#[39]⟩).size ≤ 1000000000) (z6 : (⟨#[]⟩ : ByteArray).size ≤ 1000000000)
    (n3 : nameB (s ++ ⟨#[45]⟩) = false) (n4 : nameB (s ++ ⟨#[32]⟩) = false) (n5 : upperB (s ++ ⟨#[39]⟩) = false) (n6 : nameB ⟨#[]⟩ = false) (n7 : upperB ⟨#[]⟩ = false)
    (hA : nameB s = true)
    (hB : upperB s = false) :
    Calls Tryd.prog 7 #[.int .i64 k, .string s] w (Grew (.bool true) w) := by
  have hsz : (s.size : Int) ≤ 60 := by omega
  have hl : ¬ (s.size : Int) < 40 := by omega
  go_enter Tryd.func7, Tryd.ntmps7
  go_wp2_with fail
  refine H0.out.mono ?_
  rintro e w0 ⟨rfl, hb0⟩
  have HB0 := Lib.hid hb0
  clear hb0
  go_wp2_with (first
    | (go_at_call 11; refine (HN.out _ (by assumption) _).mono ?_; rintro e w' ⟨rfl, rfl⟩)
    | (go_at_call 13; refine (HU.out _ (by assumption) _).mono ?_; rintro e w' ⟨rfl, rfl⟩)
    | (go_at_call 15; refine (HK.out _).mono ?_; rintro e w' ⟨rfl, rfl⟩))
  all_goals
    apply bodyPost_ret
    case hr => exact results_tmp rfl _ _ _
    case hd => rfl
    case hR => exact ⟨rfl, HB0.out.alloc HB0.out.size _⟩

set_option maxRecDepth 100000 in
set_option maxHeartbeats 8000000 in
theorem names_kw0 (k r x : Int) (s cs : ByteArray) (w : World) (hs : s.size ≤ 60) (hl0 : s.size < 40)
    (H0 : Hid (Calls Tryd.prog 8 #[] w (Grew (.bool true) w)))
    (HK : Hid (∀ w, Calls Tryd.prog 15 #[.int .i64 k, .int .i64 9] w fun e w' => e = .returned (.int .i64 r) ∧ w = w'))
    (HN : Hid (∀ (s : ByteArray), s.size ≤ 1000000000 → ∀ w, Calls Tryd.prog 11 #[.string s] w fun e w' => e = .returned (.bool (nameB s)) ∧ w = w'))
    (HU : Hid (∀ (s : ByteArray), s.size ≤ 1000000000 → ∀ w, Calls Tryd.prog 13 #[.string s] w fun e w' => e = .returned (.bool (upperB s)) ∧ w = w'))
    (hix : ∀ W, (Instr.index 9 (.string ⟨#[97, 98, 122, 95, 48, 49, 57, 65, 90]⟩) (.int .i64 r)).run Tryd.prog W = .ok (.int .u8 x) W)
    (hcv : ∀ W : World, (convert 40 9 (.slice (some ⟨W.heap.size, 0, none⟩) 1 1)).run Tryd.prog (W.alloc (.cells #[.int .u8 x] 5)) = .ok (.string cs) (W.alloc (.cells #[.int .u8 x] 5)))
    (zc : cs.size = 1) (z1 : s.size ≤ 1000000000) (_z2 : (s ++ cs).size ≤ 1000000000) (z3 : (s ++ ⟨#[45]⟩).size ≤ 1000000000) (z4 : (s ++ ⟨#[32]⟩).size ≤ 1000000000) (z5 : (s ++ ⟨#[39]⟩).size ≤ 1000000000) (z6 : (⟨#[]⟩ : ByteArray).size ≤ 1000000000)
    (n3 : nameB (s ++ ⟨#[45]⟩) = false) (n4 : nameB (s ++ ⟨#[32]⟩) = false) (n5 : upperB (s ++ ⟨#[39]⟩) = false) (n6 : nameB ⟨#[]⟩ = false) (n7 : upperB ⟨#[]⟩ = false)
    (hA : nameB s = true)
    (hB : upperB s = false)
    (h0 : ((s ++ cs).toList == [102, 110]) = true) :
    Calls Tryd.prog 7 #[.int .i64 k, .string s] w (Grew (.bool true) w) := by
  have hsz : (s.size : Int) ≤ 60 := by omega
  have hl : (s.size : Int) < 40 := by omega
  go_enter Tryd.func7, Tryd.ntmps7
  go_wp2_with fail
  refine H0.out.mono ?_
  rintro e w0 ⟨rfl, hb0⟩
  have HB0 := Lib.hid hb0
  clear hb0
  go_wp2_with (first
    | (go_at_call 11; refine (HN.out _ (by assumption) _).mono ?_; rintro e w' ⟨rfl, rfl⟩)
    | (go_at_call 13; refine (HU.out _ (by assumption) _).mono ?_; rintro e w' ⟨rfl, rfl⟩)
    | (go_at_call 15; refine (HK.out _).mono ?_; rintro e w' ⟨rfl, rfl⟩))
  all_goals
    apply bodyPost_ret
    case hr => exact results_tmp rfl _ _ _
    case hd => rfl
    case hR => exact ⟨rfl, HB0.out.alloc HB0.out.size _⟩

set_option maxRecDepth 100000 in
set_option maxHeartbeats 8000000 in
theorem names_kw1 (k r x : Int) (s cs : ByteArray) (w : World) (hs : s.size ≤ 60) (hl0 : s.size < 40)
    (H0 : Hid (Calls Tryd.prog 8 #[] w (Grew (.bool true) w)))
    (HK : Hid (∀ w, Calls Tryd.prog 15 #[.int .i64 k, .int .i64 9] w fun e w' => e = .returned (.int .i64 r) ∧ w = w'))
    (HN : Hid (∀ (s : ByteArray), s.size ≤ 1000000000 → ∀ w, Calls Tryd.prog 11 #[.string s] w fun e w' => e = .returned (.bool (nameB s)) ∧ w = w'))
    (HU : Hid (∀ (s : ByteArray), s.size ≤ 1000000000 → ∀ w, Calls Tryd.prog 13 #[.string s] w fun e w' => e = .returned (.bool (upperB s)) ∧ w = w'))
    (hix : ∀ W, (Instr.index 9 (.string ⟨#[97, 98, 122, 95, 48, 49, 57, 65, 90]⟩) (.int .i64 r)).run Tryd.prog W = .ok (.int .u8 x) W)
    (hcv : ∀ W : World, (convert 40 9 (.slice (some ⟨W.heap.size, 0, none⟩) 1 1)).run Tryd.prog (W.alloc (.cells #[.int .u8 x] 5)) = .ok (.string cs) (W.alloc (.cells #[.int .u8 x] 5)))
    (zc : cs.size = 1) (z1 : s.size ≤ 1000000000) (_z2 : (s ++ cs).size ≤ 1000000000) (z3 : (s ++ ⟨#[45]⟩).size ≤ 1000000000) (z4 : (s ++ ⟨#[32]⟩).size ≤ 1000000000) (z5 : (s ++ ⟨#[39]⟩).size ≤ 1000000000) (z6 : (⟨#[]⟩ : ByteArray).size ≤ 1000000000)
    (n3 : nameB (s ++ ⟨#[45]⟩) = false) (n4 : nameB (s ++ ⟨#[32]⟩) = false) (n5 : upperB (s ++ ⟨#[39]⟩) = false) (n6 : nameB ⟨#[]⟩ = false) (n7 : upperB ⟨#[]⟩ = false)
    (hA : nameB s = true)
    (hB : upperB s = false)
    (h0 : ((s ++ cs).toList == [102, 110]) = false)
    (h1 : ((s ++ cs).toList == [108, 101, 116]) = true) :
    Calls Tryd.prog 7 #[.int .i64 k, .string s] w (Grew (.bool true) w) := by
  have hsz : (s.size : Int) ≤ 60 := by omega
  have hl : (s.size : Int) < 40 := by omega
  go_enter Tryd.func7, Tryd.ntmps7
  go_wp2_with fail
  refine H0.out.mono ?_
  rintro e w0 ⟨rfl, hb0⟩
  have HB0 := Lib.hid hb0
  clear hb0
  go_wp2_with (first
    | (go_at_call 11; refine (HN.out _ (by assumption) _).mono ?_; rintro e w' ⟨rfl, rfl⟩)
    | (go_at_call 13; refine (HU.out _ (by assumption) _).mono ?_; rintro e w' ⟨rfl, rfl⟩)
    | (go_at_call 15; refine (HK.out _).mono ?_; rintro e w' ⟨rfl, rfl⟩))
  all_goals
    apply bodyPost_ret
    case hr => exact results_tmp rfl _ _ _
    case hd => rfl
    case hR => exact ⟨rfl, HB0.out.alloc HB0.out.size _⟩

set_option maxRecDepth 100000 in
set_option maxHeartbeats 8000000 in
theorem names_kw2 (k r x : Int) (s cs : ByteArray) (w : World) (hs : s.size ≤ 60) (hl0 : s.size < 40)
    (H0 : Hid (Calls Tryd.prog 8 #[] w (Grew (.bool true) w)))
    (HK : Hid (∀ w, Calls Tryd.prog 15 #[.int .i64 k, .int .i64 9] w fun e w' => e = .returned (.int .i64 r) ∧ w = w'))
    (HN : Hid (∀ (s : ByteArray), s.size ≤ 1000000000 → ∀ w, Calls Tryd.prog 11 #[.string s] w fun e w' => e = .returned (.bool (nameB s)) ∧ w = w'))
    (HU : Hid (∀ (s : ByteArray), s.size ≤ 1000000000 → ∀ w, Calls Tryd.prog 13 #[.string s] w fun e w' => e = .returned (.bool (upperB s)) ∧ w = w'))
    (hix : ∀ W, (Instr.index 9 (.string ⟨#[97, 98, 122, 95, 48, 49, 57, 65, 90]⟩) (.int .i64 r)).run Tryd.prog W = .ok (.int .u8 x) W)
    (hcv : ∀ W : World, (convert 40 9 (.slice (some ⟨W.heap.size, 0, none⟩) 1 1)).run Tryd.prog (W.alloc (.cells #[.int .u8 x] 5)) = .ok (.string cs) (W.alloc (.cells #[.int .u8 x] 5)))
    (zc : cs.size = 1) (z1 : s.size ≤ 1000000000) (_z2 : (s ++ cs).size ≤ 1000000000) (z3 : (s ++ ⟨#[45]⟩).size ≤ 1000000000) (z4 : (s ++ ⟨#[32]⟩).size ≤ 1000000000) (z5 : (s ++ ⟨#[39]⟩).size ≤ 1000000000) (z6 : (⟨#[]⟩ : ByteArray).size ≤ 1000000000)
    (n3 : nameB (s ++ ⟨#[45]⟩) = false) (n4 : nameB (s ++ ⟨#[32]⟩) = false) (n5 : upperB (s ++ ⟨#[39]⟩) = false) (n6 : nameB ⟨#[]⟩ = false) (n7 : upperB ⟨#[]⟩ = false)
    (hA : nameB s = true)
    (hB : upperB s = false)
    (h0 : ((s ++ cs).toList == [102, 110]) = false)
    (h1 : ((s ++ cs).toList == [108, 101, 116]) = false)
    (h2 : ((s ++ cs).toList == [99, 97, 115, 101]) = true) :
    Calls Tryd.prog 7 #[.int .i64 k, .string s] w (Grew (.bool true) w) := by
  have hsz : (s.size : Int) ≤ 60 := by omega
  have hl : (s.size : Int) < 40 := by omega
  go_enter Tryd.func7, Tryd.ntmps7
  go_wp2_with fail
  refine H0.out.mono ?_
  rintro e w0 ⟨rfl, hb0⟩
  have HB0 := Lib.hid hb0
  clear hb0
  go_wp2_with (first
    | (go_at_call 11; refine (HN.out _ (by assumption) _).mono ?_; rintro e w' ⟨rfl, rfl⟩)
    | (go_at_call 13; refine (HU.out _ (by assumption) _).mono ?_; rintro e w' ⟨rfl, rfl⟩)
    | (go_at_call 15; refine (HK.out _).mono ?_; rintro e w' ⟨rfl, rfl⟩))
  all_goals
    apply bodyPost_ret
    case hr => exact results_tmp rfl _ _ _
    case hd => rfl
    case hR => exact ⟨rfl, HB0.out.alloc HB0.out.size _⟩

set_option maxRecDepth 100000 in
set_option maxHeartbeats 8000000 in
theorem names_kw3 (k r x : Int) (s cs : ByteArray) (w : World) (hs : s.size ≤ 60) (hl0 : s.size < 40)
    (H0 : Hid (Calls Tryd.prog 8 #[] w (Grew (.bool true) w)))
    (HK : Hid (∀ w, Calls Tryd.prog 15 #[.int .i64 k, .int .i64 9] w fun e w' => e = .returned (.int .i64 r) ∧ w = w'))
    (HN : Hid (∀ (s : ByteArray), s.size ≤ 1000000000 → ∀ w, Calls Tryd.prog 11 #[.string s] w fun e w' => e = .returned (.bool (nameB s)) ∧ w = w'))
    (HU : Hid (∀ (s : ByteArray), s.size ≤ 1000000000 → ∀ w, Calls Tryd.prog 13 #[.string s] w fun e w' => e = .returned (.bool (upperB s)) ∧ w = w'))
    (hix : ∀ W, (Instr.index 9 (.string ⟨#[97, 98, 122, 95, 48, 49, 57, 65, 90]⟩) (.int .i64 r)).run Tryd.prog W = .ok (.int .u8 x) W)
    (hcv : ∀ W : World, (convert 40 9 (.slice (some ⟨W.heap.size, 0, none⟩) 1 1)).run Tryd.prog (W.alloc (.cells #[.int .u8 x] 5)) = .ok (.string cs) (W.alloc (.cells #[.int .u8 x] 5)))
    (zc : cs.size = 1) (z1 : s.size ≤ 1000000000) (_z2 : (s ++ cs).size ≤ 1000000000) (z3 : (s ++ ⟨#[45]⟩).size ≤ 1000000000) (z4 : (s ++ ⟨#[32]⟩).size ≤ 1000000000) (z5 : (s ++ ⟨#[39]⟩).size ≤ 1000000000) (z6 : (⟨#[]⟩ : ByteArray).size ≤ 1000000000)
    (n3 : nameB (s ++ ⟨#[45]⟩) = false) (n4 : nameB (s ++ ⟨#[32]⟩) = false) (n5 : upperB (s ++ ⟨#[39]⟩) = false) (n6 : nameB ⟨#[]⟩ = false) (n7 : upperB ⟨#[]⟩ = false)
    (hA : nameB s = true)
    (hB : upperB s = false)
    (h0 : ((s ++ cs).toList == [102, 110]) = false)
    (h1 : ((s ++ cs).toList == [108, 101, 116]) = false)
    (h2 : ((s ++ cs).toList == [99, 97, 115, 101]) = false)
    (h3 : ((s ++ cs).toList == [102, 97, 105, 108]) = true) :
    Calls Tryd.prog 7 #[.int .i64 k, .string s] w (Grew (.bool true) w) := by
  have hsz : (s.size : Int) ≤ 60 := by omega
  have hl : (s.size : Int) < 40 := by omega
  go_enter Tryd.func7, Tryd.ntmps7
  go_wp2_with fail
  refine H0.out.mono ?_
  rintro e w0 ⟨rfl, hb0⟩
  have HB0 := Lib.hid hb0
  clear hb0
  go_wp2_with (first
    | (go_at_call 11; refine (HN.out _ (by assumption) _).mono ?_; rintro e w' ⟨rfl, rfl⟩)
    | (go_at_call 13; refine (HU.out _ (by assumption) _).mono ?_; rintro e w' ⟨rfl, rfl⟩)
    | (go_at_call 15; refine (HK.out _).mono ?_; rintro e w' ⟨rfl, rfl⟩))
  all_goals
    apply bodyPost_ret
    case hr => exact results_tmp rfl _ _ _
    case hd => rfl
    case hR => exact ⟨rfl, HB0.out.alloc HB0.out.size _⟩

set_option maxRecDepth 100000 in
set_option maxHeartbeats 8000000 in
theorem names_kw4 (k r x : Int) (s cs : ByteArray) (w : World) (hs : s.size ≤ 60) (hl0 : s.size < 40)
    (H0 : Hid (Calls Tryd.prog 8 #[] w (Grew (.bool true) w)))
    (HK : Hid (∀ w, Calls Tryd.prog 15 #[.int .i64 k, .int .i64 9] w fun e w' => e = .returned (.int .i64 r) ∧ w = w'))
    (HN : Hid (∀ (s : ByteArray), s.size ≤ 1000000000 → ∀ w, Calls Tryd.prog 11 #[.string s] w fun e w' => e = .returned (.bool (nameB s)) ∧ w = w'))
    (HU : Hid (∀ (s : ByteArray), s.size ≤ 1000000000 → ∀ w, Calls Tryd.prog 13 #[.string s] w fun e w' => e = .returned (.bool (upperB s)) ∧ w = w'))
    (hix : ∀ W, (Instr.index 9 (.string ⟨#[97, 98, 122, 95, 48, 49, 57, 65, 90]⟩) (.int .i64 r)).run Tryd.prog W = .ok (.int .u8 x) W)
    (hcv : ∀ W : World, (convert 40 9 (.slice (some ⟨W.heap.size, 0, none⟩) 1 1)).run Tryd.prog (W.alloc (.cells #[.int .u8 x] 5)) = .ok (.string cs) (W.alloc (.cells #[.int .u8 x] 5)))
    (zc : cs.size = 1) (z1 : s.size ≤ 1000000000) (_z2 : (s ++ cs).size ≤ 1000000000) (z3 : (s ++ ⟨#[45]⟩).size ≤ 1000000000) (z4 : (s ++ ⟨#[32]⟩).size ≤ 1000000000) (z5 : (s ++ ⟨#[39]⟩).size ≤ 1000000000) (z6 : (⟨#[]⟩ : ByteArray).size ≤ 1000000000)
    (n3 : nameB (s ++ ⟨#[45]⟩) = false) (n4 : nameB (s ++ ⟨#[32]⟩) = false) (n5 : upperB (s ++ ⟨#[39]⟩) = false) (n6 : nameB ⟨#[]⟩ = false) (n7 : upperB ⟨#[]⟩ = false)
    (hA : nameB s = true)
    (hB : upperB s = false)
    (h0 : ((s ++ cs).toList == [102, 110]) = false)
    (h1 : ((s ++ cs).toList == [108, 101, 116]) = false)
    (h2 : ((s ++ cs).toList == [99, 97, 115, 101]) = false)
    (h3 : ((s ++ cs).toList == [102, 97, 105, 108]) = false)
    (h4 : ((s ++ cs).toList == [100, 97, 116, 97]) = true) :
    Calls Tryd.prog 7 #[.int .i64 k, .string s] w (Grew (.bool true) w) := by
  have hsz : (s.size : Int) ≤ 60 := by omega
  have hl : (s.size : Int) < 40 := by omega
  go_enter Tryd.func7, Tryd.ntmps7
  go_wp2_with fail
  refine H0.out.mono ?_
  rintro e w0 ⟨rfl, hb0⟩
  have HB0 := Lib.hid hb0
  clear hb0
  go_wp2_with (first
    | (go_at_call 11; refine (HN.out _ (by assumption) _).mono ?_; rintro e w' ⟨rfl, rfl⟩)
    | (go_at_call 13; refine (HU.out _ (by assumption) _).mono ?_; rintro e w' ⟨rfl, rfl⟩)
    | (go_at_call 15; refine (HK.out _).mono ?_; rintro e w' ⟨rfl, rfl⟩))
  all_goals
    apply bodyPost_ret
    case hr => exact results_tmp rfl _ _ _
    case hd => rfl
    case hR => exact ⟨rfl, HB0.out.alloc HB0.out.size _⟩

set_option maxRecDepth 100000 in
set_option maxHeartbeats 8000000 in
theorem names_kw5 (k r x : Int) (s cs : ByteArray) (w : World) (hs : s.size ≤ 60) (hl0 : s.size < 40)
    (H0 : Hid (Calls Tryd.prog 8 #[] w (Grew (.bool true) w)))
    (HK : Hid (∀ w, Calls Tryd.prog 15 #[.int .i64 k, .int .i64 9] w fun e w' => e = .returned (.int .i64 r) ∧ w = w'))
    (HN : Hid (∀ (s : ByteArray), s.size ≤ 1000000000 → ∀ w, Calls Tryd.prog 11 #[.string s] w fun e w' => e = .returned (.bool (nameB s)) ∧ w = w'))
    (HU : Hid (∀ (s : ByteArray), s.size ≤ 1000000000 → ∀ w, Calls Tryd.prog 13 #[.string s] w fun e w' => e = .returned (.bool (upperB s)) ∧ w = w'))
    (hix : ∀ W, (Instr.index 9 (.string ⟨#[97, 98, 122, 95, 48, 49, 57, 65, 90]⟩) (.int .i64 r)).run Tryd.prog W = .ok (.int .u8 x) W)
    (hcv : ∀ W : World, (convert 40 9 (.slice (some ⟨W.heap.size, 0, none⟩) 1 1)).run Tryd.prog (W.alloc (.cells #[.int .u8 x] 5)) = .ok (.string cs) (W.alloc (.cells #[.int .u8 x] 5)))
    (zc : cs.size = 1) (z1 : s.size ≤ 1000000000) (_z2 : (s ++ cs).size ≤ 1000000000) (z3 : (s ++ ⟨#[45]⟩).size ≤ 1000000000) (z4 : (s ++ ⟨#[32]⟩).size ≤ 1000000000) (z5 : (s ++ ⟨#[39]⟩).size ≤ 1000000000) (z6 : (⟨#[]⟩ : ByteArray).size ≤ 1000000000)
    (n3 : nameB (s ++ ⟨#[45]⟩) = false) (n4 : nameB (s ++ ⟨#[32]⟩) = false) (n5 : upperB (s ++ ⟨#[39]⟩) = false) (n6 : nameB ⟨#[]⟩ = false) (n7 : upperB ⟨#[]⟩ = false)
    (hA : nameB s = true)
    (hB : upperB s = false)
    (h0 : ((s ++ cs).toList == [102, 110]) = false)
    (h1 : ((s ++ cs).toList == [108, 101, 116]) = false)
    (h2 : ((s ++ cs).toList == [99, 97, 115, 101]) = false)
    (h3 : ((s ++ cs).toList == [102, 97, 105, 108]) = false)
    (h4 : ((s ++ cs).toList == [100, 97, 116, 97]) = false)
    (h5 : ((s ++ cs).toList == [100, 101, 102]) = true) :
    Calls Tryd.prog 7 #[.int .i64 k, .string s] w (Grew (.bool true) w) := by
  have hsz : (s.size : Int) ≤ 60 := by omega
  have hl : (s.size : Int) < 40 := by omega
  go_enter Tryd.func7, Tryd.ntmps7
  go_wp2_with fail
  refine H0.out.mono ?_
  rintro e w0 ⟨rfl, hb0⟩
  have HB0 := Lib.hid hb0
  clear hb0
  go_wp2_with (first
    | (go_at_call 11; refine (HN.out _ (by assumption) _).mono ?_; rintro e w' ⟨rfl, rfl⟩)
    | (go_at_call 13; refine (HU.out _ (by assumption) _).mono ?_; rintro e w' ⟨rfl, rfl⟩)
    | (go_at_call 15; refine (HK.out _).mono ?_; rintro e w' ⟨rfl, rfl⟩))
  all_goals
    apply bodyPost_ret
    case hr => exact results_tmp rfl _ _ _
    case hd => rfl
    case hR => exact ⟨rfl, HB0.out.alloc HB0.out.size _⟩

set_option maxRecDepth 100000 in
set_option maxHeartbeats 8000000 in
theorem names_kw6 (k r x : Int) (s cs : ByteArray) (w : World) (hs : s.size ≤ 60) (hl0 : s.size < 40)
    (H0 : Hid (Calls Tryd.prog 8 #[] w (Grew (.bool true) w)))
    (HK : Hid (∀ w, Calls Tryd.prog 15 #[.int .i64 k, .int .i64 9] w fun e w' => e = .returned (.int .i64 r) ∧ w = w'))
    (HN : Hid (∀ (s : ByteArray), s.size ≤ 1000000000 → ∀ w, Calls Tryd.prog 11 #[.string s] w fun e w' => e = .returned (.bool (nameB s)) ∧ w = w'))
    (HU : Hid (∀ (s : ByteArray), s.size ≤ 1000000000 → ∀ w, Calls Tryd.prog 13 #[.string s] w fun e w' => e = .returned (.bool (upperB s)) ∧ w = w'))
    (hix : ∀ W, (Instr.index 9 (.string ⟨#[97, 98, 122, 95, 48, 49, 57, 65, 90]⟩) (.int .i64 r)).run Tryd.prog W = .ok (.int .u8 x) W)
    (hcv : ∀ W : World, (convert 40 9 (.slice (some ⟨W.heap.size, 0, none⟩) 1 1)).run Tryd.prog (W.alloc (.cells #[.int .u8 x] 5)) = .ok (.string cs) (W.alloc (.cells #[.int .u8 x] 5)))
    (zc : cs.size = 1) (z1 : s.size ≤ 1000000000) (_z2 : (s ++ cs).size ≤ 1000000000) (z3 : (s ++ ⟨#[45]⟩).size ≤ 1000000000) (z4 : (s ++ ⟨#[32]⟩).size ≤ 1000000000) (z5 : (s ++ ⟨#[39]⟩).size ≤ 1000000000) (z6 : (⟨#[]⟩ : ByteArray).size ≤ 1000000000)
    (n3 : nameB (s ++ ⟨#[45]⟩) = false) (n4 : nameB (s ++ ⟨#[32]⟩) = false) (n5 : upperB (s ++ ⟨#[39]⟩) = false) (n6 : nameB ⟨#[]⟩ = false) (n7 : upperB ⟨#[]⟩ = false)
    (hA : nameB s = true)
    (hB : upperB s = false)
    (h0 : ((s ++ cs).toList == [102, 110]) = false)
    (h1 : ((s ++ cs).toList == [108, 101, 116]) = false)
    (h2 : ((s ++ cs).toList == [99, 97, 115, 101]) = false)
    (h3 : ((s ++ cs).toList == [102, 97, 105, 108]) = false)
    (h4 : ((s ++ cs).toList == [100, 97, 116, 97]) = false)
    (h5 : ((s ++ cs).toList == [100, 101, 102]) = false)
    (h6 : ((s ++ cs).toList == [100, 105, 118]) = true) :
    Calls Tryd.prog 7 #[.int .i64 k, .string s] w (Grew (.bool true) w) := by
  have hsz : (s.size : Int) ≤ 60 := by omega
  have hl : (s.size : Int) < 40 := by omega
  go_enter Tryd.func7, Tryd.ntmps7
  go_wp2_with fail
  refine H0.out.mono ?_
  rintro e w0 ⟨rfl, hb0⟩
  have HB0 := Lib.hid hb0
  clear hb0
  go_wp2_with (first
    | (go_at_call 11; refine (HN.out _ (by assumption) _).mono ?_; rintro e w' ⟨rfl, rfl⟩)
    | (go_at_call 13; refine (HU.out _ (by assumption) _).mono ?_; rintro e w' ⟨rfl, rfl⟩)
    | (go_at_call 15; refine (HK.out _).mono ?_; rintro e w' ⟨rfl, rfl⟩))
  all_goals
    apply bodyPost_ret
    case hr => exact results_tmp rfl _ _ _
    case hd => rfl
    case hR => exact ⟨rfl, HB0.out.alloc HB0.out.size _⟩

set_option maxRecDepth 100000 in
set_option maxHeartbeats 8000000 in
theorem names_kw7 (k r x : Int) (s cs : ByteArray) (w : World) (hs : s.size ≤ 60) (hl0 : s.size < 40)
    (H0 : Hid (Calls Tryd.prog 8 #[] w (Grew (.bool true) w)))
    (HK : Hid (∀ w, Calls Tryd.prog 15 #[.int .i64 k, .int .i64 9] w fun e w' => e = .returned (.int .i64 r) ∧ w = w'))
    (HN : Hid (∀ (s : ByteArray), s.size ≤ 1000000000 → ∀ w, Calls Tryd.prog 11 #[.string s] w fun e w' => e = .returned (.bool (nameB s)) ∧ w = w'))
    (HU : Hid (∀ (s : ByteArray), s.size ≤ 1000000000 → ∀ w, Calls Tryd.prog 13 #[.string s] w fun e w' => e = .returned (.bool (upperB s)) ∧ w = w'))
    (hix : ∀ W, (Instr.index 9 (.string ⟨#[97, 98, 122, 95, 48, 49, 57, 65, 90]⟩) (.int .i64 r)).run Tryd.prog W = .ok (.int .u8 x) W)
    (hcv : ∀ W : World, (convert 40 9 (.slice (some ⟨W.heap.size, 0, none⟩) 1 1)).run Tryd.prog (W.alloc (.cells #[.int .u8 x] 5)) = .ok (.string cs) (W.alloc (.cells #[.int .u8 x] 5)))
    (zc : cs.size = 1) (z1 : s.size ≤ 1000000000) (_z2 : (s ++ cs).size ≤ 1000000000) (z3 : (s ++ ⟨#[45]⟩).size ≤ 1000000000) (z4 : (s ++ ⟨#[32]⟩).size ≤ 1000000000) (z5 : (s ++ ⟨#[39]⟩).size ≤ 1000000000) (z6 : (⟨#[]⟩ : ByteArray).size ≤ 1000000000)
    (n3 : nameB (s ++ ⟨#[45]⟩) = false) (n4 : nameB (s ++ ⟨#[32]⟩) = false) (n5 : upperB (s ++ ⟨#[39]⟩) = false) (n6 : nameB ⟨#[]⟩ = false) (n7 : upperB ⟨#[]⟩ = false)
    (hA : nameB s = true)
    (hB : upperB s = false)
    (h0 : ((s ++ cs).toList == [102, 110]) = false)
    (h1 : ((s ++ cs).toList == [108, 101, 116]) = false)
    (h2 : ((s ++ cs).toList == [99, 97, 115, 101]) = false)
    (h3 : ((s ++ cs).toList == [102, 97, 105, 108]) = false)
    (h4 : ((s ++ cs).toList == [100, 97, 116, 97]) = false)
    (h5 : ((s ++ cs).toList == [100, 101, 102]) = false)
    (h6 : ((s ++ cs).toList == [100, 105, 118]) = false)
    (h7 : ((s ++ cs).toList == [109, 111, 100]) = true) :
    Calls Tryd.prog 7 #[.int .i64 k, .string s] w (Grew (.bool true) w) := by
  have hsz : (s.size : Int) ≤ 60 := by omega
  have hl : (s.size : Int) < 40 := by omega
  go_enter Tryd.func7, Tryd.ntmps7
  go_wp2_with fail
  refine H0.out.mono ?_
  rintro e w0 ⟨rfl, hb0⟩
  have HB0 := Lib.hid hb0
  clear hb0
  go_wp2_with (first
    | (go_at_call 11; refine (HN.out _ (by assumption) _).mono ?_; rintro e w' ⟨rfl, rfl⟩)
    | (go_at_call 13; refine (HU.out _ (by assumption) _).mono ?_; rintro e w' ⟨rfl, rfl⟩)
    | (go_at_call 15; refine (HK.out _).mono ?_; rintro e w' ⟨rfl, rfl⟩))
  all_goals
    apply bodyPost_ret
    case hr => exact results_tmp rfl _ _ _
    case hd => rfl
    case hR => exact ⟨rfl, HB0.out.alloc HB0.out.size _⟩

set_option maxRecDepth 100000 in
set_option maxHeartbeats 8000000 in
theorem names_kw8 (k r x : Int) (s cs : ByteArray) (w : World) (hs : s.size ≤ 60) (hl0 : s.size < 40)
    (H0 : Hid (Calls Tryd.prog 8 #[] w (Grew (.bool true) w)))
    (HK : Hid (∀ w, Calls Tryd.prog 15 #[.int .i64 k, .int .i64 9] w fun e w' => e = .returned (.int .i64 r) ∧ w = w'))
    (HN : Hid (∀ (s : ByteArray), s.size ≤ 1000000000 → ∀ w, Calls Tryd.prog 11 #[.string s] w fun e w' => e = .returned (.bool (nameB s)) ∧ w = w'))
    (HU : Hid (∀ (s : ByteArray), s.size ≤ 1000000000 → ∀ w, Calls Tryd.prog 13 #[.string s] w fun e w' => e = .returned (.bool (upperB s)) ∧ w = w'))
    (hix : ∀ W, (Instr.index 9 (.string ⟨#[97, 98, 122, 95, 48, 49, 57, 65, 90]⟩) (.int .i64 r)).run Tryd.prog W = .ok (.int .u8 x) W)
    (hcv : ∀ W : World, (convert 40 9 (.slice (some ⟨W.heap.size, 0, none⟩) 1 1)).run Tryd.prog (W.alloc (.cells #[.int .u8 x] 5)) = .ok (.string cs) (W.alloc (.cells #[.int .u8 x] 5)))
    (zc : cs.size = 1) (z1 : s.size ≤ 1000000000) (_z2 : (s ++ cs).size ≤ 1000000000) (z3 : (s ++ ⟨#[45]⟩).size ≤ 1000000000) (z4 : (s ++ ⟨#[32]⟩).size ≤ 1000000000) (z5 : (s ++ ⟨#[39]⟩).size ≤ 1000000000) (z6 : (⟨#[]⟩ : ByteArray).size ≤ 1000000000)
    (n3 : nameB (s ++ ⟨#[45]⟩) = false) (n4 : nameB (s ++ ⟨#[32]⟩) = false) (n5 : upperB (s ++ ⟨#[39]⟩) = false) (n6 : nameB ⟨#[]⟩ = false) (n7 : upperB ⟨#[]⟩ = false)
    (hA : nameB s = true)
    (hB : upperB s = false)
    (h0 : ((s ++ cs).toList == [102, 110]) = false)
    (h1 : ((s ++ cs).toList == [108, 101, 116]) = false)
    (h2 : ((s ++ cs).toList == [99, 97, 115, 101]) = false)
    (h3 : ((s ++ cs).toList == [102, 97, 105, 108]) = false)
    (h4 : ((s ++ cs).toList == [100, 97, 116, 97]) = false)
    (h5 : ((s ++ cs).toList == [100, 101, 102]) = false)
    (h6 : ((s ++ cs).toList == [100, 105, 118]) = false)
    (h7 : ((s ++ cs).toList == [109, 111, 100]) = false)
    (h8 : ((s ++ cs).toList == [102, 108, 111, 97, 116]) = true) :
    Calls Tryd.prog 7 #[.int .i64 k, .string s] w (Grew (.bool true) w) := by
  have hsz : (s.size : Int) ≤ 60 := by omega
  have hl : (s.size : Int) < 40 := by omega
  go_enter Tryd.func7, Tryd.ntmps7
  go_wp2_with fail
  refine H0.out.mono ?_
  rintro e w0 ⟨rfl, hb0⟩
  have HB0 := Lib.hid hb0
  clear hb0
  go_wp2_with (first
    | (go_at_call 11; refine (HN.out _ (by assumption) _).mono ?_; rintro e w' ⟨rfl, rfl⟩)
    | (go_at_call 13; refine (HU.out _ (by assumption) _).mono ?_; rintro e w' ⟨rfl, rfl⟩)
    | (go_at_call 15; refine (HK.out _).mono ?_; rintro e w' ⟨rfl, rfl⟩))
  all_goals
    apply bodyPost_ret
    case hr => exact results_tmp rfl _ _ _
    case hd => rfl
    case hR => exact ⟨rfl, HB0.out.alloc HB0.out.size _⟩

set_option maxRecDepth 100000 in
set_option maxHeartbeats 8000000 in
theorem names_kw9 (k r x : Int) (s cs : ByteArray) (w : World) (hs : s.size ≤ 60) (hl0 : s.size < 40)
    (H0 : Hid (Calls Tryd.prog 8 #[] w (Grew (.bool true) w)))
    (HK : Hid (∀ w, Calls Tryd.prog 15 #[.int .i64 k, .int .i64 9] w fun e w' => e = .returned (.int .i64 r) ∧ w = w'))
    (HN : Hid (∀ (s : ByteArray), s.size ≤ 1000000000 → ∀ w, Calls Tryd.prog 11 #[.string s] w fun e w' => e = .returned (.bool (nameB s)) ∧ w = w'))
    (HU : Hid (∀ (s : ByteArray), s.size ≤ 1000000000 → ∀ w, Calls Tryd.prog 13 #[.string s] w fun e w' => e = .returned (.bool (upperB s)) ∧ w = w'))
    (hix : ∀ W, (Instr.index 9 (.string ⟨#[97, 98, 122, 95, 48, 49, 57, 65, 90]⟩) (.int .i64 r)).run Tryd.prog W = .ok (.int .u8 x) W)
    (hcv : ∀ W : World, (convert 40 9 (.slice (some ⟨W.heap.size, 0, none⟩) 1 1)).run Tryd.prog (W.alloc (.cells #[.int .u8 x] 5)) = .ok (.string cs) (W.alloc (.cells #[.int .u8 x] 5)))
    (zc : cs.size = 1) (z1 : s.size ≤ 1000000000) (_z2 : (s ++ cs).size ≤ 1000000000) (z3 : (s ++ ⟨#[45]⟩).size ≤ 1000000000) (z4 : (s ++ ⟨#[32]⟩).size ≤ 1000000000) (z5 : (s ++ ⟨#[39]⟩).size ≤ 1000000000) (z6 : (⟨#[]⟩ : ByteArray).size ≤ 1000000000)
    (n3 : nameB (s ++ ⟨#[45]⟩) = false) (n4 : nameB (s ++ ⟨#[32]⟩) = false) (n5 : upperB (s ++ ⟨#[39]⟩) = false) (n6 : nameB ⟨#[]⟩ = false) (n7 : upperB ⟨#[]⟩ = false)
    (hA : nameB s = true)
    (hB : upperB s = false)
    (h0 : ((s ++ cs).toList == [102, 110]) = false)
    (h1 : ((s ++ cs).toList == [108, 101, 116]) = false)
    (h2 : ((s ++ cs).toList == [99, 97, 115, 101]) = false)
    (h3 : ((s ++ cs).toList == [102, 97, 105, 108]) = false)
    (h4 : ((s ++ cs).toList == [100, 97, 116, 97]) = false)
    (h5 : ((s ++ cs).toList == [100, 101, 102]) = false)
    (h6 : ((s ++ cs).toList == [100, 105, 118]) = false)
    (h7 : ((s ++ cs).toList == [109, 111, 100]) = false)
    (h8 : ((s ++ cs).toList == [102, 108, 111, 97, 116]) = false)
    (h9 : ((s ++ cs).toList == [119, 104, 111, 108, 101]) = true) :
    Calls Tryd.prog 7 #[.int .i64 k, .string s] w (Grew (.bool true) w) := by
  have hsz : (s.size : Int) ≤ 60 := by omega
  have hl : (s.size : Int) < 40 := by omega
  go_enter Tryd.func7, Tryd.ntmps7
  go_wp2_with fail
  refine H0.out.mono ?_
  rintro e w0 ⟨rfl, hb0⟩
  have HB0 := Lib.hid hb0
  clear hb0
  go_wp2_with (first
    | (go_at_call 11; refine (HN.out _ (by assumption) _).mono ?_; rintro e w' ⟨rfl, rfl⟩)
    | (go_at_call 13; refine (HU.out _ (by assumption) _).mono ?_; rintro e w' ⟨rfl, rfl⟩)
    | (go_at_call 15; refine (HK.out _).mono ?_; rintro e w' ⟨rfl, rfl⟩))
  all_goals
    apply bodyPost_ret
    case hr => exact results_tmp rfl _ _ _
    case hd => rfl
    case hR => exact ⟨rfl, HB0.out.alloc HB0.out.size _⟩

set_option maxRecDepth 100000 in
set_option maxHeartbeats 8000000 in
theorem names_kw10 (k r x : Int) (s cs : ByteArray) (w : World) (hs : s.size ≤ 60) (hl0 : s.size < 40)
    (H0 : Hid (Calls Tryd.prog 8 #[] w (Grew (.bool true) w)))
    (HK : Hid (∀ w, Calls Tryd.prog 15 #[.int .i64 k, .int .i64 9] w fun e w' => e = .returned (.int .i64 r) ∧ w = w'))
    (HN : Hid (∀ (s : ByteArray), s.size ≤ 1000000000 → ∀ w, Calls Tryd.prog 11 #[.string s] w fun e w' => e = .returned (.bool (nameB s)) ∧ w = w'))
    (HU : Hid (∀ (s : ByteArray), s.size ≤ 1000000000 → ∀ w, Calls Tryd.prog 13 #[.string s] w fun e w' => e = .returned (.bool (upperB s)) ∧ w = w'))
    (hix : ∀ W, (Instr.index 9 (.string ⟨#[97, 98, 122, 95, 48, 49, 57, 65, 90]⟩) (.int .i64 r)).run Tryd.prog W = .ok (.int .u8 x) W)
    (hcv : ∀ W : World, (convert 40 9 (.slice (some ⟨W.heap.size, 0, none⟩) 1 1)).run Tryd.prog (W.alloc (.cells #[.int .u8 x] 5)) = .ok (.string cs) (W.alloc (.cells #[.int .u8 x] 5)))
    (zc : cs.size = 1) (z1 : s.size ≤ 1000000000) (_z2 : (s ++ cs).size ≤ 1000000000) (z3 : (s ++ ⟨#[45]⟩).size ≤ 1000000000) (z4 : (s ++ ⟨#[32]⟩).size ≤ 1000000000) (z5 : (s ++ ⟨#[39]⟩).size ≤ 1000000000) (z6 : (⟨#[]⟩ : ByteArray).size ≤ 1000000000)
    (n3 : nameB (s ++ ⟨#[45]⟩) = false) (n4 : nameB (s ++ ⟨#[32]⟩) = false) (n5 : upperB (s ++ ⟨#[39]⟩) = false) (n6 : nameB ⟨#[]⟩ = false) (n7 : upperB ⟨#[]⟩ = false)
    (hA : nameB s = true)
    (hB : upperB s = false)
    (h0 : ((s ++ cs).toList == [102, 110]) = false)
    (h1 : ((s ++ cs).toList == [108, 101, 116]) = false)
    (h2 : ((s ++ cs).toList == [99, 97, 115, 101]) = false)
    (h3 : ((s ++ cs).toList == [102, 97, 105, 108]) = false)
    (h4 : ((s ++ cs).toList == [100, 97, 116, 97]) = false)
    (h5 : ((s ++ cs).toList == [100, 101, 102]) = false)
    (h6 : ((s ++ cs).toList == [100, 105, 118]) = false)
    (h7 : ((s ++ cs).toList == [109, 111, 100]) = false)
    (h8 : ((s ++ cs).toList == [102, 108, 111, 97, 116]) = false)
    (h9 : ((s ++ cs).toList == [119, 104, 111, 108, 101]) = false)
    (h10 : ((s ++ cs).toList == [115, 101, 113]) = true) :
    Calls Tryd.prog 7 #[.int .i64 k, .string s] w (Grew (.bool true) w) := by
  have hsz : (s.size : Int) ≤ 60 := by omega
  have hl : (s.size : Int) < 40 := by omega
  go_enter Tryd.func7, Tryd.ntmps7
  go_wp2_with fail
  refine H0.out.mono ?_
  rintro e w0 ⟨rfl, hb0⟩
  have HB0 := Lib.hid hb0
  clear hb0
  go_wp2_with (first
    | (go_at_call 11; refine (HN.out _ (by assumption) _).mono ?_; rintro e w' ⟨rfl, rfl⟩)
    | (go_at_call 13; refine (HU.out _ (by assumption) _).mono ?_; rintro e w' ⟨rfl, rfl⟩)
    | (go_at_call 15; refine (HK.out _).mono ?_; rintro e w' ⟨rfl, rfl⟩))
  all_goals
    apply bodyPost_ret
    case hr => exact results_tmp rfl _ _ _
    case hd => rfl
    case hR => exact ⟨rfl, HB0.out.alloc HB0.out.size _⟩

set_option maxRecDepth 100000 in
set_option maxHeartbeats 8000000 in
theorem names_kw11 (k r x : Int) (s cs : ByteArray) (w : World) (hs : s.size ≤ 60) (hl0 : s.size < 40)
    (H0 : Hid (Calls Tryd.prog 8 #[] w (Grew (.bool true) w)))
    (HK : Hid (∀ w, Calls Tryd.prog 15 #[.int .i64 k, .int .i64 9] w fun e w' => e = .returned (.int .i64 r) ∧ w = w'))
    (HN : Hid (∀ (s : ByteArray), s.size ≤ 1000000000 → ∀ w, Calls Tryd.prog 11 #[.string s] w fun e w' => e = .returned (.bool (nameB s)) ∧ w = w'))
    (HU : Hid (∀ (s : ByteArray), s.size ≤ 1000000000 → ∀ w, Calls Tryd.prog 13 #[.string s] w fun e w' => e = .returned (.bool (upperB s)) ∧ w = w'))
    (hix : ∀ W, (Instr.index 9 (.string ⟨#[97, 98, 122, 95, 48, 49, 57, 65, 90]⟩) (.int .i64 r)).run Tryd.prog W = .ok (.int .u8 x) W)
    (hcv : ∀ W : World, (convert 40 9 (.slice (some ⟨W.heap.size, 0, none⟩) 1 1)).run Tryd.prog (W.alloc (.cells #[.int .u8 x] 5)) = .ok (.string cs) (W.alloc (.cells #[.int .u8 x] 5)))
    (zc : cs.size = 1) (z1 : s.size ≤ 1000000000) (_z2 : (s ++ cs).size ≤ 1000000000) (z3 : (s ++ ⟨#[45]⟩).size ≤ 1000000000) (z4 : (s ++ ⟨#[32]⟩).size ≤ 1000000000) (z5 : (s ++ ⟨#[39]⟩).size ≤ 1000000000) (z6 : (⟨#[]⟩ : ByteArray).size ≤ 1000000000)
    (n3 : nameB (s ++ ⟨#[45]⟩) = false) (n4 : nameB (s ++ ⟨#[32]⟩) = false) (n5 : upperB (s ++ ⟨#[39]⟩) = false) (n6 : nameB ⟨#[]⟩ = false) (n7 : upperB ⟨#[]⟩ = false)
    (hA : nameB s = true)
    (hB : upperB s = false)
    (h0 : ((s ++ cs).toList == [102, 110]) = false)
    (h1 : ((s ++ cs).toList == [108, 101, 116]) = false)
    (h2 : ((s ++ cs).toList == [99, 97, 115, 101]) = false)
    (h3 : ((s ++ cs).toList == [102, 97, 105, 108]) = false)
    (h4 : ((s ++ cs).toList == [100, 97, 116, 97]) = false)
    (h5 : ((s ++ cs).toList == [100, 101, 102]) = false)
    (h6 : ((s ++ cs).toList == [100, 105, 118]) = false)
    (h7 : ((s ++ cs).toList == [109, 111, 100]) = false)
    (h8 : ((s ++ cs).toList == [102, 108, 111, 97, 116]) = false)
    (h9 : ((s ++ cs).toList == [119, 104, 111, 108, 101]) = false)
    (h10 : ((s ++ cs).toList == [115, 101, 113]) = false)
    (h11 : ((s ++ cs).toList == [105, 110, 102]) = true) :
    Calls Tryd.prog 7 #[.int .i64 k, .string s] w (Grew (.bool true) w) := by
  have hsz : (s.size : Int) ≤ 60 := by omega
  have hl : (s.size : Int) < 40 := by omega
  go_enter Tryd.func7, Tryd.ntmps7
  go_wp2_with fail
  refine H0.out.mono ?_
  rintro e w0 ⟨rfl, hb0⟩
  have HB0 := Lib.hid hb0
  clear hb0
  go_wp2_with (first
    | (go_at_call 11; refine (HN.out _ (by assumption) _).mono ?_; rintro e w' ⟨rfl, rfl⟩)
    | (go_at_call 13; refine (HU.out _ (by assumption) _).mono ?_; rintro e w' ⟨rfl, rfl⟩)
    | (go_at_call 15; refine (HK.out _).mono ?_; rintro e w' ⟨rfl, rfl⟩))
  all_goals
    apply bodyPost_ret
    case hr => exact results_tmp rfl _ _ _
    case hd => rfl
    case hR => exact ⟨rfl, HB0.out.alloc HB0.out.size _⟩

set_option maxRecDepth 100000 in
set_option maxHeartbeats 8000000 in
theorem names_kw12 (k r x : Int) (s cs : ByteArray) (w : World) (hs : s.size ≤ 60) (hl0 : s.size < 40)
    (H0 : Hid (Calls Tryd.prog 8 #[] w (Grew (.bool true) w)))
    (HK : Hid (∀ w, Calls Tryd.prog 15 #[.int .i64 k, .int .i64 9] w fun e w' => e = .returned (.int .i64 r) ∧ w = w'))
    (HN : Hid (∀ (s : ByteArray), s.size ≤ 1000000000 → ∀ w, Calls Tryd.prog 11 #[.string s] w fun e w' => e = .returned (.bool (nameB s)) ∧ w = w'))
    (HU : Hid (∀ (s : ByteArray), s.size ≤ 1000000000 → ∀ w, Calls Tryd.prog 13 #[.string s] w fun e w' => e = .returned (.bool (upperB s)) ∧ w = w'))
    (hix : ∀ W, (Instr.index 9 (.string ⟨#[97, 98, 122, 95, 48, 49, 57, 65, 90]⟩) (.int .i64 r)).run Tryd.prog W = .ok (.int .u8 x) W)
    (hcv : ∀ W : World, (convert 40 9 (.slice (some ⟨W.heap.size, 0, none⟩) 1 1)).run Tryd.prog (W.alloc (.cells #[.int .u8 x] 5)) = .ok (.string cs) (W.alloc (.cells #[.int .u8 x] 5)))
    (zc : cs.size = 1) (z1 : s.size ≤ 1000000000) (_z2 : (s ++ cs).size ≤ 1000000000) (z3 : (s ++ ⟨#[45]⟩).size ≤ 1000000000) (z4 : (s ++ ⟨#[32]⟩).size ≤ 1000000000) (z5 : (s ++ ⟨#[39]⟩).size ≤ 1000000000) (z6 : (⟨#[]⟩ : ByteArray).size ≤ 1000000000)
    (n3 : nameB (s ++ ⟨#[45]⟩) = false) (n4 : nameB (s ++ ⟨#[32]⟩) = false) (n5 : upperB (s ++ ⟨#[39]⟩) = false) (n6 : nameB ⟨#[]⟩ = false) (n7 : upperB ⟨#[]⟩ = false)
    (hA : nameB s = true)
    (hB : upperB s = false)
    (h0 : ((s ++ cs).toList == [102, 110]) = false)
    (h1 : ((s ++ cs).toList == [108, 101, 116]) = false)
    (h2 : ((s ++ cs).toList == [99, 97, 115, 101]) = false)
    (h3 : ((s ++ cs).toList == [102, 97, 105, 108]) = false)
    (h4 : ((s ++ cs).toList == [100, 97, 116, 97]) = false)
    (h5 : ((s ++ cs).toList == [100, 101, 102]) = false)
    (h6 : ((s ++ cs).toList == [100, 105, 118]) = false)
    (h7 : ((s ++ cs).toList == [109, 111, 100]) = false)
    (h8 : ((s ++ cs).toList == [102, 108, 111, 97, 116]) = false)
    (h9 : ((s ++ cs).toList == [119, 104, 111, 108, 101]) = false)
    (h10 : ((s ++ cs).toList == [115, 101, 113]) = false)
    (h11 : ((s ++ cs).toList == [105, 110, 102]) = false)
    (h12 : ((s ++ cs).toList == [110, 97, 110]) = true) :
    Calls Tryd.prog 7 #[.int .i64 k, .string s] w (Grew (.bool true) w) := by
  have hsz : (s.size : Int) ≤ 60 := by omega
  have hl : (s.size : Int) < 40 := by omega
  go_enter Tryd.func7, Tryd.ntmps7
  go_wp2_with fail
  refine H0.out.mono ?_
  rintro e w0 ⟨rfl, hb0⟩
  have HB0 := Lib.hid hb0
  clear hb0
  go_wp2_with (first
    | (go_at_call 11; refine (HN.out _ (by assumption) _).mono ?_; rintro e w' ⟨rfl, rfl⟩)
    | (go_at_call 13; refine (HU.out _ (by assumption) _).mono ?_; rintro e w' ⟨rfl, rfl⟩)
    | (go_at_call 15; refine (HK.out _).mono ?_; rintro e w' ⟨rfl, rfl⟩))
  all_goals
    apply bodyPost_ret
    case hr => exact results_tmp rfl _ _ _
    case hd => rfl
    case hR => exact ⟨rfl, HB0.out.alloc HB0.out.size _⟩

set_option maxRecDepth 100000 in
set_option maxHeartbeats 8000000 in
theorem names_free (k r x : Int) (s cs : ByteArray) (w : World) (hs : s.size ≤ 60) (hl0 : s.size < 40)
    (H0 : Hid (Calls Tryd.prog 8 #[] w (Grew (.bool true) w)))
    (HK : Hid (∀ w, Calls Tryd.prog 15 #[.int .i64 k, .int .i64 9] w fun e w' => e = .returned (.int .i64 r) ∧ w = w'))
    (HN : Hid (∀ (s : ByteArray), s.size ≤ 1000000000 → ∀ w, Calls Tryd.prog 11 #[.string s] w fun e w' => e = .returned (.bool (nameB s)) ∧ w = w'))
    (HU : Hid (∀ (s : ByteArray), s.size ≤ 1000000000 → ∀ w, Calls Tryd.prog 13 #[.string s] w fun e w' => e = .returned (.bool (upperB s)) ∧ w = w'))
    (hix : ∀ W, (Instr.index 9 (.string ⟨#[97, 98, 122, 95, 48, 49, 57, 65, 90]⟩) (.int .i64 r)).run Tryd.prog W = .ok (.int .u8 x) W)
    (hcv : ∀ W : World, (convert 40 9 (.slice (some ⟨W.heap.size, 0, none⟩) 1 1)).run Tryd.prog (W.alloc (.cells #[.int .u8 x] 5)) = .ok (.string cs) (W.alloc (.cells #[.int .u8 x] 5)))
    (zc : cs.size = 1) (z1 : s.size ≤ 1000000000) (_z2 : (s ++ cs).size ≤ 1000000000) (z3 : (s ++ ⟨#[45]⟩).size ≤ 1000000000) (z4 : (s ++ ⟨#[32]⟩).size ≤ 1000000000) (z5 : (s ++ ⟨#[39]⟩).size ≤ 1000000000) (z6 : (⟨#[]⟩ : ByteArray).size ≤ 1000000000)
    (n3 : nameB (s ++ ⟨#[45]⟩) = false) (n4 : nameB (s ++ ⟨#[32]⟩) = false) (n5 : upperB (s ++ ⟨#[39]⟩) = false) (n6 : nameB ⟨#[]⟩ = false) (n7 : upperB ⟨#[]⟩ = false)
    (hA : nameB s = true)
    (hB : upperB s = false)
    (hM : nameB (s ++ cs) = true)
    (h0 : ((s ++ cs).toList == [102, 110]) = false)
    (h1 : ((s ++ cs).toList == [108, 101, 116]) = false)
    (h2 : ((s ++ cs).toList == [99, 97, 115, 101]) = false)
    (h3 : ((s ++ cs).toList == [102, 97, 105, 108]) = false)
    (h4 : ((s ++ cs).toList == [100, 97, 116, 97]) = false)
    (h5 : ((s ++ cs).toList == [100, 101, 102]) = false)
    (h6 : ((s ++ cs).toList == [100, 105, 118]) = false)
    (h7 : ((s ++ cs).toList == [109, 111, 100]) = false)
    (h8 : ((s ++ cs).toList == [102, 108, 111, 97, 116]) = false)
    (h9 : ((s ++ cs).toList == [119, 104, 111, 108, 101]) = false)
    (h10 : ((s ++ cs).toList == [115, 101, 113]) = false)
    (h11 : ((s ++ cs).toList == [105, 110, 102]) = false)
    (h12 : ((s ++ cs).toList == [110, 97, 110]) = false) :
    Calls Tryd.prog 7 #[.int .i64 k, .string s] w (Grew (.bool true) w) := by
  have hsz : (s.size : Int) ≤ 60 := by omega
  have hl : (s.size : Int) < 40 := by omega
  go_enter Tryd.func7, Tryd.ntmps7
  go_wp2_with fail
  refine H0.out.mono ?_
  rintro e w0 ⟨rfl, hb0⟩
  have HB0 := Lib.hid hb0
  clear hb0
  go_wp2_with (first
    | (go_at_call 11; refine (HN.out _ (by assumption) _).mono ?_; rintro e w' ⟨rfl, rfl⟩)
    | (go_at_call 13; refine (HU.out _ (by assumption) _).mono ?_; rintro e w' ⟨rfl, rfl⟩)
    | (go_at_call 15; refine (HK.out _).mono ?_; rintro e w' ⟨rfl, rfl⟩))
  all_goals
    apply bodyPost_ret
    case hr => exact results_tmp rfl _ _ _
    case hd => rfl
    case hR => exact ⟨rfl, HB0.out.alloc HB0.out.size _⟩


theorem add_data (s t : ByteArray) : (s ++ t).data.toList = s.data.toList ++ t.data.toList := by
  rw [ByteArray.data_append, Array.toList_append]
theorem hbn_more (s cs : ByteArray) (c : UInt8) (hc : cs = ⟨#[c]⟩) (ht : tlI (c.toNat : Int) = true) (h40 : s.size < 40) (h : hbnB s = true) : hbnB (s ++ cs) = true := by
  subst hc
  have h0 := hbn_pos s h
  unfold hbnB at h ⊢
  rw [decide_eq_false (show ¬ s.size = 0 by omega), decide_eq_true (show s.size ≤ 40 by omega)] at h
  have hsz : (s ++ ⟨#[c]⟩ : ByteArray).size = s.size + 1 := by rw [ByteArray.size_append]; rfl
  rw [hsz, decide_eq_false (show ¬ s.size + 1 = 0 by omega), decide_eq_true (show s.size + 1 ≤ 40 by omega), add_data]
  simp only [Bool.not_false, Bool.true_and] at h ⊢
  unfold tlL at h ⊢
  rw [List.all_append, h]
  simp [ht]
theorem hd_more (s cs : ByteArray) (h : 0 < s.size) : hdI (s ++ cs) = hdI s := by
  unfold hdI
  rw [add_data]
  have hl : 0 < s.data.toList.length := by rw [← Lib.size_eq]; exact h
  cases hc : s.data.toList with
  | nil => rw [hc] at hl; simp at hl
  | cons c r => rfl
theorem hbn_sign (s cs : ByteArray) (c : UInt8) (hc : cs = ⟨#[c]⟩) (ht : tlI (c.toNat : Int) = false) : hbnB (s ++ cs) = false := by
  subst hc
  unfold hbnB
  have : tlL (s ++ ⟨#[c]⟩ : ByteArray).data.toList = false := by
    rw [add_data]
    unfold tlL
    rw [List.all_append]
    simp [ht]
  rw [this]
  simp
theorem not_both (s : ByteArray) (h : nameB s = true) : upperB s = false := by
  unfold nameB at h
  unfold upperB
  cases hb : hbnB s
  · rfl
  · rw [hb] at h
    cases hm : smI (hdI s)
    · rw [hm] at h; simp at h
    · have := sm_ineq _ hm
      simp [grI]
      omega

theorem lexNames_any (k : Int) (s : ByteArray) (_ : (Lit.int .i64 k).wf = true) (_ : s.size ≤ maxLen) (w : World) (_ : True) :
    Calls Tryd.prog 7 #[.int .i64 k, .string s] w (Grew (.bool true) w) := by
  by_cases h1 : 60 < s.size
  · have h1' : (60 : Int) < (s.size : Int) := by omega
    have H0 := Lib.hid (first_any w)
    go_enter Tryd.func7, Tryd.ntmps7
    go_wp2_with fail
    refine H0.out.mono ?_
    rintro e w0 ⟨rfl, hb0⟩
    go_wp2_with fail
    apply bodyPost_ret
    case hr => exact results_tmp rfl _ _ _
    case hd => rfl
    case hR => exact ⟨rfl, hb0⟩
  obtain ⟨c, ht, hix⟩ : ∃ c : UInt8, tlI (c.toNat : Int) = true ∧ ∀ W, (Instr.index 9 (.string ⟨#[97, 98, 122, 95, 48, 49, 57, 65, 90]⟩) (.int .i64 (k % 9))).run Tryd.prog W = .ok (.int .u8 (c.toNat : Int)) W := by
    have h0 : 0 ≤ k % 9 := Int.emod_nonneg k (by decide)
    have h9 : k % 9 < 9 := Int.emod_lt_of_pos k (by decide)
    generalize k % 9 = r at h0 h9
    obtain ⟨n, rfl⟩ : ∃ n : Nat, r = n := ⟨r.toNat, by omega⟩
    have hn : n < 9 := by omega
    rcases n with _ | _ | _ | _ | _ | _ | _ | _ | _ | n
    case succ.succ.succ.succ.succ.succ.succ.succ.succ => exfalso; omega
    · exact ⟨97, by decide, fun _ => by kernel_rfl⟩
    · exact ⟨98, by decide, fun _ => by kernel_rfl⟩
    · exact ⟨122, by decide, fun _ => by kernel_rfl⟩
    · exact ⟨95, by decide, fun _ => by kernel_rfl⟩
    · exact ⟨48, by decide, fun _ => by kernel_rfl⟩
    · exact ⟨49, by decide, fun _ => by kernel_rfl⟩
    · exact ⟨57, by decide, fun _ => by kernel_rfl⟩
    · exact ⟨65, by decide, fun _ => by kernel_rfl⟩
    · exact ⟨90, by decide, fun _ => by kernel_rfl⟩
  have hcv : ∀ W : World, (convert 40 9 (.slice (some ⟨W.heap.size, 0, none⟩) 1 1)).run Tryd.prog (W.alloc (.cells #[.int .u8 (c.toNat : Int)] 5)) = .ok (.string ⟨#[c]⟩) (W.alloc (.cells #[.int .u8 (c.toNat : Int)] 5)) := fun W =>
    run_convert_bytes_back (P := Tryd.prog) _ 40 9 5 ⟨W.heap.size, 0, none⟩ 1 [c] Tryd.underlying40 Tryd.underlying5 Tryd.underlying9 (fun j hj => by
      obtain rfl : j = 0 := by simpa using hj
      exact cell_one_new W _ _ 0 _ rfl)
  obtain ⟨cs, hcs⟩ : ∃ cs : ByteArray, cs = ⟨#[c]⟩ := ⟨_, rfl⟩
  rw [← hcs] at hcv
  have H0 := Lib.hid (first_any w)
  have HK := Lib.hid (number_any k 9 (by decide) (by decide))
  have HN : Hid (∀ (s : ByteArray), s.size ≤ 1000000000 → ∀ w, Calls Tryd.prog 11 #[.string s] w fun e w' => e = .returned (.bool (nameB s)) ∧ w = w') := Lib.hid name_any
  have HU : Hid (∀ (s : ByteArray), s.size ≤ 1000000000 → ∀ w, Calls Tryd.prog 13 #[.string s] w fun e w' => e = .returned (.bool (upperB s)) ∧ w = w') := Lib.hid upper_any
  have hs : s.size ≤ 60 := by omega
  have z1 : s.size ≤ 1000000000 := by omega
  have zc : cs.size = 1 := by rw [hcs]; rfl
  have z2 : (s ++ cs).size ≤ 1000000000 := by rw [ByteArray.size_append, zc]; omega
  have z3 : ∀ c : UInt8, (s ++ ⟨#[c]⟩ : ByteArray).size ≤ 1000000000 := fun c => by rw [ByteArray.size_append, show (⟨#[c]⟩ : ByteArray).size = 1 from rfl]; omega
  have n1 : ∀ c : UInt8, tlI (c.toNat : Int) = false → nameB (s ++ ⟨#[c]⟩) = false ∧ upperB (s ++ ⟨#[c]⟩) = false := fun c hc => by
    unfold nameB upperB
    rw [hbn_sign s _ c rfl hc]
    exact ⟨rfl, rfl⟩
  have n3 := (n1 45 (by decide)).1
  have n4 := (n1 32 (by decide)).1
  have n5 := (n1 39 (by decide)).2
  have z6 : (⟨#[]⟩ : ByteArray).size ≤ 1000000000 := by decide
  obtain ⟨n6, n7⟩ := none_empty ⟨#[]⟩ rfl
  cases hA : nameB s
  · cases hB : upperB s
    · exact names_none k _ _ s cs w hs H0 HK HN HU hix hcv zc z1 z2 (z3 45) (z3 32) (z3 39) z6 n3 n4 n5 n6 n7 hA hB
    · by_cases hl : s.size < 40
      · refine names_great k _ _ s cs w hs hl H0 HK HN HU hix hcv zc z1 z2 (z3 45) (z3 32) (z3 39) z6 n3 n4 n5 n6 n7 hA hB ?_
        unfold upperB at hB ⊢
        simp only [Bool.and_eq_true] at hB
        rw [hbn_more s cs c hcs ht hl hB.1, hd_more s cs (hbn_pos s hB.1), hB.2]
        rfl
      · exact names_great_long k _ _ s cs w hs hl H0 HK HN HU hix hcv zc z1 z2 (z3 45) (z3 32) (z3 39) z6 n3 n4 n5 n6 n7 hA hB
  · have hB := not_both s hA
    by_cases hl : s.size < 40

    · cases h0 : ((s ++ cs).toList == [102, 110])
      rotate_left
      · exact names_kw0 k _ _ s cs w hs hl H0 HK HN HU hix hcv zc z1 z2 (z3 45) (z3 32) (z3 39) z6 n3 n4 n5 n6 n7 hA hB h0
      cases h1 : ((s ++ cs).toList == [108, 101, 116])
      rotate_left
      · exact names_kw1 k _ _ s cs w hs hl H0 HK HN HU hix hcv zc z1 z2 (z3 45) (z3 32) (z3 39) z6 n3 n4 n5 n6 n7 hA hB h0 h1
      cases h2 : ((s ++ cs).toList == [99, 97, 115, 101])
      rotate_left
      · exact names_kw2 k _ _ s cs w hs hl H0 HK HN HU hix hcv zc z1 z2 (z3 45) (z3 32) (z3 39) z6 n3 n4 n5 n6 n7 hA hB h0 h1 h2
      cases h3 : ((s ++ cs).toList == [102, 97, 105, 108])
      rotate_left
      · exact names_kw3 k _ _ s cs w hs hl H0 HK HN HU hix hcv zc z1 z2 (z3 45) (z3 32) (z3 39) z6 n3 n4 n5 n6 n7 hA hB h0 h1 h2 h3
      cases h4 : ((s ++ cs).toList == [100, 97, 116, 97])
      rotate_left
      · exact names_kw4 k _ _ s cs w hs hl H0 HK HN HU hix hcv zc z1 z2 (z3 45) (z3 32) (z3 39) z6 n3 n4 n5 n6 n7 hA hB h0 h1 h2 h3 h4
      cases h5 : ((s ++ cs).toList == [100, 101, 102])
      rotate_left
      · exact names_kw5 k _ _ s cs w hs hl H0 HK HN HU hix hcv zc z1 z2 (z3 45) (z3 32) (z3 39) z6 n3 n4 n5 n6 n7 hA hB h0 h1 h2 h3 h4 h5
      cases h6 : ((s ++ cs).toList == [100, 105, 118])
      rotate_left
      · exact names_kw6 k _ _ s cs w hs hl H0 HK HN HU hix hcv zc z1 z2 (z3 45) (z3 32) (z3 39) z6 n3 n4 n5 n6 n7 hA hB h0 h1 h2 h3 h4 h5 h6
      cases h7 : ((s ++ cs).toList == [109, 111, 100])
      rotate_left
      · exact names_kw7 k _ _ s cs w hs hl H0 HK HN HU hix hcv zc z1 z2 (z3 45) (z3 32) (z3 39) z6 n3 n4 n5 n6 n7 hA hB h0 h1 h2 h3 h4 h5 h6 h7
      cases h8 : ((s ++ cs).toList == [102, 108, 111, 97, 116])
      rotate_left
      · exact names_kw8 k _ _ s cs w hs hl H0 HK HN HU hix hcv zc z1 z2 (z3 45) (z3 32) (z3 39) z6 n3 n4 n5 n6 n7 hA hB h0 h1 h2 h3 h4 h5 h6 h7 h8
      cases h9 : ((s ++ cs).toList == [119, 104, 111, 108, 101])
      rotate_left
      · exact names_kw9 k _ _ s cs w hs hl H0 HK HN HU hix hcv zc z1 z2 (z3 45) (z3 32) (z3 39) z6 n3 n4 n5 n6 n7 hA hB h0 h1 h2 h3 h4 h5 h6 h7 h8 h9
      cases h10 : ((s ++ cs).toList == [115, 101, 113])
      rotate_left
      · exact names_kw10 k _ _ s cs w hs hl H0 HK HN HU hix hcv zc z1 z2 (z3 45) (z3 32) (z3 39) z6 n3 n4 n5 n6 n7 hA hB h0 h1 h2 h3 h4 h5 h6 h7 h8 h9 h10
      cases h11 : ((s ++ cs).toList == [105, 110, 102])
      rotate_left
      · exact names_kw11 k _ _ s cs w hs hl H0 HK HN HU hix hcv zc z1 z2 (z3 45) (z3 32) (z3 39) z6 n3 n4 n5 n6 n7 hA hB h0 h1 h2 h3 h4 h5 h6 h7 h8 h9 h10 h11
      cases h12 : ((s ++ cs).toList == [110, 97, 110])
      rotate_left
      · exact names_kw12 k _ _ s cs w hs hl H0 HK HN HU hix hcv zc z1 z2 (z3 45) (z3 32) (z3 39) z6 n3 n4 n5 n6 n7 hA hB h0 h1 h2 h3 h4 h5 h6 h7 h8 h9 h10 h11 h12
      refine names_free k _ _ s cs w hs hl H0 HK HN HU hix hcv zc z1 z2 (z3 45) (z3 32) (z3 39) z6 n3 n4 n5 n6 n7 hA hB ?_ h0 h1 h2 h3 h4 h5 h6 h7 h8 h9 h10 h11 h12
      have hk : kwB (s ++ cs) = false := by simp only [kwB, h0, h1, h2, h3, h4, h5, h6, h7, h8, h9, h10, h11, h12]; rfl
      unfold nameB at hA ⊢
      simp only [Bool.and_eq_true] at hA
      rw [hbn_more s cs c hcs ht hl hA.1, hd_more s cs (hbn_pos s hA.1), hA.2.1, hk]
      rfl
    · exact names_long k _ _ s cs w hs hl H0 HK HN HU hix hcv zc z1 z2 (z3 45) (z3 32) (z3 39) z6 n3 n4 n5 n6 n7 hA hB
end Go.Proofs.YtoobcaegnokdpaaDoor
