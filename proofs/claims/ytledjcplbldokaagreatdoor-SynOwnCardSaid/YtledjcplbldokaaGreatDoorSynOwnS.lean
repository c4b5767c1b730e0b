/- SynOwn: where the call begins: what the listed variables' condition says of memory. Conditions: the listed variables read as start-up lays them. -/
import Derived.Test.YtledjcplbldokaaGreatDoorExD
import Derived.Test.YtledjcplbldokaaGreatDoorSent
import Derived.Test.YtledjcplbldokaaGreatDoorFlat
import Derived.Test.YtledjcplbldokaaGreatDoorTie
import Derived.Test.YtledjcplbldokaaGreatDoorCards
import Derived.LaidMore
import Derived.OpenShut
import Derived.LaidSub
import Derived.LaidHandle
import Derived.LaidLaws
namespace Go.Proofs.YtledjcplbldokaaGreatDoor
open Go.Ex
def synOwn_errs : Errs := [(13, [118, 97, 108, 117, 101, 32, 111, 117, 116, 32, 111, 102, 32, 114, 97, 110, 103, 101]), (12, [105, 110, 118, 97, 108, 105, 100, 32, 115, 121, 110, 116, 97, 120]), (0, [116, 111, 111, 32, 109, 97, 110, 121]), (5, [116, 111, 111, 32, 100, 101, 101, 112]), (1, [97, 32, 98, 114, 97, 99, 107, 101, 116, 32, 116, 104, 97, 116, 32, 105, 115, 32, 110, 111, 116, 32, 99, 108, 111, 115, 101, 100]), (6, [97, 32, 98, 114, 97, 99, 107, 101, 116, 32, 116, 104, 97, 116, 32, 119, 97, 115, 32, 110, 111, 116, 32, 111, 112, 101, 110, 101, 100]), (2, [110, 111, 32, 115, 117, 99, 104, 32, 102, 111, 114, 109]), (3, [110, 111, 116, 32, 97, 32, 110, 97, 109, 101]), (7, [110, 111, 116, 32, 97, 32, 110, 117, 109, 98, 101, 114])]
def synOwn_tabs : GS := [(14, [.int .u8 0, .int .u8 1, .int .u8 28, .int .u8 2, .int .u8 29, .int .u8 14, .int .u8 24, .int .u8 3, .int .u8 30, .int .u8 22, .int .u8 20, .int .u8 15, .int .u8 25, .int .u8 17, .int .u8 4, .int .u8 8, .int .u8 31, .int .u8 27, .int .u8 13, .int .u8 23, .int .u8 21, .int .u8 19, .int .u8 16, .int .u8 7, .int .u8 26, .int .u8 12, .int .u8 18, .int .u8 6, .int .u8 11, .int .u8 5, .int .u8 10, .int .u8 9]), (10, [.int .u8 0, .int .u8 1, .int .u8 56, .int .u8 2, .int .u8 57, .int .u8 49, .int .u8 28, .int .u8 3, .int .u8 61, .int .u8 58, .int .u8 42, .int .u8 50, .int .u8 38, .int .u8 29, .int .u8 17, .int .u8 4, .int .u8 62, .int .u8 47, .int .u8 59, .int .u8 36, .int .u8 45, .int .u8 43, .int .u8 51, .int .u8 22, .int .u8 53, .int .u8 39, .int .u8 33, .int .u8 30, .int .u8 24, .int .u8 18, .int .u8 12, .int .u8 5, .int .u8 63, .int .u8 55, .int .u8 48, .int .u8 27, .int .u8 60, .int .u8 41, .int .u8 37, .int .u8 16, .int .u8 46, .int .u8 35, .int .u8 44, .int .u8 21, .int .u8 52, .int .u8 32, .int .u8 23, .int .u8 11, .int .u8 54, .int .u8 26, .int .u8 40, .int .u8 15, .int .u8 34, .int .u8 20, .int .u8 31, .int .u8 10, .int .u8 25, .int .u8 14, .int .u8 19, .int .u8 9, .int .u8 13, .int .u8 8, .int .u8 7, .int .u8 6]), (11, [.int .u64 1, .int .u64 10, .int .u64 100, .int .u64 1000, .int .u64 10000, .int .u64 100000, .int .u64 1000000, .int .u64 10000000, .int .u64 100000000, .int .u64 1000000000, .int .u64 10000000000, .int .u64 100000000000, .int .u64 1000000000000, .int .u64 10000000000000, .int .u64 100000000000000, .int .u64 1000000000000000, .int .u64 10000000000000000, .int .u64 100000000000000000, .int .u64 1000000000000000000, .int .u64 10000000000000000000]), (9, [.str 1 43, .int .i64 2, .bool false, .str 1 45, .int .i64 2, .bool false, .str 1 42, .int .i64 2, .bool false, .str 3 7760228, .int .i64 2, .bool false, .str 3 6582125, .int .i64 2, .bool false, .str 1 60, .int .i64 2, .bool false, .str 1 61, .int .i64 2, .bool false, .str 2 11110, .int .i64 2, .bool true, .str 2 11622, .int .i64 2, .bool true, .str 2 10854, .int .i64 2, .bool true, .str 2 12134, .int .i64 2, .bool true, .str 2 15462, .int .i64 2, .bool false, .str 2 15718, .int .i64 2, .bool false, .str 5 499850898534, .int .i64 1, .bool true, .str 5 435610937463, .int .i64 1, .bool false, .str 3 7431539, .int .i64 2, .bool false]), (4, [(.ifc 192 (.agg [.ptr 16 39]))])]
def synOwn_laid : List (String × DataW Unit) := Rows.synOwnRow.laid.filter fun x => x.2.handleName?.isNone
theorem synOwn_plain {W : World} (h : laidMetH Tryz.prog Rows.synOwnRow.laid W) : laidMet Tryz.prog synOwn_laid W := (laidMetH_iff.1 h).1
theorem synOwn_handle {W : World} (h : laidMetH Tryz.prog Rows.synOwnRow.laid W) : W.cell? ⟨4, 0, none⟩ = some (.iface 192 (.agg #[.pointer (some ⟨Tryz.prog.globals.size, 39, none⟩)])) := by
  obtain ⟨name, u, ty, e1, e2, e3, e4, e5⟩ := (laidMetH_iff.1 h).2 ("errors.errorType", Rows.laid_errors_errorType) (by show _ ∈ [("errors.errorType", Rows.laid_errors_errorType)]; exact List.mem_singleton.2 rfl)
  have en : name = [101, 114, 114, 111, 114] := (Option.some.inj e1).symm
  subst en
  obtain rfl := Option.some.inj ((show (Tryz.prog.cutTypes.find? (·.1 == "internal/reflectlite.rtype")).map (·.2) = some 192 by kernel_rfl).symm.trans e2)
  have hm : ty ∈ (List.range Tryz.prog.types.size).filter fun t => Tryz.prog.rowNamed t [101, 114, 114, 111, 114] := List.mem_filter.2 ⟨List.mem_range.2 e3, e4⟩
  rw [show (List.range Tryz.prog.types.size).filter (fun t => Tryz.prog.rowNamed t [101, 114, 114, 111, 114]) = [39] by kernel_rfl] at hm
  obtain rfl := List.mem_singleton.1 hm
  rw [show typeHandle Tryz.prog 39 = .pointer (some ⟨Tryz.prog.globals.size, 39, none⟩) by kernel_rfl] at e5
  simpa using World.var?_cell (show Tryz.prog.globalNamed "errors.errorType" = some 4 by kernel_rfl) e5 0
theorem synOwn_var {W : World} {n : String} {g : Nat} {cs : Array Value} (hg : Tryz.prog.globalNamed n = some g) (h : W.var? Tryz.prog n = some cs) : ∃ u k, W.heap[g]? = some (.cells cs u k) := by
  unfold World.var? at h
  rw [hg] at h
  simp only [Option.bind_some] at h
  split at h
  · rename_i c u k hc; simp at h; subst h; exact ⟨u, k, hc⟩
  · simp at h
theorem synOwn_err {W : World} {n : String} {g : Nat} {t : List UInt8} {a : Addr} (hg : Tryz.prog.globalNamed n = some g) (h : SentAt n t a W) : ErrAt W 278 g t a := by
  obtain ⟨h1, h2, h3⟩ := h
  obtain ⟨u, k, h4⟩ := synOwn_var hg h1
  exact ⟨⟨_, u, k, h4, rfl⟩, h2, h3⟩
theorem synOwn_handv {W : World} (h : laidMetH Tryz.prog Rows.synOwnRow.laid W) : TabAt W 4 [(.ifc 192 (.agg [.ptr 16 39]))] := by
  obtain ⟨name, u, ty, e1, e2, e3, e4, e5⟩ := (laidMetH_iff.1 h).2 ("errors.errorType", Rows.laid_errors_errorType) (by show _ ∈ [("errors.errorType", Rows.laid_errors_errorType)]; exact List.mem_singleton.2 rfl)
  have en : name = [101, 114, 114, 111, 114] := (Option.some.inj e1).symm
  subst en
  obtain rfl := Option.some.inj ((show (Tryz.prog.cutTypes.find? (·.1 == "internal/reflectlite.rtype")).map (·.2) = some 192 by kernel_rfl).symm.trans e2)
  have hm : ty ∈ (List.range Tryz.prog.types.size).filter fun t => Tryz.prog.rowNamed t [101, 114, 114, 111, 114] := List.mem_filter.2 ⟨List.mem_range.2 e3, e4⟩
  rw [show (List.range Tryz.prog.types.size).filter (fun t => Tryz.prog.rowNamed t [101, 114, 114, 111, 114]) = [39] by kernel_rfl] at hm
  obtain rfl := List.mem_singleton.1 hm
  rw [show typeHandle Tryz.prog 39 = .pointer (some ⟨Tryz.prog.globals.size, 39, none⟩) by kernel_rfl] at e5
  obtain ⟨u, k, e⟩ := synOwn_var (n := "errors.errorType") (g := 4) (by kernel_rfl) e5
  exact ⟨_, u, k, e, .inr ⟨_, _, _, by decide +kernel, rfl, rfl⟩⟩
theorem synOwn_starts {W : World} (h0 : laidMetH Tryz.prog Rows.synOwnRow.laid W) (sy : Nat → Value) : ∃ size ea ez, Starts sy (gsFrom 278 synOwn_tabs 1024 synOwn_errs) (esFrom 1024 synOwn_errs) W size ea ez := by
  have h := synOwn_plain h0
  obtain ⟨a0, s0⟩ := sent1 (n := "strconv.ErrRange") (text := [118, 97, 108, 117, 101, 32, 111, 117, 116, 32, 111, 102, 32, 114, 97, 110, 103, 101]) (laid_drop 3 h) (g := 13) (by kernel_rfl) (by kernel_rfl)
  obtain ⟨a1, s1⟩ := sent1 (n := "strconv.ErrSyntax") (text := [105, 110, 118, 97, 108, 105, 100, 32, 115, 121, 110, 116, 97, 120]) (laid_drop 4 h) (g := 12) (by kernel_rfl) (by kernel_rfl)
  obtain ⟨a2, s2⟩ := sent1 (n := "gristmill/api.ErrMany") (text := [116, 111, 111, 32, 109, 97, 110, 121]) (laid_drop 5 h) (g := 0) (by kernel_rfl) (by kernel_rfl)
  obtain ⟨a3, s3⟩ := sent1 (n := "gristmill/api.ErrDeep") (text := [116, 111, 111, 32, 100, 101, 101, 112]) (laid_drop 6 h) (g := 5) (by kernel_rfl) (by kernel_rfl)
  obtain ⟨a4, s4⟩ := sent1 (n := "gristmill/api.ErrOpen") (text := [97, 32, 98, 114, 97, 99, 107, 101, 116, 32, 116, 104, 97, 116, 32, 105, 115, 32, 110, 111, 116, 32, 99, 108, 111, 115, 101, 100]) (laid_drop 7 h) (g := 1) (by kernel_rfl) (by kernel_rfl)
  obtain ⟨a5, s5⟩ := sent1 (n := "gristmill/api.ErrClose") (text := [97, 32, 98, 114, 97, 99, 107, 101, 116, 32, 116, 104, 97, 116, 32, 119, 97, 115, 32, 110, 111, 116, 32, 111, 112, 101, 110, 101, 100]) (laid_drop 8 h) (g := 6) (by kernel_rfl) (by kernel_rfl)
  obtain ⟨a6, s6⟩ := sent1 (n := "gristmill/api.ErrForm") (text := [110, 111, 32, 115, 117, 99, 104, 32, 102, 111, 114, 109]) (laid_drop 9 h) (g := 2) (by kernel_rfl) (by kernel_rfl)
  obtain ⟨a7, s7⟩ := sent1 (n := "gristmill/api.ErrName") (text := [110, 111, 116, 32, 97, 32, 110, 97, 109, 101]) (laid_drop 10 h) (g := 3) (by kernel_rfl) (by kernel_rfl)
  obtain ⟨a8, s8⟩ := sent1 (n := "gristmill/api.ErrNumber") (text := [110, 111, 116, 32, 97, 32, 110, 117, 109, 98, 101, 114]) (laid_drop 11 h) (g := 7) (by kernel_rfl) (by kernel_rfl)
  have t0 := cells_of_head (n := 4) (t := 277) (vs := [.int .u8 0, .int .u8 1, .int .u8 28, .int .u8 2, .int .u8 29, .int .u8 14, .int .u8 24, .int .u8 3, .int .u8 30, .int .u8 22, .int .u8 20, .int .u8 15, .int .u8 25, .int .u8 17, .int .u8 4, .int .u8 8, .int .u8 31, .int .u8 27, .int .u8 13, .int .u8 23, .int .u8 21, .int .u8 19, .int .u8 16, .int .u8 7, .int .u8 26, .int .u8 12, .int .u8 18, .int .u8 6, .int .u8 11, .int .u8 5, .int .u8 10, .int .u8 9]) (show Tryz.prog.globalNamed "math/bits.deBruijn32tab" = some 14 by kernel_rfl) (by kernel_rfl) (by kernel_rfl) (by kernel_rfl) (laid_drop 0 h)
  have t1 := cells_of_head (n := 4) (t := 247) (vs := [.int .u8 0, .int .u8 1, .int .u8 56, .int .u8 2, .int .u8 57, .int .u8 49, .int .u8 28, .int .u8 3, .int .u8 61, .int .u8 58, .int .u8 42, .int .u8 50, .int .u8 38, .int .u8 29, .int .u8 17, .int .u8 4, .int .u8 62, .int .u8 47, .int .u8 59, .int .u8 36, .int .u8 45, .int .u8 43, .int .u8 51, .int .u8 22, .int .u8 53, .int .u8 39, .int .u8 33, .int .u8 30, .int .u8 24, .int .u8 18, .int .u8 12, .int .u8 5, .int .u8 63, .int .u8 55, .int .u8 48, .int .u8 27, .int .u8 60, .int .u8 41, .int .u8 37, .int .u8 16, .int .u8 46, .int .u8 35, .int .u8 44, .int .u8 21, .int .u8 52, .int .u8 32, .int .u8 23, .int .u8 11, .int .u8 54, .int .u8 26, .int .u8 40, .int .u8 15, .int .u8 34, .int .u8 20, .int .u8 31, .int .u8 10, .int .u8 25, .int .u8 14, .int .u8 19, .int .u8 9, .int .u8 13, .int .u8 8, .int .u8 7, .int .u8 6]) (show Tryz.prog.globalNamed "math/bits.deBruijn64tab" = some 10 by kernel_rfl) (by kernel_rfl) (by kernel_rfl) (by kernel_rfl) (laid_drop 1 h)
  have t2 := cells_of_head (n := 4) (t := 258) (vs := [.int .u64 1, .int .u64 10, .int .u64 100, .int .u64 1000, .int .u64 10000, .int .u64 100000, .int .u64 1000000, .int .u64 10000000, .int .u64 100000000, .int .u64 1000000000, .int .u64 10000000000, .int .u64 100000000000, .int .u64 1000000000000, .int .u64 10000000000000, .int .u64 100000000000000, .int .u64 1000000000000000, .int .u64 10000000000000000, .int .u64 100000000000000000, .int .u64 1000000000000000000, .int .u64 10000000000000000000]) (show Tryz.prog.globalNamed "internal/strconv.uint64pow10" = some 11 by kernel_rfl) (by kernel_rfl) (by kernel_rfl) (by kernel_rfl) (laid_drop 2 h)
  have t3 := cells_of_head (n := 4) (t := 242) (vs := [.string ⟨#[43]⟩, .int .i64 2, .bool false, .string ⟨#[45]⟩, .int .i64 2, .bool false, .string ⟨#[42]⟩, .int .i64 2, .bool false, .string ⟨#[100, 105, 118]⟩, .int .i64 2, .bool false, .string ⟨#[109, 111, 100]⟩, .int .i64 2, .bool false, .string ⟨#[60]⟩, .int .i64 2, .bool false, .string ⟨#[61]⟩, .int .i64 2, .bool false, .string ⟨#[102, 43]⟩, .int .i64 2, .bool true, .string ⟨#[102, 45]⟩, .int .i64 2, .bool true, .string ⟨#[102, 42]⟩, .int .i64 2, .bool true, .string ⟨#[102, 47]⟩, .int .i64 2, .bool true, .string ⟨#[102, 60]⟩, .int .i64 2, .bool false, .string ⟨#[102, 61]⟩, .int .i64 2, .bool false, .string ⟨#[102, 108, 111, 97, 116]⟩, .int .i64 1, .bool true, .string ⟨#[119, 104, 111, 108, 101]⟩, .int .i64 1, .bool false, .string ⟨#[115, 101, 113]⟩, .int .i64 2, .bool false]) (show Tryz.prog.globalNamed "gristmill/num.prims" = some 9 by kernel_rfl) (by kernel_rfl) (by kernel_rfl) (by kernel_rfl) (laid_drop 12 h)
  refine starts_of (by decide) (by decide) (by decide) (by decide) (by decide +kernel) ?_ ?_
  · intro x hx
    simp only [synOwn_errs, List.mem_cons, List.not_mem_nil, or_false] at hx
    rcases hx with rfl | rfl | rfl | rfl | rfl | rfl | rfl | rfl | rfl
    · exact ⟨a0, synOwn_err (n := "strconv.ErrRange") (by kernel_rfl) s0⟩
    · exact ⟨a1, synOwn_err (n := "strconv.ErrSyntax") (by kernel_rfl) s1⟩
    · exact ⟨a2, synOwn_err (n := "gristmill/api.ErrMany") (by kernel_rfl) s2⟩
    · exact ⟨a3, synOwn_err (n := "gristmill/api.ErrDeep") (by kernel_rfl) s3⟩
    · exact ⟨a4, synOwn_err (n := "gristmill/api.ErrOpen") (by kernel_rfl) s4⟩
    · exact ⟨a5, synOwn_err (n := "gristmill/api.ErrClose") (by kernel_rfl) s5⟩
    · exact ⟨a6, synOwn_err (n := "gristmill/api.ErrForm") (by kernel_rfl) s6⟩
    · exact ⟨a7, synOwn_err (n := "gristmill/api.ErrName") (by kernel_rfl) s7⟩
    · exact ⟨a8, synOwn_err (n := "gristmill/api.ErrNumber") (by kernel_rfl) s8⟩
  · intro x hx
    simp only [synOwn_tabs, List.mem_cons, List.not_mem_nil, or_false] at hx
    rcases hx with rfl | rfl | rfl | rfl | rfl
    · obtain ⟨u, k, e⟩ := synOwn_var (n := "math/bits.deBruijn32tab") (by kernel_rfl) t0; exact ⟨_, u, k, e, .inl rfl⟩
    · obtain ⟨u, k, e⟩ := synOwn_var (n := "math/bits.deBruijn64tab") (by kernel_rfl) t1; exact ⟨_, u, k, e, .inl rfl⟩
    · obtain ⟨u, k, e⟩ := synOwn_var (n := "internal/strconv.uint64pow10") (by kernel_rfl) t2; exact ⟨_, u, k, e, .inl rfl⟩
    · obtain ⟨u, k, e⟩ := synOwn_var (n := "gristmill/num.prims") (by kernel_rfl) t3; exact ⟨_, u, k, e, .inl rfl⟩
    · exact synOwn_handv h0
theorem synOwn_c_strconv_ErrRange {W : World} (h : laidMet Tryz.prog synOwn_laid W) : ∃ a, W.cell? ⟨13, 0, none⟩ = some (.iface 278 (.pointer (some a))) := by
  obtain ⟨a, s⟩ := sent1 (n := "strconv.ErrRange") (text := [118, 97, 108, 117, 101, 32, 111, 117, 116, 32, 111, 102, 32, 114, 97, 110, 103, 101]) (laid_drop 3 h) (g := 13) (by kernel_rfl) (by kernel_rfl)
  obtain ⟨u, k, h4⟩ := synOwn_var (n := "strconv.ErrRange") (g := 13) (by kernel_rfl) s.1
  exact ⟨a, by simp [World.cell?, h4]⟩
theorem synOwn_c_strconv_ErrSyntax {W : World} (h : laidMet Tryz.prog synOwn_laid W) : ∃ a, W.cell? ⟨12, 0, none⟩ = some (.iface 278 (.pointer (some a))) := by
  obtain ⟨a, s⟩ := sent1 (n := "strconv.ErrSyntax") (text := [105, 110, 118, 97, 108, 105, 100, 32, 115, 121, 110, 116, 97, 120]) (laid_drop 4 h) (g := 12) (by kernel_rfl) (by kernel_rfl)
  obtain ⟨u, k, h4⟩ := synOwn_var (n := "strconv.ErrSyntax") (g := 12) (by kernel_rfl) s.1
  exact ⟨a, by simp [World.cell?, h4]⟩
theorem synOwn_c_ErrMany {W : World} (h : laidMet Tryz.prog synOwn_laid W) : ∃ a, W.cell? ⟨0, 0, none⟩ = some (.iface 278 (.pointer (some a))) := by
  obtain ⟨a, s⟩ := sent1 (n := "gristmill/api.ErrMany") (text := [116, 111, 111, 32, 109, 97, 110, 121]) (laid_drop 5 h) (g := 0) (by kernel_rfl) (by kernel_rfl)
  obtain ⟨u, k, h4⟩ := synOwn_var (n := "gristmill/api.ErrMany") (g := 0) (by kernel_rfl) s.1
  exact ⟨a, by simp [World.cell?, h4]⟩
theorem synOwn_c_ErrDeep {W : World} (h : laidMet Tryz.prog synOwn_laid W) : ∃ a, W.cell? ⟨5, 0, none⟩ = some (.iface 278 (.pointer (some a))) := by
  obtain ⟨a, s⟩ := sent1 (n := "gristmill/api.ErrDeep") (text := [116, 111, 111, 32, 100, 101, 101, 112]) (laid_drop 6 h) (g := 5) (by kernel_rfl) (by kernel_rfl)
  obtain ⟨u, k, h4⟩ := synOwn_var (n := "gristmill/api.ErrDeep") (g := 5) (by kernel_rfl) s.1
  exact ⟨a, by simp [World.cell?, h4]⟩
theorem synOwn_c_ErrOpen {W : World} (h : laidMet Tryz.prog synOwn_laid W) : ∃ a, W.cell? ⟨1, 0, none⟩ = some (.iface 278 (.pointer (some a))) := by
  obtain ⟨a, s⟩ := sent1 (n := "gristmill/api.ErrOpen") (text := [97, 32, 98, 114, 97, 99, 107, 101, 116, 32, 116, 104, 97, 116, 32, 105, 115, 32, 110, 111, 116, 32, 99, 108, 111, 115, 101, 100]) (laid_drop 7 h) (g := 1) (by kernel_rfl) (by kernel_rfl)
  obtain ⟨u, k, h4⟩ := synOwn_var (n := "gristmill/api.ErrOpen") (g := 1) (by kernel_rfl) s.1
  exact ⟨a, by simp [World.cell?, h4]⟩
theorem synOwn_c_ErrClose {W : World} (h : laidMet Tryz.prog synOwn_laid W) : ∃ a, W.cell? ⟨6, 0, none⟩ = some (.iface 278 (.pointer (some a))) := by
  obtain ⟨a, s⟩ := sent1 (n := "gristmill/api.ErrClose") (text := [97, 32, 98, 114, 97, 99, 107, 101, 116, 32, 116, 104, 97, 116, 32, 119, 97, 115, 32, 110, 111, 116, 32, 111, 112, 101, 110, 101, 100]) (laid_drop 8 h) (g := 6) (by kernel_rfl) (by kernel_rfl)
  obtain ⟨u, k, h4⟩ := synOwn_var (n := "gristmill/api.ErrClose") (g := 6) (by kernel_rfl) s.1
  exact ⟨a, by simp [World.cell?, h4]⟩
theorem synOwn_c_ErrForm {W : World} (h : laidMet Tryz.prog synOwn_laid W) : ∃ a, W.cell? ⟨2, 0, none⟩ = some (.iface 278 (.pointer (some a))) := by
  obtain ⟨a, s⟩ := sent1 (n := "gristmill/api.ErrForm") (text := [110, 111, 32, 115, 117, 99, 104, 32, 102, 111, 114, 109]) (laid_drop 9 h) (g := 2) (by kernel_rfl) (by kernel_rfl)
  obtain ⟨u, k, h4⟩ := synOwn_var (n := "gristmill/api.ErrForm") (g := 2) (by kernel_rfl) s.1
  exact ⟨a, by simp [World.cell?, h4]⟩
theorem synOwn_c_ErrName {W : World} (h : laidMet Tryz.prog synOwn_laid W) : ∃ a, W.cell? ⟨3, 0, none⟩ = some (.iface 278 (.pointer (some a))) := by
  obtain ⟨a, s⟩ := sent1 (n := "gristmill/api.ErrName") (text := [110, 111, 116, 32, 97, 32, 110, 97, 109, 101]) (laid_drop 10 h) (g := 3) (by kernel_rfl) (by kernel_rfl)
  obtain ⟨u, k, h4⟩ := synOwn_var (n := "gristmill/api.ErrName") (g := 3) (by kernel_rfl) s.1
  exact ⟨a, by simp [World.cell?, h4]⟩
theorem synOwn_c_ErrNumber {W : World} (h : laidMet Tryz.prog synOwn_laid W) : ∃ a, W.cell? ⟨7, 0, none⟩ = some (.iface 278 (.pointer (some a))) := by
  obtain ⟨a, s⟩ := sent1 (n := "gristmill/api.ErrNumber") (text := [110, 111, 116, 32, 97, 32, 110, 117, 109, 98, 101, 114]) (laid_drop 11 h) (g := 7) (by kernel_rfl) (by kernel_rfl)
  obtain ⟨u, k, h4⟩ := synOwn_var (n := "gristmill/api.ErrNumber") (g := 7) (by kernel_rfl) s.1
  exact ⟨a, by simp [World.cell?, h4]⟩
end Go.Proofs.YtledjcplbldokaaGreatDoor
