/- ObsDeep: where the call begins: what the listed variables' condition says of memory. Conditions: the listed variables read as start-up lays them. -/
import Derived.Test.YtibofjdnkldddaaGreatDoorExD
import Derived.Test.YtibofjdnkldddaaGreatDoorSent
import Derived.Test.YtibofjdnkldddaaGreatDoorFlat
import Derived.Test.YtibofjdnkldddaaGreatDoorTie
import Derived.Test.YtibofjdnkldddaaGreatDoorCards
import Derived.LaidMore
import Derived.OpenShut
namespace Go.Proofs.YtibofjdnkldddaaGreatDoor
open Go.Ex
def obsDeep_errs : Errs := [(23, [118, 97, 108, 117, 101, 32, 111, 117, 116, 32, 111, 102, 32, 114, 97, 110, 103, 101]), (22, [105, 110, 118, 97, 108, 105, 100, 32, 115, 121, 110, 116, 97, 120]), (4, [105, 116, 32, 101, 110, 100, 115, 32, 116, 111, 111, 32, 101, 97, 114, 108, 121]), (5, [110, 111, 116, 32, 97, 115, 32, 105, 116, 32, 104, 97, 115, 32, 116, 111, 32, 98, 101]), (6, [97, 32, 110, 117, 109, 98, 101, 114, 32, 111, 117, 116, 32, 111, 102, 32, 105, 116, 115, 32, 114, 97, 110, 103, 101]), (7, [116, 111, 111, 32, 109, 97, 110, 121]), (8, [116, 111, 111, 32, 100, 101, 101, 112]), (9, [97, 32, 98, 114, 97, 99, 107, 101, 116, 32, 116, 104, 97, 116, 32, 105, 115, 32, 110, 111, 116, 32, 99, 108, 111, 115, 101, 100]), (10, [97, 32, 98, 114, 97, 99, 107, 101, 116, 32, 116, 104, 97, 116, 32, 119, 97, 115, 32, 110, 111, 116, 32, 111, 112, 101, 110, 101, 100]), (0, [110, 111, 32, 115, 117, 99, 104, 32, 102, 111, 114, 109]), (11, [110, 111, 116, 32, 97, 32, 110, 97, 109, 101]), (12, [116, 104, 101, 114, 101, 32, 105, 115, 32, 111, 110, 101]), (13, [116, 104, 101, 114, 101, 32, 105, 115, 32, 110, 111, 110, 101]), (14, [110, 111, 116, 32, 97, 115, 32, 109, 97, 110, 121, 32, 97, 115, 32, 105, 116, 32, 116, 97, 107, 101, 115]), (15, [110, 111, 32, 109, 97, 105, 110, 32, 119, 105, 116, 104, 111, 117, 116, 32, 112, 97, 114, 97, 109, 101, 116, 101, 114, 115]), (16, [105, 116, 32, 104, 97, 115, 32, 110, 111, 32, 116, 121, 112, 101]), (17, [110, 111, 116, 32, 98, 111, 117, 110, 100, 44, 32, 111, 114, 32, 98, 111, 117, 110, 100, 32, 116, 119, 105, 99, 101]), (18, [110, 111, 116, 32, 111, 102, 32, 116, 104, 97, 116, 32, 116, 97, 103]), (19, [110, 111, 32, 115, 117, 99, 104, 32, 119, 111, 114, 100]), (3, [110, 111, 116, 32, 97, 32, 110, 117, 109, 98, 101, 114])]
def obsDeep_tabs : GS := [(26, [.int .u8 0, .int .u8 1, .int .u8 28, .int .u8 2, .int .u8 29, .int .u8 14, .int .u8 24, .int .u8 3, .int .u8 30, .int .u8 22, .int .u8 20, .int .u8 15, .int .u8 25, .int .u8 17, .int .u8 4, .int .u8 8, .int .u8 31, .int .u8 27, .int .u8 13, .int .u8 23, .int .u8 21, .int .u8 19, .int .u8 16, .int .u8 7, .int .u8 26, .int .u8 12, .int .u8 18, .int .u8 6, .int .u8 11, .int .u8 5, .int .u8 10, .int .u8 9]), (20, [.int .u8 0, .int .u8 1, .int .u8 56, .int .u8 2, .int .u8 57, .int .u8 49, .int .u8 28, .int .u8 3, .int .u8 61, .int .u8 58, .int .u8 42, .int .u8 50, .int .u8 38, .int .u8 29, .int .u8 17, .int .u8 4, .int .u8 62, .int .u8 47, .int .u8 59, .int .u8 36, .int .u8 45, .int .u8 43, .int .u8 51, .int .u8 22, .int .u8 53, .int .u8 39, .int .u8 33, .int .u8 30, .int .u8 24, .int .u8 18, .int .u8 12, .int .u8 5, .int .u8 63, .int .u8 55, .int .u8 48, .int .u8 27, .int .u8 60, .int .u8 41, .int .u8 37, .int .u8 16, .int .u8 46, .int .u8 35, .int .u8 44, .int .u8 21, .int .u8 52, .int .u8 32, .int .u8 23, .int .u8 11, .int .u8 54, .int .u8 26, .int .u8 40, .int .u8 15, .int .u8 34, .int .u8 20, .int .u8 31, .int .u8 10, .int .u8 25, .int .u8 14, .int .u8 19, .int .u8 9, .int .u8 13, .int .u8 8, .int .u8 7, .int .u8 6]), (21, [.int .u64 1, .int .u64 10, .int .u64 100, .int .u64 1000, .int .u64 10000, .int .u64 100000, .int .u64 1000000, .int .u64 10000000, .int .u64 100000000, .int .u64 1000000000, .int .u64 10000000000, .int .u64 100000000000, .int .u64 1000000000000, .int .u64 10000000000000, .int .u64 100000000000000, .int .u64 1000000000000000, .int .u64 10000000000000000, .int .u64 100000000000000000, .int .u64 1000000000000000000, .int .u64 10000000000000000000]), (25, [.int .u8 128, .int .u8 191, .int .u8 160, .int .u8 191, .int .u8 128, .int .u8 159, .int .u8 144, .int .u8 191, .int .u8 128, .int .u8 143, .int .u8 0, .int .u8 0, .int .u8 0, .int .u8 0, .int .u8 0, .int .u8 0, .int .u8 0, .int .u8 0, .int .u8 0, .int .u8 0, .int .u8 0, .int .u8 0, .int .u8 0, .int .u8 0, .int .u8 0, .int .u8 0, .int .u8 0, .int .u8 0, .int .u8 0, .int .u8 0, .int .u8 0, .int .u8 0])]
theorem obsDeep_var {W : World} {n : String} {g : Nat} {cs : Array Value} (hg : Tryz.prog.globalNamed n = some g) (h : W.var? Tryz.prog n = some cs) : ∃ u k, W.heap[g]? = some (.cells cs u k) := by
  unfold World.var? at h
  rw [hg] at h
  simp only [Option.bind_some] at h
  split at h
  · rename_i c u k hc; simp at h; subst h; exact ⟨u, k, hc⟩
  · simp at h
theorem obsDeep_err {W : World} {n : String} {g : Nat} {t : List UInt8} {a : Addr} (hg : Tryz.prog.globalNamed n = some g) (h : SentAt n t a W) : ErrAt W 166 g t a := by
  obtain ⟨h1, h2, h3⟩ := h
  obtain ⟨u, k, h4⟩ := obsDeep_var hg h1
  exact ⟨⟨_, u, k, h4, rfl⟩, h2, h3⟩
theorem obsDeep_starts {W : World} (h : laidMet Tryz.prog Rows.obsDeepRow.laid W) (sy : Nat → Value) : ∃ size ea ez, Starts sy (gsFrom 166 obsDeep_tabs 1024 obsDeep_errs) (esFrom 1024 obsDeep_errs) W size ea ez := by
  obtain ⟨a0, s0⟩ := sent1 (n := "strconv.ErrRange") (text := [118, 97, 108, 117, 101, 32, 111, 117, 116, 32, 111, 102, 32, 114, 97, 110, 103, 101]) (laid_drop 4 h) (g := 23) (by kernel_rfl) (by kernel_rfl)
  obtain ⟨a1, s1⟩ := sent1 (n := "strconv.ErrSyntax") (text := [105, 110, 118, 97, 108, 105, 100, 32, 115, 121, 110, 116, 97, 120]) (laid_drop 5 h) (g := 22) (by kernel_rfl) (by kernel_rfl)
  obtain ⟨a2, s2⟩ := sent1 (n := "gristmill/api.ErrEnd") (text := [105, 116, 32, 101, 110, 100, 115, 32, 116, 111, 111, 32, 101, 97, 114, 108, 121]) (laid_drop 6 h) (g := 4) (by kernel_rfl) (by kernel_rfl)
  obtain ⟨a3, s3⟩ := sent1 (n := "gristmill/api.ErrShape") (text := [110, 111, 116, 32, 97, 115, 32, 105, 116, 32, 104, 97, 115, 32, 116, 111, 32, 98, 101]) (laid_drop 7 h) (g := 5) (by kernel_rfl) (by kernel_rfl)
  obtain ⟨a4, s4⟩ := sent1 (n := "gristmill/api.ErrRange") (text := [97, 32, 110, 117, 109, 98, 101, 114, 32, 111, 117, 116, 32, 111, 102, 32, 105, 116, 115, 32, 114, 97, 110, 103, 101]) (laid_drop 8 h) (g := 6) (by kernel_rfl) (by kernel_rfl)
  obtain ⟨a5, s5⟩ := sent1 (n := "gristmill/api.ErrMany") (text := [116, 111, 111, 32, 109, 97, 110, 121]) (laid_drop 9 h) (g := 7) (by kernel_rfl) (by kernel_rfl)
  obtain ⟨a6, s6⟩ := sent1 (n := "gristmill/api.ErrDeep") (text := [116, 111, 111, 32, 100, 101, 101, 112]) (laid_drop 10 h) (g := 8) (by kernel_rfl) (by kernel_rfl)
  obtain ⟨a7, s7⟩ := sent1 (n := "gristmill/api.ErrOpen") (text := [97, 32, 98, 114, 97, 99, 107, 101, 116, 32, 116, 104, 97, 116, 32, 105, 115, 32, 110, 111, 116, 32, 99, 108, 111, 115, 101, 100]) (laid_drop 11 h) (g := 9) (by kernel_rfl) (by kernel_rfl)
  obtain ⟨a8, s8⟩ := sent1 (n := "gristmill/api.ErrClose") (text := [97, 32, 98, 114, 97, 99, 107, 101, 116, 32, 116, 104, 97, 116, 32, 119, 97, 115, 32, 110, 111, 116, 32, 111, 112, 101, 110, 101, 100]) (laid_drop 12 h) (g := 10) (by kernel_rfl) (by kernel_rfl)
  obtain ⟨a9, s9⟩ := sent1 (n := "gristmill/api.ErrForm") (text := [110, 111, 32, 115, 117, 99, 104, 32, 102, 111, 114, 109]) (laid_drop 13 h) (g := 0) (by kernel_rfl) (by kernel_rfl)
  obtain ⟨a10, s10⟩ := sent1 (n := "gristmill/api.ErrName") (text := [110, 111, 116, 32, 97, 32, 110, 97, 109, 101]) (laid_drop 14 h) (g := 11) (by kernel_rfl) (by kernel_rfl)
  obtain ⟨a11, s11⟩ := sent1 (n := "gristmill/api.ErrTwice") (text := [116, 104, 101, 114, 101, 32, 105, 115, 32, 111, 110, 101]) (laid_drop 15 h) (g := 12) (by kernel_rfl) (by kernel_rfl)
  obtain ⟨a12, s12⟩ := sent1 (n := "gristmill/api.ErrNone") (text := [116, 104, 101, 114, 101, 32, 105, 115, 32, 110, 111, 110, 101]) (laid_drop 16 h) (g := 13) (by kernel_rfl) (by kernel_rfl)
  obtain ⟨a13, s13⟩ := sent1 (n := "gristmill/api.ErrArity") (text := [110, 111, 116, 32, 97, 115, 32, 109, 97, 110, 121, 32, 97, 115, 32, 105, 116, 32, 116, 97, 107, 101, 115]) (laid_drop 17 h) (g := 14) (by kernel_rfl) (by kernel_rfl)
  obtain ⟨a14, s14⟩ := sent1 (n := "gristmill/api.ErrMain") (text := [110, 111, 32, 109, 97, 105, 110, 32, 119, 105, 116, 104, 111, 117, 116, 32, 112, 97, 114, 97, 109, 101, 116, 101, 114, 115]) (laid_drop 18 h) (g := 15) (by kernel_rfl) (by kernel_rfl)
  obtain ⟨a15, s15⟩ := sent1 (n := "gristmill/api.ErrType") (text := [105, 116, 32, 104, 97, 115, 32, 110, 111, 32, 116, 121, 112, 101]) (laid_drop 19 h) (g := 16) (by kernel_rfl) (by kernel_rfl)
  obtain ⟨a16, s16⟩ := sent1 (n := "gristmill/api.ErrBound") (text := [110, 111, 116, 32, 98, 111, 117, 110, 100, 44, 32, 111, 114, 32, 98, 111, 117, 110, 100, 32, 116, 119, 105, 99, 101]) (laid_drop 20 h) (g := 17) (by kernel_rfl) (by kernel_rfl)
  obtain ⟨a17, s17⟩ := sent1 (n := "gristmill/api.ErrTag") (text := [110, 111, 116, 32, 111, 102, 32, 116, 104, 97, 116, 32, 116, 97, 103]) (laid_drop 21 h) (g := 18) (by kernel_rfl) (by kernel_rfl)
  obtain ⟨a18, s18⟩ := sent1 (n := "gristmill/api.ErrWord") (text := [110, 111, 32, 115, 117, 99, 104, 32, 119, 111, 114, 100]) (laid_drop 22 h) (g := 19) (by kernel_rfl) (by kernel_rfl)
  obtain ⟨a19, s19⟩ := sent1 (n := "gristmill/api.ErrNumber") (text := [110, 111, 116, 32, 97, 32, 110, 117, 109, 98, 101, 114]) (laid_drop 23 h) (g := 3) (by kernel_rfl) (by kernel_rfl)
  have t0 := cells_of_head (n := 4) (t := 169) (vs := [.int .u8 0, .int .u8 1, .int .u8 28, .int .u8 2, .int .u8 29, .int .u8 14, .int .u8 24, .int .u8 3, .int .u8 30, .int .u8 22, .int .u8 20, .int .u8 15, .int .u8 25, .int .u8 17, .int .u8 4, .int .u8 8, .int .u8 31, .int .u8 27, .int .u8 13, .int .u8 23, .int .u8 21, .int .u8 19, .int .u8 16, .int .u8 7, .int .u8 26, .int .u8 12, .int .u8 18, .int .u8 6, .int .u8 11, .int .u8 5, .int .u8 10, .int .u8 9]) (show Tryz.prog.globalNamed "math/bits.deBruijn32tab" = some 26 by kernel_rfl) (by kernel_rfl) (by kernel_rfl) (by kernel_rfl) (laid_drop 0 h)
  have t1 := cells_of_head (n := 4) (t := 143) (vs := [.int .u8 0, .int .u8 1, .int .u8 56, .int .u8 2, .int .u8 57, .int .u8 49, .int .u8 28, .int .u8 3, .int .u8 61, .int .u8 58, .int .u8 42, .int .u8 50, .int .u8 38, .int .u8 29, .int .u8 17, .int .u8 4, .int .u8 62, .int .u8 47, .int .u8 59, .int .u8 36, .int .u8 45, .int .u8 43, .int .u8 51, .int .u8 22, .int .u8 53, .int .u8 39, .int .u8 33, .int .u8 30, .int .u8 24, .int .u8 18, .int .u8 12, .int .u8 5, .int .u8 63, .int .u8 55, .int .u8 48, .int .u8 27, .int .u8 60, .int .u8 41, .int .u8 37, .int .u8 16, .int .u8 46, .int .u8 35, .int .u8 44, .int .u8 21, .int .u8 52, .int .u8 32, .int .u8 23, .int .u8 11, .int .u8 54, .int .u8 26, .int .u8 40, .int .u8 15, .int .u8 34, .int .u8 20, .int .u8 31, .int .u8 10, .int .u8 25, .int .u8 14, .int .u8 19, .int .u8 9, .int .u8 13, .int .u8 8, .int .u8 7, .int .u8 6]) (show Tryz.prog.globalNamed "math/bits.deBruijn64tab" = some 20 by kernel_rfl) (by kernel_rfl) (by kernel_rfl) (by kernel_rfl) (laid_drop 1 h)
  have t2 := cells_of_head (n := 4) (t := 150) (vs := [.int .u64 1, .int .u64 10, .int .u64 100, .int .u64 1000, .int .u64 10000, .int .u64 100000, .int .u64 1000000, .int .u64 10000000, .int .u64 100000000, .int .u64 1000000000, .int .u64 10000000000, .int .u64 100000000000, .int .u64 1000000000000, .int .u64 10000000000000, .int .u64 100000000000000, .int .u64 1000000000000000, .int .u64 10000000000000000, .int .u64 100000000000000000, .int .u64 1000000000000000000, .int .u64 10000000000000000000]) (show Tryz.prog.globalNamed "internal/strconv.uint64pow10" = some 21 by kernel_rfl) (by kernel_rfl) (by kernel_rfl) (by kernel_rfl) (laid_drop 2 h)
  have t3 := cells_of_head (n := 4) (t := 164) (vs := [.int .u8 128, .int .u8 191, .int .u8 160, .int .u8 191, .int .u8 128, .int .u8 159, .int .u8 144, .int .u8 191, .int .u8 128, .int .u8 143, .int .u8 0, .int .u8 0, .int .u8 0, .int .u8 0, .int .u8 0, .int .u8 0, .int .u8 0, .int .u8 0, .int .u8 0, .int .u8 0, .int .u8 0, .int .u8 0, .int .u8 0, .int .u8 0, .int .u8 0, .int .u8 0, .int .u8 0, .int .u8 0, .int .u8 0, .int .u8 0, .int .u8 0, .int .u8 0]) (show Tryz.prog.globalNamed "unicode/utf8.acceptRanges" = some 25 by kernel_rfl) (by kernel_rfl) (by kernel_rfl) (by kernel_rfl) (laid_drop 3 h)
  refine starts_of (by decide) (by decide) (by decide) (by decide) (by decide +kernel) ?_ ?_
  · intro x hx
    simp only [obsDeep_errs, List.mem_cons, List.not_mem_nil, or_false] at hx
    rcases hx with rfl | rfl | rfl | rfl | rfl | rfl | rfl | rfl | rfl | rfl | rfl | rfl | rfl | rfl | rfl | rfl | rfl | rfl | rfl | rfl
    · exact ⟨a0, obsDeep_err (n := "strconv.ErrRange") (by kernel_rfl) s0⟩
    · exact ⟨a1, obsDeep_err (n := "strconv.ErrSyntax") (by kernel_rfl) s1⟩
    · exact ⟨a2, obsDeep_err (n := "gristmill/api.ErrEnd") (by kernel_rfl) s2⟩
    · exact ⟨a3, obsDeep_err (n := "gristmill/api.ErrShape") (by kernel_rfl) s3⟩
    · exact ⟨a4, obsDeep_err (n := "gristmill/api.ErrRange") (by kernel_rfl) s4⟩
    · exact ⟨a5, obsDeep_err (n := "gristmill/api.ErrMany") (by kernel_rfl) s5⟩
    · exact ⟨a6, obsDeep_err (n := "gristmill/api.ErrDeep") (by kernel_rfl) s6⟩
    · exact ⟨a7, obsDeep_err (n := "gristmill/api.ErrOpen") (by kernel_rfl) s7⟩
    · exact ⟨a8, obsDeep_err (n := "gristmill/api.ErrClose") (by kernel_rfl) s8⟩
    · exact ⟨a9, obsDeep_err (n := "gristmill/api.ErrForm") (by kernel_rfl) s9⟩
    · exact ⟨a10, obsDeep_err (n := "gristmill/api.ErrName") (by kernel_rfl) s10⟩
    · exact ⟨a11, obsDeep_err (n := "gristmill/api.ErrTwice") (by kernel_rfl) s11⟩
    · exact ⟨a12, obsDeep_err (n := "gristmill/api.ErrNone") (by kernel_rfl) s12⟩
    · exact ⟨a13, obsDeep_err (n := "gristmill/api.ErrArity") (by kernel_rfl) s13⟩
    · exact ⟨a14, obsDeep_err (n := "gristmill/api.ErrMain") (by kernel_rfl) s14⟩
    · exact ⟨a15, obsDeep_err (n := "gristmill/api.ErrType") (by kernel_rfl) s15⟩
    · exact ⟨a16, obsDeep_err (n := "gristmill/api.ErrBound") (by kernel_rfl) s16⟩
    · exact ⟨a17, obsDeep_err (n := "gristmill/api.ErrTag") (by kernel_rfl) s17⟩
    · exact ⟨a18, obsDeep_err (n := "gristmill/api.ErrWord") (by kernel_rfl) s18⟩
    · exact ⟨a19, obsDeep_err (n := "gristmill/api.ErrNumber") (by kernel_rfl) s19⟩
  · intro x hx
    simp only [obsDeep_tabs, List.mem_cons, List.not_mem_nil, or_false] at hx
    rcases hx with rfl | rfl | rfl | rfl
    · obtain ⟨u, k, e⟩ := obsDeep_var (n := "math/bits.deBruijn32tab") (by kernel_rfl) t0; exact ⟨_, u, k, e, .inl rfl⟩
    · obtain ⟨u, k, e⟩ := obsDeep_var (n := "math/bits.deBruijn64tab") (by kernel_rfl) t1; exact ⟨_, u, k, e, .inl rfl⟩
    · obtain ⟨u, k, e⟩ := obsDeep_var (n := "internal/strconv.uint64pow10") (by kernel_rfl) t2; exact ⟨_, u, k, e, .inl rfl⟩
    · obtain ⟨u, k, e⟩ := obsDeep_var (n := "unicode/utf8.acceptRanges") (by kernel_rfl) t3; exact ⟨_, u, k, e, .inl rfl⟩
theorem obsDeep_c_strconv_ErrRange {W : World} (h : laidMet Tryz.prog Rows.obsDeepRow.laid W) : ∃ a, W.cell? ⟨23, 0, none⟩ = some (.iface 166 (.pointer (some a))) := by
  obtain ⟨a, s⟩ := sent1 (n := "strconv.ErrRange") (text := [118, 97, 108, 117, 101, 32, 111, 117, 116, 32, 111, 102, 32, 114, 97, 110, 103, 101]) (laid_drop 4 h) (g := 23) (by kernel_rfl) (by kernel_rfl)
  obtain ⟨u, k, h4⟩ := obsDeep_var (n := "strconv.ErrRange") (g := 23) (by kernel_rfl) s.1
  exact ⟨a, by simp [World.cell?, h4]⟩
theorem obsDeep_c_strconv_ErrSyntax {W : World} (h : laidMet Tryz.prog Rows.obsDeepRow.laid W) : ∃ a, W.cell? ⟨22, 0, none⟩ = some (.iface 166 (.pointer (some a))) := by
  obtain ⟨a, s⟩ := sent1 (n := "strconv.ErrSyntax") (text := [105, 110, 118, 97, 108, 105, 100, 32, 115, 121, 110, 116, 97, 120]) (laid_drop 5 h) (g := 22) (by kernel_rfl) (by kernel_rfl)
  obtain ⟨u, k, h4⟩ := obsDeep_var (n := "strconv.ErrSyntax") (g := 22) (by kernel_rfl) s.1
  exact ⟨a, by simp [World.cell?, h4]⟩
theorem obsDeep_c_ErrEnd {W : World} (h : laidMet Tryz.prog Rows.obsDeepRow.laid W) : ∃ a, W.cell? ⟨4, 0, none⟩ = some (.iface 166 (.pointer (some a))) := by
  obtain ⟨a, s⟩ := sent1 (n := "gristmill/api.ErrEnd") (text := [105, 116, 32, 101, 110, 100, 115, 32, 116, 111, 111, 32, 101, 97, 114, 108, 121]) (laid_drop 6 h) (g := 4) (by kernel_rfl) (by kernel_rfl)
  obtain ⟨u, k, h4⟩ := obsDeep_var (n := "gristmill/api.ErrEnd") (g := 4) (by kernel_rfl) s.1
  exact ⟨a, by simp [World.cell?, h4]⟩
theorem obsDeep_c_ErrShape {W : World} (h : laidMet Tryz.prog Rows.obsDeepRow.laid W) : ∃ a, W.cell? ⟨5, 0, none⟩ = some (.iface 166 (.pointer (some a))) := by
  obtain ⟨a, s⟩ := sent1 (n := "gristmill/api.ErrShape") (text := [110, 111, 116, 32, 97, 115, 32, 105, 116, 32, 104, 97, 115, 32, 116, 111, 32, 98, 101]) (laid_drop 7 h) (g := 5) (by kernel_rfl) (by kernel_rfl)
  obtain ⟨u, k, h4⟩ := obsDeep_var (n := "gristmill/api.ErrShape") (g := 5) (by kernel_rfl) s.1
  exact ⟨a, by simp [World.cell?, h4]⟩
theorem obsDeep_c_ErrRange {W : World} (h : laidMet Tryz.prog Rows.obsDeepRow.laid W) : ∃ a, W.cell? ⟨6, 0, none⟩ = some (.iface 166 (.pointer (some a))) := by
  obtain ⟨a, s⟩ := sent1 (n := "gristmill/api.ErrRange") (text := [97, 32, 110, 117, 109, 98, 101, 114, 32, 111, 117, 116, 32, 111, 102, 32, 105, 116, 115, 32, 114, 97, 110, 103, 101]) (laid_drop 8 h) (g := 6) (by kernel_rfl) (by kernel_rfl)
  obtain ⟨u, k, h4⟩ := obsDeep_var (n := "gristmill/api.ErrRange") (g := 6) (by kernel_rfl) s.1
  exact ⟨a, by simp [World.cell?, h4]⟩
theorem obsDeep_c_ErrMany {W : World} (h : laidMet Tryz.prog Rows.obsDeepRow.laid W) : ∃ a, W.cell? ⟨7, 0, none⟩ = some (.iface 166 (.pointer (some a))) := by
  obtain ⟨a, s⟩ := sent1 (n := "gristmill/api.ErrMany") (text := [116, 111, 111, 32, 109, 97, 110, 121]) (laid_drop 9 h) (g := 7) (by kernel_rfl) (by kernel_rfl)
  obtain ⟨u, k, h4⟩ := obsDeep_var (n := "gristmill/api.ErrMany") (g := 7) (by kernel_rfl) s.1
  exact ⟨a, by simp [World.cell?, h4]⟩
theorem obsDeep_c_ErrDeep {W : World} (h : laidMet Tryz.prog Rows.obsDeepRow.laid W) : ∃ a, W.cell? ⟨8, 0, none⟩ = some (.iface 166 (.pointer (some a))) := by
  obtain ⟨a, s⟩ := sent1 (n := "gristmill/api.ErrDeep") (text := [116, 111, 111, 32, 100, 101, 101, 112]) (laid_drop 10 h) (g := 8) (by kernel_rfl) (by kernel_rfl)
  obtain ⟨u, k, h4⟩ := obsDeep_var (n := "gristmill/api.ErrDeep") (g := 8) (by kernel_rfl) s.1
  exact ⟨a, by simp [World.cell?, h4]⟩
theorem obsDeep_c_ErrOpen {W : World} (h : laidMet Tryz.prog Rows.obsDeepRow.laid W) : ∃ a, W.cell? ⟨9, 0, none⟩ = some (.iface 166 (.pointer (some a))) := by
  obtain ⟨a, s⟩ := sent1 (n := "gristmill/api.ErrOpen") (text := [97, 32, 98, 114, 97, 99, 107, 101, 116, 32, 116, 104, 97, 116, 32, 105, 115, 32, 110, 111, 116, 32, 99, 108, 111, 115, 101, 100]) (laid_drop 11 h) (g := 9) (by kernel_rfl) (by kernel_rfl)
  obtain ⟨u, k, h4⟩ := obsDeep_var (n := "gristmill/api.ErrOpen") (g := 9) (by kernel_rfl) s.1
  exact ⟨a, by simp [World.cell?, h4]⟩
theorem obsDeep_c_ErrClose {W : World} (h : laidMet Tryz.prog Rows.obsDeepRow.laid W) : ∃ a, W.cell? ⟨10, 0, none⟩ = some (.iface 166 (.pointer (some a))) := by
  obtain ⟨a, s⟩ := sent1 (n := "gristmill/api.ErrClose") (text := [97, 32, 98, 114, 97, 99, 107, 101, 116, 32, 116, 104, 97, 116, 32, 119, 97, 115, 32, 110, 111, 116, 32, 111, 112, 101, 110, 101, 100]) (laid_drop 12 h) (g := 10) (by kernel_rfl) (by kernel_rfl)
  obtain ⟨u, k, h4⟩ := obsDeep_var (n := "gristmill/api.ErrClose") (g := 10) (by kernel_rfl) s.1
  exact ⟨a, by simp [World.cell?, h4]⟩
theorem obsDeep_c_ErrForm {W : World} (h : laidMet Tryz.prog Rows.obsDeepRow.laid W) : ∃ a, W.cell? ⟨0, 0, none⟩ = some (.iface 166 (.pointer (some a))) := by
  obtain ⟨a, s⟩ := sent1 (n := "gristmill/api.ErrForm") (text := [110, 111, 32, 115, 117, 99, 104, 32, 102, 111, 114, 109]) (laid_drop 13 h) (g := 0) (by kernel_rfl) (by kernel_rfl)
  obtain ⟨u, k, h4⟩ := obsDeep_var (n := "gristmill/api.ErrForm") (g := 0) (by kernel_rfl) s.1
  exact ⟨a, by simp [World.cell?, h4]⟩
theorem obsDeep_c_ErrName {W : World} (h : laidMet Tryz.prog Rows.obsDeepRow.laid W) : ∃ a, W.cell? ⟨11, 0, none⟩ = some (.iface 166 (.pointer (some a))) := by
  obtain ⟨a, s⟩ := sent1 (n := "gristmill/api.ErrName") (text := [110, 111, 116, 32, 97, 32, 110, 97, 109, 101]) (laid_drop 14 h) (g := 11) (by kernel_rfl) (by kernel_rfl)
  obtain ⟨u, k, h4⟩ := obsDeep_var (n := "gristmill/api.ErrName") (g := 11) (by kernel_rfl) s.1
  exact ⟨a, by simp [World.cell?, h4]⟩
theorem obsDeep_c_ErrTwice {W : World} (h : laidMet Tryz.prog Rows.obsDeepRow.laid W) : ∃ a, W.cell? ⟨12, 0, none⟩ = some (.iface 166 (.pointer (some a))) := by
  obtain ⟨a, s⟩ := sent1 (n := "gristmill/api.ErrTwice") (text := [116, 104, 101, 114, 101, 32, 105, 115, 32, 111, 110, 101]) (laid_drop 15 h) (g := 12) (by kernel_rfl) (by kernel_rfl)
  obtain ⟨u, k, h4⟩ := obsDeep_var (n := "gristmill/api.ErrTwice") (g := 12) (by kernel_rfl) s.1
  exact ⟨a, by simp [World.cell?, h4]⟩
theorem obsDeep_c_ErrNone {W : World} (h : laidMet Tryz.prog Rows.obsDeepRow.laid W) : ∃ a, W.cell? ⟨13, 0, none⟩ = some (.iface 166 (.pointer (some a))) := by
  obtain ⟨a, s⟩ := sent1 (n := "gristmill/api.ErrNone") (text := [116, 104, 101, 114, 101, 32, 105, 115, 32, 110, 111, 110, 101]) (laid_drop 16 h) (g := 13) (by kernel_rfl) (by kernel_rfl)
  obtain ⟨u, k, h4⟩ := obsDeep_var (n := "gristmill/api.ErrNone") (g := 13) (by kernel_rfl) s.1
  exact ⟨a, by simp [World.cell?, h4]⟩
theorem obsDeep_c_ErrArity {W : World} (h : laidMet Tryz.prog Rows.obsDeepRow.laid W) : ∃ a, W.cell? ⟨14, 0, none⟩ = some (.iface 166 (.pointer (some a))) := by
  obtain ⟨a, s⟩ := sent1 (n := "gristmill/api.ErrArity") (text := [110, 111, 116, 32, 97, 115, 32, 109, 97, 110, 121, 32, 97, 115, 32, 105, 116, 32, 116, 97, 107, 101, 115]) (laid_drop 17 h) (g := 14) (by kernel_rfl) (by kernel_rfl)
  obtain ⟨u, k, h4⟩ := obsDeep_var (n := "gristmill/api.ErrArity") (g := 14) (by kernel_rfl) s.1
  exact ⟨a, by simp [World.cell?, h4]⟩
theorem obsDeep_c_ErrMain {W : World} (h : laidMet Tryz.prog Rows.obsDeepRow.laid W) : ∃ a, W.cell? ⟨15, 0, none⟩ = some (.iface 166 (.pointer (some a))) := by
  obtain ⟨a, s⟩ := sent1 (n := "gristmill/api.ErrMain") (text := [110, 111, 32, 109, 97, 105, 110, 32, 119, 105, 116, 104, 111, 117, 116, 32, 112, 97, 114, 97, 109, 101, 116, 101, 114, 115]) (laid_drop 18 h) (g := 15) (by kernel_rfl) (by kernel_rfl)
  obtain ⟨u, k, h4⟩ := obsDeep_var (n := "gristmill/api.ErrMain") (g := 15) (by kernel_rfl) s.1
  exact ⟨a, by simp [World.cell?, h4]⟩
theorem obsDeep_c_ErrType {W : World} (h : laidMet Tryz.prog Rows.obsDeepRow.laid W) : ∃ a, W.cell? ⟨16, 0, none⟩ = some (.iface 166 (.pointer (some a))) := by
  obtain ⟨a, s⟩ := sent1 (n := "gristmill/api.ErrType") (text := [105, 116, 32, 104, 97, 115, 32, 110, 111, 32, 116, 121, 112, 101]) (laid_drop 19 h) (g := 16) (by kernel_rfl) (by kernel_rfl)
  obtain ⟨u, k, h4⟩ := obsDeep_var (n := "gristmill/api.ErrType") (g := 16) (by kernel_rfl) s.1
  exact ⟨a, by simp [World.cell?, h4]⟩
theorem obsDeep_c_ErrBound {W : World} (h : laidMet Tryz.prog Rows.obsDeepRow.laid W) : ∃ a, W.cell? ⟨17, 0, none⟩ = some (.iface 166 (.pointer (some a))) := by
  obtain ⟨a, s⟩ := sent1 (n := "gristmill/api.ErrBound") (text := [110, 111, 116, 32, 98, 111, 117, 110, 100, 44, 32, 111, 114, 32, 98, 111, 117, 110, 100, 32, 116, 119, 105, 99, 101]) (laid_drop 20 h) (g := 17) (by kernel_rfl) (by kernel_rfl)
  obtain ⟨u, k, h4⟩ := obsDeep_var (n := "gristmill/api.ErrBound") (g := 17) (by kernel_rfl) s.1
  exact ⟨a, by simp [World.cell?, h4]⟩
theorem obsDeep_c_ErrTag {W : World} (h : laidMet Tryz.prog Rows.obsDeepRow.laid W) : ∃ a, W.cell? ⟨18, 0, none⟩ = some (.iface 166 (.pointer (some a))) := by
  obtain ⟨a, s⟩ := sent1 (n := "gristmill/api.ErrTag") (text := [110, 111, 116, 32, 111, 102, 32, 116, 104, 97, 116, 32, 116, 97, 103]) (laid_drop 21 h) (g := 18) (by kernel_rfl) (by kernel_rfl)
  obtain ⟨u, k, h4⟩ := obsDeep_var (n := "gristmill/api.ErrTag") (g := 18) (by kernel_rfl) s.1
  exact ⟨a, by simp [World.cell?, h4]⟩
theorem obsDeep_c_ErrWord {W : World} (h : laidMet Tryz.prog Rows.obsDeepRow.laid W) : ∃ a, W.cell? ⟨19, 0, none⟩ = some (.iface 166 (.pointer (some a))) := by
  obtain ⟨a, s⟩ := sent1 (n := "gristmill/api.ErrWord") (text := [110, 111, 32, 115, 117, 99, 104, 32, 119, 111, 114, 100]) (laid_drop 22 h) (g := 19) (by kernel_rfl) (by kernel_rfl)
  obtain ⟨u, k, h4⟩ := obsDeep_var (n := "gristmill/api.ErrWord") (g := 19) (by kernel_rfl) s.1
  exact ⟨a, by simp [World.cell?, h4]⟩
theorem obsDeep_c_ErrNumber {W : World} (h : laidMet Tryz.prog Rows.obsDeepRow.laid W) : ∃ a, W.cell? ⟨3, 0, none⟩ = some (.iface 166 (.pointer (some a))) := by
  obtain ⟨a, s⟩ := sent1 (n := "gristmill/api.ErrNumber") (text := [110, 111, 116, 32, 97, 32, 110, 117, 109, 98, 101, 114]) (laid_drop 23 h) (g := 3) (by kernel_rfl) (by kernel_rfl)
  obtain ⟨u, k, h4⟩ := obsDeep_var (n := "gristmill/api.ErrNumber") (g := 3) (by kernel_rfl) s.1
  exact ⟨a, by simp [World.cell?, h4]⟩
end Go.Proofs.YtibofjdnkldddaaGreatDoor
