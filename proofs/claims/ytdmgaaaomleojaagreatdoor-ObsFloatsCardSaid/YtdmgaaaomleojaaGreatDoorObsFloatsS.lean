/- ObsFloats: where the call begins: what the listed variables' condition says of memory. Conditions: the listed variables read as start-up lays them. -/
import Derived.Test.YtdmgaaaomleojaaGreatDoorExD
import Derived.Test.YtdmgaaaomleojaaGreatDoorSent
import Derived.Test.YtdmgaaaomleojaaGreatDoorFlat
import Derived.Test.YtdmgaaaomleojaaGreatDoorTie
import Derived.Test.YtdmgaaaomleojaaGreatDoorCards
import Derived.LaidMore
import Derived.OpenShut
namespace Go.Proofs.YtdmgaaaomleojaaGreatDoor
open Go.Ex
def obsFloats_errs : Errs := [(7, [118, 97, 108, 117, 101, 32, 111, 117, 116, 32, 111, 102, 32, 114, 97, 110, 103, 101]), (6, [105, 110, 118, 97, 108, 105, 100, 32, 115, 121, 110, 116, 97, 120]), (0, [110, 111, 32, 115, 117, 99, 104, 32, 102, 111, 114, 109]), (3, [110, 111, 116, 32, 97, 32, 110, 117, 109, 98, 101, 114])]
def obsFloats_tabs : GS := [(10, [.int .u8 0, .int .u8 1, .int .u8 28, .int .u8 2, .int .u8 29, .int .u8 14, .int .u8 24, .int .u8 3, .int .u8 30, .int .u8 22, .int .u8 20, .int .u8 15, .int .u8 25, .int .u8 17, .int .u8 4, .int .u8 8, .int .u8 31, .int .u8 27, .int .u8 13, .int .u8 23, .int .u8 21, .int .u8 19, .int .u8 16, .int .u8 7, .int .u8 26, .int .u8 12, .int .u8 18, .int .u8 6, .int .u8 11, .int .u8 5, .int .u8 10, .int .u8 9]), (4, [.int .u8 0, .int .u8 1, .int .u8 56, .int .u8 2, .int .u8 57, .int .u8 49, .int .u8 28, .int .u8 3, .int .u8 61, .int .u8 58, .int .u8 42, .int .u8 50, .int .u8 38, .int .u8 29, .int .u8 17, .int .u8 4, .int .u8 62, .int .u8 47, .int .u8 59, .int .u8 36, .int .u8 45, .int .u8 43, .int .u8 51, .int .u8 22, .int .u8 53, .int .u8 39, .int .u8 33, .int .u8 30, .int .u8 24, .int .u8 18, .int .u8 12, .int .u8 5, .int .u8 63, .int .u8 55, .int .u8 48, .int .u8 27, .int .u8 60, .int .u8 41, .int .u8 37, .int .u8 16, .int .u8 46, .int .u8 35, .int .u8 44, .int .u8 21, .int .u8 52, .int .u8 32, .int .u8 23, .int .u8 11, .int .u8 54, .int .u8 26, .int .u8 40, .int .u8 15, .int .u8 34, .int .u8 20, .int .u8 31, .int .u8 10, .int .u8 25, .int .u8 14, .int .u8 19, .int .u8 9, .int .u8 13, .int .u8 8, .int .u8 7, .int .u8 6]), (5, [.int .u64 1, .int .u64 10, .int .u64 100, .int .u64 1000, .int .u64 10000, .int .u64 100000, .int .u64 1000000, .int .u64 10000000, .int .u64 100000000, .int .u64 1000000000, .int .u64 10000000000, .int .u64 100000000000, .int .u64 1000000000000, .int .u64 10000000000000, .int .u64 100000000000000, .int .u64 1000000000000000, .int .u64 10000000000000000, .int .u64 100000000000000000, .int .u64 1000000000000000000, .int .u64 10000000000000000000]), (9, [.int .u8 128, .int .u8 191, .int .u8 160, .int .u8 191, .int .u8 128, .int .u8 159, .int .u8 144, .int .u8 191, .int .u8 128, .int .u8 143, .int .u8 0, .int .u8 0, .int .u8 0, .int .u8 0, .int .u8 0, .int .u8 0, .int .u8 0, .int .u8 0, .int .u8 0, .int .u8 0, .int .u8 0, .int .u8 0, .int .u8 0, .int .u8 0, .int .u8 0, .int .u8 0, .int .u8 0, .int .u8 0, .int .u8 0, .int .u8 0, .int .u8 0, .int .u8 0])]
theorem obsFloats_var {W : World} {n : String} {g : Nat} {cs : Array Value} (hg : Tryz.prog.globalNamed n = some g) (h : W.var? Tryz.prog n = some cs) : ∃ u k, W.heap[g]? = some (.cells cs u k) := by
  unfold World.var? at h
  rw [hg] at h
  simp only [Option.bind_some] at h
  split at h
  · rename_i c u k hc; simp at h; subst h; exact ⟨u, k, hc⟩
  · simp at h
theorem obsFloats_err {W : World} {n : String} {g : Nat} {t : List UInt8} {a : Addr} (hg : Tryz.prog.globalNamed n = some g) (h : SentAt n t a W) : ErrAt W 147 g t a := by
  obtain ⟨h1, h2, h3⟩ := h
  obtain ⟨u, k, h4⟩ := obsFloats_var hg h1
  exact ⟨⟨_, u, k, h4, rfl⟩, h2, h3⟩
theorem obsFloats_starts {W : World} (h : laidMet Tryz.prog Rows.obsFloatsRow.laid W) (sy : Nat → Value) : ∃ size ea ez, Starts sy (gsFrom 147 obsFloats_tabs 1024 obsFloats_errs) (esFrom 1024 obsFloats_errs) W size ea ez := by
  obtain ⟨a0, s0⟩ := sent1 (n := "strconv.ErrRange") (text := [118, 97, 108, 117, 101, 32, 111, 117, 116, 32, 111, 102, 32, 114, 97, 110, 103, 101]) (laid_drop 4 h) (g := 7) (by kernel_rfl) (by kernel_rfl)
  obtain ⟨a1, s1⟩ := sent1 (n := "strconv.ErrSyntax") (text := [105, 110, 118, 97, 108, 105, 100, 32, 115, 121, 110, 116, 97, 120]) (laid_drop 5 h) (g := 6) (by kernel_rfl) (by kernel_rfl)
  obtain ⟨a2, s2⟩ := sent1 (n := "gristmill/api.ErrForm") (text := [110, 111, 32, 115, 117, 99, 104, 32, 102, 111, 114, 109]) (laid_drop 6 h) (g := 0) (by kernel_rfl) (by kernel_rfl)
  obtain ⟨a3, s3⟩ := sent1 (n := "gristmill/api.ErrNumber") (text := [110, 111, 116, 32, 97, 32, 110, 117, 109, 98, 101, 114]) (laid_drop 7 h) (g := 3) (by kernel_rfl) (by kernel_rfl)
  have t0 := cells_of_head (n := 4) (t := 150) (vs := [.int .u8 0, .int .u8 1, .int .u8 28, .int .u8 2, .int .u8 29, .int .u8 14, .int .u8 24, .int .u8 3, .int .u8 30, .int .u8 22, .int .u8 20, .int .u8 15, .int .u8 25, .int .u8 17, .int .u8 4, .int .u8 8, .int .u8 31, .int .u8 27, .int .u8 13, .int .u8 23, .int .u8 21, .int .u8 19, .int .u8 16, .int .u8 7, .int .u8 26, .int .u8 12, .int .u8 18, .int .u8 6, .int .u8 11, .int .u8 5, .int .u8 10, .int .u8 9]) (show Tryz.prog.globalNamed "math/bits.deBruijn32tab" = some 10 by kernel_rfl) (by kernel_rfl) (by kernel_rfl) (by kernel_rfl) (laid_drop 0 h)
  have t1 := cells_of_head (n := 4) (t := 124) (vs := [.int .u8 0, .int .u8 1, .int .u8 56, .int .u8 2, .int .u8 57, .int .u8 49, .int .u8 28, .int .u8 3, .int .u8 61, .int .u8 58, .int .u8 42, .int .u8 50, .int .u8 38, .int .u8 29, .int .u8 17, .int .u8 4, .int .u8 62, .int .u8 47, .int .u8 59, .int .u8 36, .int .u8 45, .int .u8 43, .int .u8 51, .int .u8 22, .int .u8 53, .int .u8 39, .int .u8 33, .int .u8 30, .int .u8 24, .int .u8 18, .int .u8 12, .int .u8 5, .int .u8 63, .int .u8 55, .int .u8 48, .int .u8 27, .int .u8 60, .int .u8 41, .int .u8 37, .int .u8 16, .int .u8 46, .int .u8 35, .int .u8 44, .int .u8 21, .int .u8 52, .int .u8 32, .int .u8 23, .int .u8 11, .int .u8 54, .int .u8 26, .int .u8 40, .int .u8 15, .int .u8 34, .int .u8 20, .int .u8 31, .int .u8 10, .int .u8 25, .int .u8 14, .int .u8 19, .int .u8 9, .int .u8 13, .int .u8 8, .int .u8 7, .int .u8 6]) (show Tryz.prog.globalNamed "math/bits.deBruijn64tab" = some 4 by kernel_rfl) (by kernel_rfl) (by kernel_rfl) (by kernel_rfl) (laid_drop 1 h)
  have t2 := cells_of_head (n := 4) (t := 131) (vs := [.int .u64 1, .int .u64 10, .int .u64 100, .int .u64 1000, .int .u64 10000, .int .u64 100000, .int .u64 1000000, .int .u64 10000000, .int .u64 100000000, .int .u64 1000000000, .int .u64 10000000000, .int .u64 100000000000, .int .u64 1000000000000, .int .u64 10000000000000, .int .u64 100000000000000, .int .u64 1000000000000000, .int .u64 10000000000000000, .int .u64 100000000000000000, .int .u64 1000000000000000000, .int .u64 10000000000000000000]) (show Tryz.prog.globalNamed "internal/strconv.uint64pow10" = some 5 by kernel_rfl) (by kernel_rfl) (by kernel_rfl) (by kernel_rfl) (laid_drop 2 h)
  have t3 := cells_of_head (n := 4) (t := 145) (vs := [.int .u8 128, .int .u8 191, .int .u8 160, .int .u8 191, .int .u8 128, .int .u8 159, .int .u8 144, .int .u8 191, .int .u8 128, .int .u8 143, .int .u8 0, .int .u8 0, .int .u8 0, .int .u8 0, .int .u8 0, .int .u8 0, .int .u8 0, .int .u8 0, .int .u8 0, .int .u8 0, .int .u8 0, .int .u8 0, .int .u8 0, .int .u8 0, .int .u8 0, .int .u8 0, .int .u8 0, .int .u8 0, .int .u8 0, .int .u8 0, .int .u8 0, .int .u8 0]) (show Tryz.prog.globalNamed "unicode/utf8.acceptRanges" = some 9 by kernel_rfl) (by kernel_rfl) (by kernel_rfl) (by kernel_rfl) (laid_drop 3 h)
  refine starts_of (by decide) (by decide) (by decide) (by decide) (by decide +kernel) ?_ ?_
  · intro x hx
    simp only [obsFloats_errs, List.mem_cons, List.not_mem_nil, or_false] at hx
    rcases hx with rfl | rfl | rfl | rfl
    · exact ⟨a0, obsFloats_err (n := "strconv.ErrRange") (by kernel_rfl) s0⟩
    · exact ⟨a1, obsFloats_err (n := "strconv.ErrSyntax") (by kernel_rfl) s1⟩
    · exact ⟨a2, obsFloats_err (n := "gristmill/api.ErrForm") (by kernel_rfl) s2⟩
    · exact ⟨a3, obsFloats_err (n := "gristmill/api.ErrNumber") (by kernel_rfl) s3⟩
  · intro x hx
    simp only [obsFloats_tabs, List.mem_cons, List.not_mem_nil, or_false] at hx
    rcases hx with rfl | rfl | rfl | rfl
    · obtain ⟨u, k, e⟩ := obsFloats_var (n := "math/bits.deBruijn32tab") (by kernel_rfl) t0; exact ⟨_, u, k, e, .inl rfl⟩
    · obtain ⟨u, k, e⟩ := obsFloats_var (n := "math/bits.deBruijn64tab") (by kernel_rfl) t1; exact ⟨_, u, k, e, .inl rfl⟩
    · obtain ⟨u, k, e⟩ := obsFloats_var (n := "internal/strconv.uint64pow10") (by kernel_rfl) t2; exact ⟨_, u, k, e, .inl rfl⟩
    · obtain ⟨u, k, e⟩ := obsFloats_var (n := "unicode/utf8.acceptRanges") (by kernel_rfl) t3; exact ⟨_, u, k, e, .inl rfl⟩
theorem obsFloats_c_strconv_ErrRange {W : World} (h : laidMet Tryz.prog Rows.obsFloatsRow.laid W) : ∃ a, W.cell? ⟨7, 0, none⟩ = some (.iface 147 (.pointer (some a))) := by
  obtain ⟨a, s⟩ := sent1 (n := "strconv.ErrRange") (text := [118, 97, 108, 117, 101, 32, 111, 117, 116, 32, 111, 102, 32, 114, 97, 110, 103, 101]) (laid_drop 4 h) (g := 7) (by kernel_rfl) (by kernel_rfl)
  obtain ⟨u, k, h4⟩ := obsFloats_var (n := "strconv.ErrRange") (g := 7) (by kernel_rfl) s.1
  exact ⟨a, by simp [World.cell?, h4]⟩
theorem obsFloats_c_strconv_ErrSyntax {W : World} (h : laidMet Tryz.prog Rows.obsFloatsRow.laid W) : ∃ a, W.cell? ⟨6, 0, none⟩ = some (.iface 147 (.pointer (some a))) := by
  obtain ⟨a, s⟩ := sent1 (n := "strconv.ErrSyntax") (text := [105, 110, 118, 97, 108, 105, 100, 32, 115, 121, 110, 116, 97, 120]) (laid_drop 5 h) (g := 6) (by kernel_rfl) (by kernel_rfl)
  obtain ⟨u, k, h4⟩ := obsFloats_var (n := "strconv.ErrSyntax") (g := 6) (by kernel_rfl) s.1
  exact ⟨a, by simp [World.cell?, h4]⟩
theorem obsFloats_c_ErrForm {W : World} (h : laidMet Tryz.prog Rows.obsFloatsRow.laid W) : ∃ a, W.cell? ⟨0, 0, none⟩ = some (.iface 147 (.pointer (some a))) := by
  obtain ⟨a, s⟩ := sent1 (n := "gristmill/api.ErrForm") (text := [110, 111, 32, 115, 117, 99, 104, 32, 102, 111, 114, 109]) (laid_drop 6 h) (g := 0) (by kernel_rfl) (by kernel_rfl)
  obtain ⟨u, k, h4⟩ := obsFloats_var (n := "gristmill/api.ErrForm") (g := 0) (by kernel_rfl) s.1
  exact ⟨a, by simp [World.cell?, h4]⟩
theorem obsFloats_c_ErrNumber {W : World} (h : laidMet Tryz.prog Rows.obsFloatsRow.laid W) : ∃ a, W.cell? ⟨3, 0, none⟩ = some (.iface 147 (.pointer (some a))) := by
  obtain ⟨a, s⟩ := sent1 (n := "gristmill/api.ErrNumber") (text := [110, 111, 116, 32, 97, 32, 110, 117, 109, 98, 101, 114]) (laid_drop 7 h) (g := 3) (by kernel_rfl) (by kernel_rfl)
  obtain ⟨u, k, h4⟩ := obsFloats_var (n := "gristmill/api.ErrNumber") (g := 3) (by kernel_rfl) s.1
  exact ⟨a, by simp [World.cell?, h4]⟩
end Go.Proofs.YtdmgaaaomleojaaGreatDoor
