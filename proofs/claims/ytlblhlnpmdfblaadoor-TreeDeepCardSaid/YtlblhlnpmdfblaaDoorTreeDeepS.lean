/- TreeDeep: where the call begins: what the listed variables' condition says of memory. Conditions: the listed variables read as start-up lays them. -/
import Derived.Test.YtlblhlnpmdfblaaDoorExD
import Derived.Test.YtlblhlnpmdfblaaDoorSent
import Derived.Test.YtlblhlnpmdfblaaDoorFlat
import Derived.Test.YtlblhlnpmdfblaaDoorTie
import Derived.Test.YtlblhlnpmdfblaaDoorCards
import Derived.LaidMore
import Derived.OpenShut
namespace Go.Proofs.YtlblhlnpmdfblaaDoor
open Go.Ex
def treeDeep_errs : Errs := [(4, [105, 116, 32, 101, 110, 100, 115, 32, 116, 111, 111, 32, 101, 97, 114, 108, 121]), (5, [110, 111, 116, 32, 97, 115, 32, 105, 116, 32, 104, 97, 115, 32, 116, 111, 32, 98, 101]), (6, [97, 32, 110, 117, 109, 98, 101, 114, 32, 111, 117, 116, 32, 111, 102, 32, 105, 116, 115, 32, 114, 97, 110, 103, 101]), (0, [116, 111, 111, 32, 109, 97, 110, 121]), (2, [116, 111, 111, 32, 100, 101, 101, 112]), (1, [97, 32, 98, 114, 97, 99, 107, 101, 116, 32, 116, 104, 97, 116, 32, 105, 115, 32, 110, 111, 116, 32, 99, 108, 111, 115, 101, 100]), (3, [97, 32, 98, 114, 97, 99, 107, 101, 116, 32, 116, 104, 97, 116, 32, 119, 97, 115, 32, 110, 111, 116, 32, 111, 112, 101, 110, 101, 100]), (7, [110, 111, 32, 115, 117, 99, 104, 32, 102, 111, 114, 109]), (8, [110, 111, 116, 32, 97, 32, 110, 97, 109, 101]), (9, [116, 104, 101, 114, 101, 32, 105, 115, 32, 111, 110, 101]), (10, [116, 104, 101, 114, 101, 32, 105, 115, 32, 110, 111, 110, 101]), (11, [110, 111, 116, 32, 97, 115, 32, 109, 97, 110, 121, 32, 97, 115, 32, 105, 116, 32, 116, 97, 107, 101, 115]), (12, [110, 111, 32, 109, 97, 105, 110, 32, 119, 105, 116, 104, 111, 117, 116, 32, 112, 97, 114, 97, 109, 101, 116, 101, 114, 115]), (13, [105, 116, 32, 104, 97, 115, 32, 110, 111, 32, 116, 121, 112, 101]), (14, [110, 111, 116, 32, 98, 111, 117, 110, 100, 44, 32, 111, 114, 32, 98, 111, 117, 110, 100, 32, 116, 119, 105, 99, 101]), (15, [110, 111, 116, 32, 111, 102, 32, 116, 104, 97, 116, 32, 116, 97, 103]), (16, [110, 111, 32, 115, 117, 99, 104, 32, 119, 111, 114, 100]), (17, [110, 111, 116, 32, 97, 32, 110, 117, 109, 98, 101, 114])]
def treeDeep_tabs : GS := []
theorem treeDeep_var {W : World} {n : String} {g : Nat} {cs : Array Value} (hg : Tryd.prog.globalNamed n = some g) (h : W.var? Tryd.prog n = some cs) : ∃ u k, W.heap[g]? = some (.cells cs u k) := by
  unfold World.var? at h
  rw [hg] at h
  simp only [Option.bind_some] at h
  split at h
  · rename_i c u k hc; simp at h; subst h; exact ⟨u, k, hc⟩
  · simp at h
theorem treeDeep_err {W : World} {n : String} {g : Nat} {t : List UInt8} {a : Addr} (hg : Tryd.prog.globalNamed n = some g) (h : SentAt n t a W) : ErrAt W 82 g t a := by
  obtain ⟨h1, h2, h3⟩ := h
  obtain ⟨u, k, h4⟩ := treeDeep_var hg h1
  exact ⟨⟨_, u, k, h4, rfl⟩, h2, h3⟩
theorem treeDeep_starts {W : World} (h : laidMet Tryd.prog Rows.treeDeepRow.laid W) (sy : Nat → Value) : ∃ size ea ez, Starts sy (gsFrom 82 treeDeep_tabs 1024 treeDeep_errs) (esFrom 1024 treeDeep_errs) W size ea ez := by
  obtain ⟨a0, s0⟩ := sent1 (n := "gristmill/api.ErrEnd") (text := [105, 116, 32, 101, 110, 100, 115, 32, 116, 111, 111, 32, 101, 97, 114, 108, 121]) (laid_drop 0 h) (g := 4) (by kernel_rfl) (by kernel_rfl)
  obtain ⟨a1, s1⟩ := sent1 (n := "gristmill/api.ErrShape") (text := [110, 111, 116, 32, 97, 115, 32, 105, 116, 32, 104, 97, 115, 32, 116, 111, 32, 98, 101]) (laid_drop 1 h) (g := 5) (by kernel_rfl) (by kernel_rfl)
  obtain ⟨a2, s2⟩ := sent1 (n := "gristmill/api.ErrRange") (text := [97, 32, 110, 117, 109, 98, 101, 114, 32, 111, 117, 116, 32, 111, 102, 32, 105, 116, 115, 32, 114, 97, 110, 103, 101]) (laid_drop 2 h) (g := 6) (by kernel_rfl) (by kernel_rfl)
  obtain ⟨a3, s3⟩ := sent1 (n := "gristmill/api.ErrMany") (text := [116, 111, 111, 32, 109, 97, 110, 121]) (laid_drop 3 h) (g := 0) (by kernel_rfl) (by kernel_rfl)
  obtain ⟨a4, s4⟩ := sent1 (n := "gristmill/api.ErrDeep") (text := [116, 111, 111, 32, 100, 101, 101, 112]) (laid_drop 4 h) (g := 2) (by kernel_rfl) (by kernel_rfl)
  obtain ⟨a5, s5⟩ := sent1 (n := "gristmill/api.ErrOpen") (text := [97, 32, 98, 114, 97, 99, 107, 101, 116, 32, 116, 104, 97, 116, 32, 105, 115, 32, 110, 111, 116, 32, 99, 108, 111, 115, 101, 100]) (laid_drop 5 h) (g := 1) (by kernel_rfl) (by kernel_rfl)
  obtain ⟨a6, s6⟩ := sent1 (n := "gristmill/api.ErrClose") (text := [97, 32, 98, 114, 97, 99, 107, 101, 116, 32, 116, 104, 97, 116, 32, 119, 97, 115, 32, 110, 111, 116, 32, 111, 112, 101, 110, 101, 100]) (laid_drop 6 h) (g := 3) (by kernel_rfl) (by kernel_rfl)
  obtain ⟨a7, s7⟩ := sent1 (n := "gristmill/api.ErrForm") (text := [110, 111, 32, 115, 117, 99, 104, 32, 102, 111, 114, 109]) (laid_drop 7 h) (g := 7) (by kernel_rfl) (by kernel_rfl)
  obtain ⟨a8, s8⟩ := sent1 (n := "gristmill/api.ErrName") (text := [110, 111, 116, 32, 97, 32, 110, 97, 109, 101]) (laid_drop 8 h) (g := 8) (by kernel_rfl) (by kernel_rfl)
  obtain ⟨a9, s9⟩ := sent1 (n := "gristmill/api.ErrTwice") (text := [116, 104, 101, 114, 101, 32, 105, 115, 32, 111, 110, 101]) (laid_drop 9 h) (g := 9) (by kernel_rfl) (by kernel_rfl)
  obtain ⟨a10, s10⟩ := sent1 (n := "gristmill/api.ErrNone") (text := [116, 104, 101, 114, 101, 32, 105, 115, 32, 110, 111, 110, 101]) (laid_drop 10 h) (g := 10) (by kernel_rfl) (by kernel_rfl)
  obtain ⟨a11, s11⟩ := sent1 (n := "gristmill/api.ErrArity") (text := [110, 111, 116, 32, 97, 115, 32, 109, 97, 110, 121, 32, 97, 115, 32, 105, 116, 32, 116, 97, 107, 101, 115]) (laid_drop 11 h) (g := 11) (by kernel_rfl) (by kernel_rfl)
  obtain ⟨a12, s12⟩ := sent1 (n := "gristmill/api.ErrMain") (text := [110, 111, 32, 109, 97, 105, 110, 32, 119, 105, 116, 104, 111, 117, 116, 32, 112, 97, 114, 97, 109, 101, 116, 101, 114, 115]) (laid_drop 12 h) (g := 12) (by kernel_rfl) (by kernel_rfl)
  obtain ⟨a13, s13⟩ := sent1 (n := "gristmill/api.ErrType") (text := [105, 116, 32, 104, 97, 115, 32, 110, 111, 32, 116, 121, 112, 101]) (laid_drop 13 h) (g := 13) (by kernel_rfl) (by kernel_rfl)
  obtain ⟨a14, s14⟩ := sent1 (n := "gristmill/api.ErrBound") (text := [110, 111, 116, 32, 98, 111, 117, 110, 100, 44, 32, 111, 114, 32, 98, 111, 117, 110, 100, 32, 116, 119, 105, 99, 101]) (laid_drop 14 h) (g := 14) (by kernel_rfl) (by kernel_rfl)
  obtain ⟨a15, s15⟩ := sent1 (n := "gristmill/api.ErrTag") (text := [110, 111, 116, 32, 111, 102, 32, 116, 104, 97, 116, 32, 116, 97, 103]) (laid_drop 15 h) (g := 15) (by kernel_rfl) (by kernel_rfl)
  obtain ⟨a16, s16⟩ := sent1 (n := "gristmill/api.ErrWord") (text := [110, 111, 32, 115, 117, 99, 104, 32, 119, 111, 114, 100]) (laid_drop 16 h) (g := 16) (by kernel_rfl) (by kernel_rfl)
  obtain ⟨a17, s17⟩ := sent1 (n := "gristmill/api.ErrNumber") (text := [110, 111, 116, 32, 97, 32, 110, 117, 109, 98, 101, 114]) (laid_drop 17 h) (g := 17) (by kernel_rfl) (by kernel_rfl)
  refine starts_of (by decide) (by decide) (by decide) (by decide) (by decide +kernel) ?_ ?_
  · intro x hx
    simp only [treeDeep_errs, List.mem_cons, List.not_mem_nil, or_false] at hx
    rcases hx with rfl | rfl | rfl | rfl | rfl | rfl | rfl | rfl | rfl | rfl | rfl | rfl | rfl | rfl | rfl | rfl | rfl | rfl
    · exact ⟨a0, treeDeep_err (n := "gristmill/api.ErrEnd") (by kernel_rfl) s0⟩
    · exact ⟨a1, treeDeep_err (n := "gristmill/api.ErrShape") (by kernel_rfl) s1⟩
    · exact ⟨a2, treeDeep_err (n := "gristmill/api.ErrRange") (by kernel_rfl) s2⟩
    · exact ⟨a3, treeDeep_err (n := "gristmill/api.ErrMany") (by kernel_rfl) s3⟩
    · exact ⟨a4, treeDeep_err (n := "gristmill/api.ErrDeep") (by kernel_rfl) s4⟩
    · exact ⟨a5, treeDeep_err (n := "gristmill/api.ErrOpen") (by kernel_rfl) s5⟩
    · exact ⟨a6, treeDeep_err (n := "gristmill/api.ErrClose") (by kernel_rfl) s6⟩
    · exact ⟨a7, treeDeep_err (n := "gristmill/api.ErrForm") (by kernel_rfl) s7⟩
    · exact ⟨a8, treeDeep_err (n := "gristmill/api.ErrName") (by kernel_rfl) s8⟩
    · exact ⟨a9, treeDeep_err (n := "gristmill/api.ErrTwice") (by kernel_rfl) s9⟩
    · exact ⟨a10, treeDeep_err (n := "gristmill/api.ErrNone") (by kernel_rfl) s10⟩
    · exact ⟨a11, treeDeep_err (n := "gristmill/api.ErrArity") (by kernel_rfl) s11⟩
    · exact ⟨a12, treeDeep_err (n := "gristmill/api.ErrMain") (by kernel_rfl) s12⟩
    · exact ⟨a13, treeDeep_err (n := "gristmill/api.ErrType") (by kernel_rfl) s13⟩
    · exact ⟨a14, treeDeep_err (n := "gristmill/api.ErrBound") (by kernel_rfl) s14⟩
    · exact ⟨a15, treeDeep_err (n := "gristmill/api.ErrTag") (by kernel_rfl) s15⟩
    · exact ⟨a16, treeDeep_err (n := "gristmill/api.ErrWord") (by kernel_rfl) s16⟩
    · exact ⟨a17, treeDeep_err (n := "gristmill/api.ErrNumber") (by kernel_rfl) s17⟩
  · intro x hx
    simp [treeDeep_tabs] at hx
end Go.Proofs.YtlblhlnpmdfblaaDoor
