/- TreeWraps: where the call begins: what the listed variables' condition says of memory. Conditions: the listed variables read as start-up lays them. -/
import Derived.Test.YtlblhlnpmdfblaaDoorExD
import Derived.Test.YtlblhlnpmdfblaaDoorSent
import Derived.Test.YtlblhlnpmdfblaaDoorFlat
import Derived.Test.YtlblhlnpmdfblaaDoorTie
import Derived.Test.YtlblhlnpmdfblaaDoorCards
import Derived.LaidMore
import Derived.OpenShut
namespace Go.Proofs.YtlblhlnpmdfblaaDoor
open Go.Ex
def treeWraps_errs : Errs := [(0, [116, 111, 111, 32, 109, 97, 110, 121]), (2, [116, 111, 111, 32, 100, 101, 101, 112]), (1, [97, 32, 98, 114, 97, 99, 107, 101, 116, 32, 116, 104, 97, 116, 32, 105, 115, 32, 110, 111, 116, 32, 99, 108, 111, 115, 101, 100]), (3, [97, 32, 98, 114, 97, 99, 107, 101, 116, 32, 116, 104, 97, 116, 32, 119, 97, 115, 32, 110, 111, 116, 32, 111, 112, 101, 110, 101, 100])]
def treeWraps_tabs : GS := []
theorem treeWraps_var {W : World} {n : String} {g : Nat} {cs : Array Value} (hg : Tryd.prog.globalNamed n = some g) (h : W.var? Tryd.prog n = some cs) : ∃ u k, W.heap[g]? = some (.cells cs u k) := by
  unfold World.var? at h
  rw [hg] at h
  simp only [Option.bind_some] at h
  split at h
  · rename_i c u k hc; simp at h; subst h; exact ⟨u, k, hc⟩
  · simp at h
theorem treeWraps_err {W : World} {n : String} {g : Nat} {t : List UInt8} {a : Addr} (hg : Tryd.prog.globalNamed n = some g) (h : SentAt n t a W) : ErrAt W 82 g t a := by
  obtain ⟨h1, h2, h3⟩ := h
  obtain ⟨u, k, h4⟩ := treeWraps_var hg h1
  exact ⟨⟨_, u, k, h4, rfl⟩, h2, h3⟩
theorem treeWraps_starts {W : World} (h : laidMet Tryd.prog Rows.treeWrapsRow.laid W) (sy : Nat → Value) : ∃ size ea ez, Starts sy (gsFrom 82 treeWraps_tabs 1024 treeWraps_errs) (esFrom 1024 treeWraps_errs) W size ea ez := by
  obtain ⟨a0, s0⟩ := sent1 (n := "gristmill/api.ErrMany") (text := [116, 111, 111, 32, 109, 97, 110, 121]) (laid_drop 0 h) (g := 0) (by kernel_rfl) (by kernel_rfl)
  obtain ⟨a1, s1⟩ := sent1 (n := "gristmill/api.ErrDeep") (text := [116, 111, 111, 32, 100, 101, 101, 112]) (laid_drop 1 h) (g := 2) (by kernel_rfl) (by kernel_rfl)
  obtain ⟨a2, s2⟩ := sent1 (n := "gristmill/api.ErrOpen") (text := [97, 32, 98, 114, 97, 99, 107, 101, 116, 32, 116, 104, 97, 116, 32, 105, 115, 32, 110, 111, 116, 32, 99, 108, 111, 115, 101, 100]) (laid_drop 2 h) (g := 1) (by kernel_rfl) (by kernel_rfl)
  obtain ⟨a3, s3⟩ := sent1 (n := "gristmill/api.ErrClose") (text := [97, 32, 98, 114, 97, 99, 107, 101, 116, 32, 116, 104, 97, 116, 32, 119, 97, 115, 32, 110, 111, 116, 32, 111, 112, 101, 110, 101, 100]) (laid_drop 3 h) (g := 3) (by kernel_rfl) (by kernel_rfl)
  refine starts_of (by decide) (by decide) (by decide) (by decide) (by decide +kernel) ?_ ?_
  · intro x hx
    simp only [treeWraps_errs, List.mem_cons, List.not_mem_nil, or_false] at hx
    rcases hx with rfl | rfl | rfl | rfl
    · exact ⟨a0, treeWraps_err (n := "gristmill/api.ErrMany") (by kernel_rfl) s0⟩
    · exact ⟨a1, treeWraps_err (n := "gristmill/api.ErrDeep") (by kernel_rfl) s1⟩
    · exact ⟨a2, treeWraps_err (n := "gristmill/api.ErrOpen") (by kernel_rfl) s2⟩
    · exact ⟨a3, treeWraps_err (n := "gristmill/api.ErrClose") (by kernel_rfl) s3⟩
  · intro x hx
    simp [treeWraps_tabs] at hx
theorem treeWraps_c_ErrMany {W : World} (h : laidMet Tryd.prog Rows.treeWrapsRow.laid W) : ∃ a, W.cell? ⟨0, 0, none⟩ = some (.iface 82 (.pointer (some a))) := by
  obtain ⟨a, s⟩ := sent1 (n := "gristmill/api.ErrMany") (text := [116, 111, 111, 32, 109, 97, 110, 121]) (laid_drop 0 h) (g := 0) (by kernel_rfl) (by kernel_rfl)
  obtain ⟨u, k, h4⟩ := treeWraps_var (n := "gristmill/api.ErrMany") (g := 0) (by kernel_rfl) s.1
  exact ⟨a, by simp [World.cell?, h4]⟩
theorem treeWraps_c_ErrDeep {W : World} (h : laidMet Tryd.prog Rows.treeWrapsRow.laid W) : ∃ a, W.cell? ⟨2, 0, none⟩ = some (.iface 82 (.pointer (some a))) := by
  obtain ⟨a, s⟩ := sent1 (n := "gristmill/api.ErrDeep") (text := [116, 111, 111, 32, 100, 101, 101, 112]) (laid_drop 1 h) (g := 2) (by kernel_rfl) (by kernel_rfl)
  obtain ⟨u, k, h4⟩ := treeWraps_var (n := "gristmill/api.ErrDeep") (g := 2) (by kernel_rfl) s.1
  exact ⟨a, by simp [World.cell?, h4]⟩
theorem treeWraps_c_ErrOpen {W : World} (h : laidMet Tryd.prog Rows.treeWrapsRow.laid W) : ∃ a, W.cell? ⟨1, 0, none⟩ = some (.iface 82 (.pointer (some a))) := by
  obtain ⟨a, s⟩ := sent1 (n := "gristmill/api.ErrOpen") (text := [97, 32, 98, 114, 97, 99, 107, 101, 116, 32, 116, 104, 97, 116, 32, 105, 115, 32, 110, 111, 116, 32, 99, 108, 111, 115, 101, 100]) (laid_drop 2 h) (g := 1) (by kernel_rfl) (by kernel_rfl)
  obtain ⟨u, k, h4⟩ := treeWraps_var (n := "gristmill/api.ErrOpen") (g := 1) (by kernel_rfl) s.1
  exact ⟨a, by simp [World.cell?, h4]⟩
theorem treeWraps_c_ErrClose {W : World} (h : laidMet Tryd.prog Rows.treeWrapsRow.laid W) : ∃ a, W.cell? ⟨3, 0, none⟩ = some (.iface 82 (.pointer (some a))) := by
  obtain ⟨a, s⟩ := sent1 (n := "gristmill/api.ErrClose") (text := [97, 32, 98, 114, 97, 99, 107, 101, 116, 32, 116, 104, 97, 116, 32, 119, 97, 115, 32, 110, 111, 116, 32, 111, 112, 101, 110, 101, 100]) (laid_drop 3 h) (g := 3) (by kernel_rfl) (by kernel_rfl)
  obtain ⟨u, k, h4⟩ := treeWraps_var (n := "gristmill/api.ErrClose") (g := 3) (by kernel_rfl) s.1
  exact ⟨a, by simp [World.cell?, h4]⟩
end Go.Proofs.YtlblhlnpmdfblaaDoor
