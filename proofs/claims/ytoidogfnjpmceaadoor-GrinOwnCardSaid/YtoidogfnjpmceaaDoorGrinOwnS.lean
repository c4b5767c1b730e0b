/- GrinOwn: where the call begins: what the listed variables' condition says of memory. Conditions: the listed variables read as start-up lays them. -/
import Derived.Test.YtoidogfnjpmceaaDoorExD
import Derived.Test.YtoidogfnjpmceaaDoorSent
import Derived.Test.YtoidogfnjpmceaaDoorFlat
import Derived.Test.YtoidogfnjpmceaaDoorTie
import Derived.Test.YtoidogfnjpmceaaDoorCards
import Derived.LaidMore
import Derived.OpenShut
namespace Go.Proofs.YtoidogfnjpmceaaDoor
open Go.Ex
def grinOwn_errs : Errs := [(5, [105, 116, 32, 101, 110, 100, 115, 32, 116, 111, 111, 32, 101, 97, 114, 108, 121]), (4, [110, 111, 116, 32, 97, 115, 32, 105, 116, 32, 104, 97, 115, 32, 116, 111, 32, 98, 101]), (6, [97, 32, 110, 117, 109, 98, 101, 114, 32, 111, 117, 116, 32, 111, 102, 32, 105, 116, 115, 32, 114, 97, 110, 103, 101]), (0, [116, 111, 111, 32, 109, 97, 110, 121]), (7, [116, 111, 111, 32, 100, 101, 101, 112]), (8, [97, 32, 98, 114, 97, 99, 107, 101, 116, 32, 116, 104, 97, 116, 32, 105, 115, 32, 110, 111, 116, 32, 99, 108, 111, 115, 101, 100]), (9, [97, 32, 98, 114, 97, 99, 107, 101, 116, 32, 116, 104, 97, 116, 32, 119, 97, 115, 32, 110, 111, 116, 32, 111, 112, 101, 110, 101, 100]), (10, [110, 111, 32, 115, 117, 99, 104, 32, 102, 111, 114, 109]), (2, [110, 111, 116, 32, 97, 32, 110, 97, 109, 101]), (3, [116, 104, 101, 114, 101, 32, 105, 115, 32, 111, 110, 101]), (11, [116, 104, 101, 114, 101, 32, 105, 115, 32, 110, 111, 110, 101]), (12, [110, 111, 116, 32, 97, 115, 32, 109, 97, 110, 121, 32, 97, 115, 32, 105, 116, 32, 116, 97, 107, 101, 115]), (1, [110, 111, 32, 109, 97, 105, 110, 32, 119, 105, 116, 104, 111, 117, 116, 32, 112, 97, 114, 97, 109, 101, 116, 101, 114, 115]), (13, [105, 116, 32, 104, 97, 115, 32, 110, 111, 32, 116, 121, 112, 101]), (14, [110, 111, 116, 32, 98, 111, 117, 110, 100, 44, 32, 111, 114, 32, 98, 111, 117, 110, 100, 32, 116, 119, 105, 99, 101]), (15, [110, 111, 116, 32, 111, 102, 32, 116, 104, 97, 116, 32, 116, 97, 103]), (16, [110, 111, 32, 115, 117, 99, 104, 32, 119, 111, 114, 100]), (17, [110, 111, 116, 32, 97, 32, 110, 117, 109, 98, 101, 114])]
def grinOwn_tabs : GS := [(21, [.str 1 43, .int .i64 2, .bool false, .str 1 45, .int .i64 2, .bool false, .str 1 42, .int .i64 2, .bool false, .str 3 7760228, .int .i64 2, .bool false, .str 3 6582125, .int .i64 2, .bool false, .str 1 60, .int .i64 2, .bool false, .str 1 61, .int .i64 2, .bool false, .str 2 11110, .int .i64 2, .bool true, .str 2 11622, .int .i64 2, .bool true, .str 2 10854, .int .i64 2, .bool true, .str 2 12134, .int .i64 2, .bool true, .str 2 15462, .int .i64 2, .bool false, .str 2 15718, .int .i64 2, .bool false, .str 5 499850898534, .int .i64 1, .bool true, .str 5 435610937463, .int .i64 1, .bool false, .str 3 7431539, .int .i64 2, .bool false])]
theorem grinOwn_var {W : World} {n : String} {g : Nat} {cs : Array Value} (hg : Tryd.prog.globalNamed n = some g) (h : W.var? Tryd.prog n = some cs) : ∃ u k, W.heap[g]? = some (.cells cs u k) := by
  unfold World.var? at h
  rw [hg] at h
  simp only [Option.bind_some] at h
  split at h
  · rename_i c u k hc; simp at h; subst h; exact ⟨u, k, hc⟩
  · simp at h
theorem grinOwn_err {W : World} {n : String} {g : Nat} {t : List UInt8} {a : Addr} (hg : Tryd.prog.globalNamed n = some g) (h : SentAt n t a W) : ErrAt W 172 g t a := by
  obtain ⟨h1, h2, h3⟩ := h
  obtain ⟨u, k, h4⟩ := grinOwn_var hg h1
  exact ⟨⟨_, u, k, h4, rfl⟩, h2, h3⟩
theorem grinOwn_starts {W : World} (h : laidMet Tryd.prog Rows.grinOwnRow.laid W) (sy : Nat → Value) : ∃ size ea ez, Starts sy (gsFrom 172 grinOwn_tabs 1024 grinOwn_errs) (esFrom 1024 grinOwn_errs) W size ea ez := by
  obtain ⟨a0, s0⟩ := sent1 (n := "gristmill/api.ErrEnd") (text := [105, 116, 32, 101, 110, 100, 115, 32, 116, 111, 111, 32, 101, 97, 114, 108, 121]) (laid_drop 0 h) (g := 5) (by kernel_rfl) (by kernel_rfl)
  obtain ⟨a1, s1⟩ := sent1 (n := "gristmill/api.ErrShape") (text := [110, 111, 116, 32, 97, 115, 32, 105, 116, 32, 104, 97, 115, 32, 116, 111, 32, 98, 101]) (laid_drop 1 h) (g := 4) (by kernel_rfl) (by kernel_rfl)
  obtain ⟨a2, s2⟩ := sent1 (n := "gristmill/api.ErrRange") (text := [97, 32, 110, 117, 109, 98, 101, 114, 32, 111, 117, 116, 32, 111, 102, 32, 105, 116, 115, 32, 114, 97, 110, 103, 101]) (laid_drop 2 h) (g := 6) (by kernel_rfl) (by kernel_rfl)
  obtain ⟨a3, s3⟩ := sent1 (n := "gristmill/api.ErrMany") (text := [116, 111, 111, 32, 109, 97, 110, 121]) (laid_drop 3 h) (g := 0) (by kernel_rfl) (by kernel_rfl)
  obtain ⟨a4, s4⟩ := sent1 (n := "gristmill/api.ErrDeep") (text := [116, 111, 111, 32, 100, 101, 101, 112]) (laid_drop 4 h) (g := 7) (by kernel_rfl) (by kernel_rfl)
  obtain ⟨a5, s5⟩ := sent1 (n := "gristmill/api.ErrOpen") (text := [97, 32, 98, 114, 97, 99, 107, 101, 116, 32, 116, 104, 97, 116, 32, 105, 115, 32, 110, 111, 116, 32, 99, 108, 111, 115, 101, 100]) (laid_drop 5 h) (g := 8) (by kernel_rfl) (by kernel_rfl)
  obtain ⟨a6, s6⟩ := sent1 (n := "gristmill/api.ErrClose") (text := [97, 32, 98, 114, 97, 99, 107, 101, 116, 32, 116, 104, 97, 116, 32, 119, 97, 115, 32, 110, 111, 116, 32, 111, 112, 101, 110, 101, 100]) (laid_drop 6 h) (g := 9) (by kernel_rfl) (by kernel_rfl)
  obtain ⟨a7, s7⟩ := sent1 (n := "gristmill/api.ErrForm") (text := [110, 111, 32, 115, 117, 99, 104, 32, 102, 111, 114, 109]) (laid_drop 7 h) (g := 10) (by kernel_rfl) (by kernel_rfl)
  obtain ⟨a8, s8⟩ := sent1 (n := "gristmill/api.ErrName") (text := [110, 111, 116, 32, 97, 32, 110, 97, 109, 101]) (laid_drop 8 h) (g := 2) (by kernel_rfl) (by kernel_rfl)
  obtain ⟨a9, s9⟩ := sent1 (n := "gristmill/api.ErrTwice") (text := [116, 104, 101, 114, 101, 32, 105, 115, 32, 111, 110, 101]) (laid_drop 9 h) (g := 3) (by kernel_rfl) (by kernel_rfl)
  obtain ⟨a10, s10⟩ := sent1 (n := "gristmill/api.ErrNone") (text := [116, 104, 101, 114, 101, 32, 105, 115, 32, 110, 111, 110, 101]) (laid_drop 10 h) (g := 11) (by kernel_rfl) (by kernel_rfl)
  obtain ⟨a11, s11⟩ := sent1 (n := "gristmill/api.ErrArity") (text := [110, 111, 116, 32, 97, 115, 32, 109, 97, 110, 121, 32, 97, 115, 32, 105, 116, 32, 116, 97, 107, 101, 115]) (laid_drop 11 h) (g := 12) (by kernel_rfl) (by kernel_rfl)
  obtain ⟨a12, s12⟩ := sent1 (n := "gristmill/api.ErrMain") (text := [110, 111, 32, 109, 97, 105, 110, 32, 119, 105, 116, 104, 111, 117, 116, 32, 112, 97, 114, 97, 109, 101, 116, 101, 114, 115]) (laid_drop 12 h) (g := 1) (by kernel_rfl) (by kernel_rfl)
  obtain ⟨a13, s13⟩ := sent1 (n := "gristmill/api.ErrType") (text := [105, 116, 32, 104, 97, 115, 32, 110, 111, 32, 116, 121, 112, 101]) (laid_drop 13 h) (g := 13) (by kernel_rfl) (by kernel_rfl)
  obtain ⟨a14, s14⟩ := sent1 (n := "gristmill/api.ErrBound") (text := [110, 111, 116, 32, 98, 111, 117, 110, 100, 44, 32, 111, 114, 32, 98, 111, 117, 110, 100, 32, 116, 119, 105, 99, 101]) (laid_drop 14 h) (g := 14) (by kernel_rfl) (by kernel_rfl)
  obtain ⟨a15, s15⟩ := sent1 (n := "gristmill/api.ErrTag") (text := [110, 111, 116, 32, 111, 102, 32, 116, 104, 97, 116, 32, 116, 97, 103]) (laid_drop 15 h) (g := 15) (by kernel_rfl) (by kernel_rfl)
  obtain ⟨a16, s16⟩ := sent1 (n := "gristmill/api.ErrWord") (text := [110, 111, 32, 115, 117, 99, 104, 32, 119, 111, 114, 100]) (laid_drop 16 h) (g := 16) (by kernel_rfl) (by kernel_rfl)
  obtain ⟨a17, s17⟩ := sent1 (n := "gristmill/api.ErrNumber") (text := [110, 111, 116, 32, 97, 32, 110, 117, 109, 98, 101, 114]) (laid_drop 17 h) (g := 17) (by kernel_rfl) (by kernel_rfl)
  have t0 := cells_of_head (n := 4) (t := 170) (vs := [.string ⟨#[43]⟩, .int .i64 2, .bool false, .string ⟨#[45]⟩, .int .i64 2, .bool false, .string ⟨#[42]⟩, .int .i64 2, .bool false, .string ⟨#[100, 105, 118]⟩, .int .i64 2, .bool false, .string ⟨#[109, 111, 100]⟩, .int .i64 2, .bool false, .string ⟨#[60]⟩, .int .i64 2, .bool false, .string ⟨#[61]⟩, .int .i64 2, .bool false, .string ⟨#[102, 43]⟩, .int .i64 2, .bool true, .string ⟨#[102, 45]⟩, .int .i64 2, .bool true, .string ⟨#[102, 42]⟩, .int .i64 2, .bool true, .string ⟨#[102, 47]⟩, .int .i64 2, .bool true, .string ⟨#[102, 60]⟩, .int .i64 2, .bool false, .string ⟨#[102, 61]⟩, .int .i64 2, .bool false, .string ⟨#[102, 108, 111, 97, 116]⟩, .int .i64 1, .bool true, .string ⟨#[119, 104, 111, 108, 101]⟩, .int .i64 1, .bool false, .string ⟨#[115, 101, 113]⟩, .int .i64 2, .bool false]) (show Tryd.prog.globalNamed "gristmill/num.prims" = some 21 by kernel_rfl) (by kernel_rfl) (by kernel_rfl) (by kernel_rfl) (laid_drop 18 h)
  refine starts_of (by decide) (by decide) (by decide) (by decide) (by decide +kernel) ?_ ?_
  · intro x hx
    simp only [grinOwn_errs, List.mem_cons, List.not_mem_nil, or_false] at hx
    rcases hx with rfl | rfl | rfl | rfl | rfl | rfl | rfl | rfl | rfl | rfl | rfl | rfl | rfl | rfl | rfl | rfl | rfl | rfl
    · exact ⟨a0, grinOwn_err (n := "gristmill/api.ErrEnd") (by kernel_rfl) s0⟩
    · exact ⟨a1, grinOwn_err (n := "gristmill/api.ErrShape") (by kernel_rfl) s1⟩
    · exact ⟨a2, grinOwn_err (n := "gristmill/api.ErrRange") (by kernel_rfl) s2⟩
    · exact ⟨a3, grinOwn_err (n := "gristmill/api.ErrMany") (by kernel_rfl) s3⟩
    · exact ⟨a4, grinOwn_err (n := "gristmill/api.ErrDeep") (by kernel_rfl) s4⟩
    · exact ⟨a5, grinOwn_err (n := "gristmill/api.ErrOpen") (by kernel_rfl) s5⟩
    · exact ⟨a6, grinOwn_err (n := "gristmill/api.ErrClose") (by kernel_rfl) s6⟩
    · exact ⟨a7, grinOwn_err (n := "gristmill/api.ErrForm") (by kernel_rfl) s7⟩
    · exact ⟨a8, grinOwn_err (n := "gristmill/api.ErrName") (by kernel_rfl) s8⟩
    · exact ⟨a9, grinOwn_err (n := "gristmill/api.ErrTwice") (by kernel_rfl) s9⟩
    · exact ⟨a10, grinOwn_err (n := "gristmill/api.ErrNone") (by kernel_rfl) s10⟩
    · exact ⟨a11, grinOwn_err (n := "gristmill/api.ErrArity") (by kernel_rfl) s11⟩
    · exact ⟨a12, grinOwn_err (n := "gristmill/api.ErrMain") (by kernel_rfl) s12⟩
    · exact ⟨a13, grinOwn_err (n := "gristmill/api.ErrType") (by kernel_rfl) s13⟩
    · exact ⟨a14, grinOwn_err (n := "gristmill/api.ErrBound") (by kernel_rfl) s14⟩
    · exact ⟨a15, grinOwn_err (n := "gristmill/api.ErrTag") (by kernel_rfl) s15⟩
    · exact ⟨a16, grinOwn_err (n := "gristmill/api.ErrWord") (by kernel_rfl) s16⟩
    · exact ⟨a17, grinOwn_err (n := "gristmill/api.ErrNumber") (by kernel_rfl) s17⟩
  · intro x hx
    simp only [grinOwn_tabs, List.mem_cons, List.not_mem_nil, or_false] at hx
    rcases hx with rfl
    · obtain ⟨u, k, e⟩ := grinOwn_var (n := "gristmill/num.prims") (by kernel_rfl) t0; exact ⟨_, u, k, e, .inl rfl⟩
theorem grinOwn_c_ErrEnd {W : World} (h : laidMet Tryd.prog Rows.grinOwnRow.laid W) : ∃ a, W.cell? ⟨5, 0, none⟩ = some (.iface 172 (.pointer (some a))) := by
  obtain ⟨a, s⟩ := sent1 (n := "gristmill/api.ErrEnd") (text := [105, 116, 32, 101, 110, 100, 115, 32, 116, 111, 111, 32, 101, 97, 114, 108, 121]) (laid_drop 0 h) (g := 5) (by kernel_rfl) (by kernel_rfl)
  obtain ⟨u, k, h4⟩ := grinOwn_var (n := "gristmill/api.ErrEnd") (g := 5) (by kernel_rfl) s.1
  exact ⟨a, by simp [World.cell?, h4]⟩
theorem grinOwn_c_ErrShape {W : World} (h : laidMet Tryd.prog Rows.grinOwnRow.laid W) : ∃ a, W.cell? ⟨4, 0, none⟩ = some (.iface 172 (.pointer (some a))) := by
  obtain ⟨a, s⟩ := sent1 (n := "gristmill/api.ErrShape") (text := [110, 111, 116, 32, 97, 115, 32, 105, 116, 32, 104, 97, 115, 32, 116, 111, 32, 98, 101]) (laid_drop 1 h) (g := 4) (by kernel_rfl) (by kernel_rfl)
  obtain ⟨u, k, h4⟩ := grinOwn_var (n := "gristmill/api.ErrShape") (g := 4) (by kernel_rfl) s.1
  exact ⟨a, by simp [World.cell?, h4]⟩
theorem grinOwn_c_ErrRange {W : World} (h : laidMet Tryd.prog Rows.grinOwnRow.laid W) : ∃ a, W.cell? ⟨6, 0, none⟩ = some (.iface 172 (.pointer (some a))) := by
  obtain ⟨a, s⟩ := sent1 (n := "gristmill/api.ErrRange") (text := [97, 32, 110, 117, 109, 98, 101, 114, 32, 111, 117, 116, 32, 111, 102, 32, 105, 116, 115, 32, 114, 97, 110, 103, 101]) (laid_drop 2 h) (g := 6) (by kernel_rfl) (by kernel_rfl)
  obtain ⟨u, k, h4⟩ := grinOwn_var (n := "gristmill/api.ErrRange") (g := 6) (by kernel_rfl) s.1
  exact ⟨a, by simp [World.cell?, h4]⟩
theorem grinOwn_c_ErrMany {W : World} (h : laidMet Tryd.prog Rows.grinOwnRow.laid W) : ∃ a, W.cell? ⟨0, 0, none⟩ = some (.iface 172 (.pointer (some a))) := by
  obtain ⟨a, s⟩ := sent1 (n := "gristmill/api.ErrMany") (text := [116, 111, 111, 32, 109, 97, 110, 121]) (laid_drop 3 h) (g := 0) (by kernel_rfl) (by kernel_rfl)
  obtain ⟨u, k, h4⟩ := grinOwn_var (n := "gristmill/api.ErrMany") (g := 0) (by kernel_rfl) s.1
  exact ⟨a, by simp [World.cell?, h4]⟩
theorem grinOwn_c_ErrDeep {W : World} (h : laidMet Tryd.prog Rows.grinOwnRow.laid W) : ∃ a, W.cell? ⟨7, 0, none⟩ = some (.iface 172 (.pointer (some a))) := by
  obtain ⟨a, s⟩ := sent1 (n := "gristmill/api.ErrDeep") (text := [116, 111, 111, 32, 100, 101, 101, 112]) (laid_drop 4 h) (g := 7) (by kernel_rfl) (by kernel_rfl)
  obtain ⟨u, k, h4⟩ := grinOwn_var (n := "gristmill/api.ErrDeep") (g := 7) (by kernel_rfl) s.1
  exact ⟨a, by simp [World.cell?, h4]⟩
theorem grinOwn_c_ErrOpen {W : World} (h : laidMet Tryd.prog Rows.grinOwnRow.laid W) : ∃ a, W.cell? ⟨8, 0, none⟩ = some (.iface 172 (.pointer (some a))) := by
  obtain ⟨a, s⟩ := sent1 (n := "gristmill/api.ErrOpen") (text := [97, 32, 98, 114, 97, 99, 107, 101, 116, 32, 116, 104, 97, 116, 32, 105, 115, 32, 110, 111, 116, 32, 99, 108, 111, 115, 101, 100]) (laid_drop 5 h) (g := 8) (by kernel_rfl) (by kernel_rfl)
  obtain ⟨u, k, h4⟩ := grinOwn_var (n := "gristmill/api.ErrOpen") (g := 8) (by kernel_rfl) s.1
  exact ⟨a, by simp [World.cell?, h4]⟩
theorem grinOwn_c_ErrClose {W : World} (h : laidMet Tryd.prog Rows.grinOwnRow.laid W) : ∃ a, W.cell? ⟨9, 0, none⟩ = some (.iface 172 (.pointer (some a))) := by
  obtain ⟨a, s⟩ := sent1 (n := "gristmill/api.ErrClose") (text := [97, 32, 98, 114, 97, 99, 107, 101, 116, 32, 116, 104, 97, 116, 32, 119, 97, 115, 32, 110, 111, 116, 32, 111, 112, 101, 110, 101, 100]) (laid_drop 6 h) (g := 9) (by kernel_rfl) (by kernel_rfl)
  obtain ⟨u, k, h4⟩ := grinOwn_var (n := "gristmill/api.ErrClose") (g := 9) (by kernel_rfl) s.1
  exact ⟨a, by simp [World.cell?, h4]⟩
theorem grinOwn_c_ErrForm {W : World} (h : laidMet Tryd.prog Rows.grinOwnRow.laid W) : ∃ a, W.cell? ⟨10, 0, none⟩ = some (.iface 172 (.pointer (some a))) := by
  obtain ⟨a, s⟩ := sent1 (n := "gristmill/api.ErrForm") (text := [110, 111, 32, 115, 117, 99, 104, 32, 102, 111, 114, 109]) (laid_drop 7 h) (g := 10) (by kernel_rfl) (by kernel_rfl)
  obtain ⟨u, k, h4⟩ := grinOwn_var (n := "gristmill/api.ErrForm") (g := 10) (by kernel_rfl) s.1
  exact ⟨a, by simp [World.cell?, h4]⟩
theorem grinOwn_c_ErrName {W : World} (h : laidMet Tryd.prog Rows.grinOwnRow.laid W) : ∃ a, W.cell? ⟨2, 0, none⟩ = some (.iface 172 (.pointer (some a))) := by
  obtain ⟨a, s⟩ := sent1 (n := "gristmill/api.ErrName") (text := [110, 111, 116, 32, 97, 32, 110, 97, 109, 101]) (laid_drop 8 h) (g := 2) (by kernel_rfl) (by kernel_rfl)
  obtain ⟨u, k, h4⟩ := grinOwn_var (n := "gristmill/api.ErrName") (g := 2) (by kernel_rfl) s.1
  exact ⟨a, by simp [World.cell?, h4]⟩
theorem grinOwn_c_ErrTwice {W : World} (h : laidMet Tryd.prog Rows.grinOwnRow.laid W) : ∃ a, W.cell? ⟨3, 0, none⟩ = some (.iface 172 (.pointer (some a))) := by
  obtain ⟨a, s⟩ := sent1 (n := "gristmill/api.ErrTwice") (text := [116, 104, 101, 114, 101, 32, 105, 115, 32, 111, 110, 101]) (laid_drop 9 h) (g := 3) (by kernel_rfl) (by kernel_rfl)
  obtain ⟨u, k, h4⟩ := grinOwn_var (n := "gristmill/api.ErrTwice") (g := 3) (by kernel_rfl) s.1
  exact ⟨a, by simp [World.cell?, h4]⟩
theorem grinOwn_c_ErrNone {W : World} (h : laidMet Tryd.prog Rows.grinOwnRow.laid W) : ∃ a, W.cell? ⟨11, 0, none⟩ = some (.iface 172 (.pointer (some a))) := by
  obtain ⟨a, s⟩ := sent1 (n := "gristmill/api.ErrNone") (text := [116, 104, 101, 114, 101, 32, 105, 115, 32, 110, 111, 110, 101]) (laid_drop 10 h) (g := 11) (by kernel_rfl) (by kernel_rfl)
  obtain ⟨u, k, h4⟩ := grinOwn_var (n := "gristmill/api.ErrNone") (g := 11) (by kernel_rfl) s.1
  exact ⟨a, by simp [World.cell?, h4]⟩
theorem grinOwn_c_ErrArity {W : World} (h : laidMet Tryd.prog Rows.grinOwnRow.laid W) : ∃ a, W.cell? ⟨12, 0, none⟩ = some (.iface 172 (.pointer (some a))) := by
  obtain ⟨a, s⟩ := sent1 (n := "gristmill/api.ErrArity") (text := [110, 111, 116, 32, 97, 115, 32, 109, 97, 110, 121, 32, 97, 115, 32, 105, 116, 32, 116, 97, 107, 101, 115]) (laid_drop 11 h) (g := 12) (by kernel_rfl) (by kernel_rfl)
  obtain ⟨u, k, h4⟩ := grinOwn_var (n := "gristmill/api.ErrArity") (g := 12) (by kernel_rfl) s.1
  exact ⟨a, by simp [World.cell?, h4]⟩
theorem grinOwn_c_ErrMain {W : World} (h : laidMet Tryd.prog Rows.grinOwnRow.laid W) : ∃ a, W.cell? ⟨1, 0, none⟩ = some (.iface 172 (.pointer (some a))) := by
  obtain ⟨a, s⟩ := sent1 (n := "gristmill/api.ErrMain") (text := [110, 111, 32, 109, 97, 105, 110, 32, 119, 105, 116, 104, 111, 117, 116, 32, 112, 97, 114, 97, 109, 101, 116, 101, 114, 115]) (laid_drop 12 h) (g := 1) (by kernel_rfl) (by kernel_rfl)
  obtain ⟨u, k, h4⟩ := grinOwn_var (n := "gristmill/api.ErrMain") (g := 1) (by kernel_rfl) s.1
  exact ⟨a, by simp [World.cell?, h4]⟩
theorem grinOwn_c_ErrType {W : World} (h : laidMet Tryd.prog Rows.grinOwnRow.laid W) : ∃ a, W.cell? ⟨13, 0, none⟩ = some (.iface 172 (.pointer (some a))) := by
  obtain ⟨a, s⟩ := sent1 (n := "gristmill/api.ErrType") (text := [105, 116, 32, 104, 97, 115, 32, 110, 111, 32, 116, 121, 112, 101]) (laid_drop 13 h) (g := 13) (by kernel_rfl) (by kernel_rfl)
  obtain ⟨u, k, h4⟩ := grinOwn_var (n := "gristmill/api.ErrType") (g := 13) (by kernel_rfl) s.1
  exact ⟨a, by simp [World.cell?, h4]⟩
theorem grinOwn_c_ErrBound {W : World} (h : laidMet Tryd.prog Rows.grinOwnRow.laid W) : ∃ a, W.cell? ⟨14, 0, none⟩ = some (.iface 172 (.pointer (some a))) := by
  obtain ⟨a, s⟩ := sent1 (n := "gristmill/api.ErrBound") (text := [110, 111, 116, 32, 98, 111, 117, 110, 100, 44, 32, 111, 114, 32, 98, 111, 117, 110, 100, 32, 116, 119, 105, 99, 101]) (laid_drop 14 h) (g := 14) (by kernel_rfl) (by kernel_rfl)
  obtain ⟨u, k, h4⟩ := grinOwn_var (n := "gristmill/api.ErrBound") (g := 14) (by kernel_rfl) s.1
  exact ⟨a, by simp [World.cell?, h4]⟩
theorem grinOwn_c_ErrTag {W : World} (h : laidMet Tryd.prog Rows.grinOwnRow.laid W) : ∃ a, W.cell? ⟨15, 0, none⟩ = some (.iface 172 (.pointer (some a))) := by
  obtain ⟨a, s⟩ := sent1 (n := "gristmill/api.ErrTag") (text := [110, 111, 116, 32, 111, 102, 32, 116, 104, 97, 116, 32, 116, 97, 103]) (laid_drop 15 h) (g := 15) (by kernel_rfl) (by kernel_rfl)
  obtain ⟨u, k, h4⟩ := grinOwn_var (n := "gristmill/api.ErrTag") (g := 15) (by kernel_rfl) s.1
  exact ⟨a, by simp [World.cell?, h4]⟩
theorem grinOwn_c_ErrWord {W : World} (h : laidMet Tryd.prog Rows.grinOwnRow.laid W) : ∃ a, W.cell? ⟨16, 0, none⟩ = some (.iface 172 (.pointer (some a))) := by
  obtain ⟨a, s⟩ := sent1 (n := "gristmill/api.ErrWord") (text := [110, 111, 32, 115, 117, 99, 104, 32, 119, 111, 114, 100]) (laid_drop 16 h) (g := 16) (by kernel_rfl) (by kernel_rfl)
  obtain ⟨u, k, h4⟩ := grinOwn_var (n := "gristmill/api.ErrWord") (g := 16) (by kernel_rfl) s.1
  exact ⟨a, by simp [World.cell?, h4]⟩
theorem grinOwn_c_ErrNumber {W : World} (h : laidMet Tryd.prog Rows.grinOwnRow.laid W) : ∃ a, W.cell? ⟨17, 0, none⟩ = some (.iface 172 (.pointer (some a))) := by
  obtain ⟨a, s⟩ := sent1 (n := "gristmill/api.ErrNumber") (text := [110, 111, 116, 32, 97, 32, 110, 117, 109, 98, 101, 114]) (laid_drop 17 h) (g := 17) (by kernel_rfl) (by kernel_rfl)
  obtain ⟨u, k, h4⟩ := grinOwn_var (n := "gristmill/api.ErrNumber") (g := 17) (by kernel_rfl) s.1
  exact ⟨a, by simp [World.cell?, h4]⟩
end Go.Proofs.YtoidogfnjpmceaaDoor
