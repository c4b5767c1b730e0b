/- What the listed variables' condition gives to LexMany: api's eighteen errors, unlike one another. Conditions: the listed variables read as start-up lays them. -/
import Derived.Test.YtoobcaegnokdpaaDoorSee
import Derived.Test.YtoobcaegnokdpaaDoorSent
namespace Go.Proofs.YtoobcaegnokdpaaDoor
open Go.RowKit
def addrs' (l : List Addr) (d : Addr) (i : Nat) : Addr := l.getD i d
set_option maxRecDepth 100000 in
theorem sents_of_laid {W : World} (h : laidMet Tryd.prog Rows.lexManyRow.laid W) : ∃ A, Sents A W := by
  obtain ⟨a0, s0⟩ := sent1 (laid_drop 0 h) (show Tryd.prog.globalNamed "gristmill/api.ErrEnd" = some 1 by kernel_rfl) (by kernel_rfl)
  obtain ⟨a1, s1⟩ := sent1 (laid_drop 1 h) (show Tryd.prog.globalNamed "gristmill/api.ErrShape" = some 2 by kernel_rfl) (by kernel_rfl)
  obtain ⟨a2, s2⟩ := sent1 (laid_drop 2 h) (show Tryd.prog.globalNamed "gristmill/api.ErrRange" = some 3 by kernel_rfl) (by kernel_rfl)
  obtain ⟨a3, s3⟩ := sent1 (laid_drop 3 h) (show Tryd.prog.globalNamed "gristmill/api.ErrMany" = some 0 by kernel_rfl) (by kernel_rfl)
  obtain ⟨a4, s4⟩ := sent1 (laid_drop 4 h) (show Tryd.prog.globalNamed "gristmill/api.ErrDeep" = some 4 by kernel_rfl) (by kernel_rfl)
  obtain ⟨a5, s5⟩ := sent1 (laid_drop 5 h) (show Tryd.prog.globalNamed "gristmill/api.ErrOpen" = some 5 by kernel_rfl) (by kernel_rfl)
  obtain ⟨a6, s6⟩ := sent1 (laid_drop 6 h) (show Tryd.prog.globalNamed "gristmill/api.ErrClose" = some 6 by kernel_rfl) (by kernel_rfl)
  obtain ⟨a7, s7⟩ := sent1 (laid_drop 7 h) (show Tryd.prog.globalNamed "gristmill/api.ErrForm" = some 7 by kernel_rfl) (by kernel_rfl)
  obtain ⟨a8, s8⟩ := sent1 (laid_drop 8 h) (show Tryd.prog.globalNamed "gristmill/api.ErrName" = some 8 by kernel_rfl) (by kernel_rfl)
  obtain ⟨a9, s9⟩ := sent1 (laid_drop 9 h) (show Tryd.prog.globalNamed "gristmill/api.ErrTwice" = some 9 by kernel_rfl) (by kernel_rfl)
  obtain ⟨a10, s10⟩ := sent1 (laid_drop 10 h) (show Tryd.prog.globalNamed "gristmill/api.ErrNone" = some 10 by kernel_rfl) (by kernel_rfl)
  obtain ⟨a11, s11⟩ := sent1 (laid_drop 11 h) (show Tryd.prog.globalNamed "gristmill/api.ErrArity" = some 11 by kernel_rfl) (by kernel_rfl)
  obtain ⟨a12, s12⟩ := sent1 (laid_drop 12 h) (show Tryd.prog.globalNamed "gristmill/api.ErrMain" = some 12 by kernel_rfl) (by kernel_rfl)
  obtain ⟨a13, s13⟩ := sent1 (laid_drop 13 h) (show Tryd.prog.globalNamed "gristmill/api.ErrType" = some 13 by kernel_rfl) (by kernel_rfl)
  obtain ⟨a14, s14⟩ := sent1 (laid_drop 14 h) (show Tryd.prog.globalNamed "gristmill/api.ErrBound" = some 14 by kernel_rfl) (by kernel_rfl)
  obtain ⟨a15, s15⟩ := sent1 (laid_drop 15 h) (show Tryd.prog.globalNamed "gristmill/api.ErrTag" = some 15 by kernel_rfl) (by kernel_rfl)
  obtain ⟨a16, s16⟩ := sent1 (laid_drop 16 h) (show Tryd.prog.globalNamed "gristmill/api.ErrWord" = some 16 by kernel_rfl) (by kernel_rfl)
  obtain ⟨a17, s17⟩ := sent1 (laid_drop 17 h) (show Tryd.prog.globalNamed "gristmill/api.ErrNumber" = some 17 by kernel_rfl) (by kernel_rfl)
  refine ⟨addrs' [a0, a1, a2, a3, a4, a5, a6, a7, a8, a9, a10, a11, a12, a13, a14, a15, a16, a17] a0, ⟨fun i hi => ?_, fun i hi => ?_, fun i j hij hj => ?_⟩⟩
  · rcases i with _ | _ | _ | _ | _ | _ | _ | _ | _ | _ | _ | _ | _ | _ | _ | _ | _ | _ | i
    · exact cell_of_var (show Tryd.prog.globalNamed "gristmill/api.ErrEnd" = some 1 by kernel_rfl) s0.1
    · exact cell_of_var (show Tryd.prog.globalNamed "gristmill/api.ErrShape" = some 2 by kernel_rfl) s1.1
    · exact cell_of_var (show Tryd.prog.globalNamed "gristmill/api.ErrRange" = some 3 by kernel_rfl) s2.1
    · exact cell_of_var (show Tryd.prog.globalNamed "gristmill/api.ErrMany" = some 0 by kernel_rfl) s3.1
    · exact cell_of_var (show Tryd.prog.globalNamed "gristmill/api.ErrDeep" = some 4 by kernel_rfl) s4.1
    · exact cell_of_var (show Tryd.prog.globalNamed "gristmill/api.ErrOpen" = some 5 by kernel_rfl) s5.1
    · exact cell_of_var (show Tryd.prog.globalNamed "gristmill/api.ErrClose" = some 6 by kernel_rfl) s6.1
    · exact cell_of_var (show Tryd.prog.globalNamed "gristmill/api.ErrForm" = some 7 by kernel_rfl) s7.1
    · exact cell_of_var (show Tryd.prog.globalNamed "gristmill/api.ErrName" = some 8 by kernel_rfl) s8.1
    · exact cell_of_var (show Tryd.prog.globalNamed "gristmill/api.ErrTwice" = some 9 by kernel_rfl) s9.1
    · exact cell_of_var (show Tryd.prog.globalNamed "gristmill/api.ErrNone" = some 10 by kernel_rfl) s10.1
    · exact cell_of_var (show Tryd.prog.globalNamed "gristmill/api.ErrArity" = some 11 by kernel_rfl) s11.1
    · exact cell_of_var (show Tryd.prog.globalNamed "gristmill/api.ErrMain" = some 12 by kernel_rfl) s12.1
    · exact cell_of_var (show Tryd.prog.globalNamed "gristmill/api.ErrType" = some 13 by kernel_rfl) s13.1
    · exact cell_of_var (show Tryd.prog.globalNamed "gristmill/api.ErrBound" = some 14 by kernel_rfl) s14.1
    · exact cell_of_var (show Tryd.prog.globalNamed "gristmill/api.ErrTag" = some 15 by kernel_rfl) s15.1
    · exact cell_of_var (show Tryd.prog.globalNamed "gristmill/api.ErrWord" = some 16 by kernel_rfl) s16.1
    · exact cell_of_var (show Tryd.prog.globalNamed "gristmill/api.ErrNumber" = some 17 by kernel_rfl) s17.1
    · exfalso; omega
  · rcases i with _ | _ | _ | _ | _ | _ | _ | _ | _ | _ | _ | _ | _ | _ | _ | _ | _ | _ | i
    · exact s0.2.2
    · exact s1.2.2
    · exact s2.2.2
    · exact s3.2.2
    · exact s4.2.2
    · exact s5.2.2
    · exact s6.2.2
    · exact s7.2.2
    · exact s8.2.2
    · exact s9.2.2
    · exact s10.2.2
    · exact s11.2.2
    · exact s12.2.2
    · exact s13.2.2
    · exact s14.2.2
    · exact s15.2.2
    · exact s16.2.2
    · exact s17.2.2
    · exfalso; omega
  · rcases j with _ | _ | _ | _ | _ | _ | _ | _ | _ | _ | _ | _ | _ | _ | _ | _ | _ | _ | j
    · exfalso; omega
    · rcases i with _ | i
      · exact s1.apart s0 (by decide)
      · exfalso; omega
    · rcases i with _ | _ | i
      · exact s2.apart s0 (by decide)
      · exact s2.apart s1 (by decide)
      · exfalso; omega
    · rcases i with _ | _ | _ | i
      · exact s3.apart s0 (by decide)
      · exact s3.apart s1 (by decide)
      · exact s3.apart s2 (by decide)
      · exfalso; omega
    · rcases i with _ | _ | _ | _ | i
      · exact s4.apart s0 (by decide)
      · exact s4.apart s1 (by decide)
      · exact s4.apart s2 (by decide)
      · exact s4.apart s3 (by decide)
      · exfalso; omega
    · rcases i with _ | _ | _ | _ | _ | i
      · exact s5.apart s0 (by decide)
      · exact s5.apart s1 (by decide)
      · exact s5.apart s2 (by decide)
      · exact s5.apart s3 (by decide)
      · exact s5.apart s4 (by decide)
      · exfalso; omega
    · rcases i with _ | _ | _ | _ | _ | _ | i
      · exact s6.apart s0 (by decide)
      · exact s6.apart s1 (by decide)
      · exact s6.apart s2 (by decide)
      · exact s6.apart s3 (by decide)
      · exact s6.apart s4 (by decide)
      · exact s6.apart s5 (by decide)
      · exfalso; omega
    · rcases i with _ | _ | _ | _ | _ | _ | _ | i
      · exact s7.apart s0 (by decide)
      · exact s7.apart s1 (by decide)
      · exact s7.apart s2 (by decide)
      · exact s7.apart s3 (by decide)
      · exact s7.apart s4 (by decide)
      · exact s7.apart s5 (by decide)
      · exact s7.apart s6 (by decide)
      · exfalso; omega
    · rcases i with _ | _ | _ | _ | _ | _ | _ | _ | i
      · exact s8.apart s0 (by decide)
      · exact s8.apart s1 (by decide)
      · exact s8.apart s2 (by decide)
      · exact s8.apart s3 (by decide)
      · exact s8.apart s4 (by decide)
      · exact s8.apart s5 (by decide)
      · exact s8.apart s6 (by decide)
      · exact s8.apart s7 (by decide)
      · exfalso; omega
    · rcases i with _ | _ | _ | _ | _ | _ | _ | _ | _ | i
      · exact s9.apart s0 (by decide)
      · exact s9.apart s1 (by decide)
      · exact s9.apart s2 (by decide)
      · exact s9.apart s3 (by decide)
      · exact s9.apart s4 (by decide)
      · exact s9.apart s5 (by decide)
      · exact s9.apart s6 (by decide)
      · exact s9.apart s7 (by decide)
      · exact s9.apart s8 (by decide)
      · exfalso; omega
    · rcases i with _ | _ | _ | _ | _ | _ | _ | _ | _ | _ | i
      · exact s10.apart s0 (by decide)
      · exact s10.apart s1 (by decide)
      · exact s10.apart s2 (by decide)
      · exact s10.apart s3 (by decide)
      · exact s10.apart s4 (by decide)
      · exact s10.apart s5 (by decide)
      · exact s10.apart s6 (by decide)
      · exact s10.apart s7 (by decide)
      · exact s10.apart s8 (by decide)
      · exact s10.apart s9 (by decide)
      · exfalso; omega
    · rcases i with _ | _ | _ | _ | _ | _ | _ | _ | _ | _ | _ | i
      · exact s11.apart s0 (by decide)
      · exact s11.apart s1 (by decide)
      · exact s11.apart s2 (by decide)
      · exact s11.apart s3 (by decide)
      · exact s11.apart s4 (by decide)
      · exact s11.apart s5 (by decide)
      · exact s11.apart s6 (by decide)
      · exact s11.apart s7 (by decide)
      · exact s11.apart s8 (by decide)
      · exact s11.apart s9 (by decide)
      · exact s11.apart s10 (by decide)
      · exfalso; omega
    · rcases i with _ | _ | _ | _ | _ | _ | _ | _ | _ | _ | _ | _ | i
      · exact s12.apart s0 (by decide)
      · exact s12.apart s1 (by decide)
      · exact s12.apart s2 (by decide)
      · exact s12.apart s3 (by decide)
      · exact s12.apart s4 (by decide)
      · exact s12.apart s5 (by decide)
      · exact s12.apart s6 (by decide)
      · exact s12.apart s7 (by decide)
      · exact s12.apart s8 (by decide)
      · exact s12.apart s9 (by decide)
      · exact s12.apart s10 (by decide)
      · exact s12.apart s11 (by decide)
      · exfalso; omega
    · rcases i with _ | _ | _ | _ | _ | _ | _ | _ | _ | _ | _ | _ | _ | i
      · exact s13.apart s0 (by decide)
      · exact s13.apart s1 (by decide)
      · exact s13.apart s2 (by decide)
      · exact s13.apart s3 (by decide)
      · exact s13.apart s4 (by decide)
      · exact s13.apart s5 (by decide)
      · exact s13.apart s6 (by decide)
      · exact s13.apart s7 (by decide)
      · exact s13.apart s8 (by decide)
      · exact s13.apart s9 (by decide)
      · exact s13.apart s10 (by decide)
      · exact s13.apart s11 (by decide)
      · exact s13.apart s12 (by decide)
      · exfalso; omega
    · rcases i with _ | _ | _ | _ | _ | _ | _ | _ | _ | _ | _ | _ | _ | _ | i
      · exact s14.apart s0 (by decide)
      · exact s14.apart s1 (by decide)
      · exact s14.apart s2 (by decide)
      · exact s14.apart s3 (by decide)
      · exact s14.apart s4 (by decide)
      · exact s14.apart s5 (by decide)
      · exact s14.apart s6 (by decide)
      · exact s14.apart s7 (by decide)
      · exact s14.apart s8 (by decide)
      · exact s14.apart s9 (by decide)
      · exact s14.apart s10 (by decide)
      · exact s14.apart s11 (by decide)
      · exact s14.apart s12 (by decide)
      · exact s14.apart s13 (by decide)
      · exfalso; omega
    · rcases i with _ | _ | _ | _ | _ | _ | _ | _ | _ | _ | _ | _ | _ | _ | _ | i
      · exact s15.apart s0 (by decide)
      · exact s15.apart s1 (by decide)
      · exact s15.apart s2 (by decide)
      · exact s15.apart s3 (by decide)
      · exact s15.apart s4 (by decide)
      · exact s15.apart s5 (by decide)
      · exact s15.apart s6 (by decide)
      · exact s15.apart s7 (by decide)
      · exact s15.apart s8 (by decide)
      · exact s15.apart s9 (by decide)
      · exact s15.apart s10 (by decide)
      · exact s15.apart s11 (by decide)
      · exact s15.apart s12 (by decide)
      · exact s15.apart s13 (by decide)
      · exact s15.apart s14 (by decide)
      · exfalso; omega
    · rcases i with _ | _ | _ | _ | _ | _ | _ | _ | _ | _ | _ | _ | _ | _ | _ | _ | i
      · exact s16.apart s0 (by decide)
      · exact s16.apart s1 (by decide)
      · exact s16.apart s2 (by decide)
      · exact s16.apart s3 (by decide)
      · exact s16.apart s4 (by decide)
      · exact s16.apart s5 (by decide)
      · exact s16.apart s6 (by decide)
      · exact s16.apart s7 (by decide)
      · exact s16.apart s8 (by decide)
      · exact s16.apart s9 (by decide)
      · exact s16.apart s10 (by decide)
      · exact s16.apart s11 (by decide)
      · exact s16.apart s12 (by decide)
      · exact s16.apart s13 (by decide)
      · exact s16.apart s14 (by decide)
      · exact s16.apart s15 (by decide)
      · exfalso; omega
    · rcases i with _ | _ | _ | _ | _ | _ | _ | _ | _ | _ | _ | _ | _ | _ | _ | _ | _ | i
      · exact s17.apart s0 (by decide)
      · exact s17.apart s1 (by decide)
      · exact s17.apart s2 (by decide)
      · exact s17.apart s3 (by decide)
      · exact s17.apart s4 (by decide)
      · exact s17.apart s5 (by decide)
      · exact s17.apart s6 (by decide)
      · exact s17.apart s7 (by decide)
      · exact s17.apart s8 (by decide)
      · exact s17.apart s9 (by decide)
      · exact s17.apart s10 (by decide)
      · exact s17.apart s11 (by decide)
      · exact s17.apart s12 (by decide)
      · exact s17.apart s13 (by decide)
      · exact s17.apart s14 (by decide)
      · exact s17.apart s15 (by decide)
      · exact s17.apart s16 (by decide)
      · exfalso; omega
    · exfalso; omega
end Go.Proofs.YtoobcaegnokdpaaDoor
