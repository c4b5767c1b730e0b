/- NumSays, of any arguments, under what the listed variables' condition gives. Conditions: as each says. -/
import Derived.Test.YtmpkgbpnejajpaaDoorSaysY
import Derived.Test.YtmpkgbpnejajpaaDoorSaysN
import Derived.Test.YtmpkgbpnejajpaaDoorNumF
import Derived.Test.YtmpkgbpnejajpaaDoorSent
namespace Go.Proofs.YtmpkgbpnejajpaaDoor
open Go.RowKit

/-- What the walks need of memory. -/
structure All (A : Nat → Addr) (w : World) : Prop where
  tabs : Tabs w
  errs : Errs w
  prims : PrimsIs w
  sents : Sents A w
  num : w.var? Tryd.prog "gristmill/api.ErrNumber" = some #[errI A 17]
theorem All.below {A : Nat → Addr} {w w' : World} (h : All A w) (hb : Below w.heap.size w w') : All A w' := ⟨h.tabs.below hb, h.errs.below hb, h.prims.below hb, h.sents.below hb, var_below hb globNum h.num⟩

/-- A function of eighteen places. -/
def addrs (l : List Addr) (d : Addr) (i : Nat) : Addr := l.getD i d

set_option maxRecDepth 100000 in
theorem all_of_laid {W : World} (h : laidMet Tryd.prog Rows.numSaysRow.laid W) : ∃ A, All A W := by
  have ht := tabs_of_laid h
  obtain ⟨x, e1⟩ := sent1 (laid_drop 3 h) globRng (by kernel_rfl)
  obtain ⟨y, e2⟩ := sent1 (laid_drop 4 h) globSyn (by kernel_rfl)
  obtain ⟨a0, s0⟩ := sent1 (laid_drop 5 h) (show Tryd.prog.globalNamed "gristmill/api.ErrEnd" = some 5 by kernel_rfl) (by kernel_rfl)
  obtain ⟨a1, s1⟩ := sent1 (laid_drop 6 h) (show Tryd.prog.globalNamed "gristmill/api.ErrShape" = some 6 by kernel_rfl) (by kernel_rfl)
  obtain ⟨a2, s2⟩ := sent1 (laid_drop 7 h) (show Tryd.prog.globalNamed "gristmill/api.ErrRange" = some 7 by kernel_rfl) (by kernel_rfl)
  obtain ⟨a3, s3⟩ := sent1 (laid_drop 8 h) (show Tryd.prog.globalNamed "gristmill/api.ErrMany" = some 8 by kernel_rfl) (by kernel_rfl)
  obtain ⟨a4, s4⟩ := sent1 (laid_drop 9 h) (show Tryd.prog.globalNamed "gristmill/api.ErrDeep" = some 9 by kernel_rfl) (by kernel_rfl)
  obtain ⟨a5, s5⟩ := sent1 (laid_drop 10 h) (show Tryd.prog.globalNamed "gristmill/api.ErrOpen" = some 10 by kernel_rfl) (by kernel_rfl)
  obtain ⟨a6, s6⟩ := sent1 (laid_drop 11 h) (show Tryd.prog.globalNamed "gristmill/api.ErrClose" = some 11 by kernel_rfl) (by kernel_rfl)
  obtain ⟨a7, s7⟩ := sent1 (laid_drop 12 h) (show Tryd.prog.globalNamed "gristmill/api.ErrForm" = some 12 by kernel_rfl) (by kernel_rfl)
  obtain ⟨a8, s8⟩ := sent1 (laid_drop 13 h) (show Tryd.prog.globalNamed "gristmill/api.ErrName" = some 13 by kernel_rfl) (by kernel_rfl)
  obtain ⟨a9, s9⟩ := sent1 (laid_drop 14 h) (show Tryd.prog.globalNamed "gristmill/api.ErrTwice" = some 14 by kernel_rfl) (by kernel_rfl)
  obtain ⟨a10, s10⟩ := sent1 (laid_drop 15 h) (show Tryd.prog.globalNamed "gristmill/api.ErrNone" = some 15 by kernel_rfl) (by kernel_rfl)
  obtain ⟨a11, s11⟩ := sent1 (laid_drop 16 h) (show Tryd.prog.globalNamed "gristmill/api.ErrArity" = some 16 by kernel_rfl) (by kernel_rfl)
  obtain ⟨a12, s12⟩ := sent1 (laid_drop 17 h) (show Tryd.prog.globalNamed "gristmill/api.ErrMain" = some 17 by kernel_rfl) (by kernel_rfl)
  obtain ⟨a13, s13⟩ := sent1 (laid_drop 18 h) (show Tryd.prog.globalNamed "gristmill/api.ErrType" = some 18 by kernel_rfl) (by kernel_rfl)
  obtain ⟨a14, s14⟩ := sent1 (laid_drop 19 h) (show Tryd.prog.globalNamed "gristmill/api.ErrBound" = some 19 by kernel_rfl) (by kernel_rfl)
  obtain ⟨a15, s15⟩ := sent1 (laid_drop 20 h) (show Tryd.prog.globalNamed "gristmill/api.ErrTag" = some 20 by kernel_rfl) (by kernel_rfl)
  obtain ⟨a16, s16⟩ := sent1 (laid_drop 21 h) (show Tryd.prog.globalNamed "gristmill/api.ErrWord" = some 21 by kernel_rfl) (by kernel_rfl)
  obtain ⟨a17, s17⟩ := sent1 (laid_drop 22 h) (show Tryd.prog.globalNamed "gristmill/api.ErrNumber" = some 0 by kernel_rfl) (by kernel_rfl)
  have hp := cells_of_head (n := 3) (t := 58) globPrims (by kernel_rfl) (by kernel_rfl) primVs_eq (laid_drop 23 h)
  refine ⟨addrs [a0, a1, a2, a3, a4, a5, a6, a7, a8, a9, a10, a11, a12, a13, a14, a15, a16, a17] a0, ht, ⟨⟨_, _, e2.1⟩, ⟨_, _, e1.1⟩⟩, hp, ⟨fun i hi => ?_, fun i hi => ?_, fun i j hij hj => ?_⟩, s17.1⟩
  · rcases i with _ | _ | _ | _ | _ | _ | _ | _ | _ | _ | _ | _ | _ | _ | _ | _ | _ | _ | i
    · exact cell_of_var (show Tryd.prog.globalNamed "gristmill/api.ErrEnd" = some 5 by kernel_rfl) s0.1
    · exact cell_of_var (show Tryd.prog.globalNamed "gristmill/api.ErrShape" = some 6 by kernel_rfl) s1.1
    · exact cell_of_var (show Tryd.prog.globalNamed "gristmill/api.ErrRange" = some 7 by kernel_rfl) s2.1
    · exact cell_of_var (show Tryd.prog.globalNamed "gristmill/api.ErrMany" = some 8 by kernel_rfl) s3.1
    · exact cell_of_var (show Tryd.prog.globalNamed "gristmill/api.ErrDeep" = some 9 by kernel_rfl) s4.1
    · exact cell_of_var (show Tryd.prog.globalNamed "gristmill/api.ErrOpen" = some 10 by kernel_rfl) s5.1
    · exact cell_of_var (show Tryd.prog.globalNamed "gristmill/api.ErrClose" = some 11 by kernel_rfl) s6.1
    · exact cell_of_var (show Tryd.prog.globalNamed "gristmill/api.ErrForm" = some 12 by kernel_rfl) s7.1
    · exact cell_of_var (show Tryd.prog.globalNamed "gristmill/api.ErrName" = some 13 by kernel_rfl) s8.1
    · exact cell_of_var (show Tryd.prog.globalNamed "gristmill/api.ErrTwice" = some 14 by kernel_rfl) s9.1
    · exact cell_of_var (show Tryd.prog.globalNamed "gristmill/api.ErrNone" = some 15 by kernel_rfl) s10.1
    · exact cell_of_var (show Tryd.prog.globalNamed "gristmill/api.ErrArity" = some 16 by kernel_rfl) s11.1
    · exact cell_of_var (show Tryd.prog.globalNamed "gristmill/api.ErrMain" = some 17 by kernel_rfl) s12.1
    · exact cell_of_var (show Tryd.prog.globalNamed "gristmill/api.ErrType" = some 18 by kernel_rfl) s13.1
    · exact cell_of_var (show Tryd.prog.globalNamed "gristmill/api.ErrBound" = some 19 by kernel_rfl) s14.1
    · exact cell_of_var (show Tryd.prog.globalNamed "gristmill/api.ErrTag" = some 20 by kernel_rfl) s15.1
    · exact cell_of_var (show Tryd.prog.globalNamed "gristmill/api.ErrWord" = some 21 by kernel_rfl) s16.1
    · exact cell_of_var (show Tryd.prog.globalNamed "gristmill/api.ErrNumber" = some 0 by kernel_rfl) s17.1
    · omega
  · rcases i with _ | _ | _ | _ | _ | _ | _ | _ | _ | _ | _ | _ | _ | _ | _ | _ | _ | _ | i
    · exact s0.2.2
    · exact s1.2.2
    · exact s2.2.2
    · exact s3.2.2
    · exact s4.2.2
    · exact s5.2.2
    · exact s6.2.2
    · exact s7.2.2
    · exact s8.2.2
    · exact s9.2.2
    · exact s10.2.2
    · exact s11.2.2
    · exact s12.2.2
    · exact s13.2.2
    · exact s14.2.2
    · exact s15.2.2
    · exact s16.2.2
    · exact s17.2.2
    · omega
  · rcases j with _ | _ | _ | _ | _ | _ | _ | _ | _ | _ | _ | _ | _ | _ | _ | _ | _ | _ | j
    · omega
    · rcases i with _ | i
      · exact s1.apart s0 (by decide)
      · omega
    · rcases i with _ | _ | i
      · exact s2.apart s0 (by decide)
      · exact s2.apart s1 (by decide)
      · omega
    · rcases i with _ | _ | _ | i
      · exact s3.apart s0 (by decide)
      · exact s3.apart s1 (by decide)
      · exact s3.apart s2 (by decide)
      · omega
    · rcases i with _ | _ | _ | _ | i
      · exact s4.apart s0 (by decide)
      · exact s4.apart s1 (by decide)
      · exact s4.apart s2 (by decide)
      · exact s4.apart s3 (by decide)
      · omega
    · rcases i with _ | _ | _ | _ | _ | i
      · exact s5.apart s0 (by decide)
      · exact s5.apart s1 (by decide)
      · exact s5.apart s2 (by decide)
      · exact s5.apart s3 (by decide)
      · exact s5.apart s4 (by decide)
      · omega
    · rcases i with _ | _ | _ | _ | _ | _ | i
      · exact s6.apart s0 (by decide)
      · exact s6.apart s1 (by decide)
      · exact s6.apart s2 (by decide)
      · exact s6.apart s3 (by decide)
      · exact s6.apart s4 (by decide)
      · exact s6.apart s5 (by decide)
      · omega
    · rcases i with _ | _ | _ | _ | _ | _ | _ | i
      · exact s7.apart s0 (by decide)
      · exact s7.apart s1 (by decide)
      · exact s7.apart s2 (by decide)
      · exact s7.apart s3 (by decide)
      · exact s7.apart s4 (by decide)
      · exact s7.apart s5 (by decide)
      · exact s7.apart s6 (by decide)
      · omega
    · rcases i with _ | _ | _ | _ | _ | _ | _ | _ | i
      · exact s8.apart s0 (by decide)
      · exact s8.apart s1 (by decide)
      · exact s8.apart s2 (by decide)
      · exact s8.apart s3 (by decide)
      · exact s8.apart s4 (by decide)
      · exact s8.apart s5 (by decide)
      · exact s8.apart s6 (by decide)
      · exact s8.apart s7 (by decide)
      · omega
    · rcases i with _ | _ | _ | _ | _ | _ | _ | _ | _ | i
      · exact s9.apart s0 (by decide)
      · exact s9.apart s1 (by decide)
      · exact s9.apart s2 (by decide)
      · exact s9.apart s3 (by decide)
      · exact s9.apart s4 (by decide)
      · exact s9.apart s5 (by decide)
      · exact s9.apart s6 (by decide)
      · exact s9.apart s7 (by decide)
      · exact s9.apart s8 (by decide)
      · omega
    · rcases i with _ | _ | _ | _ | _ | _ | _ | _ | _ | _ | i
      · exact s10.apart s0 (by decide)
      · exact s10.apart s1 (by decide)
      · exact s10.apart s2 (by decide)
      · exact s10.apart s3 (by decide)
      · exact s10.apart s4 (by decide)
      · exact s10.apart s5 (by decide)
      · exact s10.apart s6 (by decide)
      · exact s10.apart s7 (by decide)
      · exact s10.apart s8 (by decide)
      · exact s10.apart s9 (by decide)
      · omega
    · rcases i with _ | _ | _ | _ | _ | _ | _ | _ | _ | _ | _ | i
      · exact s11.apart s0 (by decide)
      · exact s11.apart s1 (by decide)
      · exact s11.apart s2 (by decide)
      · exact s11.apart s3 (by decide)
      · exact s11.apart s4 (by decide)
      · exact s11.apart s5 (by decide)
      · exact s11.apart s6 (by decide)
      · exact s11.apart s7 (by decide)
      · exact s11.apart s8 (by decide)
      · exact s11.apart s9 (by decide)
      · exact s11.apart s10 (by decide)
      · omega
    · rcases i with _ | _ | _ | _ | _ | _ | _ | _ | _ | _ | _ | _ | i
      · exact s12.apart s0 (by decide)
      · exact s12.apart s1 (by decide)
      · exact s12.apart s2 (by decide)
      · exact s12.apart s3 (by decide)
      · exact s12.apart s4 (by decide)
      · exact s12.apart s5 (by decide)
      · exact s12.apart s6 (by decide)
      · exact s12.apart s7 (by decide)
      · exact s12.apart s8 (by decide)
      · exact s12.apart s9 (by decide)
      · exact s12.apart s10 (by decide)
      · exact s12.apart s11 (by decide)
      · omega
    · rcases i with _ | _ | _ | _ | _ | _ | _ | _ | _ | _ | _ | _ | _ | i
      · exact s13.apart s0 (by decide)
      · exact s13.apart s1 (by decide)
      · exact s13.apart s2 (by decide)
      · exact s13.apart s3 (by decide)
      · exact s13.apart s4 (by decide)
      · exact s13.apart s5 (by decide)
      · exact s13.apart s6 (by decide)
      · exact s13.apart s7 (by decide)
      · exact s13.apart s8 (by decide)
      · exact s13.apart s9 (by decide)
      · exact s13.apart s10 (by decide)
      · exact s13.apart s11 (by decide)
      · exact s13.apart s12 (by decide)
      · omega
    · rcases i with _ | _ | _ | _ | _ | _ | _ | _ | _ | _ | _ | _ | _ | _ | i
      · exact s14.apart s0 (by decide)
      · exact s14.apart s1 (by decide)
      · exact s14.apart s2 (by decide)
      · exact s14.apart s3 (by decide)
      · exact s14.apart s4 (by decide)
      · exact s14.apart s5 (by decide)
      · exact s14.apart s6 (by decide)
      · exact s14.apart s7 (by decide)
      · exact s14.apart s8 (by decide)
      · exact s14.apart s9 (by decide)
      · exact s14.apart s10 (by decide)
      · exact s14.apart s11 (by decide)
      · exact s14.apart s12 (by decide)
      · exact s14.apart s13 (by decide)
      · omega
    · rcases i with _ | _ | _ | _ | _ | _ | _ | _ | _ | _ | _ | _ | _ | _ | _ | i
      · exact s15.apart s0 (by decide)
      · exact s15.apart s1 (by decide)
      · exact s15.apart s2 (by decide)
      · exact s15.apart s3 (by decide)
      · exact s15.apart s4 (by decide)
      · exact s15.apart s5 (by decide)
      · exact s15.apart s6 (by decide)
      · exact s15.apart s7 (by decide)
      · exact s15.apart s8 (by decide)
      · exact s15.apart s9 (by decide)
      · exact s15.apart s10 (by decide)
      · exact s15.apart s11 (by decide)
      · exact s15.apart s12 (by decide)
      · exact s15.apart s13 (by decide)
      · exact s15.apart s14 (by decide)
      · omega
    · rcases i with _ | _ | _ | _ | _ | _ | _ | _ | _ | _ | _ | _ | _ | _ | _ | _ | i
      · exact s16.apart s0 (by decide)
      · exact s16.apart s1 (by decide)
      · exact s16.apart s2 (by decide)
      · exact s16.apart s3 (by decide)
      · exact s16.apart s4 (by decide)
      · exact s16.apart s5 (by decide)
      · exact s16.apart s6 (by decide)
      · exact s16.apart s7 (by decide)
      · exact s16.apart s8 (by decide)
      · exact s16.apart s9 (by decide)
      · exact s16.apart s10 (by decide)
      · exact s16.apart s11 (by decide)
      · exact s16.apart s12 (by decide)
      · exact s16.apart s13 (by decide)
      · exact s16.apart s14 (by decide)
      · exact s16.apart s15 (by decide)
      · omega
    · rcases i with _ | _ | _ | _ | _ | _ | _ | _ | _ | _ | _ | _ | _ | _ | _ | _ | _ | i
      · exact s17.apart s0 (by decide)
      · exact s17.apart s1 (by decide)
      · exact s17.apart s2 (by decide)
      · exact s17.apart s3 (by decide)
      · exact s17.apart s4 (by decide)
      · exact s17.apart s5 (by decide)
      · exact s17.apart s6 (by decide)
      · exact s17.apart s7 (by decide)
      · exact s17.apart s8 (by decide)
      · exact s17.apart s9 (by decide)
      · exact s17.apart s10 (by decide)
      · exact s17.apart s11 (by decide)
      · exact s17.apart s12 (by decide)
      · exact s17.apart s13 (by decide)
      · exact s17.apart s14 (by decide)
      · exact s17.apart s15 (by decide)
      · exact s17.apart s16 (by decide)
      · omega
    · omega

/-- NumSays. -/
theorem numSays_any (name s : ByteArray) (a b : Int) (_ : name.size ≤ maxLen) (_ : s.size ≤ maxLen) (wa : (Lit.int .i64 a).wf = true) (_ : (Lit.int .i64 b).wf = true) (w : World) (h : ∃ A, All A w) :
    Calls Tryd.prog 3 #[.string name, .string s, .int .i64 a, .int .i64 b] w (Grew (.bool true) w) := by
  obtain ⟨A, h⟩ := h
  have ra : -9223372036854775808 ≤ a ∧ a ≤ 9223372036854775807 := by simpa [Lit.wf, IntKind.min, IntKind.max, IntKind.signed, IntKind.bits] using wa
  have H0 := Lib.hid (first_any w h.tabs)
  by_cases hl : 60 < s.size
  · exact says_long1 name s a b w hl H0
  by_cases hm : 60 < name.size
  · exact says_long2 name s a b w hl hm H0
  obtain ⟨x, f, is, d1, d2⟩ := do_both name a b
  obtain ⟨n, k, hk, r1, r2⟩ := arity_both name
  subst hk
  obtain ⟨fl, f1, f2⟩ := floaty_both name
  have t1 := fun w1 (hb : Below w.heap.size w w1) => text_any a ra.1 ra.2 w1 (h.below hb).tabs
  have t2 := fun w1 (hb : Below w.heap.size w w1) => rtext_any a ra.1 ra.2 w1 (h.below hb).tabs
  have p1 := fun w1 (hb : Below w.heap.size w w1) => prims_any w1 (h.below hb).prims
  have st : ∀ nb nb' w1, Txts w1 nb 0 nmL → Txts w1 nb' 0 nmL → Calls Tryd.prog 20 #[.slice (some ⟨nb, 0, none⟩) 16 16, .slice (some ⟨nb', 0, none⟩) 16 16] w1 fun e w' => e = .returned (.bool true) ∧ ∃ n, w' = w1.drewN n :=
    fun nb nb' w1 h1 h2 => texts_same nmL 16 16 nb nb' 0 0 w1 (by rw [nmL_len]; omega) h1 h2
  rcases rparse_any s with ⟨v, hv, g⟩ | ⟨hv, g⟩
  · exact says_yes name s _ a b x f n is fl v w hl hm H0 (Lib.hid d1) (Lib.hid d2) (Lib.hid fun w1 hb => parse_yes s v hv w1 (h.below hb).tabs) (Lib.hid g) (Lib.hid fun w1 hb => r1 w1 (h.below hb).prims)
      (Lib.hid t1) (Lib.hid t2) (Lib.hid r2) (Lib.hid fun w1 hb => f1 w1 (h.below hb).prims) (Lib.hid f2) (Lib.hid p1) (Lib.hid rprims_any) (Lib.hid st)
  · exact says_no name s _ a b x f n is fl _ _ w hl hm H0 (Lib.hid d1) (Lib.hid d2) (Lib.hid fun w1 hb => parse_none s hv _ _ w1 (h.below hb).tabs (h.below hb).errs (h.below hb).num) (Lib.hid g) (Lib.hid fun w1 hb => r1 w1 (h.below hb).prims)
      (Lib.hid fun w1 hb => is_any A 17 (by omega) 118 rfl w1 (h.below hb).sents) (Lib.hid t1) (Lib.hid t2) (Lib.hid r2) (Lib.hid fun w1 hb => f1 w1 (h.below hb).prims) (Lib.hid f2) (Lib.hid p1) (Lib.hid rprims_any) (Lib.hid st)
end Go.Proofs.YtmpkgbpnejajpaaDoor
