/- FreeFresh: called with any arguments. Conditions: the listed variables read as start-up lays them. -/
import Derived.Test.YtlniackafagajaaDoorFreeFreshA
import Derived.Test.YtlniackafagajaaDoorFreeFreshS
import Derived.Test.YtlniackafagajaaDoorFr4
import Derived.Test.YtlniackafagajaaDoorTxs
import Derived.Lib.LaidTab
namespace Go.Proofs.YtlniackafagajaaDoor
open Go.ChangeShapes Go.WideShapes Go.ChangeAt Go.RowKit

theorem fr_long (base : ByteArray) (x : Int) (ao : Option Addr) (m cap : Nat) (hb : 40 < base.size) (w : World) (H0 : Hid (Calls Tryd.prog 4 #[] w (Grew (.bool true) w))) :
    Calls Tryd.prog 3 #[.string base, .int .i64 x, .slice ao m cap] w (Grew (.bool true) w) := by
  have hb1 : (40 : Int) < (base.size : Int) := by omega
  clear hb
  go_enter Tryd.func3, Tryd.ntmps3
  go_wp2_with fail
  refine H0.out.mono ?_
  rintro e w0 ⟨rfl, hw0⟩
  go_wp2_with fail
  go_ret
  exact ⟨rfl, hw0⟩
theorem fr_many (base : ByteArray) (x : Int) (ao : Option Addr) (m cap : Nat) (hb : base.size ≤ 40) (hm : 10 < m) (w : World) (H0 : Hid (Calls Tryd.prog 4 #[] w (Grew (.bool true) w))) :
    Calls Tryd.prog 3 #[.string base, .int .i64 x, .slice ao m cap] w (Grew (.bool true) w) := by
  have hb1 : ¬ (40 : Int) < (base.size : Int) := by omega
  have hm1 : (10 : Int) < (m : Int) := by omega
  clear hb hm
  go_enter Tryd.func3, Tryd.ntmps3
  go_wp2_with fail
  refine H0.out.mono ?_
  rintro e w0 ⟨rfl, hw0⟩
  go_wp2_with fail
  go_ret
  exact ⟨rfl, hw0⟩
theorem freeFresh_any (base : ByteArray) (x : Int) (ao : Option Addr) (l : List ByteArray) (cap : Nat) {p q : Prop} (_p : p) (_q : q) (hc : (ao = none → l.length = 0 ∧ cap = 0) ∧ l.length ≤ maxLen) (W : World) (h : NmAt W W.heap.size ao l) (ht : laidMet Tryd.prog Rows.freeFreshRow.laid W) :
    Calls Tryd.prog 3 #[.string base, .int .i64 x, .slice ao l.length cap] W (Grew (.bool true) W) := by
  have H0 : Hid (Calls Tryd.prog 4 #[] W (Grew (.bool true) W)) := Lib.hid (freeFresh_first W (fun sy => freeFresh_starts ht sy))
  have htab : Tabs W := by
    have h2 := ht.tail.tail
    have e2 : (Rows.laid_internal_strconv_uint64pow10 : DataW Unit) = Lib.tabData .u64 Lib.pow10Tab := rfl
    rw [e2] at h2
    exact Lib.tabIs_of_head globPow (t := 70) (by kernel_rfl) Tryd.underlying70 Tryd.underlying61 (by kernel_rfl) (by kernel_rfl) h2
  rcases Nat.lt_or_ge 40 base.size with hb | hb
  · exact fr_long base x ao l.length cap hb W H0
  · rcases Nat.lt_or_ge 10 l.length with hm | hm
    · exact fr_many base x ao l.length cap hb hm W H0
    · exact freeFresh_core base x l ao l.length cap rfl hb hm hc.1 W h htab H0
end Go.Proofs.YtlniackafagajaaDoor
