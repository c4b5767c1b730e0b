/- NumSays, of a text that is none: the walk of the law, out of the contracts of what it calls. Conditions: as each says. -/
import Derived.Test.YtmpkgbpnejajpaaDoorPrim2
namespace Go.Proofs.YtmpkgbpnejajpaaDoor
open Go.RowKit

set_option maxRecDepth 100000 in
set_option maxHeartbeats 16000000 in
theorem says_no (name s t : ByteArray) (a b x f n : Int) (is fl : Bool) (tp : TypeId) (p : Value) (w : World) (hl : ¬ 60 < s.size) (hm : ¬ 60 < name.size)
    (H0 : Hid (Calls Tryd.prog 8 #[] w (Grew (.bool true) w)))
    (H1 : Hid (∀ w, Calls Tryd.prog 9 #[.string name, .int .i64 a, .int .i64 b] w fun e w' => e = .returned (.tuple #[.int .i64 x, .int .i64 f, .bool is]) ∧ w = w'))
    (H2 : Hid (∀ w, Calls Tryd.prog 10 #[.string name, .int .i64 a, .int .i64 b] w fun e w' => e = .returned (.tuple #[.int .i64 x, .int .i64 f, .bool is]) ∧ w = w'))
    (H3 : Hid (∀ w1, Below w.heap.size w w1 → Calls Tryd.prog 11 #[.string s] w1 (Grew (.tuple #[.int .i64 0, .iface tp p]) w1)))
    (H4 : Hid (∀ w, Calls Tryd.prog 12 #[.string s] w fun e w' => e = .returned (.tuple #[.int .i64 0, .bool false]) ∧ w = w'))
    (H5 : Hid (∀ w1, Below w.heap.size w w1 → Calls Tryd.prog 13 #[.string name] w1 (Grew (.tuple #[.int .i64 n, .bool (decide (0 < n))]) w1)))
    (H6 : Hid (∀ w1, Below w.heap.size w w1 → Calls Tryd.prog 14 #[.iface tp p, .int .i64 118] w1 (Grew (.bool true) w1)))
    (H7 : Hid (∀ w1, Below w.heap.size w w1 → Calls Tryd.prog 15 #[.int .i64 a] w1 (Grew (.string t) w1)))
    (H8 : Hid (∀ w1, Below w.heap.size w w1 → Calls Tryd.prog 16 #[.int .i64 a] w1 (Grew (.string t) w1)))
    (H9 : Hid (∀ w1, Calls Tryd.prog 17 #[.string name] w1 (Grew (.int .i64 n) w1)))
    (H10 : Hid (∀ w1, Below w.heap.size w w1 → Calls Tryd.prog 18 #[.string name] w1 (Grew (.bool fl) w1)))
    (H11 : Hid (∀ w, Calls Tryd.prog 19 #[.string name] w fun e w' => e = .returned (.bool fl) ∧ w = w'))
    (H12 : Hid (∀ w1, Below w.heap.size w w1 → Calls Tryd.prog 21 #[] w1 (NewNames w1)))
    (H13 : Hid (∀ w1, Calls Tryd.prog 22 #[] w1 (NewNames w1)))
    (H14 : Hid (∀ nb nb' w1, Txts w1 nb 0 nmL → Txts w1 nb' 0 nmL → Calls Tryd.prog 20 #[.slice (some ⟨nb, 0, none⟩) 16 16, .slice (some ⟨nb', 0, none⟩) 16 16] w1 fun e w' => e = .returned (.bool true) ∧ ∃ n, w' = w1.drewN n)) :
    Calls Tryd.prog 3 #[.string name, .string s, .int .i64 a, .int .i64 b] w (Grew (.bool true) w) := by
  go_enter Tryd.func3, Tryd.ntmps3
  go_wp2_with fail
  refine H0.out.mono ?_
  rintro e w0 ⟨rfl, hb0⟩
  go_wp2_with fail
  refine (H1.out _).mono ?_
  rintro e w' ⟨rfl, rfl⟩
  go_wp2_with fail
  refine (H2.out _).mono ?_
  rintro e w' ⟨rfl, rfl⟩
  go_wp2_with fail
  refine (H3.out w0 hb0).mono ?_
  rintro e w1 ⟨rfl, hc⟩
  have hb1 := hb0.trans (hc.mono hb0.size)
  clear hc hb0
  go_wp2_with fail
  refine (H4.out _).mono ?_
  rintro e w' ⟨rfl, rfl⟩
  go_wp2_with fail
  refine (H5.out w1 hb1).mono ?_
  rintro e w2 ⟨rfl, hc⟩
  have hb2 := hb1.trans (hc.mono hb1.size)
  clear hc hb1
  go_wp2_with fail
  refine (H6.out w2 hb2).mono ?_
  rintro e w3 ⟨rfl, hc⟩
  have hb3 := hb2.trans (hc.mono hb2.size)
  clear hc hb2
  go_wp2_with fail
  refine (H7.out w3 hb3).mono ?_
  rintro e w4 ⟨rfl, hc⟩
  have hb4 := hb3.trans (hc.mono hb3.size)
  clear hc hb3
  go_wp2_with fail
  refine (H8.out w4 hb4).mono ?_
  rintro e w5 ⟨rfl, hc⟩
  have hb5 := hb4.trans (hc.mono hb4.size)
  clear hc hb4
  go_wp2_with fail
  refine (H9.out w5).mono ?_
  rintro e w6 ⟨rfl, hc⟩
  have hb6 := hb5.trans (hc.mono hb5.size)
  clear hc hb5
  go_wp2_with fail
  refine (H10.out w6 hb6).mono ?_
  rintro e w7 ⟨rfl, hc⟩
  have hb7 := hb6.trans (hc.mono hb6.size)
  clear hc hb6
  go_wp2_with fail
  refine (H11.out _).mono ?_
  rintro e w' ⟨rfl, rfl⟩
  go_wp2_with fail
  refine (H12.out w7 hb7).mono ?_
  rintro e wa ⟨na, rfl, ha1, ha2, ha3, ha4⟩
  have hba := hb7.trans (ha4.mono hb7.size)
  have HT := Lib.hid ha2
  clear ha1 ha2 ha4 hb7
  go_wp2_with fail
  refine (H13.out wa).mono ?_
  rintro e wb ⟨nc, rfl, hc1, hc2, hc3, hc4⟩
  have hbb := hba.trans (hc4.mono hba.size)
  have HU := Lib.hid hc2
  have HT2 := Lib.hid (HT.out.below _ hc4 ha3)
  clear hc1 hc2 hc4 hba
  go_wp2_with fail
  refine (H14.out na nc wb HT2.out HU.out).mono ?_
  rintro e wc ⟨rfl, m, rfl⟩
  go_wp2_with fail
  go_ret
  exact ⟨rfl, below_drewN hbb m⟩

end Go.Proofs.YtmpkgbpnejajpaaDoor
