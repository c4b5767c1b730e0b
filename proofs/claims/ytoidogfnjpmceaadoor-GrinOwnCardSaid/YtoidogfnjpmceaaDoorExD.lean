/- A checked runner of calls that are closed: what a run says of its call holds in every memory, on every schedule (part 4 of 4). No conditions of its own. -/
import Derived.Test.YtoidogfnjpmceaaDoorExC
import Derived.Lib.UnsafeStr
import Derived.Lib.Bytealg
import Derived.Lib.LaidTab
import Derived.Lib.ItoaNum
import Derived.Lib.ItoaLen
namespace Go.Ex
variable {P : Program}

def CallLess (call call' : CallR) : Prop := ∀ f args s r, call f args s = some r → call' f args s = some r
def KLess (P : Program) (f s : T AV) : K → Prop
  | .pure g => ∀ v, g P f = some v → g P s = some v
  | .read g => ∀ st r, g P f st = some r → g P s st = some r
  | .new g => ∀ n r, g P f n = some r → g P s n = some r
  | .eff g => ∀ call call' st r, CallLess call call' → g call P f st = some r → g call' P s st = some r
  | .bad => True
theorem evs_less {f s : T AV} (h : Less f s) : ∀ {l : List Operand} {r : List AV}, evs l f = some r → evs l s = some r
  | [], r, hv => hv
  | x :: l, r, hv => by
    have hv' : ob (ev x f) (fun v => ob (evs l f) fun r => some (v :: r)) = some r := hv
    simp only [ob_some, Option.some.injEq] at hv'
    obtain ⟨v, h1, q, h2, rfl⟩ := hv'
    show ob (ev x s) (fun v => ob (evs l s) fun r => some (v :: r)) = _
    rw [ev_less h h1, evs_less h h2]
    rfl
theorem fillL_less {f s : T AV} (h : Less f s) {place : Nat → Option (Nat × Nat)} : ∀ {ps : List (Nat × Operand)} {l r : List AV}, fillL place f ps l = some r → fillL place s ps l = some r
  | [], l, r, hv => hv
  | p :: ps, l, r, hv => by
    have hv' : ob (place p.1) (fun q => ob (ev p.2 f) fun v => ob (cells? v) fun c => bi (Nat.beq (lenL c) q.2) (ob (putL q.1 c l) (fillL place f ps)) none) = some r := hv
    simp only [ob_some, bi_some] at hv'
    obtain ⟨q, h1, v, h2, c, h3, h4, z, h5, h6⟩ := hv'
    show ob (place p.1) (fun q => ob (ev p.2 s) fun v => ob (cells? v) fun c => bi (Nat.beq (lenL c) q.2) (ob (putL q.1 c l) (fillL place s ps)) none) = some r
    simp only [ob_some, bi_some]
    exact ⟨q, h1, v, ev_less h h2, c, h3, h4, z, h5, fillL_less h h6⟩
theorem fillS_less {f s : T AV} (h : Less f s) {z : Nat} : ∀ {ps : List (Nat × Operand)} {l r : List (List AV)}, fillS z f ps l = some r → fillS z s ps l = some r
  | [], l, r, hv => hv
  | p :: ps, l, r, hv => by
    have hv' : ob (ev p.2 f) (fun v => ob (cells? v) fun c => bi (Nat.beq (lenL c) z) (ob (setL l p.1 c) (fillS z f ps)) none) = some r := hv
    simp only [ob_some, bi_some] at hv'
    obtain ⟨v, h2, c, h3, h4, y, h5, h6⟩ := hv'
    show ob (ev p.2 s) (fun v => ob (cells? v) fun c => bi (Nat.beq (lenL c) z) (ob (setL l p.1 c) (fillS z s ps)) none) = some r
    simp only [ob_some, bi_some]
    exact ⟨v, ev_less h h2, c, h3, h4, y, h5, fillS_less h h6⟩
theorem evO_less {f s : T AV} (h : Less f s) {x : Option Operand} {r : Option AV} (hv : evO x f = some r) : evO x s = some r := by
  cases x with
  | none => exact hv
  | some x =>
    have hv' : ob (ev x f) (fun v => some (some v)) = some r := hv
    simp only [ob_some] at hv'
    obtain ⟨v, h1, h2⟩ := hv'
    show ob (ev x s) (fun v => some (some v)) = some r
    rw [ev_less h h1]; exact h2
theorem buildD_less {f s : T AV} (h : Less f s) {ps : List (Nat × Operand)} {z : List AV} {d : TypeDesc} {v : AV} (hv : buildD P ps f z d = some v) : buildD P ps s z d = some v := by
  unfold buildD at *
  split at hv
  · simp only [ob_some] at *
    obtain ⟨pl, h1, l, h2, h3⟩ := hv
    exact ⟨pl, h1, l, fillL_less h h2, h3⟩
  · simp only [ob_some] at *
    obtain ⟨n, h1, l, h2, h3⟩ := hv
    exact ⟨n, h1, l, fillL_less h h2, h3⟩
  · simp at hv
theorem kind_less {op : Op} {f s : T AV} (h : Less f s) : KLess P f s (kind op P) := by
  cases op
  case move x => exact fun v hv => ev_less h hv
  case assign x => exact fun v hv => ev_less h hv
  case pick c x y =>
    intro v hv
    have hv' : aPick c x y P f = some v := hv
    show aPick c x y P s = some v
    simp only [aPick, ob_some] at *
    obtain ⟨c', h1, b, h2, h3⟩ := hv'
    refine ⟨c', ev_less h h1, b, h2, ?_⟩
    unfold pickB at *
    rw [bi_eq] at *
    split at h3
    · rename_i hb; rw [if_pos hb]; exact ev_less h h3
    · rename_i hb; rw [if_neg hb]; exact ev_less h h3
  case alloc e => exact fun n r hv => hv
  case box e x =>
    intro n r hv
    have hv' : aBox e x P f n = some r := hv
    show aBox e x P s n = some r
    simp only [aBox, ob_some] at *
    obtain ⟨z, h1, h2⟩ := hv'
    exact ⟨z, ev_less h h1, h2⟩
  case build t ps =>
    intro v hv
    have hv' : aBuild t ps P f = some v := hv
    show aBuild t ps P s = some v
    simp only [aBuild, ob_some] at *
    obtain ⟨z, h1, c, h2, d, h3, h4⟩ := hv'
    exact ⟨z, h1, c, h2, d, h3, buildD_less h h4⟩
  case buildSlice t n ps =>
    intro m r hv
    have hv' : aBuildSlice t n ps P f m = some r := hv
    show aBuildSlice t n ps P s m = some r
    simp only [aBuildSlice, ob_some, bi_some] at *
    obtain ⟨e, h1, z, h2, zv, h3, zc, h4, h5, cs, h6, h7⟩ := hv'
    exact ⟨e, h1, z, h2, zv, h3, zc, h4, h5, cs, fillS_less h h6, h7⟩
  case load t x =>
    intro st r hv
    have hv' : rLoad t x P f st = some r := hv
    show rLoad t x P s st = some r
    simp only [rLoad, ob_some] at *
    obtain ⟨a, h1, h2⟩ := hv'
    exact ⟨a, ev_less h h1, h2⟩
  case store t x y =>
    intro call call' st r hc hv
    have hv' : aStore t x y call P f st = some r := hv
    show aStore t x y call' P s st = some r
    simp only [aStore, ob_some] at *
    obtain ⟨a, h1, p, h2, b, h3, h4⟩ := hv'
    exact ⟨a, ev_less h h1, p, h2, b, ev_less h h3, h4⟩
  case makeMap t x =>
    intro call call' st r hc hv
    have hv' : aMakeMap t x call P f st = some r := hv
    show aMakeMap t x call' P s st = some r
    simp only [aMakeMap, ob_some] at *
    obtain ⟨a, h1, h2⟩ := hv'
    exact ⟨a, evO_less h h1, h2⟩
  case lookup t x i ok =>
    intro st r hv
    have hv' : rLookup t x i ok P f st = some r := hv
    show rLookup t x i ok P s st = some r
    simp only [rLookup, ob_some] at *
    obtain ⟨a, h1, b, h2, h3⟩ := hv'
    exact ⟨a, ev_less h h1, b, ev_less h h2, h3⟩
  case insert t m k x =>
    intro call call' st r hc hv
    have hv' : aMapSet t m k x call P f st = some r := hv
    show aMapSet t m k x call' P s st = some r
    simp only [aMapSet, ob_some] at *
    obtain ⟨a, h1, b, h2, c, h3, h4⟩ := hv'
    exact ⟨a, ev_less h h1, b, ev_less h h2, c, ev_less h h3, h4⟩
  case mapUpdate t m k x =>
    intro call call' st r hc hv
    have hv' : aMapSet t m k x call P f st = some r := hv
    show aMapSet t m k x call' P s st = some r
    simp only [aMapSet, ob_some] at *
    obtain ⟨a, h1, b, h2, c, h3, h4⟩ := hv'
    exact ⟨a, ev_less h h1, b, ev_less h h2, c, ev_less h h3, h4⟩
  case mapEntry t m k =>
    intro call call' st r hc hv
    have hv' : aMapEntry t m k call P f st = some r := hv
    show aMapEntry t m k call' P s st = some r
    simp only [aMapEntry, ob_some] at *
    obtain ⟨a, h1, b, h2, h3⟩ := hv'
    exact ⟨a, ev_less h h1, b, ev_less h h2, h3⟩
  case entryStore t m k x =>
    intro call call' st r hc hv
    have hv' : aEntryStore m k x call P f st = some r := hv
    show aEntryStore m k x call' P s st = some r
    simp only [aEntryStore, ob_some] at *
    obtain ⟨a, h1, b, h2, n, h3, c, h4, h5⟩ := hv'
    exact ⟨a, ev_less h h1, b, ev_less h h2, n, h3, c, ev_less h h4, h5⟩
  case nilCheck x =>
    intro v hv
    have hv' : aNilCheck x P f = some v := hv
    show aNilCheck x P s = some v
    simp only [aNilCheck, ob_some] at *
    obtain ⟨a, h1, h2⟩ := hv'
    exact ⟨a, ev_less h h1, h2⟩
  case binOp o t x y u =>
    show KLess P f s (kBin o t x y u P)
    unfold kBin
    split
    · rw [bi_eq]
      split
      · intro st r hv
        simp only [rEq, ob_some] at *
        obtain ⟨a, h1, b, h2, h3⟩ := hv
        exact ⟨a, ev_less h h1, b, ev_less h h2, h3⟩
      · intro v hv
        have hv' : aBin o t x y u P f = some v := hv
        show aBin o t x y u P s = some v
        simp only [aBin, ob_some] at *
        obtain ⟨a, h1, b, h2, h3⟩ := hv'
        exact ⟨a, ev_less h h1, b, ev_less h h2, h3⟩
    · trivial
  case unOp o t x =>
    intro v hv
    have hv' : aUn o t x P f = some v := hv
    show aUn o t x P s = some v
    simp only [aUn, ob_some] at *
    obtain ⟨a, h1, h2⟩ := hv'
    exact ⟨a, ev_less h h1, h2⟩
  case convert q d x =>
    show KLess P f s (kConvert q d x P)
    unfold kConvert
    split
    · unfold kConv
      split
      · intro v hv
        have hv' : cvInt _ x P f = some v := hv
        show cvInt _ x P s = some v
        simp only [cvInt, ob_some] at *
        obtain ⟨a, h1, h2⟩ := hv'
        exact ⟨a, ev_less h h1, h2⟩
      · intro v hv
        have hv' : cvStr x P f = some v := hv
        show cvStr x P s = some v
        simp only [cvStr, ob_some] at *
        obtain ⟨a, h1, h2⟩ := hv'
        exact ⟨a, ev_less h h1, h2⟩
      · intro st r hv
        have hv' : rOfBytes q x P f st = some r := hv
        show rOfBytes q x P s st = some r
        simp only [rOfBytes, ob_some] at *
        obtain ⟨a, h1, h2⟩ := hv'
        exact ⟨a, ev_less h h1, h2⟩
      · intro n r hv
        rename_i e _ _
        have hv' : cvToBytes e x P f n = some r := hv
        show cvToBytes e x P s n = some r
        simp only [cvToBytes, ob_some] at *
        obtain ⟨a, h1, h2⟩ := hv'
        exact ⟨a, ev_less h h1, h2⟩
      · intro v hv
        have hv' : cvFlo _ x P f = some v := hv
        show cvFlo _ x P s = some v
        simp only [cvFlo, ob_some] at *
        obtain ⟨a, h1, h2⟩ := hv'
        exact ⟨a, ev_less h h1, h2⟩
      · trivial
    · trivial
  case makeInterface t x =>
    intro v hv
    have hv' : aIface t x P f = some v := hv
    show aIface t x P s = some v
    simp only [aIface, ob_some] at *
    obtain ⟨a, h1, h2⟩ := hv'
    exact ⟨a, ev_less h h1, h2⟩
  case makeFunc g a b =>
    intro v hv
    have hv' : aFunc g a b P f = some v := hv
    show aFunc g a b P s = some v
    simp only [aFunc, ob_some] at *
    obtain ⟨x, h1, y, h2, h3⟩ := hv'
    exact ⟨x, evs_less h h1, y, evs_less h h2, h3⟩
  case makeSlice t l c =>
    intro n r hv
    have hv' : aMakeSlice t l c P f n = some r := hv
    show aMakeSlice t l c P s n = some r
    simp only [aMakeSlice, ob_some, bi_some] at *
    obtain ⟨e, h1, z, h2, zv, h3, zc, h4, lv, h5, ln, h6, cv, h7, h8⟩ := hv'
    exact ⟨e, h1, z, h2, zv, h3, zc, h4, lv, ev_less h h5, ln, h6, cv, ev_less h h7, h8⟩
  case slice t x lo hi mx =>
    intro v hv
    have hv' : aSlice t x lo hi mx P f = some v := hv
    show aSlice t x lo hi mx P s = some v
    unfold aSlice at *
    split at hv'
    · simp at hv'
    · simp only [aSlice0, ob_some] at *
      obtain ⟨a, h1, b, h2, c, h3, h4⟩ := hv'
      exact ⟨a, ev_less h h1, b, evO_less h h2, c, evO_less h h3, h4⟩
  case fieldAddr t x g =>
    intro v hv
    have hv' : aFieldAddr t x g P f = some v := hv
    show aFieldAddr t x g P s = some v
    simp only [aFieldAddr, ob_some] at *
    obtain ⟨a, h1, h2⟩ := hv'
    exact ⟨a, ev_less h h1, h2⟩
  case field t x g =>
    intro v hv
    have hv' : aField t x g P f = some v := hv
    show aField t x g P s = some v
    simp only [aField, ob_some] at *
    obtain ⟨a, h1, h2⟩ := hv'
    exact ⟨a, ev_less h h1, h2⟩
  case indexAddr t x i =>
    intro v hv
    have hv' : aIndexAddr t x i P f = some v := hv
    show aIndexAddr t x i P s = some v
    simp only [aIndexAddr, ob_some] at *
    obtain ⟨a, h1, b, h2, h3⟩ := hv'
    exact ⟨a, ev_less h h1, b, ev_less h h2, h3⟩
  case index t x i =>
    intro v hv
    have hv' : aIndex t x i P f = some v := hv
    show aIndex t x i P s = some v
    simp only [aIndex, ob_some] at *
    obtain ⟨a, h1, b, h2, h3⟩ := hv'
    exact ⟨a, ev_less h h1, b, ev_less h h2, h3⟩
  case typeAssert x q t ok =>
    intro v hv
    have hv' : aAssert x q t ok P f = some v := hv
    show aAssert x q t ok P s = some v
    simp only [aAssert, ob_some] at *
    obtain ⟨a, h1, h2⟩ := hv'
    exact ⟨a, ev_less h h1, h2⟩
  case extract t i =>
    intro v hv
    have hv' : aExtract t i P f = some v := hv
    show aExtract t i P s = some v
    simp only [aExtract, ob_some] at *
    obtain ⟨a, h1, h2⟩ := hv'
    exact ⟨a, ev_less h h1, h2⟩
  case call c =>
    show KLess P f s (kCall c P)
    unfold kCall
    split
    · unfold kBuiltin
      split
      all_goals try trivial
      all_goals first
        | (unfold kLen
           rw [bi_eq]
           split
           · unfold ops1
             split
             · rename_i x hx
               intro st r hv
               have hv' : rLenM x _ P f st = some r := hv
               show rLenM x _ P s st = some r
               simp only [rLenM, ob_some] at *
               obtain ⟨a, h1, h2⟩ := hv'
               exact ⟨a, ev_less h h1, h2⟩
             · trivial
           · unfold ops1
             split
             · rename_i x hx
               intro v hv
               have hv' : bLen x _ P f = some v := hv
               show bLen x _ P s = some v
               simp only [bLen, ob_some] at *
               obtain ⟨a, h1, h2⟩ := hv'
               exact ⟨a, ev_less h h1, h2⟩
             · trivial)
        | (unfold ops1
           split
           · rename_i x hx
             intro v hv
             have hv' : bCap x _ P f = some v := hv
             show bCap x _ P s = some v
             simp only [bCap, ob_some] at *
             obtain ⟨a, h1, h2⟩ := hv'
             exact ⟨a, ev_less h h1, h2⟩
           · trivial)
        | (unfold ops2
           split
           · rename_i x y hx
             first
               | (intro v hv
                  have hv' : bTwo _ x y P f = some v := hv
                  show bTwo _ x y P s = some v
                  simp only [bTwo, ob_some] at *
                  obtain ⟨a, h1, b, h2, h3⟩ := hv'
                  exact ⟨a, ev_less h h1, b, ev_less h h2, h3⟩)
               | (intro call call' st r hc hv
                  have hv' : bApp x y _ call P f st = some r := hv
                  show bApp x y _ call' P s st = some r
                  unfold bApp at *
                  rw [bi_eq] at *
                  split at hv'
                  · rename_i hz
                    rw [if_pos hz]
                    simp only [bAppZ, ob_some] at *
                    obtain ⟨t, h0, z, h0', a, h1, b, h2, h3⟩ := hv'
                    exact ⟨t, h0, z, h0', a, ev_less h h1, b, ev_less h h2, h3⟩
                  · rename_i hz
                    rw [if_neg hz]
                    simp only [bAppN, ob_some] at *
                    obtain ⟨z, h0, a, h1, b, h2, h3⟩ := hv'
                    exact ⟨z, h0, a, ev_less h h1, b, ev_less h h2, h3⟩)
               | (intro call call' st r hc hv
                  have hv' : bCopy x y _ call P f st = some r := hv
                  show bCopy x y _ call' P s st = some r
                  simp only [bCopy, ob_some] at *
                  obtain ⟨z, h0, a, h1, b, h2, h3⟩ := hv'
                  exact ⟨z, h0, a, ev_less h h1, b, ev_less h h2, h3⟩)
               | (intro call call' st r hc hv
                  have hv' : bDelete x y _ call P f st = some r := hv
                  show bDelete x y _ call' P s st = some r
                  simp only [bDelete, ob_some] at *
                  obtain ⟨z, h0, a, h1, b, h2, h3⟩ := hv'
                  exact ⟨z, h0, a, ev_less h h1, b, ev_less h h2, h3⟩)
           · trivial)
    · rename_i g hg
      unfold kVal
      split
      · intro call call' st r hc hv
        have hv' : aCallV g c.args call P f st = some r := hv
        show aCallV g c.args call' P s st = some r
        simp only [aCallV, ob_some] at *
        obtain ⟨a, h1, b, h2, h3⟩ := hv'
        refine ⟨a, evs_less h h1, b, ev_less h h2, ?_⟩
        unfold callF at *
        split at h3
        · exact hc _ _ _ _ h3
        · simp at h3
      all_goals
        unfold ops1
        split
        · rename_i x hx
          intro v hv
          have hv' : aExt _ x P f = some v := hv
          show aExt _ x P s = some v
          simp only [aExt, ob_some] at *
          obtain ⟨a, h1, h2⟩ := hv'
          exact ⟨a, ev_less h h1, h2⟩
        · trivial
    · rename_i g n hg
      intro call call' st r hc hv
      have hv' : aInvoke g n c.args call P f st = some r := hv
      show aInvoke g n c.args call' P s st = some r
      simp only [aInvoke, ob_some] at *
      obtain ⟨a, h1, b, h2, h3⟩ := hv'
      refine ⟨a, evs_less h h1, b, ev_less h h2, ?_⟩
      unfold callI at *
      split at h3
      · simp only [ob_some] at *
        obtain ⟨fid, h4, h5⟩ := h3
        exact ⟨fid, h4, hc _ _ _ _ h5⟩
      · simp at h3
  all_goals trivial
theorem want_less {ops : Array Oper} {f s : T AV} (h : Less f s) {g : Option (Nat × Bool)} {w : Bool} (hw : want ops f g = some w) : want ops s g = some w := by
  cases g with
  | none => exact hw
  | some p =>
    simp only [want, ob_some] at *
    obtain ⟨o, h1, d, h2, v, h3, h4⟩ := hw
    exact ⟨o, h1, d, h2, v, h _ _ h3, h4⟩
theorem runK_less {op : Op} {f s : T AV} (h : Less f s) {call call' : CallR} (hc : CallLess call call') {st : St} {r : AV × St} (hr : runK (kind op P) call P f st = some r) : runK (kind op P) call' P s st = some r := by
  have hk := kind_less (P := P) (op := op) h
  cases hq : kind op P with
  | pure g =>
    rw [hq] at hr hk
    have hr' : ob (g P f) (fun v => some (v, st)) = some r := hr
    show ob (g P s) (fun v => some (v, st)) = some r
    simp only [ob_some] at *
    obtain ⟨v, h1, h2⟩ := hr'
    exact ⟨v, hk v h1, h2⟩
  | read g =>
    rw [hq] at hr hk
    have hr' : ob (g P f st) (fun v => some (v.v, st)) = some r := hr
    show ob (g P s st) (fun v => some (v.v, st)) = some r
    simp only [ob_some] at *
    obtain ⟨v, h1, h2⟩ := hr'
    exact ⟨v, hk st v h1, h2⟩
  | new g =>
    rw [hq] at hr hk
    have hr' : ob (g P f st.next) (fun v => some (v.1, addRow st v.2)) = some r := hr
    show ob (g P s st.next) (fun v => some (v.1, addRow st v.2)) = some r
    simp only [ob_some] at *
    obtain ⟨v, h1, h2⟩ := hr'
    exact ⟨v, hk _ v h1, h2⟩
  | eff g =>
    rw [hq] at hr hk
    exact hk call call' st r hc hr
  | bad =>
    rw [hq] at hr
    have hr' : (none : R) = some r := hr
    simp at hr'
theorem dferV_less {c : Call} {f s : T AV} (h : Less f s) {d : AV × List AV} (hd : dferV c f = some d) : dferV c s = some d := by
  unfold dferV at *
  split at hd
  · simp only [ob_some] at *
    obtain ⟨a, h1, b, h2, h3⟩ := hd
    exact ⟨a, evs_less h h1, b, ev_less h h2, h3⟩
  · simp at hd
theorem opRunD_less {o : Oper} {f s : T AV} (h : Less f s) {call : CallR} {st : St} {w : Bool} {r : AV × St} (hr : opRunD P call o f st w = some r) : opRunD P call o s st w = some r := by
  unfold opRunD at *
  split at hr
  · unfold opRun at *
    rw [bi_eq] at *
    split at hr
    · rename_i hw; rw [if_pos hw]; exact runK_less h (fun _ _ _ _ h => h) hr
    · rename_i hw; rw [if_neg hw]; exact hr
  · rw [bi_eq] at *
    split at hr
    · rename_i hw
      rw [if_pos hw]
      simp only [ob_some] at *
      obtain ⟨d, h1, h2⟩ := hr
      exact ⟨d, dferV_less h h1, h2⟩
    · rename_i hw; rw [if_neg hw]; exact hr
end Go.Ex

namespace Go.Ex
variable {sy : Nat → Value} {ρ : Env} {P : Program}

def Masked (mask : Nat) (tm : T AV) : Prop := ∀ t v, tm.get t = some v → mask.testBit t = true
theorem CallLess.refl (call : CallR) : CallLess call call := fun _ _ _ _ h => h
theorem optrec_fk {α : Type} {x : Option α} {f : α → FK} {k : FK} (h : Option.rec (motive := fun _ => FK) .slow f x = k) (hk : k ≠ .slow) : ∃ a, x = some a ∧ f a = k := by
  cases x with
  | none => exact absurd h.symm hk
  | some a => exact ⟨a, rfl, h⟩
/-- what a step of the fast kind is plainly -/
theorem fk_ok {mask : Nat} {lay : List Nat} {rs : List AV} {f s : T AV} (hC : Cov mask lay rs f s) {op : Op} {call : CallR} {st : St} :
    (∀ a v, fkind P lay op = .pure a → a.fn rs f = some v → runK (kind op P) call P s st = some (v, st)) ∧
    (∀ a v, fkind P lay op = .load a → a.fn rs f st = some v → runK (kind op P) call P s st = some (v, st)) ∧
    (∀ g r, fkind P lay op = .eff g → g call rs f st = some r → runK (kind op P) call P s st = some r) := by
  cases op
  case move x =>
    refine ⟨fun a v h hv => ?_, fun a v h => by simp [fkind] at h, fun g r h => by simp [fkind] at h⟩
    have h' : FK.pure (accC lay x) = .pure a := h
    simp at h'; subst h'
    show ob (ev x s) (fun v => some (v, st)) = _
    rw [accC_ev hC hv]; rfl
  case assign x =>
    refine ⟨fun a v h hv => ?_, fun a v h => by simp [fkind] at h, fun g r h => by simp [fkind] at h⟩
    have h' : FK.pure (accC lay x) = .pure a := h
    simp at h'; subst h'
    show ob (ev x s) (fun v => some (v, st)) = _
    rw [accC_ev hC hv]; rfl
  case pick c x y =>
    refine ⟨fun a v h hv => ?_, fun a v h => by simp [fkind] at h, fun g r h => by simp [fkind] at h⟩
    have h' : FK.pure (pickF (accC lay c) (accC lay x) (accC lay y)) = .pure a := h
    simp at h'; subst h'
    unfold pickF at hv
    simp only [optrec_some] at hv
    obtain ⟨cv, h1, b, h2, h3⟩ := hv
    show ob (aPick c x y P s) (fun v => some (v, st)) = _
    have : aPick c x y P s = some v := by
      simp only [aPick, ob_some]
      refine ⟨cv, accC_ev hC h1, b, h2, ?_⟩
      unfold pickB
      rw [bi_eq]
      rw [boolrec_eq] at h3
      split at h3
      · rename_i hb; rw [if_pos hb]; exact accC_ev hC h3
      · rename_i hb; rw [if_neg hb]; exact accC_ev hC h3
    rw [this]; rfl
  case binOp o t x y u =>
    have hk : fkind P lay (.binOp o t x y u) = binK o t x y u P lay := rfl
    have hpure : ∀ k, binK o t x y u P lay = k → k ≠ .slow → isPure (kBin o t x y u P) = true ∧ k = .pure (binF o P t ((isConst x).or (isConst y)) (accC lay x) (accC lay y)) := by
      intro k h hs
      unfold binK at h
      rw [boolrec_eq] at h
      split at h
      · rename_i hp; exact ⟨hp, h.symm⟩
      · exact absurd h.symm hs
    rw [hk]
    refine ⟨fun a v h hv => ?_, fun a v h => by have := (hpure _ h (by simp)).2; simp at this, fun g r h => by have := (hpure _ h (by simp)).2; simp at this⟩
    obtain ⟨hp, e⟩ := hpure _ h (by simp)
    simp at e; subst e
    unfold binF at hv
    simp only [optrec_some] at hv
    obtain ⟨xv, h1, yv, h2, h3⟩ := hv
    have hkb : kBin o t x y u P = .pure (aBin o t x y u) := by
      unfold kBin at *
      split
      · rename_i d hd
        simp only [hd] at hp
        rw [bi_eq] at *
        split
        · rename_i hc; rw [if_pos hc] at hp; simp [isPure] at hp
        · rfl
      · rename_i hd
        simp only [hd] at hp
        simp [isPure] at hp
    show runK (kBin o t x y u P) call P s st = _
    rw [hkb]
    show ob (aBin o t x y u P s) (fun v => some (v, st)) = _
    have : aBin o t x y u P s = some v := by
      simp only [aBin, ob_some]
      exact ⟨xv, accC_ev hC h1, yv, accC_ev hC h2, h3⟩
    rw [this]; rfl
  case load t x =>
    have hk : fkind P lay (.load t x) = loadK (isAg P t) (size? P t) (accC lay x) := rfl
    have hload : ∀ k, loadK (isAg P t) (size? P t) (accC lay x) = k → k ≠ .slow → ∃ ag n, isAg P t = some ag ∧ size? P t = some n ∧ k = .load (loadF ag n (accC lay x)) := by
      intro k h hs
      obtain ⟨ag, h1, h2⟩ := optrec_fk h hs
      obtain ⟨n, h3, h4⟩ := optrec_fk h2 hs
      exact ⟨ag, n, h1, h3, h4.symm⟩
    rw [hk]
    refine ⟨fun a v h => by obtain ⟨_, _, _, _, e⟩ := hload _ h (by simp); simp at e, fun a v h hv => ?_, fun g r h => by obtain ⟨_, _, _, _, e⟩ := hload _ h (by simp); simp at e⟩
    obtain ⟨ag, n, g1, g2, e⟩ := hload _ h (by simp)
    simp at e; subst e
    unfold loadF at hv
    obtain ⟨hp, fm, nx, fl⟩ := st
    simp only [optrec_some, boolrec_none] at hv
    obtain ⟨xv, h1, p, h2, row, h3, h4, l, h5, h6⟩ := hv
    show ob (rLoad t x P s ⟨hp, fm, nx, fl⟩) (fun r => some (r.v, _)) = _
    have : rLoad t x P s ⟨hp, fm, nx, fl⟩ = some ⟨v, p.1, p.2, n⟩ := by
      simp only [rLoad, ob_some]
      refine ⟨xv, accC_ev hC h1, p, h2, n, g2, v, ?_, rfl⟩
      simp only [loadV, loadC, ob_some, bi_some]
      exact ⟨ag, g1, n, g2, l, ⟨row, h3, h4, h5⟩, h6⟩
    rw [this]; rfl
  case fieldAddr t x fi =>
    have hk : fkind P lay (.fieldAddr t x fi) = fieldK (field? P t fi) (accC lay x) := rfl
    have hfield : ∀ k, fieldK (field? P t fi) (accC lay x) = k → k ≠ .slow → ∃ q, field? P t fi = some q ∧ k = .pure (fieldAF q.1 q.2.1 (accC lay x)) := by
      intro k h hs
      obtain ⟨q, h1, h2⟩ := optrec_fk h hs
      exact ⟨q, h1, h2.symm⟩
    rw [hk]
    refine ⟨fun a v h hv => ?_, fun a v h => by obtain ⟨_, _, e⟩ := hfield _ h (by simp); simp at e, fun g r h => by obtain ⟨_, _, e⟩ := hfield _ h (by simp); simp at e⟩
    obtain ⟨q, g1, e⟩ := hfield _ h (by simp)
    simp at e; subst e
    unfold fieldAF at hv
    simp only [optrec_some, boolrec_none'] at hv
    obtain ⟨xv, h1, p, h2, h3, h4⟩ := hv
    show ob (aFieldAddr t x fi P s) (fun v => some (v, st)) = _
    have : aFieldAddr t x fi P s = some v := by
      simp only [aFieldAddr, ob_some]
      refine ⟨xv, accC_ev hC h1, p, h2, q, g1, ?_⟩
      rw [h3]; exact h4
    rw [this]; rfl
  case indexAddr t x i =>
    have hk : fkind P lay (.indexAddr t x i) = ixK P (P.underlying t) (accC lay x) (accC lay i) := rfl
    have hix : ∀ k, ixK P (P.underlying t) (accC lay x) (accC lay i) = k → k ≠ .slow → ∃ d, P.underlying t = some d ∧ k = .pure (ixAF P d (accC lay x) (accC lay i)) := by
      intro k h hs
      obtain ⟨q, h1, h2⟩ := optrec_fk h hs
      exact ⟨q, h1, h2.symm⟩
    rw [hk]
    refine ⟨fun a v h hv => ?_, fun a v h => by obtain ⟨_, _, e⟩ := hix _ h (by simp); simp at e, fun g r h => by obtain ⟨_, _, e⟩ := hix _ h (by simp); simp at e⟩
    obtain ⟨d, g1, e⟩ := hix _ h (by simp)
    simp at e; subst e
    unfold ixAF at hv
    simp only [optrec_some] at hv
    obtain ⟨xv, h1, iv, h2, k, h3, h4⟩ := hv
    show ob (aIndexAddr t x i P s) (fun v => some (v, st)) = _
    have : aIndexAddr t x i P s = some v := by
      simp only [aIndexAddr, ob_some]
      exact ⟨xv, accC_ev hC h1, iv, accC_ev hC h2, k, h3, d, g1, h4⟩
    rw [this]; rfl
  case call c =>
    have hk : fkind P lay (.call c) = callK P c lay := rfl
    rw [hk]
    unfold callK
    cases hcal : c.callee with
    | value g =>
      simp only []
      unfold callV
      split
      case h_2 => exact ⟨fun a v h => by simp at h, fun a v h => by simp at h, fun e r h => by simp at h⟩
      rename_i hx0
      refine ⟨fun a v h => by simp at h, fun a v h => by simp at h, fun e r h hv => ?_⟩
      simp at h; subst h
      unfold callFF at hv
      simp only [optrec_some] at hv
      obtain ⟨args, h1, fv, h2, h3⟩ := hv
      have hkc : kind (.call c) P = .eff (aCallV g c.args) := by
        show kCall c P = _
        unfold kCall; rw [hcal]
        show kVal (extK P g) g c = _
        rw [hx0]; rfl
      rw [hkc]
      show aCallV g c.args call P s st = some r
      simp only [aCallV, ob_some]
      exact ⟨args, accsV_ev hC h1, fv, accC_ev hC h2, h3⟩
    | builtin b => exact ⟨fun a v h => by simp at h, fun a v h => by simp at h, fun e r h => by simp at h⟩
    | invoke a b => exact ⟨fun a v h => by simp at h, fun a v h => by simp at h, fun e r h => by simp at h⟩
  all_goals exact ⟨fun a v h => by simp [fkind] at h, fun a v h => by simp [fkind] at h, fun g r h => by simp [fkind] at h⟩

theorem stepR_ok {mask : Nat} {lay : List Nat} {rs : List AV} {f s : T AV} (hC : Cov mask lay rs f s) {o : Oper} {next : RC} {pushed : Bool} {call : CallR} {st : St} {r : T AV × St}
    (h : (stepR (fkind P lay o.op) P o lay next pushed).fn call rs f st = some r) : ∃ v st', runK (kind o.op P) call P s st = some (v, st') ∧ next.fn call (if pushed then v :: rs else rs) f st' = some r := by
  obtain ⟨k1, k2, k3⟩ := fk_ok (P := P) hC (op := o.op) (call := call) (st := st)
  cases hk : fkind P lay o.op with
  | pure a =>
    rw [hk] at h
    have h' : Option.rec (motive := fun _ => RR) none (fun v => next.fn call (Bool.rec (motive := fun _ => List AV) rs (v :: rs) pushed) f st) (a.fn rs f) = some r := h
    rw [optrec_some] at h'
    obtain ⟨v, h1, h2⟩ := h'
    rw [boolrec_eq] at h2
    exact ⟨v, st, k1 a v hk h1, h2⟩
  | load a =>
    rw [hk] at h
    have h' : Option.rec (motive := fun _ => RR) none (fun v => next.fn call (Bool.rec (motive := fun _ => List AV) rs (v :: rs) pushed) f st) (a.fn rs f st) = some r := h
    rw [optrec_some] at h'
    obtain ⟨v, h1, h2⟩ := h'
    rw [boolrec_eq] at h2
    exact ⟨v, st, k2 a v hk h1, h2⟩
  | eff g =>
    rw [hk] at h
    have h' : Option.rec (motive := fun _ => RR) none (fun p => Prod.rec (motive := fun _ => RR) (fun v s' => next.fn call (Bool.rec (motive := fun _ => List AV) rs (v :: rs) pushed) f s') p) (g call rs f st) = some r := h
    rw [optrec_some] at h'
    obtain ⟨⟨v, s1⟩, h1, h2⟩ := h'
    simp only [boolrec_eq] at h2
    exact ⟨v, s1, k3 g _ hk h1, h2⟩
  | slow =>
    rw [hk] at h
    have h' : Option.rec (motive := fun _ => RR) none (fun p => Prod.rec (motive := fun _ => RR) (fun v s' => next.fn call (Bool.rec (motive := fun _ => List AV) rs (v :: rs) pushed) f s') p) (runK (kind o.op P) call P (tmOf lay rs f) st) = some r := h
    rw [optrec_some] at h'
    obtain ⟨⟨v, s1⟩, h1, h2⟩ := h'
    simp only [boolrec_eq] at h2
    exact ⟨v, s1, runK_less hC.all (.refl call) h1, h2⟩
theorem stepG_ok {mask : Nat} {lay : List Nat} {rs : List AV} {f s : T AV} (hC : Cov mask lay rs f s) {ops : Array Oper} {o : Oper} {next : RC} {pushed : Bool} {call : CallR} {st : St} {r : T AV × St}
    (h : (stepG P ops o lay next pushed).fn call rs f st = some r) : ∃ w v st', want ops s o.guard = some w ∧ opRunD P call o s st w = some (v, st') ∧ next.fn call (if pushed then v :: rs else rs) f st' = some r := by
  have h' : Option.rec (motive := fun _ => RR) none (fun w => Option.rec (motive := fun _ => RR) none (fun p => Prod.rec (motive := fun _ => RR) (fun v s' => next.fn call (Bool.rec (motive := fun _ => List AV) rs (v :: rs) pushed) f s') p) (opRunD P call o (tmOf lay rs f) st w)) (want ops (tmOf lay rs f) o.guard) = some r := h
  simp only [optrec_some] at h'
  obtain ⟨w, h1, ⟨v, s1⟩, h2, h3⟩ := h'
  simp only [boolrec_eq] at h3
  exact ⟨w, v, s1, want_less hC.all h1, opRunD_less hC.all h2, h3⟩
theorem stepC_ok {mask : Nat} {lay : List Nat} {rs : List AV} {f s : T AV} (hC : Cov mask lay rs f s) {ops : Array Oper} {o : Oper} {next : RC} {pushed : Bool} {call : CallR} {st : St} {r : T AV × St}
    (h : (stepC P ops o lay next pushed).fn call rs f st = some r) : ∃ w v st', want ops s o.guard = some w ∧ opRunD P call o s st w = some (v, st') ∧ next.fn call (if pushed then v :: rs else rs) f st' = some r := by
  unfold stepC at h
  split at h
  · exact stepG_ok hC h
  · rename_i hd
    cases hg : o.guard with
    | none =>
      rw [hg] at h
      obtain ⟨v, st', h1, h2⟩ := stepR_ok hC h
      refine ⟨true, v, st', rfl, ?_, h2⟩
      unfold opRunD
      rw [hd]
      exact h1
    | some p =>
      rw [hg] at h
      rw [← hg]
      exact stepG_ok hC h
theorem flush_get {mask : Nat} : ∀ {lay : List Nat} {rs : List AV} {f : T AV}, lay.length = rs.length → ∀ t, ((flushC mask lay).fn rs f).get t = if mask.testBit t then look lay rs f t else f.get t
  | [], rs, f, hl, t => by
    show f.get t = _
    split <;> rfl
  | x :: lay, [], f, hl, t => by simp at hl
  | x :: lay, v :: rs, f, hl, t => by
    have ih := flush_get (mask := mask) (lay := lay) (rs := rs) (f := f) (by simpa using hl) t
    have e : (flushC mask (x :: lay)).fn (v :: rs) f = if mask.testBit x then ((flushC mask lay).fn rs f).set x v else (flushC mask lay).fn rs f := by
      show (Bool.rec (motive := fun _ => WC) (WC.mk fun rs tm => List.rec (motive := fun _ => T AV) tm (fun _ r _ => (flushC mask lay).fn r tm) rs)
        (WC.mk fun rs tm => List.rec (motive := fun _ => T AV) tm (fun v r _ => (setCf (wayF x) x).fn ((flushC mask lay).fn r tm) v) rs) (tb mask x)).fn (v :: rs) f = _
      rw [tb_eq, boolrec_eq]
      split <;> rfl
    rw [e]
    unfold look
    rw [posOf_cons]
    unfold look at ih
    by_cases hx : t = x
    · subst hx
      cases hb : mask.testBit t with
      | true => simp [T.get_set]
      | false => simp only [hb, Bool.false_eq_true, if_false] at ih ⊢; exact ih
    · have hx' : ¬ x = t := fun q => hx q.symm
      have hset : (if mask.testBit x then ((flushC mask lay).fn rs f).set x v else (flushC mask lay).fn rs f).get t = ((flushC mask lay).fn rs f).get t := by
        split
        · rw [T.get_set, if_neg hx]
        · rfl
      rw [hset, ih, if_neg hx']
      cases posOf t lay <;> rfl
theorem regC_run {mask : Nat} {ops : Array Oper} {call : CallR} : ∀ {l : List Oper} {lay : List Nat} {rs : List AV} {f s : T AV} {st : St} {r : T AV × St}, Cov mask lay rs f s → (regC P mask ops l lay).fn call rs f st = some r →
    ∃ tm', opsRun P call ops l s st = some (tm', r.2) ∧ Less r.1 tm' ∧ Masked mask r.1
  | [], lay, rs, f, s, st, r, hC, h => by
    have h' : some ((flushC mask lay).fn rs f, st) = some r := h
    simp at h'; subst h'
    refine ⟨s, rfl, fun t v hv => ?_, fun t v hv => ?_⟩
    · rw [flush_get hC.len] at hv
      split at hv
      · exact hC.get t v hv
      · rename_i hb; exact absurd (hC.mask t v hv) hb
    · rw [flush_get hC.len] at hv
      split at hv
      · assumption
      · exact hC.mask t v hv
  | o :: l, lay, rs, f, s, st, r, hC, h => by
    have h' : (Option.rec (motive := fun _ => RC) (stepC P ops o lay (regC P mask ops l lay) false) (fun t => stepC P ops o lay (regC P mask ops l (t :: lay)) true) o.dst).fn call rs f st = some r := h
    have key : ∀ w v st' tm', want ops s o.guard = some w → opRunD P call o s st w = some (v, st') → opsRun P call ops l (put s v o.dst) st' = some (tm', r.2) → opsRun P call ops (o :: l) s st = some (tm', r.2) := by
      intro w v st' tm' h1 h2 h3
      show ob (want ops s o.guard) (fun w => ob (opRunD P call o s st w) fun r => opsRun P call ops l (put s r.1 o.dst) r.2) = _
      simp only [ob_some]
      exact ⟨w, h1, _, h2, h3⟩
    cases hd : o.dst with
    | none =>
      rw [hd] at h'
      obtain ⟨w, v, st', h1, h2, h3⟩ := stepC_ok hC h'
      obtain ⟨tm', g1, g2, g3⟩ := regC_run hC h3
      exact ⟨tm', key w v st' tm' h1 h2 (by rw [hd]; exact g1), g2, g3⟩
    | some t =>
      rw [hd] at h'
      obtain ⟨w, v, st', h1, h2, h3⟩ := stepC_ok hC h'
      obtain ⟨tm', g1, g2, g3⟩ := regC_run (hC.push t v) h3
      exact ⟨tm', key w v st' tm' h1 h2 (by rw [hd]; exact g1), g2, g3⟩
theorem cov_self {mask : Nat} {f : T AV} (h : Masked mask f) : Cov mask [] [] f f := ⟨rfl, fun _ _ q => q, h⟩
/-- what a region that draws has not made stands -/
theorem drawn_far {call : CallR} {ops : Array Oper} {tm : T AV} {s : St} {r : T AV × St} (h : drawn P call ops tm s = some r) {t : Tmp} (hn : ∀ o ∈ ops.toList, o.dst ≠ some t) : r.1.get t = tm.get t := by
  obtain ⟨its, Tr, hT, hend⟩ := drawn_trace h
  obtain ⟨-, rfl⟩ := endD_inv hend
  have := hT.tm_far (t := t) (i := 0) its.length (Nat.zero_le _) (Nat.le_refl _) fun j x _ _ hx => hn _ (List.mem_of_getElem? (by simpa using (hT.plan.op j x hx).1))
  rw [this, hT.zero]
theorem keepD_ok {mask : Nat} {q : T AV} : ∀ {l : List Oper} {f f' : T AV}, keepD mask q l f = some f' → (∀ t v, f'.get t = some v → (q.get t = some v ∧ mask.testBit t = true) ∨ (f.get t = some v ∧ ((∀ o ∈ l, o.dst ≠ some t) ∨ mask.testBit t = false)))
  | [], f, f', h, t, v, hv => by
    have h' : some f = some f' := h
    simp at h'; subst h'
    exact .inr ⟨hv, .inl fun o ho => by simp at ho⟩
  | o :: l, f, f', h, t, v, hv => by
    have h' : Option.rec (motive := fun _ => Option (T AV)) (keepD mask q l f) (fun t => Bool.rec (motive := fun _ => Option (T AV)) (keepD mask q l f) (Option.rec (motive := fun _ => Option (T AV)) none (fun v => keepD mask q l (setT t f v)) (getT t q)) (tb mask t)) o.dst = some f' := h
    cases hd : o.dst with
    | none =>
      rw [hd] at h'
      rcases keepD_ok (l := l) h' t v hv with g | ⟨g1, g2⟩
      · exact .inl g
      · refine .inr ⟨g1, g2.imp (fun k o' ho' => ?_) (fun k => k)⟩
        rcases List.mem_cons.1 ho' with rfl | ho'
        · rw [hd]; simp
        · exact k o' ho'
    | some x =>
      rw [hd] at h'
      have h2 : Bool.rec (motive := fun _ => Option (T AV)) (keepD mask q l f) (Option.rec (motive := fun _ => Option (T AV)) none (fun v => keepD mask q l (setT x f v)) (getT x q)) (tb mask x) = some f' := h'
      rw [boolrec_eq, tb_eq] at h2
      split at h2
      · rename_i hm
        rw [optrec_some] at h2
        obtain ⟨u, h3, h4⟩ := h2
        rcases keepD_ok (l := l) h4 t v hv with g | ⟨g1, g2⟩
        · exact .inl g
        · have g1' : (T.set f x u).get t = some v := g1
          rw [T.get_set] at g1'
          split at g1'
          · rename_i e
            simp at g1'; subst g1'; subst e
            exact .inl ⟨h3, hm⟩
          · rename_i e
            refine .inr ⟨g1', g2.imp (fun k o' ho' => ?_) (fun k => k)⟩
            rcases List.mem_cons.1 ho' with rfl | ho'
            · rw [hd]; simp; exact fun q => e q.symm
            · exact k o' ho'
      · rename_i hm
        rcases keepD_ok (l := l) h2 t v hv with g | ⟨g1, g2⟩
        · exact .inl g
        · rcases g2 with g2 | g2
          · by_cases e : x = t
            · subst e; exact .inr ⟨g1, .inr (by simpa using hm)⟩
            · refine .inr ⟨g1, .inl fun o' ho' => ?_⟩
              rcases List.mem_cons.1 ho' with rfl | ho'
              · rw [hd]; simpa using e
              · exact g2 o' ho'
          · exact .inr ⟨g1, .inr g2⟩
theorem drawnF_run {mask : Nat} {ops : Array Oper} {call : CallR} {f : T AV} {st : St} {r : T AV × St} (hm : Masked mask f) (h : (drawnF P mask ops).fn call [] f st = some r) : ∃ q, drawn P call ops f st = some (q, r.2) ∧ Less r.1 q ∧ Masked mask r.1 := by
  have h' : Option.rec (motive := fun _ => RR) none (fun p => Prod.rec (motive := fun _ => RR) (fun q s' => Option.rec (motive := fun _ => RR) none (fun tm' => some (tm', s')) (keepD mask q ops.toList f)) p) (drawn P call ops f st) = some r := h
  rw [optrec_some] at h'
  obtain ⟨⟨q, s1⟩, h1, h2⟩ := h'
  have h2' : Option.rec (motive := fun _ => RR) none (fun tm' => some (tm', s1)) (keepD mask q ops.toList f) = some r := h2
  rw [optrec_some] at h2'
  obtain ⟨f', h3, h4⟩ := h2'
  simp at h4; subst h4
  refine ⟨q, h1, fun t v hv => ?_, fun t v hv => ?_⟩
  · rcases keepD_ok h3 t v hv with g | ⟨g1, g2⟩
    · exact g.1
    · rcases g2 with g2 | g2
      · rw [drawn_far h1 g2]; exact g1
      · rw [hm t v g1] at g2; simp at g2
  · rcases keepD_ok h3 t v hv with g | ⟨g1, g2⟩
    · exact g.2
    · exact hm t v g1
end Go.Ex

namespace Go.Ex
variable {sy : Nat → Value} {ρ : Env} {P : Program}

/-! a range over a function -/
theorem backOf_inv {c : Code} {K : BK} (h : backOf c = some K) : ∃ i0 i1 i2 i3 i4, c = .seq (.region i0 K.o0 false) (.block K.b0 (.loop (.seq (.seq (.region i1 K.o1 false) (.cond K.c1 .skip (.exit K.b0))) (.seq (.block i2 (.seq (.region i3 K.o3 false) (.cond K.c2 .ret .skip))) (.region i4 K.o2 false))))) := by
  unfold backOf at h
  split at h
  · rename_i i0 o0 b0 i1 o1 c1 b1 i2 i3 o3 c2 i4 o2
    rw [bi_some] at h
    obtain ⟨h1, h2⟩ := h
    simp at h2
    subst h2
    have := Nat.eq_of_beq_eq_true h1
    subst this
    exact ⟨i0, i1, i2, i3, i4, rfl⟩
  · simp at h
theorem splitY_cons {o : Oper} {l : List Oper} : splitY (o :: l) = match l with
    | [] => none
    | [n] => some ([], o, n)
    | _ => ob (splitY l) fun p => some (o :: p.1, p.2) := by
  match l with
  | [] => rfl
  | [_] => rfl
  | _ :: _ :: _ => rfl
theorem splitY_eq : ∀ {l : List Oper} {p : List Oper × Oper × Oper}, splitY l = some p → l = p.1 ++ [p.2.1, p.2.2]
  | [], _, h => by
    have h' : none = some _ := h
    simp at h'
  | [_], _, h => by
    have h' : none = some _ := h
    simp at h'
  | [o, n], p, h => by
    have h' : some ([], o, n) = some p := h
    simp at h'; subst h'; rfl
  | o :: n :: m :: l, p, h => by
    rw [splitY_cons] at h
    simp only [ob_some, Option.some.injEq] at h
    obtain ⟨q, h1, rfl⟩ := h
    have := splitY_eq h1
    simp [this]
theorem yieldOf_inv {o : Oper} {y : Tmp × Operand × List Operand} (h : yieldOf o = some y) : ∃ c, o.dst = some y.1 ∧ o.op = .call c ∧ o.guard = none ∧ c.callee = .value y.2.1 ∧ c.args.toList = y.2.2 := by
  unfold yieldOf at h
  split at h
  · rename_i d c h1 h2 h3
    split at h
    · rename_i f hf
      simp at h; subst h
      exact ⟨c, h1, h2, h3, hf, rfl⟩
    · simp at h
  · simp at h
theorem isYl_inv {id : Nat} {v : AV} (h : isYl id v = true) : v = .yl id := by
  unfold isYl at h
  split at h
  · rw [Nat.eq_of_beq_eq_true h]
  · simp at h
theorem noDs_inv {l : List (AV × List AV)} (h : noDs l = true) : l = [] := by
  unfold noDs at h
  split at h
  · rfl
  · simp at h
theorem noRes_inv {fn : Func} (h : noRes fn = true) : fn.results.toList = [] := by
  unfold noRes at h
  split at h
  · rename_i hq; exact hq
  · simp at h
abbrev Rnd := List AV → St → Option (Ex × St)
theorem turnF_inv {call : CallR} {K : BK} {pre : List Oper} {y : Tmp × Operand × List Operand} {id : Nat} {nt : Oper} {round : Rnd} {next : T AV → St → Option (Ex × St)} {tm : T AV} {s : St} {x : Ex × St} (h : turnF P call K pre y id nt round next tm s = some x) :
    ∃ r v t, opsRun P call K.o1 K.o1.toList tm s = some r ∧ ev K.c1 r.1 = some v ∧ asB v = some t ∧ ((t = false ∧ x = (.normal, r.2)) ∨ (t = true ∧ ∃ q as x1 z v2 u, opsRun P call K.o3 pre r.1 r.2 = some q ∧ ev y.2.1 q.1 = some (.yl id) ∧ evs y.2.2 q.1 = some as ∧ round as q.2 = some x1 ∧
      opsRun P call K.o3 [nt] (q.1.set y.1 (.bool (isNorm x1.1))) x1.2 = some z ∧ ev K.c2 z.1 = some v2 ∧ asB v2 = some u ∧
      ((isNorm x1.1 = true ∧ u = false ∧ ∃ m, opsRun P call K.o2 K.o2.toList z.1 z.2 = some m ∧ next m.1 m.2 = some x) ∨ (isNorm x1.1 = false ∧ u = true ∧ x = (x1.1, z.2))))) := by
  unfold turnF at h
  simp only [ob_some] at h
  obtain ⟨r, h1, v, h2, t, h3, h4⟩ := h
  refine ⟨r, v, t, h1, h2, h3, ?_⟩
  rw [bi_eq] at h4
  cases t with
  | false =>
    simp at h4
    exact .inl ⟨rfl, h4.symm⟩
  | true =>
    simp only [if_true, ob_some, bi_some] at h4
    obtain ⟨q, g1, yv, g2, g3, as, g4, x1, g5, z, g6, v2, g7, u, g8, g9⟩ := h4
    rw [isYl_inv g3] at g2
    refine .inr ⟨rfl, q, as, x1, z, v2, u, g1, g2, g4, g5, g6, g7, g8, ?_⟩
    rw [bi_eq] at g9
    split at g9
    · rename_i hn
      rw [bi_eq] at g9
      split at g9
      · simp at g9
      · rename_i hu
        rw [ob_some] at g9
        exact .inl ⟨hn, by simpa using hu, g9⟩
    · rename_i hn
      rw [bi_some] at g9
      simp only [Option.some.injEq] at g9
      exact .inr ⟨by simpa using hn, g9.1, g9.2.symm⟩
theorem iterF_succ {call : CallR} {K : BK} {pre : List Oper} {y : Tmp × Operand × List Operand} {id : Nat} {nt : Oper} {round : Rnd} {k : Nat} {tm : T AV} {s : St} : iterF P call K pre y id nt round (k + 1) tm s = turnF P call K pre y id nt round (iterF P call K pre y id nt round k) tm s := rfl
theorem iterF_grows {call : CallR} (hg : Grows call) {K : BK} {pre : List Oper} {y : Tmp × Operand × List Operand} {id : Nat} {nt : Oper} {round : Rnd} (hr : ∀ as s x, round as s = some x → s.next ≤ x.2.next) :
    ∀ (k : Nat) (tm : T AV) (s : St) (x : Ex × St), iterF P call K pre y id nt round k tm s = some x → s.next ≤ x.2.next
  | 0, _, _, _, h => by
    have h' : none = some _ := h
    simp at h'
  | k + 1, tm, s, x, h => by
    rw [iterF_succ] at h
    obtain ⟨r, v, t, h1, h2, h3, h4⟩ := turnF_inv h
    have k1 := opsRun_next hg h1
    rcases h4 with ⟨-, rfl⟩ | ⟨-, q, as, x1, z, v2, u, g1, g2, g3, g4, g5, g6, g7, g8⟩
    · exact k1
    · have k2 := opsRun_next hg g1
      have k3 := hr _ _ _ g4
      have k4 := opsRun_next hg g5
      rcases g8 with ⟨-, -, m, m1, m2⟩ | ⟨-, -, rfl⟩
      · have k5 := opsRun_next hg m1
        have k6 := iterF_grows hg hr k _ _ _ m2
        omega
      · show s.next ≤ z.2.next
        omega
theorem rangeG_inv {call : CallR} {fv : AV} {round : Rnd} {tm : T AV} {s : St} {r : Ex × T AV × St} (h : rangeG P call fv round tm s = some r) :
    ∃ g caps fn c K p y q x k, fv = .fn (.func g) [] caps ∧ P.funcs[g]? = some fn ∧ enterOk fn = true ∧ fn.results.toList = [] ∧ fn.body = some c ∧ backOf c = some K ∧ splitY K.o3.toList = some p ∧ yieldOf p.2.1 = some y ∧ backOk fn.ntmps K = true ∧
      opsRun P call K.o0 K.o0.toList (argsT (.yl s.next :: caps) 0 .E) (nextUp (setDs [] s)) = some q ∧ iterF P call K p.1 y s.next p.2.2 round k q.1 q.2 = some x ∧ x.2.fams.ds = [] ∧ r = (x.1, tm, setDs ((.tup [], []) :: s.fams.ds) x.2) := by
  unfold rangeG at h
  split at h
  · rename_i g caps
    simp only [ob_some, bi_some, and_true'] at h
    obtain ⟨fn, h1, ⟨h2, h3⟩, c, h4, K, h5, p, h6, y, h7, h8, q, h9, x, h10, h11, h12⟩ := h
    simp only [Option.some.injEq] at h12
    exact ⟨g, caps, fn, c, K, p, y, q, x, _, rfl, h1, h2, noRes_inv h3, h4, h5, h6, h7, h8, h9, h10, noDs_inv h11, h12.symm⟩
  · simp at h
theorem rangeG_grows {call : CallR} (hg : Grows call) {fv : AV} {round : Rnd} (hr : ∀ as s x, round as s = some x → s.next ≤ x.2.next) {tm : T AV} {s : St} {r : Ex × T AV × St} (h : rangeG P call fv round tm s = some r) : r.2.1 = tm ∧ s.next ≤ r.2.2.next := by
  obtain ⟨g, caps, fn, c, K, p, y, q, x, k, -, -, -, -, -, -, -, -, -, h9, h10, -, rfl⟩ := rangeG_inv h
  have k1 := opsRun_next hg h9
  have k2 := iterF_grows hg hr _ _ _ _ h10
  have k0 : (nextUp (setDs [] s)).next = s.next + 1 := rfl
  exact ⟨rfl, show s.next ≤ x.2.next by omega⟩
/-- the handle of a loop's record joins what is known -/
theorem yl_out {s : St} {w w' : World} {l : Nat} (hS : SatS sy ρ s w) (hρ : ρ s.next = none) (hl : w.heap.size ≤ l) (hsz : w.heap.size ≤ w'.heap.size) (hold : ∀ b, b < w.heap.size → w'.heap[b]? = w.heap[b]?) (hos : w'.os = w.os) (ht : w'.tape = w.tape) (ho : w'.output = w.output) :
    Out sy ρ s w (Env.set ρ s.next ⟨l, 0, 0, true, 0⟩) (nextUp (setDs [] s)) w' := by
  have hm := Env.set_mono (ρ := ρ) (pl := ⟨l, 0, 0, true, 0⟩) hρ
  refine ⟨⟨Nat.le_succ _, rfl, fun _ hi _ => hi, fun _ hi _ => hi⟩, ⟨hsz, hos, ht, ho, fun b hb _ => hold b hb, hm, fun i q hq hi => ?_⟩, ⟨hS.sat.keep hm fun b x hx => hold b (lt_of_shape hx), hS.wf, Nat.le_succ_of_le hS.fln, hS.maps.keep hm fun b es c hb => (hold b (Array.getElem?_eq_some_iff.1 hb).1).trans hb⟩⟩
  unfold Env.set at hq
  split at hq
  · rename_i e; subst e
    simp at hq; subst hq
    exact ⟨⟨Nat.le_refl _, Nat.lt_succ_self _⟩, .inl hl⟩
  · rw [hi] at hq; simp at hq
/-- how a round is left: what the loop's record then bears -/
def jumpOf : Ex → Option Code
  | .normal => none
  | .ret => some .ret
  | .exit i => some (.exit i)
/-- a loop's book-keeping, and what is known, behind rounds -/
structure Lp (sy : Nat → Value) (ρ : Env) (s : St) (w : World) (rc : LoopState → Option Code → Loop) (st : LoopState) (pe : Option Code) (ρ' : Env) (s' : St) (w' : World) : Prop where
  out : Out sy ρ s w ρ' s' w'
  loop : w'.heap[w.heap.size + 1]? = some (.loop (rc st pe))
  mark : w'.heap[w.heap.size]? = some (.deferred (some []))
theorem Lp.step {s s1 s2 : St} {w w1 w2 : World} {ρ1 ρ2 : Env} {rc : LoopState → Option Code → Loop} {st : LoopState} {pe : Option Code} (h : Lp sy ρ s w rc st pe ρ1 s1 w1) (ho : Out sy ρ1 s1 w1 ρ2 s2 w2) (hf : Fresh ρ s.next s2.next) : Lp sy ρ s w rc st pe ρ2 s2 w2 :=
  ⟨h.out.trans ho hf, ho.keeps h.out.sat h.loop rfl (by simp), ho.keeps h.out.sat h.mark rfl (by simp)⟩
theorem Lp.put {s s1 : St} {w w1 : World} {ρ1 : Env} {rc : LoopState → Option Code → Loop} {st st' : LoopState} {pe pe' : Option Code} (h : Lp sy ρ s w rc st pe ρ1 s1 w1) : Lp sy ρ s w rc st' pe' ρ1 s1 (w1.putObj (w.heap.size + 1) (.loop (rc st' pe'))) :=
  ⟨h.out.putObj _ (Nat.le_succ _) h.loop rfl (by simp), World.putObj_heap_same (Array.getElem?_eq_some_iff.1 h.loop).1, (World.putObj_heap_other (by omega)).trans h.mark⟩
/-- what is known of a round -/
def RoundOk (sy : Nat → Value) (P : Program) (ρ : Env) (s : St) (w : World) (rc : LoopState → Option Code → Loop) (fnid : FuncId) (tmps0 : Array Value) (ps : Array Tmp) (as body : Code) (round : Rnd) : Prop :=
  ∀ (m : Nat) (args : List AV) (vs : Array Value) (s1 : St) (x : Ex × St) (ρ1 : Env) (W : World), round args s1 = some x → Lp sy ρ s w rc .ready none ρ1 s1 W → VL sy ρ1 args vs.toList → Fresh ρ s.next x.2.next →
    vs.size = ps.size ∧ s1.fams.ds = [] ∧ RoundIn Fence.wide m P (w.heap.size + 1) fnid ((ps.zip vs).foldl (fun t (p, v) => t.setIfInBounds p v) tmps0) as body W fun e W2 => e = .returned (.bool (isNorm x.1)) ∧ x.2.fams.ds = [] ∧
      ∃ ρ2, (∀ i q, ρ1 i = some q → ρ2 i = some q) ∧ Lp sy ρ s w rc (if isNorm x.1 then .ready else .done) (jumpOf x.1) ρ2 x.2 W2
theorem region_wp {call : CallR} (hcall : CallsOk sy P call) (hg : Grows call) {ops : Array Oper} {id nt B m : Nat} {ro : Option Nat} {Q : Exit → Act → World → Prop} {tm : T AV} {a : Act} {s : St} {w : World} {r : T AV × St} {D : List Deferred}
    (hd : ∀ o ∈ ops.toList, dstOk nt o = true) (hn : ro = none ∨ ∀ o ∈ ops.toList, noDef o = true) (hS : SatS sy ρ s w) (ht : TM sy ρ tm a) (hf : Frm nt D a) (hD : DfOk sy ρ B w s.fams.ds D) (hfr : Fresh ρ s.next r.2.next) (h : opsRun P call ops ops.toList tm s = some r)
    (hQ : ∀ ρ' w' a' D', Out sy ρ s w ρ' r.2 w' → TM sy ρ' r.1 a' → Frm nt D' a' → DfOk sy ρ' B w' r.2.fams.ds D' → Q .normal a' w') : (Code.region id ops false).wpIn (FR ro) m P Q a w := by
  refine wpIn_region_list ?_
  have := opsRun_wp (Q := Q) (m := m) hcall hg [] ops.toList ρ tm a s w r D hd hn hS ht hf hD hfr h hQ
  rwa [List.append_nil] at this
theorem list_wp {call : CallR} (hcall : CallsOk sy P call) (hg : Grows call) {ops : Array Oper} {nt B m : Nat} {ro : Option Nat} {Q : Exit → Act → World → Prop} {l : List Oper} {tm : T AV} {a : Act} {s : St} {w : World} {r : T AV × St} {D : List Deferred}
    (hd : ∀ o ∈ l, dstOk nt o = true) (hn : ro = none ∨ ∀ o ∈ l, noDef o = true) (hS : SatS sy ρ s w) (ht : TM sy ρ tm a) (hf : Frm nt D a) (hD : DfOk sy ρ B w s.fams.ds D) (hfr : Fresh ρ s.next r.2.next) (h : opsRun P call ops l tm s = some r)
    (hQ : ∀ ρ' w' a' D', Out sy ρ s w ρ' r.2 w' → TM sy ρ' r.1 a' → Frm nt D' a' → DfOk sy ρ' B w' r.2.fams.ds D' → Q .normal a' w') : wpListIn (FR ro) m P ops Q l a w := by
  have := opsRun_wp (Q := Q) (m := m) hcall hg [] l ρ tm a s w r D hd hn hS ht hf hD hfr h hQ
  rwa [List.append_nil] at this
theorem backOk_inv {nt : Nat} {K : BK} (h : backOk nt K = true) : (∀ o ∈ K.o0.toList, dstOk nt o = true) ∧ (∀ o ∈ K.o1.toList, dstOk nt o = true) ∧ (∀ o ∈ K.o2.toList, dstOk nt o = true) ∧ ∀ o ∈ K.o3.toList, dstOk nt o = true := by
  unfold backOk at h
  rw [and_true', and_true', and_true'] at h
  exact ⟨allL_mem.1 h.1.1, allL_mem.1 h.1.2, allL_mem.1 h.2.1, allL_mem.1 h.2.2⟩
/-- the iterator's loop -/
theorem iter_ok {call : CallR} (hcall : CallsOk sy P call) (hg : Grows call) {fn : Func} {K : BK} {p : List Oper × Oper × Oper} {y : Tmp × Operand × List Operand} {id : Nat} {round : Rnd} {s : St} {w : World} {rc : LoopState → Option Code → Loop} {fnid : FuncId} {tmps0 : Array Value} {ps : Array Tmp} {as body : Code} {pl : Pl}
    (hp : K.o3.toList = p.1 ++ [p.2.1, p.2.2]) (hy : yieldOf p.2.1 = some y) (hok : backOk fn.ntmps K = true) (hround : RoundOk sy P ρ s w rc fnid tmps0 ps as body round) (hgr : ∀ as s x, round as s = some x → s.next ≤ x.2.next)
    (hrc : rc .ready none = { state := .ready, pending := none, fn := fnid, tmps := tmps0, params := ps, assign := as, body := body, defers := w.heap.size }) (hpl : pl.blk = w.heap.size + 1) {m i1 i2 i3 i4 : Nat} {R : Ending → World → Prop} {x : Ex × St} (hfr : Fresh ρ s.next x.2.next) (hres : fn.results.toList = []) (hds : x.2.fams.ds = [])
    (hR : ∀ ρ2 W2 v, Lp sy ρ s w rc (if isNorm x.1 then .ready else .done) (jumpOf x.1) ρ2 x.2 W2 → R (.returned v) W2) :
    ∀ (k : Nat) (tm : T AV) (s1 : St) (ρ1 : Env) (W : World) (a : Act) (D : List Deferred), iterF P call K p.1 y id p.2.2 round k tm s1 = some x → Lp sy ρ s w rc .ready none ρ1 s1 W → ρ1 id = some pl → TM sy ρ1 tm a → Frm fn.ntmps D a → DfOk sy ρ1 w.heap.size W s1.fams.ds D →
      Code.roundsIn (FR none) m P (.seq (.seq (.region i1 K.o1 false) (.cond K.c1 .skip (.exit K.b0))) (.seq (.block i2 (.seq (.region i3 K.o3 false) (.cond K.c2 .ret .skip))) (.region i4 K.o2 false))) (Exit.inBlock K.b0 (bodyPost P fn R)) k a W
  | 0, _, _, _, _, _, _, h, _, _, _, _, _ => by
    have h' : none = some _ := h
    simp at h'
  | k + 1, tm, s1, ρ1, W, a, D, h, hL, hid, ht, hf, hD => by
    rw [iterF_succ] at h
    obtain ⟨r, v, t, h1, h2, h3, h4⟩ := turnF_inv h
    obtain ⟨d0, d1, d2, d3⟩ := backOk_inv hok
    have n1 := opsRun_next hg h1
    have hle : r.2.next ≤ x.2.next := by
      rcases h4 with ⟨-, rfl⟩ | ⟨-, q, as', x1, z, v2, u, g1, g2, g3, g4, g5, g6, g7, g8⟩
      · exact Nat.le_refl _
      · have k2 := opsRun_next hg g1
        have k3 := hgr _ _ _ g4
        have k4 := opsRun_next hg g5
        rcases g8 with ⟨-, -, mm, m1, m2⟩ | ⟨-, -, rfl⟩
        · have k5 := opsRun_next hg m1
          have k6 := iterF_grows hg hgr k _ _ _ m2
          omega
        · show r.2.next ≤ z.2.next; omega
    -- the end of the iterator's body
    have fin : ∀ (ρ2 : Env) (W2 : World) (a2 : Act) (D2 : List Deferred) (tm2 : T AV), Lp sy ρ s w rc (if isNorm x.1 then .ready else .done) (jumpOf x.1) ρ2 x.2 W2 → TM sy ρ2 tm2 a2 → Frm fn.ntmps D2 a2 → DfOk sy ρ2 w.heap.size W2 x.2.fams.ds D2 →
        a2.defers = [] ∧ ∃ v, (results fn a2.tmps).run P W2 = .ok v W2 ∧ R (.returned v) W2 := by
      intro ρ2 W2 a2 D2 tm2 q1 q2 q3 q4
      rw [hds] at q4
      obtain ⟨u, m1, -⟩ := results_V q1.out.sat q2 (l := []) (by rw [hres]; rfl)
      exact ⟨by rw [q3.defers]; exact q4.nil_inv, u, m1, hR ρ2 W2 u q1⟩
    show Code.wpIn (FR none) m P _ (Exit.then (Code.roundsIn (FR none) m P _ _ k) _) a W
    refine wpIn_seq (wpIn_seq (region_wp hcall hg d1 (.inl rfl) hL.out.sat ht hf hD ((hL.out.fresh hfr).sub (Nat.le_refl _) hle) h1 fun ρ2 W2 a2 D2 o1 o2 o3 o4 => ?_))
    have hL2 := hL.step o1 (hfr.sub (Nat.le_refl _) hle)
    have hid2 := o1.fr.mono _ _ hid
    have hb := asB_V h3 (ev_V hL2.out.sat.sat.glob o2 h2)
    show Code.wpIn (FR none) m P (.cond K.c1 .skip (.exit K.b0)) _ a2 W2
    rcases h4 with ⟨rfl, rfl⟩ | ⟨rfl, q, as', x1, z, v2, u, g1, g2, g3, g4, g5, g6, g7, g8⟩
    · refine wpIn_cond hb (wpIn_exit ?_)
      show (if K.b0 = K.b0 then bodyPost P fn R .normal a2 W2 else _)
      rw [if_pos rfl]
      exact fin ρ2 W2 a2 D2 r.1 hL2 o2 o3 o4
    · refine wpIn_cond hb (wpIn_skip ?_)
      have k2 := opsRun_next hg g1
      have k3 := hgr _ _ _ g4
      have k4 := opsRun_next hg g5
      have hzx : z.2.next ≤ x.2.next := by
        rcases g8 with ⟨-, -, mm, m1, m2⟩ | ⟨-, -, rfl⟩
        · have k5 := opsRun_next hg m1
          have k6 := iterF_grows hg hgr k _ _ _ m2
          omega
        · exact Nat.le_refl _
      refine wpIn_seq (wpIn_block (wpIn_seq (wpIn_region_list ?_)))
      have d3' : (∀ o ∈ p.1, dstOk fn.ntmps o = true) ∧ dstOk fn.ntmps p.2.1 = true ∧ dstOk fn.ntmps p.2.2 = true := by
        rw [hp] at d3
        exact ⟨fun o ho => d3 o (List.mem_append_left _ ho), d3 _ (by simp), d3 _ (by simp)⟩
      rw [hp]
      refine opsRun_wp hcall hg [p.2.1, p.2.2] p.1 ρ2 r.1 a2 r.2 W2 q D2 d3'.1 (.inl rfl) hL2.out.sat o2 o3 o4 ((hL2.out.fresh hfr).sub (Nat.le_refl _) (by omega)) g1 fun ρ3 W3 a3 D3 e1 e2 e3 e4 => ?_
      have hL3 := hL2.step e1 (hfr.sub (Nat.le_refl _) (by omega))
      have hid3 := e1.fr.mono _ _ hid2
      obtain ⟨cl, c1, c2, c3, c4, c5⟩ := yieldOf_inv hy
      have hglob := hL3.out.sat.sat.glob
      have hyv : a3.eval y.2.1 = .func (.yield (w.heap.size + 1)) #[] #[] := by
        obtain ⟨pl', j1, j2⟩ := ev_V hglob e2 g2
        rw [hid3] at j1; simp at j1; subst j1
        rw [j2, hpl]
      have hargs : VL sy ρ3 as' (cl.args.map a3.eval).toList := by
        have := evs_VL hglob e2 g3
        rw [Array.toList_map, c5]; exact this
      obtain ⟨hsz, hd1, hrin⟩ := hround (m - 1) as' (cl.args.map a3.eval) q.2 x1 ρ3 W3 g4 hL3 hargs (hfr.sub (Nat.le_refl _) (by omega))
      have hyield := run_yield (P := P) (args := cl.args.map a3.eval) hL3.loop (by rw [hrc]; exact hsz)
      have hrun : (execOp a3.eval p.2.1).run P W3 = .ok (.round (w.heap.size + 1) fnid ((ps.zip (cl.args.map a3.eval)).foldl (fun t (p, v) => t.setIfInBounds p v) tmps0) as body) W3 := by
        rw [hrc] at hyield
        simp only at hyield
        simp [execOp, c2, resolve, c4, hyv, Deferred.ofValue, invoke, hyield]
      have hwant : Region.wanted p.2.1 (yielded K.o3 a3.tmps) = true := by simp [Region.wanted, c3]
      show (if Region.wanted p.2.1 (yielded K.o3 a3.tmps) then _ else _)
      rw [if_pos hwant]
      refine ⟨fun _ _ => trivial, ?_⟩
      show Oper.uponIn (FR none) m P p.2.1 a3 _ _ ((execOp a3.eval p.2.1).run P W3)
      rw [hrun]
      refine ⟨fun hd => by simp [FR, Fence.wide] at hd, RoundIn.mono hrin fun e W4 hq => ?_⟩
      obtain ⟨rfl, hd4, ρ4, hm4, hL4⟩ := hq
      have hD3 : D3 = [] := by rw [hd1] at e4; exact e4.nil_inv
      subst hD3
      have hid4 := hm4 _ _ hid3
      show wpListIn (FR none) m P K.o3 _ [p.2.2] (a3.put p.2.1.dst (.bool (isNorm x1.1))) W4
      rw [c1]
      have ht4 : TM sy ρ4 (q.1.set y.1 (.bool (isNorm x1.1))) (a3.put (some y.1) (.bool (isNorm x1.1))) := by
        have := TM.put (o := p.2.1) (e2.mono hm4) e3 d3'.2.1 (show V sy ρ4 (.bool (isNorm x1.1)) (.bool (isNorm x1.1)) from rfl)
        rw [c1] at this
        exact this
      refine list_wp hcall hg (by simpa using d3'.2.2) (.inl rfl) hL4.out.sat ht4 (e3.put _ _) (by rw [hd4]; exact DfOk.nil hL4.out.fr.size) ((hL4.out.fresh hfr).sub (Nat.le_refl _) hzx) g5 fun ρ5 W5 a5 D5 f1 f2 f3 f4 => ?_
      have hL5 := hL4.step f1 (hfr.sub (Nat.le_refl _) hzx)
      have hid5 := f1.fr.mono _ _ hid4
      have hb5 := asB_V g7 (ev_V hL5.out.sat.sat.glob f2 g6)
      show Code.wpIn (FR none) m P (.cond K.c2 .ret .skip) _ a5 W5
      rcases g8 with ⟨hn, rfl, mm, m1, m2⟩ | ⟨hn, rfl, rfl⟩
      · refine wpIn_cond hb5 (wpIn_skip ?_)
        show Code.wpIn (FR none) m P (.region i4 K.o2 false) _ a5 W5
        rw [hn] at hL5
        have k6 := iterF_grows hg hgr k _ _ _ m2
        have hx1 : jumpOf x1.1 = none := by
          cases hx : x1.1 <;> rw [hx] at hn <;> simp [isNorm] at hn
          rfl
        rw [hx1] at hL5
        refine region_wp hcall hg d2 (.inl rfl) hL5.out.sat f2 f3 f4 ((hL5.out.fresh hfr).sub (Nat.le_refl _) k6) m1 fun ρ6 W6 a6 D6 y1 y2 y3 y4 => ?_
        exact iter_ok hcall hg hp hy hok hround hgr hrc hpl hfr hres hds hR k mm.1 mm.2 ρ6 W6 a6 D6 m2 (hL5.step y1 (hfr.sub (Nat.le_refl _) k6)) (y1.fr.mono _ _ hid5) y2 y3 y4
      · refine wpIn_cond hb5 (wpIn_ret ?_)
        show bodyPost P fn R .ret a5 W5
        exact fin ρ5 W5 a5 D5 z.1 hL5 f2 f3 f4
/-- a loop's record, as the statement lays it -/
def rcOf (w : World) (a : Act) (ps : Array Tmp) (as body : Code) (fnid : FuncId) (st : LoopState) (pe : Option Code) : Loop := { state := st, pending := pe, fn := fnid, tmps := a.tmps, params := ps, assign := as, body := body, defers := w.heap.size }
/-- the statement -/
theorem range_ok {call : CallR} (hcall : CallsOk sy P call) (hg : Grows call) {f : Operand} {ps : Array Tmp} {as body : Code} {fv : AV} {round : Rnd} {tm : T AV} {s : St} {r : Ex × T AV × St} {a : Act} {w : World} {D : List Deferred} {nt B m : Nat} {Q : Exit → Act → World → Prop}
    (h : rangeG P call fv round tm s = some r) (hfv : V sy ρ fv (a.eval f)) (hS : SatS sy ρ s w) (ht : TM sy ρ tm a) (hf : Frm nt D a) (hD : DfOk sy ρ B w s.fams.ds D) (hfr : Fresh ρ s.next r.2.2.next) (hgr : ∀ as s x, round as s = some x → s.next ≤ x.2.next)
    (hround : ∀ fnid, RoundOk sy P ρ s w (rcOf w a ps as body fnid) fnid a.tmps ps as body round)
    (hQ : ∀ ρ' w' a' D', Out sy ρ s w ρ' r.2.2 w' → TM sy ρ' r.2.1 a' → Frm nt D' a' → DfOk sy ρ' B w' r.2.2.fams.ds D' → Q (exQ r.1) a' w') : (Code.rangeFunc f ps as body).wpIn (FR none) m P Q a w := by
  obtain ⟨g, caps, fn, c, K, p, y, q, x, k, rfl, h1, h2, hres, h3, h4, h5, h6, h7, h8, h9, hds, rfl⟩ := rangeG_inv h
  obtain ⟨i0, i1, i2, i3, i4, hc⟩ := backOf_inv h4
  obtain ⟨fx, fy, efv, e2, e3⟩ := hfv
  have hfx : fx = #[] := by
    have : fx.toList = [] := e2
    simpa using this
  subst hfx
  have hen : Enters P g := ⟨fn, h1, by simpa [enterOk] using h2, by simp [h3]⟩
  have hfr' : Fresh ρ s.next x.2.next := hfr
  have hgk : q.2.next ≤ x.2.next := iterF_grows hg hgr _ _ _ _ h9
  have hg0 : s.next + 1 ≤ q.2.next := opsRun_next hg h8
  refine wpIn_rangeFunc fun fnid _ => ?_
  obtain ⟨W1, hW1⟩ : ∃ W1, (w.alloc (.deferred (some []))).alloc (.loop (rcOf w a ps as body fnid .ready none)) = W1 := ⟨_, rfl⟩
  have hL1 : W1.heap[w.heap.size + 1]? = some (.loop (rcOf w a ps as body fnid .ready none)) := by
    rw [← hW1]; have := World.alloc_heap_new (w.alloc (.deferred (some []))) (.loop (rcOf w a ps as body fnid .ready none)); rwa [World.size_alloc] at this
  have hK1 : W1.heap[w.heap.size]? = some (.deferred (some [])) := by
    rw [← hW1]; exact (Go.RowKit.Below.heap_alloc _ _ _ (by simp)).trans (World.alloc_heap_new w _)
  have hb1 : Go.RowKit.Below w.heap.size w W1 := by
    rw [← hW1]; exact ((Go.RowKit.Below.refl _ w).alloc (Nat.le_refl _) _).alloc (by simp) _
  have hρ : ρ s.next = none := hfr' _ (Nat.le_refl _) (by omega)
  have hO1 := yl_out (l := w.heap.size + 1) hS hρ (Nat.le_succ _) hb1.size (fun b hb => hb1.block b hb) hb1.os hb1.tape hb1.output
  have hLp : Lp sy ρ s w (rcOf w a ps as body fnid) .ready none _ _ W1 := ⟨hO1, hL1, hK1⟩
  have hargs : VL sy (Env.set ρ s.next ⟨w.heap.size + 1, 0, 0, true, 0⟩) (.yl s.next :: caps) (#[.func (.yield (w.heap.size + 1)) #[] #[]] ++ fy : Array Value).toList := by
    rw [Array.toList_append]
    exact ⟨_, _, rfl, ⟨_, Env.set_same, rfl⟩, e3.mono (Env.set_mono hρ)⟩
  obtain ⟨d0, -, -, -⟩ := backOk_inv h7
  -- behind the statement
  have finQ : ∀ (ρ2 : Env) (W4 : World) (st : LoopState) (pe : Option Code), Lp sy ρ s w (rcOf w a ps as body fnid) st pe ρ2 x.2 W4 → Q (exQ x.1) { a with defers := [{ target := .collected w.heap.size, args := #[] }] ++ a.defers } W4 := by
    intro ρ2 W4 st pe q1
    refine hQ ρ2 W4 _ ([{ target := .collected w.heap.size, args := #[] }] ++ D) (q1.out.setDs_r _) (fun t v hv => (ht t v hv).mono q1.out.fr.mono) ⟨hf.size, by rw [← hf.defers]⟩ ⟨Nat.le_trans hD.base q1.out.fr.size, .inr ⟨w.heap.size, D, rfl, rfl, hD.base, (Array.getElem?_eq_some_iff.1 q1.mark).1, q1.mark, ?_⟩⟩
    exact hD.all.mono q1.out.fr.mono (fun b _ hb => q1.out.keeps hS hb rfl (by simp)) (Nat.le_refl _)
  refine ⟨w.heap.size + 1, [{ target := .collected w.heap.size, args := #[] }], W1, { target := .fn (.func g) fy, args := #[.func (.yield (w.heap.size + 1)) #[] #[]] }, W1, g, #[.func (.yield (w.heap.size + 1)) #[] #[]] ++ fy, W1, ?_, ?_, fun _ _ => trivial, ?_, fun hd => by simp [FR, Fence.wide] at hd, ?_⟩
  · rw [← hW1]; exact run_enterLoop_outer _ _ _ _ _
  · simp only [resolve, efv]
    simp [Deferred.ofValue]
    rfl
  · simp only [invoke]; exact callFunc_run hen
  · refine callsIn_of_wp (F := FR none) h1 h3 trivial ?_ rfl
    rw [hc]
    refine wpIn_seq (region_wp hcall hg d0 (.inl rfl) hO1.sat (args_TM (nt := fn.ntmps) hargs) args_Frm (B := w.heap.size) (DfOk.nil hb1.size) ((hO1.fresh hfr').sub (Nat.le_refl _) hgk) h8 fun ρ2 W2 a2 D2 o1 o2 o3 o4 => ?_)
    refine wpIn_block (wpIn_loop_rounds k ?_)
    have hL2 := hLp.step o1 (hfr'.sub (Nat.le_refl _) hgk)
    refine iter_ok (pl := ⟨w.heap.size + 1, 0, 0, true, 0⟩) hcall hg (splitY_eq h5) h6 h7 (hround fnid) hgr rfl rfl hfr' hres hds (fun ρ3 W3 v q1 => ?_) k q.1 q.2 ρ2 W2 a2 D2 h9 hL2 (o1.fr.mono _ _ Env.set_same) o2 o3 o4
    have hbusy : (rcOf w a ps as body fnid (if isNorm x.1 then .ready else .done) (jumpOf x.1)).state ≠ .busy := by
      show (if isNorm x.1 then LoopState.ready else LoopState.done) ≠ .busy
      split <;> simp
    refine ⟨jumpOf x.1, _, run_endLoop q1.loop hbusy, ?_⟩
    have q2 := q1.put (st' := .exhausted) (pe' := jumpOf x.1)
    have hQ' := finQ ρ3 _ _ _ q2
    cases hx : x.1 with
    | normal => rw [hx] at hQ'; exact hQ'
    | ret => rw [hx] at hQ'; exact wpIn_ret hQ'
    | exit i => rw [hx] at hQ'; exact wpIn_exit hQ'
end Go.Ex

namespace Go.Ex
variable {sy : Nat → Value} {ρ : Env} {P : Program}

theorem TM.less {f s : T AV} {a : Act} (h : TM sy ρ s a) (hl : Less f s) : TM sy ρ f a := fun t v hv => h t v (hl t v hv)
def RecOkF (n : Nat) (sy : Nat → Value) (P : Program) (rec : RecF) : Prop :=
  ∀ (ro : Option Nat) (m B : Nat) (mask : Nat) (c : Code) (nt : Nat) (ρ : Env) (tm : T AV) (a : Act) (s : St) (w : World) (r : Ex × T AV × St) (D : List Deferred) (Q : Exit → Act → World → Prop), (ro = none ∨ calm c = true) → Masked mask tm → dsts nt c = true → SatS sy ρ s w → TM sy ρ tm a → Frm nt D a → DfOk sy ρ B w s.fams.ds D → Fresh ρ s.next r.2.2.next →
    rec mask c tm s = some r → (∀ ρ' w' a' D', Out sy ρ s w ρ' r.2.2 w' → TM sy ρ' r.2.1 a' → Frm nt D' a' → DfOk sy ρ' B w' r.2.2.fams.ds D' → Q (exQ r.1) a' w') → Sound ro m n P c Q a w
structure RecLess (rec : RecF) : Prop where
  mask : ∀ mask c tm s r, Masked mask tm → rec mask c tm s = some r → Masked mask r.2.1
  grows : ∀ mask c tm s r, Masked mask tm → rec mask c tm s = some r → s.next ≤ r.2.2.next
theorem thenF_eq {k : T AV → St → Res} {r : Ex × T AV × St} : thenF k r = exThen k r := by
  obtain ⟨e, tm, s⟩ := r
  cases e <;> rfl
theorem region_inv {mask : Nat} {ops : Array Oper} {dr : Bool} {call : CallR} {tm : T AV} {s : St} {r : Ex × T AV × St} {id : Nat} {rec : RecF} (h : (codeC P mask (.region id ops dr)).fn rec call tm s = some r) :
    ∃ x, (if dr then drawnF P mask ops else regC P mask ops ops.toList []).fn call [] tm s = some x ∧ r = (.normal, x.1, x.2) := by
  have h' : Option.rec (motive := fun _ => Res) none (fun p => Prod.rec (motive := fun _ => Res) (fun tm' s' => some (.normal, tm', s')) p) ((Bool.rec (motive := fun _ => RC) (regC P mask ops ops.toList []) (drawnF P mask ops) dr).fn call [] tm s) = some r := h
  rw [optrec_some] at h'
  obtain ⟨⟨t, q⟩, h1, h2⟩ := h'
  rw [boolrec_eq] at h1
  simp at h2
  exact ⟨(t, q), h1, h2.symm⟩
theorem setPF_get {mask : Nat} : ∀ {ps : List Tmp} {as : List AV} {tm : T AV} {x : Nat} {v : AV}, (setPF mask ps as tm).get x = some v → tm.get x = some v ∨ mask.testBit x = true
  | [], as, tm, x, v, h => .inl h
  | _ :: _, [], tm, x, v, h => .inl h
  | p :: ps, a :: as, tm, x, v, h => by
    have h' : (setPF mask ps as (Bool.rec (motive := fun _ => T AV) tm (setT p tm a) (tb mask p))).get x = some v := h
    rw [boolrec_eq, tb_eq] at h'
    rcases setPF_get h' with g | g
    · split at g
      · rename_i hm
        have g' : (T.set tm p a).get x = some v := g
        rw [T.get_set] at g'
        split at g'
        · rename_i e; subst e; exact .inr hm
        · exact .inl g'
      · exact .inl g
    · exact .inr g
theorem setPF_masked {mask : Nat} {ps : List Tmp} {as : List AV} {tm : T AV} (h : Masked mask tm) : Masked mask (setPF mask ps as tm) := by
  intro t v ht
  rcases setPF_get ht with g | g
  · exact h t v g
  · exact g
/-- where yield's arguments go -/
theorem setPF_TM {nt mask : Nat} {ρ' : Env} : ∀ {ps : List Tmp} {as : List AV} {vs : List Value} {tm : T AV} {t : Array Value}, Masked mask tm → (∀ p ∈ ps, Nat.blt p nt = true) → nt ≤ t.size → VL sy ρ' as vs → TM sy ρ' tm { tmps := t, defers := [] } →
    TM sy ρ' (setPF mask ps as tm) { tmps := (ps.zip vs).foldl (fun t (p, v) => t.setIfInBounds p v) t, defers := [] } ∧ nt ≤ ((ps.zip vs).foldl (fun t (p, v) => t.setIfInBounds p v) t).size
  | [], as, vs, tm, t, _, _, hs, _, ht => ⟨ht, hs⟩
  | _ :: _, [], vs, tm, t, _, _, hs, hv, ht => by
    have : vs = [] := hv
    subst this
    exact ⟨ht, hs⟩
  | p :: ps, a :: as, vs, tm, t, hm, hp, hs, hv, ht => by
    obtain ⟨u, us, rfl, hu, hus⟩ := hv
    have hlt : p < t.size := by
      have := hp p (List.mem_cons_self ..)
      have h1 : p < nt := by simpa using this
      exact Nat.lt_of_lt_of_le h1 hs
    have key : ∀ x v, (Bool.rec (motive := fun _ => T AV) tm (setT p tm a) (tb mask p) : T AV).get x = some v → (x = p ∧ v = a ∧ mask.testBit p = true) ∨ (x ≠ p ∧ tm.get x = some v) := by
      intro x v hx
      rw [boolrec_eq, tb_eq] at hx
      split at hx
      · rename_i hb
        have hx' : (T.set tm p a).get x = some v := hx
        rw [T.get_set] at hx'
        split at hx'
        · rename_i e
          simp at hx'
          exact .inl ⟨e, hx'.symm, hb⟩
        · rename_i e
          exact .inr ⟨e, hx'⟩
      · rename_i hb
        refine .inr ⟨fun e => hb ?_, hx⟩
        subst e
        exact hm _ _ hx
    refine setPF_TM (ps := ps) (as := as) (vs := us) (tm := Bool.rec (motive := fun _ => T AV) tm (setT p tm a) (tb mask p)) (t := t.setIfInBounds p u) (fun x v hx => ?_) (fun x hx => hp x (List.mem_cons_of_mem _ hx)) (by simpa using hs) hus ?_
    · rcases key x v hx with ⟨e, -, hb⟩ | ⟨-, k⟩
      · rw [e]; exact hb
      · exact hm x v k
    · intro x v hx
      rcases key x v hx with ⟨e, e2, -⟩ | ⟨e, k⟩
      · subst e; subst e2
        simpa [Array.getD_eq_getD_getElem?, hlt] using hu
      · have := ht x v k
        simpa [Array.getD_eq_getD_getElem?, Array.getElem?_setIfInBounds, Ne.symm e] using this
theorem roundF_inv {rec : RecF} {mask : Nat} {ps : Array Tmp} {as body : Code} {tm : T AV} {args : List AV} {s : St} {x : Ex × St} (h : roundF rec mask ps as body tm args s = some x) :
    args.length = ps.size ∧ s.fams.ds = [] ∧ ∃ tm1 s1 tm2 s2, rec mask as (setPF mask ps.toList args tm) s = some (.normal, tm1, s1) ∧ s1.fams.ds = [] ∧ rec mask body tm1 s1 = some (x.1, tm2, s2) ∧ s2.fams.ds = [] ∧ x.2 = s2 := by
  unfold roundF at h
  simp only [bi_some, ob_some, and_true'] at h
  obtain ⟨⟨h1, h2⟩, ⟨e, tm1, s1⟩, h3, h4⟩ := h
  rw [lenL_eq] at h1
  unfold thenRF at h4
  cases e with
  | normal =>
    simp only [bi_some, ob_some] at h4
    obtain ⟨h5, ⟨e2, tm2, s2⟩, h6, h7, h8⟩ := h4
    simp only [Option.some.injEq] at h8
    subst h8
    exact ⟨Nat.eq_of_beq_eq_true h1, noDs_inv h2, tm1, s1, tm2, s2, h3, noDs_inv h5, h6, noDs_inv h7, rfl⟩
  | ret => simp at h4
  | exit i => simp at h4
theorem roundF_grows {rec : RecF} (hr : RecLess rec) {mask : Nat} {ps : Array Tmp} {as body : Code} {tm : T AV} (hm : Masked mask tm) : ∀ args s x, roundF rec mask ps as body tm args s = some x → s.next ≤ x.2.next := by
  intro args s x h
  obtain ⟨-, -, tm1, s1, tm2, s2, h1, -, h2, -, h3⟩ := roundF_inv h
  have k0 := hr.mask _ _ _ _ _ (setPF_masked hm) h1
  have k1 := hr.grows _ _ _ _ _ (setPF_masked hm) h1
  have k2 := hr.grows _ _ _ _ _ k0 h2
  rw [h3]
  exact Nat.le_trans k1 k2
theorem rangeC_inv {mask : Nat} {f : Operand} {ps : Array Tmp} {as body : Code} {rec : RecF} {call : CallR} {tm : T AV} {s : St} {r : Ex × T AV × St} (h : (codeC P mask (.rangeFunc f ps as body)).fn rec call tm s = some r) : ∃ v, (accC [] f).fn [] tm = some v ∧ rangeG P call v (roundF rec mask ps as body tm) tm s = some r := by
  have h' : ob ((accC [] f).fn [] tm) (fun v => rangeG P call v (roundF rec mask ps as body tm) tm s) = some r := h
  rwa [ob_some] at h'
theorem codeF_less {call : CallR} {rec : RecF} (hr : RecLess rec) (hcall : CallsOk sy P call) (hg : Grows call) : RecLess (fun mask c tm s => (codeC P mask c).fn rec call tm s) := by
  have key : ∀ mask c tm s r, Masked mask tm → (codeC P mask c).fn rec call tm s = some r → Masked mask r.2.1 ∧ s.next ≤ r.2.2.next := by
    intro mask c tm s r hm h
    cases c
    case skip => have h' : some (Ex.normal, tm, s) = some r := h; simp at h'; subst h'; exact ⟨hm, Nat.le_refl _⟩
    case label l => have h' : some (Ex.normal, tm, s) = some r := h; simp at h'; subst h'; exact ⟨hm, Nat.le_refl _⟩
    case exit i => have h' : some (Ex.exit i, tm, s) = some r := h; simp at h'; subst h'; exact ⟨hm, Nat.le_refl _⟩
    case ret => have h' : some (Ex.ret, tm, s) = some r := h; simp at h'; subst h'; exact ⟨hm, Nat.le_refl _⟩
    case rangeFunc f ps as body =>
      obtain ⟨v, -, h1⟩ := rangeC_inv h
      obtain ⟨k1, k2⟩ := rangeG_grows hg (roundF_grows hr hm) h1
      rw [k1]; exact ⟨hm, k2⟩
    case goto => have h' : (none : Res) = some r := h; simp at h'
    case refuse => have h' : (none : Res) = some r := h; simp at h'
    case scope b => exact ⟨hr.mask _ _ _ _ _ hm h, hr.grows _ _ _ _ _ hm h⟩
    case region id ops dr =>
      obtain ⟨x, h1, rfl⟩ := region_inv h
      cases dr with
      | true =>
        obtain ⟨q, g1, g2, g3⟩ := drawnF_run hm h1
        exact ⟨g3, ((drawn_ok (sy := sy) hcall hg).grows _ _ _ (q, x.2) g1).next⟩
      | false =>
        obtain ⟨q, g1, g2, g3⟩ := regC_run (cov_self hm) h1
        exact ⟨g3, opsRun_next (r := (q, x.2)) hg g1⟩
    case seq x y =>
      have h' : Option.rec (motive := fun _ => Res) none (thenF (rec mask y)) (rec mask x tm s) = some r := h
      rw [optrec_some] at h'
      obtain ⟨⟨e, tm1, s1⟩, h1, h2⟩ := h'
      rw [thenF_eq] at h2
      have k0 := hr.mask _ _ _ _ _ hm h1
      have k1 := hr.grows _ _ _ _ _ hm h1
      cases e
      case normal => exact ⟨hr.mask _ _ _ _ _ k0 h2, Nat.le_trans k1 (hr.grows _ _ _ _ _ k0 h2)⟩
      all_goals (simp only [exThen, Option.some.injEq] at h2; subst h2; exact ⟨k0, k1⟩)
    case loop b =>
      have h' : Option.rec (motive := fun _ => Res) none (thenF (rec mask (.loop b))) (rec mask b tm s) = some r := h
      rw [optrec_some] at h'
      obtain ⟨⟨e, tm1, s1⟩, h1, h2⟩ := h'
      rw [thenF_eq] at h2
      have k0 := hr.mask _ _ _ _ _ hm h1
      have k1 := hr.grows _ _ _ _ _ hm h1
      cases e
      case normal => exact ⟨hr.mask _ _ _ _ _ k0 h2, Nat.le_trans k1 (hr.grows _ _ _ _ _ k0 h2)⟩
      all_goals (simp only [exThen, Option.some.injEq] at h2; subst h2; exact ⟨k0, k1⟩)
    case cond c x y =>
      have h' : Option.rec (motive := fun _ => Res) none (fun v => Option.rec (motive := fun _ => Res) none (fun t => Bool.rec (motive := fun _ => Res) (rec mask y tm s) (rec mask x tm s) t) (asB v)) ((accC [] c).fn [] tm) = some r := h
      simp only [optrec_some] at h'
      obtain ⟨_, -, t, -, h2⟩ := h'
      rw [boolrec_eq] at h2
      split at h2
      · exact ⟨hr.mask _ _ _ _ _ hm h2, hr.grows _ _ _ _ _ hm h2⟩
      · exact ⟨hr.mask _ _ _ _ _ hm h2, hr.grows _ _ _ _ _ hm h2⟩
    case block id b =>
      have h' : Option.rec (motive := fun _ => Res) none (exBlock id) (rec mask b tm s) = some r := h
      rw [optrec_some] at h'
      obtain ⟨⟨e, tm1, s1⟩, h1, h2⟩ := h'
      have k0 := hr.mask _ _ _ _ _ hm h1
      have k1 := hr.grows _ _ _ _ _ hm h1
      cases e <;> (simp only [exBlock, Option.some.injEq] at h2; subst h2; exact ⟨k0, k1⟩)
  exact ⟨fun mask c tm s r hm h => (key mask c tm s r hm h).1, fun mask c tm s r hm h => (key mask c tm s r hm h).2⟩
theorem DfOk.nil_le {B B' : Nat} {w w' : World} {l : List (AV × List AV)} {D : List Deferred} {ρ' : Env} (h : DfOk sy ρ B w l D) (hl : l = []) (hb : B' ≤ w'.heap.size) : DfOk sy ρ' B' w' l D := by
  subst hl
  rw [h.nil_inv]; exact .nil hb
/-- a round does what its run says -/
theorem round_ok {n : Nat} {rec : RecF} (hr : RecOkF n sy P rec) (hl : RecLess rec) {mask nt : Nat} {ps : Array Tmp} {as body : Code} {tm : T AV} {s : St} {w : World} {a : Act} {D : List Deferred} {fnid : FuncId} (hm : Masked mask tm) (ht : TM sy ρ tm a) (hf : Frm nt D a)
    (hps : ∀ p ∈ ps.toList, Nat.blt p nt = true) (hd1 : dsts nt as = true) (hd2 : dsts nt body = true) (hc1 : calm as = true) (hc2 : calm body = true) : RoundOk sy P ρ s w (rcOf w a ps as body fnid) fnid a.tmps ps as body (roundF rec mask ps as body tm) := by
  intro m args vs s1 x ρ1 W h hL hv hfr
  obtain ⟨h1, h2, tm1, s2, tm2, s3, h3, h4, h5, h6, h7⟩ := roundF_inv h
  have hsz : vs.size = ps.size := by
    have := hv.length
    rw [h1] at this
    simpa using this
  rw [h7] at hfr
  have k0 := hl.mask _ _ _ _ _ (setPF_masked hm) h3
  have k1 := hl.grows _ _ _ _ _ (setPF_masked hm) h3
  have k2 := hl.grows _ _ _ _ _ k0 h5
  have k2' : s2.next ≤ s3.next := k2
  have hfr1 := (hL.out.fresh hfr).sub (Nat.le_refl _) k2'
  refine ⟨hsz, h2, ?_⟩
  have ht0 : TM sy ρ1 tm { tmps := a.tmps, defers := [] } := fun t v hv => (ht t v hv).mono hL.out.fr.mono
  obtain ⟨q1, q2⟩ := setPF_TM (mask := mask) hm hps hf.size hv ht0
  have hz : (ps.zip vs).foldl (fun t (p, v) => t.setIfInBounds p v) a.tmps = (ps.toList.zip vs.toList).foldl (fun t (p, v) => t.setIfInBounds p v) a.tmps := by
    rw [← Array.foldl_toList, Array.toList_zip]
  rw [hz]
  refine roundIn_of_wpIn (F := Fence.wide) trivial ?_
  refine (hr (some (w.heap.size + 1)) m W.heap.size mask as nt ρ1 _ _ s1 W (.normal, tm1, s2) [] _ (.inr hc1) (setPF_masked hm) hd1 hL.out.sat q1 ⟨q2, rfl⟩ (by rw [h2]; exact .nil (Nat.le_refl _)) hfr1 h3 fun ρ2 W2 a2 D2 o1 o2 o3 o4 => ?_).wp
  have hL2 := hL.step o1 (hfr.sub (Nat.le_refl _) k2')
  have hL3 := hL2.put (st' := .busy) (pe' := none)
  refine ⟨_, run_beginRound hL2.loop rfl, ?_⟩
  have hfr2 := hL3.out.fresh hfr
  refine (hr (some (w.heap.size + 1)) m w.heap.size mask body nt ρ2 tm1 a2 s2 _ (x.1, tm2, s3) D2 _ (.inr hc2) k0 hd2 hL3.out.sat o2 o3 (o4.nil_le h4 hL3.out.fr.size) hfr2 h5 fun ρ3 W3 a3 D3 e1 e2 e3 e4 => ?_).wp
  have hL4 := hL3.step e1 hfr
  have hm3 : ∀ i q, ρ1 i = some q → ρ3 i = some q := fun i q hq => e1.fr.mono _ _ (o1.fr.mono _ _ hq)
  have fin : ∀ st, Lp sy ρ s w (rcOf w a ps as body fnid) st (jumpOf x.1) ρ3 x.2 (W3.putObj (w.heap.size + 1) (.loop (rcOf w a ps as body fnid st (jumpOf x.1)))) := fun st => by
    rw [h7]; exact hL4.put
  cases hx : x.1 with
  | normal =>
    refine ⟨_, _, run_endRound none hL4.loop, rfl, by rw [h7]; exact h6, ρ3, hm3, ?_⟩
    have := fin .ready
    rw [hx] at this; exact this
  | ret =>
    refine ⟨_, _, run_endRound (some .ret) hL4.loop, rfl, by rw [h7]; exact h6, ρ3, hm3, ?_⟩
    have := fin .done
    rw [hx] at this; exact this
  | exit i =>
    refine ⟨_, _, run_endRound (some (.exit i)) hL4.loop, rfl, by rw [h7]; exact h6, ρ3, hm3, ?_⟩
    have := fin .done
    rw [hx] at this; exact this
theorem codeF_ok {n : Nat} {call : CallR} {rec : RecF} (hr : RecOkF n sy P rec) (hl : RecLess rec) (hcall : CallsOk sy P call) (hg : Grows call) : RecOkF (n + 1) sy P (fun mask c tm s => (codeC P mask c).fn rec call tm s) := by
  intro ro m B mask c nt ρ tm a s w r D Q hro hm hds hS ht hf hD hfr h hQ
  cases c
  case skip => have h' : some (Ex.normal, tm, s) = some r := h; simp at h'; subst h'; exact wpIn_skip (hQ ρ w a D (.refl hS) ht hf hD)
  case label l => have h' : some (Ex.normal, tm, s) = some r := h; simp at h'; subst h'; exact wpIn_label (hQ ρ w a D (.refl hS) ht hf hD)
  case exit i => have h' : some (Ex.exit i, tm, s) = some r := h; simp at h'; subst h'; exact wpIn_exit (hQ ρ w a D (.refl hS) ht hf hD)
  case ret => have h' : some (Ex.ret, tm, s) = some r := h; simp at h'; subst h'; exact wpIn_ret (hQ ρ w a D (.refl hS) ht hf hD)
  case rangeFunc f ps as body =>
    have hds' : (∀ p ∈ ps.toList, Nat.blt p nt = true) ∧ (dsts nt as = true ∧ dsts nt body = true) ∧ calm as = true ∧ calm body = true := by
      have h' : ((allL (fun t => Nat.blt t nt) ps.toList).and (((dsts nt as).and (dsts nt body)).and ((calm as).and (calm body)))) = true := hds
      rw [and_true', and_true', and_true', and_true'] at h'
      exact ⟨allL_mem.1 h'.1, h'.2.1, h'.2.2⟩
    obtain rfl : ro = none := hro.resolve_right fun k => by
      have h' : false = true := k
      simp at h'
    obtain ⟨v, h0, h1⟩ := rangeC_inv h
    have hfv := ev_V hS.sat.glob ht (accC_ev (cov_self hm) h0)
    refine range_ok hcall hg h1 hfv hS ht hf hD hfr (roundF_grows hl hm) (fun fnid => ?_) hQ
    exact round_ok hr hl hm ht hf hds'.1 hds'.2.1.1 hds'.2.1.2 hds'.2.2.1 hds'.2.2.2
  case goto => have h' : (none : Res) = some r := h; simp at h'
  case refuse => have h' : (none : Res) = some r := h; simp at h'
  case scope b =>
    obtain rfl : ro = none := hro.resolve_right fun k => by
      have h' : false = true := k
      simp at h'
    refine wpIn_wide.2 (wp_scope_straight (wpIn_wide.1 (hr none m B mask b nt ρ tm a s w r D _ (.inl rfl) hm hds hS ht hf hD hfr h fun ρ' w' a' D' g1 g2 g3 g4 => ?_).wp))
    have := hQ ρ' w' a' D' g1 g2 g3 g4
    obtain ⟨e, q⟩ := r
    cases e <;> exact this
  case region id ops dr =>
    obtain ⟨x, h1, rfl⟩ := region_inv h
    have hds' : ∀ o ∈ ops.toList, dstOk nt o = true := allL_mem.1 hds
    have hno : ro = none ∨ ∀ o ∈ ops.toList, noDef o = true := hro.imp (fun k => k) fun k => allL_mem.1 k
    cases dr with
    | true =>
      obtain ⟨q, g1, g2, g3⟩ := drawnF_run hm h1
      exact (drawn_ok (sy := sy) hcall hg).ok ro m ops id nt ρ tm a s w (q, x.2) D Q hno hds' hS ht hf hfr g1 fun ρ' w' a' o1 o2 o3 => hQ ρ' w' a' D o1 (o2.less g2) o3 (by rw [((drawn_ok (sy := sy) hcall hg).grows _ _ _ _ g1).ds]; exact hD.out hS o1)
    | false =>
      obtain ⟨q, g1, g2, g3⟩ := regC_run (cov_self hm) h1
      exact region_wp hcall hg (r := (q, x.2)) hds' hno hS ht hf hD hfr g1 fun ρ' w' a' D' o1 o2 o3 o4 => hQ ρ' w' a' D' o1 (o2.less g2) o3 o4
  case seq x y =>
    have hds' : dsts nt x = true ∧ dsts nt y = true := and_true'.1 hds
    have hro' : (ro = none ∨ calm x = true) ∧ (ro = none ∨ calm y = true) := ⟨hro.imp (fun k => k) fun k => (and_true'.1 k).1, hro.imp (fun k => k) fun k => (and_true'.1 k).2⟩
    have h' : Option.rec (motive := fun _ => Res) none (thenF (rec mask y)) (rec mask x tm s) = some r := h
    rw [optrec_some] at h'
    obtain ⟨⟨e, tm1, s1⟩, h1, h2⟩ := h'
    rw [thenF_eq] at h2
    have k0 := hl.mask _ _ _ _ _ hm h1
    refine wpIn_seq (Sound.wp (n := n) ?_)
    cases e
    case normal =>
      have k2 := hl.grows _ _ _ _ _ k0 h2
      exact hr ro m B mask x nt ρ tm a s w (.normal, tm1, s1) D _ hro'.1 hm hds'.1 hS ht hf hD (hfr.sub (Nat.le_refl _) k2) h1 fun ρ' w' a' D' g1 g2 g3 g4 =>
        (hr ro m B mask y nt ρ' tm1 a' s1 w' r D' Q hro'.2 k0 hds'.2 g1.sat g2 g3 g4 (g1.fresh hfr) h2 fun ρ2 w2 a2 D2 q1 q2 q3 q4 => hQ ρ2 w2 a2 D2 (g1.trans q1 hfr) q2 q3 q4).wp
    all_goals
      simp only [exThen, Option.some.injEq] at h2; subst h2
      exact hr ro m B mask x nt ρ tm a s w _ D _ hro'.1 hm hds'.1 hS ht hf hD hfr h1 hQ
  case loop b =>
    have h' : Option.rec (motive := fun _ => Res) none (thenF (rec mask (.loop b))) (rec mask b tm s) = some r := h
    rw [optrec_some] at h'
    obtain ⟨⟨e, tm1, s1⟩, h1, h2⟩ := h'
    rw [thenF_eq] at h2
    have k0 := hl.mask _ _ _ _ _ hm h1
    cases e
    case normal =>
      have k2 := hl.grows _ _ _ _ _ k0 h2
      exact (hr ro m B mask b nt ρ tm a s w (.normal, tm1, s1) D _ hro hm hds hS ht hf hD (hfr.sub (Nat.le_refl _) k2) h1 fun ρ' w' a' D' g1 g2 g3 g4 =>
        hr ro m B mask (.loop b) nt ρ' tm1 a' s1 w' r D' Q hro k0 hds g1.sat g2 g3 g4 (g1.fresh hfr) h2 fun ρ2 w2 a2 D2 q1 q2 q3 q4 => hQ ρ2 w2 a2 D2 (g1.trans q1 hfr) q2 q3 q4).wp
    all_goals
      simp only [exThen, Option.some.injEq] at h2; subst h2
      show b.wpIn (FR ro) m P (Exit.then (Code.roundsIn (FR ro) m P b Q n) Q) a w
      exact (hr ro m B mask b nt ρ tm a s w _ D (Exit.then (Code.roundsIn (FR ro) m P b Q n) Q) hro hm hds hS ht hf hD hfr h1 hQ).wp
  case cond c x y =>
    have hds' : dsts nt x = true ∧ dsts nt y = true := and_true'.1 hds
    have hro' : (ro = none ∨ calm x = true) ∧ (ro = none ∨ calm y = true) := ⟨hro.imp (fun k => k) fun k => (and_true'.1 k).1, hro.imp (fun k => k) fun k => (and_true'.1 k).2⟩
    have h' : Option.rec (motive := fun _ => Res) none (fun v => Option.rec (motive := fun _ => Res) none (fun t => Bool.rec (motive := fun _ => Res) (rec mask y tm s) (rec mask x tm s) t) (asB v)) ((accC [] c).fn [] tm) = some r := h
    simp only [optrec_some] at h'
    obtain ⟨cv, h1, t, h2, h3⟩ := h'
    have hb := asB_V h2 (ev_V hS.sat.glob ht (accC_ev (cov_self hm) h1))
    refine wpIn_cond hb ?_
    cases t with
    | true => exact (hr ro m B mask x nt ρ tm a s w r D Q hro'.1 hm hds'.1 hS ht hf hD hfr h3 hQ).wp
    | false => exact (hr ro m B mask y nt ρ tm a s w r D Q hro'.2 hm hds'.2 hS ht hf hD hfr h3 hQ).wp
  case block id b =>
    have h' : Option.rec (motive := fun _ => Res) none (exBlock id) (rec mask b tm s) = some r := h
    rw [optrec_some] at h'
    obtain ⟨⟨e, tm1, s1⟩, h1, h2⟩ := h'
    refine wpIn_block (Sound.wp (n := n) ?_)
    cases e
    case normal =>
      simp only [exBlock, Option.some.injEq] at h2; subst h2
      exact hr ro m B mask b nt ρ tm a s w _ D _ hro hm hds hS ht hf hD hfr h1 hQ
    case ret =>
      simp only [exBlock, Option.some.injEq] at h2; subst h2
      exact hr ro m B mask b nt ρ tm a s w _ D _ hro hm hds hS ht hf hD hfr h1 hQ
    case exit i =>
      simp only [exBlock, Option.some.injEq] at h2; subst h2
      refine hr ro m B mask b nt ρ tm a s w (.exit i, tm1, s1) D _ hro hm hds hS ht hf hD hfr h1 fun ρ' w' a' D' g1 g2 g3 g4 => ?_
      have := hQ ρ' w' a' D' g1 g2 g3 g4
      show Exit.inBlock id Q (.exit i) a' w'
      simp only [Exit.inBlock]
      simp only [bi_eq] at this
      by_cases e : i = id
      · rw [if_pos e]; simpa [e, exQ] using this
      · have e' : Nat.beq i id = false := by cases hh : Nat.beq i id <;> simp_all
        rw [if_neg e]; simpa [e', exQ] using this
theorem restD_eq (d : List (AV × List AV)) (s : St) : restD d s = setDs d s := by
  obtain ⟨h, ⟨t, ms, d'⟩, nx, fl⟩ := s
  rfl
theorem plain_eq {k : St → R} {s : St} {r : AV × St} (h : plain k s = some r) : ∃ r', k (setDs [] s) = some r' ∧ r = (r'.1, setDs s.fams.ds r'.2) := by
  obtain ⟨hp, ⟨t, ms, d⟩, nx, fl⟩ := s
  cases nx with
  | zero => have h' : (none : R) = some r := h; simp at h'
  | succ m =>
    have h' : Bool.rec (motive := fun _ => R) none (backD d (k ⟨hp, ⟨t, ms, []⟩, Nat.succ m, 2048⟩)) (Nat.beq fl 2048) = some r := h
    rw [boolrec_none] at h'
    have e : fl = 2048 := Nat.eq_of_beq_eq_true h'.1
    subst e
    have h2 := h'.2
    unfold backD at h2
    rw [optrec_some] at h2
    obtain ⟨⟨v, s1⟩, h3, h4⟩ := h2
    simp only [restD_eq, Option.some.injEq] at h4
    exact ⟨(v, s1), h3, h4.symm⟩
theorem argsF_get {mask : Nat} : ∀ {l : List AV} {i : Nat} {t : T AV} {x : Nat} {v : AV}, (argsF mask l i t).get x = some v → t.get x = some v ∨ (i ≤ x ∧ l[x - i]? = some v ∧ mask.testBit x = true)
  | [], i, t, x, v, h => .inl h
  | a :: l, i, t, x, v, h => by
    have h' : (argsF mask l (i + 1) (Bool.rec (motive := fun _ => T AV) t (setT i t a) (tb mask i))).get x = some v := h
    rw [boolrec_eq, tb_eq] at h'
    rcases argsF_get h' with g | ⟨g1, g2, g3⟩
    · split at g
      · rename_i hm
        have g' : (T.set t i a).get x = some v := g
        rw [T.get_set] at g'
        split at g'
        · rename_i e
          simp at g'; subst g'; subst e
          exact .inr ⟨Nat.le_refl _, by simp, hm⟩
        · exact .inl g'
      · exact .inl g
    · refine .inr ⟨by omega, ?_, g3⟩
      rw [show x - i = (x - (i + 1)) + 1 from by omega, List.getElem?_cons_succ]
      exact g2
theorem callDF_inv {mk : Nat → Nat} {rec : RecF} {d : AV × List AV} {s s' : St} (h : callDF P mk rec d s = some s') :
    (∃ l, d.1 = .tup l ∧ s' = s) ∨ ∃ f a b fn c q l, d.1 = .fn (.func f) a b ∧ P.funcs[f]? = some fn ∧ (fn.name == "runtime.NumGoroutine") = false ∧ fn.body = some c ∧ dsts fn.ntmps c = true ∧ rec (mk f) c (argsF (mk f) (a ++ d.2 ++ b) 0 .E) s = some q ∧ isExit q.1 = false ∧ q.2.2.fams.ds = [] ∧ resL P q.2.1 q.2.2 fn.results.toList = some l ∧ s' = q.2.2 := by
  unfold callDF at h
  split at h
  · rename_i f a b hd
    simp only [ob_some, bodyDF, bi_some] at h
    obtain ⟨fn, h1, h2, c, h3, h4, q, h5, h6⟩ := h
    obtain ⟨k1, k2, ⟨l, k3⟩, k4⟩ := endD1_inv h6
    rw [app_eq, app_eq] at h5
    exact .inr ⟨f, a, b, fn, c, q, l, hd, h1, by simpa [enterOk] using h2, h3, h4, h5, k1, k2, k3, k4⟩
  · rename_i l hd
    simp at h
    exact .inl ⟨l, hd, h.symm⟩
  · simp at h
theorem callNF_inv {mk : Nat → Nat} {rec : RecF} {f : FuncId} {args : List AV} {s : St} {r : AV × St} (h : callNF P mk rec f args s = some r) : ∃ fn c q l s1, P.funcs[f]? = some fn ∧ enterOk fn = true ∧ fn.body = some c ∧ dsts fn.ntmps c = true ∧
    rec (mk f) c (argsF (mk f) args 0 .E) (setDs [] s) = some q ∧ isExit q.1 = false ∧ afterS (callDF P mk rec) q.2.2 = some s1 ∧ resL P q.2.1 s1 fn.results.toList = some l ∧ r = (tupOf l, setDs s.fams.ds s1) := by
  have h' : Option.rec (motive := fun _ => R) none (fun fn => Bool.rec (motive := fun _ => R) none (plain (bodyF P mk (mk f) rec fn args) s) (enterOk fn)) P.funcs[f]? = some r := h
  simp only [optrec_some, boolrec_none] at h'
  obtain ⟨fn, h1, h2, h3⟩ := h'
  obtain ⟨r', h4, rfl⟩ := plain_eq h3
  unfold bodyF at h4
  simp only [optrec_some, boolrec_none] at h4
  obtain ⟨c, h5, h6, q, h7, h8⟩ := h4
  unfold endS at h8
  rw [bi_eq] at h8
  split at h8
  · simp at h8
  · rename_i hx
    simp only [ob_some, Option.some.injEq] at h8
    obtain ⟨s1, h9, l, h10, h11⟩ := h8
    exact ⟨fn, c, q, l, s1, h1, h2, h5, h6, h7, by simpa using hx, h9, h10, by rw [← h11]⟩
theorem argsF_masked {mask : Nat} {l : List AV} : Masked mask (argsF mask l 0 .E) := by
  intro t v h
  rcases argsF_get h with g | ⟨-, -, g⟩
  · rw [T.get_E] at g; simp at g
  · exact g
theorem argsF_TM {mask nt : Nat} {args : List AV} {vs : Array Value} (hl : VL sy ρ args vs.toList) : TM sy ρ (argsF mask args 0 .E) { tmps := vs ++ Array.replicate (nt - vs.size) undef, defers := [] } := by
  intro x y hx
  rcases argsF_get hx with g | ⟨-, g, -⟩
  · rw [T.get_E] at g; simp at g
  · obtain ⟨u, k1, k2⟩ := hl.get g
    have hj : x < vs.size := by
      have := (List.getElem?_eq_some_iff.1 k1).1
      simpa using this
    have : vs[x]? = some u := by simpa using k1
    simp [Array.getD_eq_getD_getElem?, Array.getElem?_append, hj]
    simp [hj] at this
    rw [this]; exact k2
theorem callDF_ok {n : Nat} {mk : Nat → Nat} {rec : RecF} (hr : RecOkF n sy P rec) (hg : RecLess rec) : CdOk sy P (callDF P mk rec) := by
  refine ⟨?_, ?_, ?_⟩
  · intro m ρ d s s' w f x y fx fy args e1 e2 e3 e4 hS hs hfr h1
    have hnt : ∀ l, d.1 ≠ .tup l := fun l e => by rw [e1] at e; simp at e
    obtain ⟨f', a, b, fn', c, q, lr, k1, k2, k3, k4, k5, k6, k7, k8, k9, k10⟩ := (callDF_inv h1).resolve_left fun ⟨l, e, _⟩ => hnt l e
    subst k10
    rw [e1] at k1
    simp at k1
    obtain ⟨rfl, rfl, rfl⟩ := k1
    have hargs : VL sy ρ (x ++ d.2 ++ y) (fx ++ args ++ fy).toList := by
      simp only [Array.toList_append]
      exact (e2.append e4).append e3
    refine ⟨⟨fn', k2, k3, by simp [k4]⟩, callsDIn_of_wp (F := FR none) (u := .returning) (R := fun e w' => ∃ ρ' u, e = .returned u ∧ Out sy ρ s w ρ' q.2.2 w') k2 k4 trivial (Sound.wp (n := n) (hr none m w.heap.size (mk f) c fn'.ntmps ρ _ _ s w q [] _ (.inl rfl) argsF_masked k5 hS (argsF_TM hargs) args_Frm (by rw [hs]; exact .nil (Nat.le_refl _)) hfr k6 fun ρ' w' a' D' g1 g2 g3 g4 => ?_)) rfl⟩
    obtain ⟨u, m1, m2⟩ := results_V g1.sat g2 k9
    have hD' : a'.defers = [] := by rw [g3.defers]; rw [k8] at g4; exact g4.nil_inv
    obtain ⟨e, q2⟩ := q
    cases e with
    | exit i => simp [isExit] at k7
    | normal => exact ⟨hD', u, m1, ρ', u, rfl, g1⟩
    | ret => exact ⟨hD', u, m1, ρ', u, rfl, g1⟩
  · intro d s s' l e h1
    rcases callDF_inv h1 with ⟨-, -, k⟩ | ⟨f', a, b, fn', c, q, lr, k1, -⟩
    · exact k
    · rw [e] at k1; simp at k1
  · intro d s s' hs h1
    rcases callDF_inv h1 with ⟨-, -, k⟩ | ⟨f', a, b, fn', c, q, lr, k1, k2, k3, k4, k5, k6, k7, k8, k9, k10⟩
    · rw [k]; exact ⟨Nat.le_refl _, hs⟩
    · rw [k10]
      exact ⟨hg.grows _ _ _ _ _ argsF_masked k6, k8⟩
theorem callNF_ok {mk : Nat → Nat} {n : Nat} {rec : RecF} (hr : RecOkF n sy P rec) (hg : RecLess rec) : CallOk sy P (callNF P mk rec) := by
  intro ρ f args s s' v w vs hS hl hfr h
  obtain ⟨fn, c, q, l, s1, h1, h2, h3, h4, h5, h6, h0, h7, h8⟩ := callNF_inv h
  simp only [Prod.mk.injEq] at h8
  obtain ⟨rfl, rfl⟩ := h8
  have hfr' : Fresh ρ (setDs [] s).next s1.next := hfr
  have hc := callDF_ok (mk := mk) hr hg
  have hle := afterS_next hc.grows h0
  refine callsIn_wide.1 (callsIn_of_wp_marks (F := FR none) (n := 0) h1 h3 trivial (Sound.wp (n := n) (hr none 0 w.heap.size (mk f) c fn.ntmps ρ _ _ (setDs [] s) w q [] _ (.inl rfl) argsF_masked h4 (hS.setDs []) (argsF_TM hl) args_Frm (.nil (Nat.le_refl _)) (hfr'.sub (Nat.le_refl _) hle) h5 fun ρ' w' a' D' g1 g2 g3 g4 => ?_)) rfl)
  have key := after_leaves (m := 0) hc h0 h7 g1 g2 g3 g4 rfl hfr
  obtain ⟨e, q2⟩ := q
  cases e with
  | exit i => simp [isExit] at h6
  | normal => exact key
  | ret => exact key
theorem callNF_enters {mk : Nat → Nat} {rec : RecF} {f : FuncId} {args : List AV} {s : St} {r : AV × St} (h : callNF P mk rec f args s = some r) : Enters P f := by
  obtain ⟨fn, c, q, l, s1, h1, h2, h3, h4, h5, h6, h0, h7, h8⟩ := callNF_inv h
  exact ⟨fn, h1, by simpa [enterOk] using h2, by simp [h3]⟩
theorem callDF_grows {mk : Nat → Nat} {rec : RecF} (hg : RecLess rec) : ∀ d s s', s.fams.ds = [] → callDF P mk rec d s = some s' → s.next ≤ s'.next ∧ s'.fams.ds = [] := by
  intro d s s' hs h1
  rcases callDF_inv h1 with ⟨-, -, k⟩ | ⟨f', a, b, fn', c, q, lr, k1, k2, k3, k4, k5, k6, k7, k8, k9, k10⟩
  · rw [k]; exact ⟨Nat.le_refl _, hs⟩
  · rw [k10]
    exact ⟨hg.grows _ _ _ _ _ argsF_masked k6, k8⟩
theorem callNF_grows {mk : Nat → Nat} {rec : RecF} (hl : RecLess rec) : Grows (callNF P mk rec) := by
  intro f args s v s' h
  obtain ⟨fn, c, q, l, s1, h1, h2, h3, h4, h5, h6, h0, h7, h8⟩ := callNF_inv h
  simp only [Prod.mk.injEq] at h8
  have hle : q.2.2.next ≤ s1.next := afterS_next (callDF_grows (mk := mk) hl) h0
  rw [h8.2]
  exact ⟨Nat.le_trans (show (setDs [] s).next ≤ _ from hl.grows _ _ _ _ _ argsF_masked h5) hle, rfl⟩
theorem callSF_cases {ov : OV} {mk : Nat → Nat} {rec : RecF} {f : FuncId} {args : List AV} {s : St} {r : AV × St} (h : callSF P ov mk rec f args s = some r) : (∃ g, ov.get f = some g ∧ g args s = some r) ∨ callNF P mk rec f args s = some r := by
  have h' : Option.rec (motive := fun _ => R) (callNF P mk rec f args s) (fun h => Option.rec (motive := fun _ => R) (callNF P mk rec f args s) (fun r => some r) (h args s)) (ov.get f) = some r := h
  cases hq : ov.get f with
  | none => rw [hq] at h'; exact .inr h'
  | some g =>
    rw [hq] at h'
    cases hg : g args s with
    | none => simp only [hg] at h'; exact .inr h'
    | some r' => simp only [hg] at h'; exact .inl ⟨g, rfl, hg.trans h'⟩
theorem callSF_ok {n : Nat} {mk : Nat → Nat} {rec : RecF} {ov : OV} (ho : OvOk sy P ov) (hr : RecOkF n sy P rec) (hl' : RecLess rec) : CallsOk sy P (callSF P ov mk rec) := by
  constructor
  · intro ρ f args s s' v w vs hS hl hfr h
    rcases callSF_cases h with ⟨g, h1, h2⟩ | h1
    · exact ho.ok f g h1 ρ args s s' v w vs hS hl hfr h2
    · exact callNF_ok hr hl' ρ f args s s' v w vs hS hl hfr h1
  · intro f args s r h
    rcases callSF_cases h with ⟨g, h1, h2⟩ | h1
    · exact ho.enters f g h1
    · exact callNF_enters h1
theorem callSF_grows {mk : Nat → Nat} {rec : RecF} {ov : OV} (ho : OvOk sy P ov) (hl : RecLess rec) : Grows (callSF P ov mk rec) := by
  intro f args s v s' h
  rcases callSF_cases h with ⟨g, h1, h2⟩ | h1
  · exact ho.grows f g h1 args s v s' h2
  · exact callNF_grows hl f args s v s' h1
theorem runF_ok {ov : OV} {mk : Nat → Nat} (ho : OvOk sy P ov) : ∀ n, RecOkF n sy P (runF P ov mk n) ∧ RecLess (runF P ov mk n)
  | 0 => ⟨fun ro m B mask c nt ρ tm a s w r D Q _ _ _ _ _ _ _ _ h => by
      have h' : (none : Res) = some r := h
      simp at h', ⟨fun mask c tm s r _ h => by
        have h' : (none : Res) = some r := h
        simp at h', fun mask c tm s r _ h => by
        have h' : (none : Res) = some r := h
        simp at h'⟩⟩
  | n + 1 => by
    obtain ⟨h1, h2⟩ := runF_ok (mk := mk) ho n
    have k1 := callSF_ok (mk := mk) ho h1 h2
    have k2 := callSF_grows (P := P) (mk := mk) ho h2
    exact ⟨codeF_ok h1 h2 k1 k2, codeF_less (sy := sy) h2 k1 k2⟩
/-- what a run says of its call -/
theorem topF_ok {ov : OV} {mk : Nat → Nat} (ho : OvOk sy P ov) {n : Nat} {f : FuncId} {args : List AV} {vs : Array Value} {s s' : St} {v : AV} {w : World} (h : topF P ov mk n f args s = some (v, s'))
    (hS : SatS sy ρ s w) (hl : VL sy ρ args vs.toList) (hfr : Fresh ρ s.next s'.next) : Calls P f vs w fun e w' => ∃ ρ' u, e = .returned u ∧ Out sy ρ s w ρ' s' w' ∧ V sy ρ' v u :=
  callNF_ok (runF_ok ho n).1 (runF_ok (sy := sy) ho n).2 ρ f args s s' v w vs hS hl hfr h
/-- what a run says of a closed call: its answer, and that what lay in memory stands -/
theorem closedF {gs : GS} {es : ES} {W : World} {size : Nat → Nat} {ea : Nat → Addr} {ez : Nat → Nat} (hs : Starts sy gs es W size ea ez) {ov : OV} (ho : OvOk sy P ov) {mk : Nat → Nat} {n : Nat} {f : FuncId} {args : List AV} {vs : Array Value} {s' : St} {b : Bool}
    (h : topF P ov mk n f args (start gs es) = some (.bool b, s')) (hl : VL sy (startρ gs es size ea ez) args vs.toList) : Calls P f vs W fun e w' => e = .returned (.bool b) ∧ Go.RowKit.Below W.heap.size W w' := by
  refine (topF_ok ho h (start_sat hs) hl (start_fresh hs _)).mono fun e w' ⟨ρ', u, h1, h2, h3⟩ => ?_
  have hu : u = .bool b := h3
  subst hu
  refine ⟨h1, h2.fr.os, h2.fr.tape, h2.fr.output, h2.fr.size, fun k hk => h2.fr.old k hk ?_⟩
  rintro (⟨i, r, pl, q1, q2, -, -⟩ | ⟨i, m, pl, q1, q2, -, -⟩)
  case inr =>
    have q2' : (T.E : T MRow).get i = some m := q2
    rw [T.get_E] at q2'; simp at q2'
  have q1' : 2048 ≤ i := q1
  have q2' : (hpG es gs).get i = some r := q2
  rw [hpG_get] at q2'
  split at q2'
  · rename_i l hl'
    have := (hs.rows i l hl').1
    omega
  · cases he : es.lookup i with
    | none => rw [he] at q2'; simp at q2'
    | some p => have := (hs.errs i p he).2.1; omega
end Go.Ex

namespace Go.Ex
variable {sy : Nat → Value} {ρ : Env} {P : Program}

/-! calls that are told beforehand -/
/-- gristmillworld.Number: of an argument that is open its rest is told -/
noncomputable def hNum (res : Nat → Nat → Option Nat) : List AV → St → R := fun args s => match args with
  | [x, .int .i64 m] => match m with
    | .ofNat m => bi ((Nat.ble 1 m).and (Nat.ble m 1000000)) (match x with
      | .sym j => ob (res j m) fun r => some (.int .i64 (Int.ofNat r), s)
      | .int .i64 a => some (.int .i64 (Int.emod a (Int.ofNat m)), s)
      | _ => none) none
    | _ => none
  | _ => none
theorem hNum_ok {fN : FuncId} {xs : Nat → Int} {res : Nat → Nat → Option Nat} (hN : ∀ (x m : Int), 0 < m → m ≤ 1000000 → ∀ w, Calls P fN #[.int .i64 x, .int .i64 m] w fun e w' => e = .returned (.int .i64 (x % m)) ∧ w = w')
    (hE : Enters P fN) (hsy : ∀ j m r, res j m = some r → sy j = .int .i64 (xs j)) (hres : ∀ j m r, res j m = some r → xs j % (m : Int) = (r : Int)) : OvOk sy P (T.set .E fN (hNum res)) := by
  have hinv : ∀ args s v s', hNum res args s = some (v, s') → ∃ x m, args = [x, .int .i64 (Int.ofNat m)] ∧ 1 ≤ m ∧ m ≤ 1000000 ∧ s' = s ∧ ((∃ j r, x = .sym j ∧ res j m = some r ∧ v = .int .i64 (Int.ofNat r)) ∨ ∃ a, x = .int .i64 a ∧ v = .int .i64 (Int.emod a (Int.ofNat m))) := by
    intro args s v s' h
    unfold hNum at h
    split at h
    · rename_i x m
      split at h
      · rename_i m
        rw [bi_some, and_true'] at h
        obtain ⟨⟨h1, h2⟩, h3⟩ := h
        refine ⟨x, m, rfl, by simpa using h1, by simpa using h2, ?_⟩
        split at h3
        · rename_i j
          simp only [ob_some, Option.some.injEq, Prod.mk.injEq] at h3
          obtain ⟨r, g1, g2, g3⟩ := h3
          exact ⟨g3.symm, .inl ⟨j, r, rfl, g1, g2.symm⟩⟩
        · rename_i a
          simp only [Option.some.injEq, Prod.mk.injEq] at h3
          exact ⟨h3.2.symm, .inr ⟨a, rfl, h3.1.symm⟩⟩
        · simp at h3
      · simp at h
    · simp at h
  have hget : ∀ f h, (T.set .E fN (hNum res) : OV).get f = some h → f = fN ∧ h = hNum res := by
    intro f h e
    rw [T.get_set] at e
    split at e
    · rename_i ef; simp at e; exact ⟨ef, e.symm⟩
    · rw [T.get_E] at e; simp at e
  refine ⟨fun f h e ρ args s s' v w vs hS hl hfr hh => ?_, fun f h e => by rw [(hget f h e).1]; exact hE, fun f h e args s v s' hh => ?_⟩
  · obtain ⟨rfl, rfl⟩ := hget f h e
    obtain ⟨x, m, rfl, h1, h2, rfl, hx⟩ := hinv _ _ _ _ hh
    have hl' := hl
    obtain ⟨u, q, e1, k1, k2⟩ := hl
    obtain ⟨u2, q2, e2, k3, k4⟩ := k2
    have hq2 : q2 = [] := k4
    have hu2 : u2 = .int .i64 (m : Int) := k3
    subst hq2; subst hu2; subst e2
    have hvs : vs = #[u, .int .i64 (m : Int)] := by
      apply Array.ext'
      simpa using e1
    rw [hvs]
    have key : ∀ a : Int, u = .int .i64 a → a % (m : Int) = (match v with | .int _ z => z | _ => 0) → (∃ z, v = .int .i64 z) → Calls P f #[u, .int .i64 (m : Int)] w fun e w' => ∃ ρ' y, e = .returned y ∧ Out sy ρ s' w ρ' s' w' ∧ V sy ρ' v y := by
      rintro a rfl ha ⟨z, rfl⟩
      refine (hN a m (by omega) (by omega) w).mono fun e w' ⟨g1, g2⟩ => ?_
      subst g2
      exact ⟨ρ, _, g1, .refl hS, by show _ = _; rw [ha]⟩
    rcases hx with ⟨j, r, rfl, g1, rfl⟩ | ⟨a, rfl, rfl⟩
    · have hu : u = sy j ∧ ∃ n, u = .int .i64 n ∧ IntKind.i64.wrap n = n ∧ SymOk j n := k1
      exact key (xs j) (by rw [hu.1, hsy j m r g1]) (hres j m r g1) ⟨_, rfl⟩
    · exact key a k1 rfl ⟨_, rfl⟩
  · obtain ⟨-, rfl⟩ := hget f h e
    obtain ⟨x, m, rfl, h1, h2, rfl, hx⟩ := hinv _ _ _ _ hh
    exact .refl _
/-- the rests that are told -/
noncomputable def rests (l : List (Nat × Nat × Nat)) (j m : Nat) : Option Nat :=
  List.rec (motive := fun _ => Option Nat) none (fun x _ ih => bi ((Nat.beq x.1 j).and (Nat.beq x.2.1 m)) (some x.2.2) ih) l
theorem rests_ok {xs : Nat → Int} : ∀ {l : List (Nat × Nat × Nat)}, (∀ x ∈ l, xs x.1 % (x.2.1 : Int) = (x.2.2 : Int)) → ∀ j m r, rests l j m = some r → xs j % (m : Int) = (r : Int)
  | [], _, j, m, r, h => by
    have h' : (none : Option Nat) = some r := h
    simp at h'
  | x :: l, hl, j, m, r, h => by
    have h' : bi ((Nat.beq x.1 j).and (Nat.beq x.2.1 m)) (some x.2.2) (rests l j m) = some r := h
    rw [bi_eq] at h'
    split at h'
    · rename_i hb
      rw [and_true'] at hb
      have e1 : x.1 = j := Nat.eq_of_beq_eq_true hb.1
      have e2 : x.2.1 = m := Nat.eq_of_beq_eq_true hb.2
      simp at h'
      rw [← e1, ← e2, ← h']
      exact hl x (by simp)
    · exact rests_ok (fun y hy => hl y (List.mem_cons_of_mem _ hy)) j m r h'
/-- did it answer true? -/
def tru : AV → Bool
  | .bool b => b
  | _ => false
noncomputable def isT (r : R) : Bool := Option.rec (motive := fun _ => Bool) false (fun p => tru p.1) r
theorem isT_some {r : R} (h : isT r = true) : ∃ s', r = some (.bool true, s') := by
  cases r with
  | none => cases h
  | some p =>
    obtain ⟨v, s'⟩ := p
    have h' : tru v = true := h
    unfold tru at h'
    split at h'
    · subst h'; exact ⟨s', rfl⟩
    · simp at h'
end Go.Ex

namespace Go.Ex
variable {sy : Nat → Value} {ρ : Env} {P : Program}
open Go.RowKit

/-- What is known of memory is known still where nothing old has turned. -/
theorem SatS.below {s : St} {w w' : World} (h : SatS sy ρ s w) (hb : Below w.heap.size w w') : SatS sy ρ s w' := by
  refine ⟨⟨fun id r hr => ?_, h.sat.sep, h.sat.fams, h.sat.ends, h.sat.pmem, h.sat.exfam, h.sat.glob⟩, h.wf, h.fln, h.maps.keep (fun _ _ k => k) fun b es c hb' => by rw [hb.block _ (Array.getElem?_eq_some_iff.1 hb').1]; exact hb'⟩
  obtain ⟨pl, g1, g2, g3, g4⟩ := h.sat.rows id r hr
  obtain ⟨el, hsh⟩ := g4.shape
  exact ⟨pl, g1, g2, g3, g4.same (hb.block _ (lt_of_shape hsh)) (fun x => x) (fun _ _ x => x)⟩
theorem Out.below {s : St} {w w' : World} (h : SatS sy ρ s w) (hb : Below w.heap.size w w') : Out sy ρ s w ρ s w' :=
  ⟨.refl s, ⟨hb.size, hb.os, hb.tape, hb.output, fun b hlt _ => hb.block b hlt, fun _ _ h => h, fun i q h h' => by rw [h'] at h; simp at h⟩, h.below hb⟩

/-- One more function that is told beforehand. -/
theorem OvOk.set {ov : OV} (ho : OvOk sy P ov) {f : FuncId} {hd : List AV → St → R}
    (ok : ∀ (ρ : Env) (args : List AV) (s s' : St) (v : AV) (w : World) (vs : Array Value), SatS sy ρ s w → VL sy ρ args vs.toList → Fresh ρ s.next s'.next → hd args s = some (v, s') →
      Calls P f vs w fun e w' => ∃ ρ' u, e = .returned u ∧ Out sy ρ s w ρ' s' w' ∧ V sy ρ' v u)
    (hE : Enters P f) (gr : ∀ args s v s', hd args s = some (v, s') → GE s s') : OvOk sy P (T.set ov f hd) := by
  refine ⟨fun g h e ρ args s s' v w vs => ?_, fun g h e => ?_, fun g h e => ?_⟩
  all_goals
    rw [T.get_set] at e
    split at e
  · rename_i ef; subst ef; obtain rfl : hd = h := by simpa using e
    exact ok ρ args s s' v w vs
  · exact ho.ok g h e ρ args s s' v w vs
  · rename_i ef; subst ef; exact hE
  · exact ho.enters g h e
  · rename_i ef; subst ef; obtain rfl : hd = h := by simpa using e
    exact gr
  · exact ho.grows g h e

/-- strings.Clone: the text itself. -/
noncomputable def hClone : List AV → St → R := fun args s => match args with
  | [x] => match x with
    | .str n b => bi (Nat.ble n 281474976710656) (some (.str n b, s)) none
    | _ => none
  | _ => none
theorem hClone_ok {ov : OV} (ho : OvOk sy P ov) {f : FuncId} (hC : ∀ (s : ByteArray) (w : World), s.size ≤ 281474976710656 → Calls P f #[.string s] w fun e w' => e = .returned (.string s) ∧ Below w.heap.size w w') (hE : Enters P f) : OvOk sy P (T.set ov f hClone) := by
  have hinv : ∀ args s v s', hClone args s = some (v, s') → ∃ n b, args = [.str n b] ∧ n ≤ 281474976710656 ∧ v = .str n b ∧ s' = s := by
    intro args s v s' h
    unfold hClone at h
    split at h
    · split at h
      · rename_i n b
        rw [bi_some] at h
        obtain ⟨h1, h2⟩ := h
        simp only [Option.some.injEq, Prod.mk.injEq] at h2
        exact ⟨n, b, rfl, by simpa using h1, h2.1.symm, h2.2.symm⟩
      · simp at h
    · simp at h
  refine ho.set (fun ρ args s s' v w vs hS hl hfr hh => ?_) hE (fun args s v s' hh => ?_)
  · obtain ⟨n, b, rfl, h1, rfl, rfl⟩ := hinv _ _ _ _ hh
    obtain ⟨u, q, e1, k1, k2⟩ := hl
    have hq : q = [] := k2
    subst hq
    obtain ⟨t, rfl, k3, k4⟩ := k1
    have hvs : vs = #[.string t] := by
      apply Array.ext'
      simpa using e1
    rw [hvs]
    have hsz : t.size ≤ 281474976710656 := by rw [← k3] at h1; simpa using h1
    refine (hC t w hsz).mono fun e w' ⟨g1, g2⟩ => ?_
    exact ⟨ρ, _, g1, .below hS g2, ⟨t, rfl, k3, k4⟩⟩
  · obtain ⟨n, b, rfl, h1, rfl, rfl⟩ := hinv _ _ _ _ hh
    exact .refl _
end Go.Ex

namespace Go.Ex
variable {sy : Nat → Value} {ρ : Env} {P : Program}
open Go.RowKit

/-! package strings' Builder: two of its calls are told beforehand -/
theorem freeze_facts (w : World) (a : Addr) (n : Nat) : (w.freeze a n).heap.size = w.heap.size ∧ (w.freeze a n).os = w.os ∧ (w.freeze a n).tape = w.tape ∧ (w.freeze a n).output = w.output ∧
    (∀ b, b ≠ a.block → (w.freeze a n).heap[b]? = w.heap[b]?) ∧ (∀ b, (w.freeze a n).shape? b = w.shape? b) := by
  unfold World.freeze
  split
  · exact ⟨rfl, rfl, rfl, rfl, fun _ _ => rfl, fun _ => rfl⟩
  · refine ⟨by simp, rfl, rfl, rfl, fun b hb => ?_, fun b => ?_⟩
    · simp only [Array.getElem?_modify]
      rw [if_neg (by omega)]
    · unfold World.shape?
      simp only [Array.getElem?_modify]
      by_cases e : a.block = b
      · rw [if_pos e]
        cases w.heap[b]? with
        | none => rfl
        | some o => cases o <;> rfl
      · rw [if_neg e]

/-- rows that may be read no more -/
noncomputable def killR (s : St) (i : Nat) (row : Row) : Option St := match row.fam with
  | 0 => match s.fams.get s.next with
    | none => some ⟨s.heap.set i ⟨s.next, row.exact, row.sz, row.cs, row.ty⟩, s.fams.set s.next [], Nat.succ s.next, s.floor⟩
    | some _ => none
  | f => some ⟨s.heap, s.fams.set f [], s.next, s.floor⟩

theorem kill_sat {H H' : HV} {F F' : FV} {fl : Nat} {w w' : World} {i f : Nat} {r : VRow} {pl : Pl} (h : Sat sy ρ H F fl w) (hr : H i = some r) (hp : ρ i = some pl) (hfl : fl ≤ i) (hex : r.exact = false) (hf : f ≠ 0)
    (hi : r.fam = f ∨ (r.fam = 0 ∧ F f = none)) (hH : ∀ j, H' j = if j = i then some ⟨f, r.exact, r.sz, r.cell, r.ty⟩ else H j) (hF : ∀ g, F' g = if g = f then some [] else F g)
    (hmem : ∀ b, b ≠ pl.blk → w'.heap[b]? = w.heap[b]?) (hsh : ∀ b, w'.shape? b = w.shape? b) : Sat sy ρ H' F' fl w' := by
  have noF : ∀ j, ¬ Rdb F' j f := by
    rintro j (h0 | ⟨l, h1, e, h2⟩)
    · exact hf h0
    · rw [hF, if_pos rfl] at h1
      simp at h1; subst h1; simp at h2
  have hot : ∀ j q, j ≠ i → H' j = some q → H j = some q := fun j q hj hq => by rw [hH, if_neg hj] at hq; exact hq
  have hself : ∀ q, H' i = some q → q = ⟨f, r.exact, r.sz, r.cell, r.ty⟩ := fun q hq => by rw [hH, if_pos rfl] at hq; simpa using hq.symm
  have hback : ∀ j g, Rdb F' j g → Rdb F j g := by
    rintro j g (h0 | ⟨l, h1, h2⟩)
    · exact .inl h0
    · rw [hF] at h1
      split at h1
      · simp at h1; subst h1; obtain ⟨e, h2⟩ := h2; simp at h2
      · exact .inr ⟨l, h1, h2⟩
  have hsame : ∀ j q pj, j ≠ i → H j = some q → ρ j = some pj → pj.blk = pl.blk → q.fam = f := by
    intro j q pj hj hq hpj hb
    obtain ⟨_, _, s3, s4, _⟩ := (h.sep j i q r pj pl hj hq hr hpj hp hb).resolve_left fun x => absurd hfl (Nat.not_le_of_lt x.2.1)
    rcases hi with g | ⟨g, _⟩
    · rw [s3, g]
    · exact absurd (s3.trans g) s4
  have hfamF : ∀ j q, H j = some q → q.fam = f → r.fam = f := by
    intro j q hq hqf
    rcases hi with g | ⟨g, g2⟩
    · exact g
    · obtain ⟨p, hp'⟩ := h.fams j q hq (by rw [hqf]; exact hf)
      rw [hqf, g2] at hp'; simp at hp'
  refine ⟨fun j q hq => ?_, fun j k rj rk pj pk hjk hj hk hpj hpk hb => ?_, fun j q hq hn => ?_, fun j q hq hn l hl e he => ?_, fun g l hl j hj => ?_, fun j q hq he => ?_, h.glob⟩
  · by_cases e : j = i
    · subst e
      have := hself q hq; subst this
      obtain ⟨pl', g1, g2, g3, g4⟩ := h.rows j r hr
      rw [hp] at g1; simp at g1; subst g1
      exact ⟨pl, hp, g2, g3, ⟨by rw [hsh]; exact g4.shape, fun _ hq => absurd hq (noF j), fun he => by rw [hex] at he; simp at he, fun _ _ _ hq => absurd hq (noF j), fun x hx => g4.typ x (by rw [← hsh]; exact hx)⟩⟩
    · have hq0 := hot j q e hq
      obtain ⟨pj, g1, g2, g3, g4⟩ := h.rows j q hq0
      refine ⟨pj, g1, g2, g3, ?_⟩
      by_cases hb : pj.blk = pl.blk
      · have hqf := hsame j q pj e hq0 g1 hb
        refine ⟨by rw [hsh]; exact g4.shape, fun _ hq => ?_, fun he => ?_, fun _ _ _ hq => ?_, fun x hx => g4.typ x (by rw [← hsh]; exact hx)⟩
        · rw [hqf] at hq; exact absurd hq (noF j)
        · have := h.exfam j q hq0 he
          rw [hqf] at this; exact absurd this hf
        · rw [hqf] at hq; exact absurd hq (noF j)
      · exact g4.same (hmem _ hb) (hback j q.fam) (fun _ _ x => x)
  · have key : ∀ a q, H' a = some q → ∃ q', H a = some q' ∧ (q'.fam = q.fam ∨ (a = i ∧ q'.fam = 0 ∧ q.fam = f)) := by
      intro a q hq
      by_cases e : a = i
      · subst e
        have := hself q hq; subst this
        refine ⟨r, hr, ?_⟩
        rcases hi with g | ⟨g, _⟩
        · exact .inl g
        · exact .inr ⟨rfl, g, rfl⟩
      · exact ⟨q, hot a q e hq, .inl rfl⟩
    obtain ⟨qj, a1, a2⟩ := key j rj hj
    obtain ⟨qk, b1, b2⟩ := key k rk hk
    rcases h.sep j k qj qk pj pk hjk a1 b1 hpj hpk hb with x | ⟨s1, s2, s3, s4, s5⟩
    · exact .inl x
    · rcases a2 with a2 | ⟨_, a3, _⟩
      · rcases b2 with b2 | ⟨_, b3, _⟩
        · refine .inr ⟨s1, s2, by rw [← a2, ← b2]; exact s3, by rw [← a2]; exact s4, fun l hl hoj hok => ?_⟩
          rw [hF] at hl
          split at hl
          · simp at hl; subst hl; obtain ⟨e, he⟩ := hoj; simp at he
          · rw [← a2] at hl; exact s5 l hl hoj hok
        · exact absurd (s3.trans b3) s4
      · exact absurd a3 s4
  · rw [hF]
    split
    · exact ⟨_, rfl⟩
    · rename_i hne
      by_cases e : j = i
      · subst e
        have := hself q hq; subst this
        exact absurd rfl hne
      · exact h.fams j q (hot j q e hq) hn
  · rw [hF] at hl
    split at hl
    · simp at hl; subst hl; simp at he
    · rename_i hne
      by_cases e' : j = i
      · subst e'
        have := hself q hq; subst this
        exact absurd rfl hne
      · exact h.ends j q (hot j q e' hq) hn l hl e he
  · rw [hF] at hl
    split at hl
    · simp at hl; subst hl; obtain ⟨e, he⟩ := hj; simp at he
    · exact h.pmem g l hl j hj
  · by_cases e : j = i
    · subst e
      have := hself q hq; subst this
      rw [hex] at he; simp at he
    · exact h.exfam j q (hot j q e hq) he
theorem kill_out {s s' : St} {w w' : World} {i : Nat} {row : Row} {pl : Pl} (hS : SatS sy ρ s w) (hr : s.heap.get i = some row) (hp : ρ i = some pl) (hfl : s.floor ≤ i) (hex : row.exact = false) (hk : killR s i row = some s') (hn0 : s.next ≠ 0)
    (hsize : w'.heap.size = w.heap.size) (hos : w'.os = w.os) (htape : w'.tape = w.tape) (hout : w'.output = w.output) (hmem : ∀ b, b ≠ pl.blk → w'.heap[b]? = w.heap[b]?) (hsh : ∀ b, w'.shape? b = w.shape? b) : Out sy ρ s w ρ s' w' := by
  have fr : s.next ≤ s'.next → Fr ρ ρ s s' w w' := fun _ => ⟨Nat.le_of_eq hsize.symm, hos, htape, hout, fun b hb ho => hmem b (fun e => ho (.inl ⟨i, row, pl, hfl, hr, hp, e.symm⟩)), fun _ _ k => k, fun j q k k' => by rw [k'] at k; simp at k⟩
  have hmp : MSat sy ρ s.fams.ms.get s.floor w' := hS.maps.keep (fun _ _ k => k) fun b es c hb => by
    rw [hmem b (fun e => by
      obtain ⟨p', k1, -, -, k4⟩ := hS.sat.rows i row.v (hv_some.2 ⟨row, hr, rfl⟩)
      rw [hp] at k1; simp at k1; subst k1
      obtain ⟨el, k5⟩ := k4.shape
      subst e; rw [shape_map hb] at k5; simp at k5)]
    exact hb
  unfold killR at hk
  split at hk
  · rename_i h0
    split at hk
    · rename_i hF
      simp at hk; subst hk
      have hnone : ∀ j, s.heap.get j = none → j ≠ i := fun j hj e => by rw [e, hr] at hj; simp at hj
      refine ⟨⟨Nat.le_succ _, rfl, fun j hj _ => ?_, fun _ hj _ => hj⟩, fr (Nat.le_succ _), ⟨?_, fun j r hj q ch hq => ?_, Nat.le_succ_of_le hS.fln, hmp⟩⟩
      · show (s.heap.set i _).get j = none
        rw [T.get_set, if_neg (hnone j hj)]; exact hj
      · refine kill_sat (f := s.next) hS.sat (hv_some.2 ⟨row, hr, rfl⟩) hp hfl hex hn0 (.inr ⟨h0, hF⟩) (fun j => ?_) (fun g => ?_) hmem hsh
        · unfold St.hv
          rw [T.get_set]
          split <;> rfl
        · exact T.get_set _ _ _ _
      · have hj' : (s.heap.set i ⟨s.next, row.exact, row.sz, row.cs, row.ty⟩).get j = some r := hj
        rw [T.get_set] at hj'
        split at hj'
        · simp at hj'; subst hj'; exact hS.wf i row hr q ch hq
        · exact hS.wf j r hj' q ch hq
    · simp at hk
  · rename_i f hf
    simp at hk; subst hk
    refine ⟨⟨Nat.le_refl _, rfl, fun j hj _ => hj, fun _ hj _ => hj⟩, fr (Nat.le_refl _), ⟨?_, hS.wf, hS.fln, hmp⟩⟩
    refine kill_sat (f := row.fam) hS.sat (hv_some.2 ⟨row, hr, rfl⟩) hp hfl hex hf (.inl rfl) (fun j => ?_) (fun g => ?_) hmem hsh
    · show s.hv j = _
      split
      · rename_i e; subst e; exact hv_some.2 ⟨row, hr, rfl⟩
      · rfl
    · exact T.get_set _ _ _ _

/-- what is known of package strings' Builder in a program: tb its type, tu that of bytes -/
structure BldOk (P : Program) (fC fS : FuncId) (tb tu : Nat) : Prop where
  fresh : ∀ b w, w.cell? ⟨b, 0, none⟩ = some (.pointer none) → w.shape? b = some (tb, 2) → w.frozen? ⟨b, 0, none⟩ = false →
    Calls P fC #[.pointer (some ⟨b, 0, none⟩)] w fun e w' => e = .returned (.tuple #[]) ∧ w' = w.setCell ⟨b, 0, none⟩ (.pointer (some ⟨b, 0, none⟩))
  used : ∀ b w, w.cell? ⟨b, 0, none⟩ = some (.pointer (some ⟨b, 0, none⟩)) → Calls P fC #[.pointer (some ⟨b, 0, none⟩)] w fun e w' => e = .returned (.tuple #[]) ∧ w' = w
  nil : ∀ b w, w.cell? ⟨b, 1, none⟩ = some (.slice none 0 0) → Calls P fS #[.pointer (some ⟨b, 0, none⟩)] w fun e w' => e = .returned (.string .empty) ∧ Below w.heap.size w w'
  row : ∀ b g c cells (l : List UInt8) w, w.cell? ⟨b, 1, none⟩ = some (.slice (some ⟨g, 0, none⟩) l.length c) → w.shape? g = some (tu, cells) → l ≠ [] → l.length ≤ cells → l.length ≤ 1000000000 → l.length ≤ c →
    (∀ j x, l[j]? = some x → w.cell? ((⟨g, 0, none⟩ : Addr).add j) = some (.int .u8 (x.toNat : Int))) → Calls P fS #[.pointer (some ⟨b, 0, none⟩)] w fun e w' => e = .returned (.string ⟨l.toArray⟩) ∧ w' = w.drew.freeze ⟨g, 0, none⟩ l.length
  enC : Enters P fC
  enS : Enters P fS
  sm : tb < 1000000 ∧ tu < 1000000
noncomputable def copyR (s : St) (id : Nat) (l : List AV) : R := match l with
  | [y] => match y with
    | .nilp => ob (storeC s id 0 [.ptr id 0]) fun s' => some (.tup [], s')
    | .ptr i o => bi ((Nat.beq i id).and (Nat.beq o 0)) (some (.tup [], s)) none
    | _ => none
  | _ => none
noncomputable def hCopy (tb : Nat) : List AV → St → R := fun args s => match args with
  | [x] => match x with
    | .ptr id off => bi (Nat.beq off 0) (ob (loadC s id 0 1) fun l => ob (s.heap.get id) fun row => bi ((Nat.beq row.ty (Nat.succ tb)).and (row.exact.and ((Nat.beq row.sz 2).and (readable s id row.fam)))) (copyR s id l) none) none
    | _ => none
  | _ => none
noncomputable def strR (tu : Nat) (s : St) (l : List AV) : R := match l with
  | [y] => match y with
    | .nils => some (.str 0 0, s)
    | .slc i o n _ _ => bi ((Nat.blt 0 n).and (Nat.ble n 1000000000)) (ob (s.heap.get i) fun row => ob (elemsN s 1 i o n) fun l => ob (packA l n) fun x =>
        bi ((Nat.beq o 0).and ((Nat.beq row.ty (Nat.succ tu)).and ((Nat.ble s.floor i).and ((row.exact.not).and (Nat.blt 0 s.next))))) (ob (killR s i row) fun s' => some (x, s')) none) none
    | _ => none
  | _ => none
noncomputable def hStr (tb tu : Nat) : List AV → St → R := fun args s => match args with
  | [x] => match x with
    | .ptr id off => bi (Nat.beq off 0) (ob (loadC s id 1 1) fun l => ob (s.heap.get id) fun row => bi ((Nat.beq row.ty (Nat.succ tb)).and row.exact) (strR tu s l) none) none
    | _ => none
  | _ => none

theorem one_arg {x : AV} {vs : Array Value} (h : VL sy ρ [x] vs.toList) : ∃ u, vs = #[u] ∧ V sy ρ x u := by
  obtain ⟨u, q, e1, k1, k2⟩ := h
  have hq : q = [] := k2
  subst hq
  exact ⟨u, by apply Array.ext'; simpa using e1, k1⟩
/-- where a builder lies -/
theorem bld_at {s : St} {w : World} {id : Nat} {row : Row} {tb : Nat} (hS : SatS sy ρ s w) (hr : s.heap.get id = some row) (hty : row.ty = tb + 1) (hex : row.exact = true) (hsm : tb < 1000000) :
    ∃ pl, ρ id = some pl ∧ pl.base = 0 ∧ pl.size = row.sz ∧ w.shape? pl.blk = some (tb, pl.size) ∧ ∀ o, w.frozen? ⟨pl.blk, o, none⟩ = false := by
  obtain ⟨pl, g1, g2, g3, g4⟩ := hS.sat.rows id row.v (hv_some.2 ⟨row, hr, rfl⟩)
  obtain ⟨el, hsh⟩ := g4.shape
  rcases g4.typ _ hsh with q | ⟨q, q2⟩ | ⟨q, -⟩
  · have : row.ty = 0 := q
    omega
  · have q' : row.ty = el + 1 := q.1
    have : el = tb := Nat.succ.inj (q'.symm.trans hty)
    subst this
    exact ⟨pl, g1, q2.1, q2.2 hex, hsh, g4.plain hex⟩
  · have : row.ty = 1099511627776 := q
    omega
theorem range_one {w : World} {b o : Nat} {v : Value} (h : w.rangeAt b o [v]) : w.cell? ⟨b, o, none⟩ = some v := by
  have := h 0 v rfl
  simpa using this
theorem hCopy_ok {ov : OV} {fC fS : FuncId} {tb tu : Nat} (ho : OvOk sy P ov) (hB : BldOk P fC fS tb tu) : OvOk sy P (T.set ov fC (hCopy tb)) := by
  have hinv : ∀ args s v s', hCopy tb args s = some (v, s') → ∃ id l row, args = [.ptr id 0] ∧ loadC s id 0 1 = some l ∧ s.heap.get id = some row ∧ row.ty = tb + 1 ∧ row.exact = true ∧ row.sz = 2 ∧ v = .tup [] ∧
      ((l = [.nilp] ∧ storeC s id 0 [.ptr id 0] = some s') ∨ (l = [.ptr id 0] ∧ s' = s)) := by
    intro args s v s' h
    unfold hCopy at h
    split at h
    · split at h
      · rename_i id off
        simp only [bi_some, ob_some] at h
        obtain ⟨h1, l, h2, row, h3, h4, h5⟩ := h
        simp at h1 h4
        subst h1
        refine ⟨id, l, row, rfl, h2, h3, h4.1, h4.2.1, h4.2.2.1, ?_⟩
        unfold copyR at h5
        split at h5
        · split at h5
          · simp only [ob_some] at h5
            obtain ⟨s1, k1, k2⟩ := h5
            simp at k2
            exact ⟨k2.1.symm, .inl ⟨rfl, by rw [← k2.2]; exact k1⟩⟩
          · rename_i i o
            rw [bi_some] at h5
            obtain ⟨k1, k2⟩ := h5
            simp at k1 k2
            rw [k1.1, k1.2]
            exact ⟨k2.1.symm, .inr ⟨rfl, k2.2.symm⟩⟩
          · simp at h5
        · simp at h5
      · simp at h
    · simp at h
  refine ho.set (fun ρ args s s' v w vs hS hl hfr hh => ?_) hB.enC (fun args s v s' hh => ?_)
  · obtain ⟨id, l, row, rfl, h1, h2, h3, h4, h5, rfl, h6⟩ := hinv _ _ _ _ hh
    obtain ⟨u, rfl, k1⟩ := one_arg hl
    obtain ⟨pl, g1, g2, g3, g4, g5⟩ := bld_at hS h2 h3 h4 hB.sm.1
    obtain ⟨pl', e1, e2⟩ := k1
    rw [g1] at e1; simp at e1; subst e1
    rw [g2] at e2
    subst e2
    obtain ⟨pl', vs, e1, q1, q2, q3, q4⟩ := loadC_at hS h1
    rw [g1] at e1; simp at e1; subst e1
    rw [g2] at q4
    rcases h6 with ⟨rfl, h6⟩ | ⟨rfl, rfl⟩
    · obtain ⟨y, r, rfl, m1, m2⟩ := q1
      have hr : r = [] := m2
      subst hr
      have hy : y = .pointer none := m1
      subst hy
      have hc := range_one q4
      refine (hB.fresh _ w hc (by rw [g4, g3, h5]) (g5 0)).mono fun e w' ⟨x1, x2⟩ => ?_
      obtain ⟨pl', e1, e2, e3, e4⟩ := storeC_out (us := [.pointer (some ⟨pl.blk, 0, none⟩)]) hS h6 ⟨_, [], rfl, ⟨pl, g1, by rw [g2]⟩, rfl⟩ (by intro u hu; simp at hu; subst hu; trivial)
      rw [g1] at e1; simp at e1; subst e1
      rw [g2] at e3
      refine ⟨ρ, _, x1, ?_, ⟨#[], rfl, rfl⟩⟩
      rw [x2]
      exact e3
    · obtain ⟨y, r, rfl, m1, m2⟩ := q1
      have hr : r = [] := m2
      subst hr
      obtain ⟨pl', e1, e2⟩ := m1
      rw [g1] at e1; simp at e1; subst e1
      rw [g2] at e2
      subst e2
      have hc := range_one q4
      refine (hB.used _ w hc).mono fun e w' ⟨x1, x2⟩ => ?_
      subst x2
      exact ⟨ρ, _, x1, .refl hS, ⟨#[], rfl, rfl⟩⟩
  · obtain ⟨id, l, row, rfl, h1, h2, h3, h4, h5, rfl, h6⟩ := hinv _ _ _ _ hh
    rcases h6 with ⟨_, h6⟩ | ⟨_, rfl⟩
    · exact (storeC_ge h6).2
    · exact .refl _
theorem killR_next {s s' : St} {i : Nat} {row : Row} (h : killR s i row = some s') : GE s s' := by
  unfold killR at h
  split at h
  · split at h
    · simp at h; subst h; exact ⟨Nat.le_succ _, rfl⟩
    · simp at h
  · simp at h; subst h; exact ⟨Nat.le_refl _, rfl⟩
theorem hStr_ok {ov : OV} {fC fS : FuncId} {tb tu : Nat} (ho : OvOk sy P ov) (hB : BldOk P fC fS tb tu) : OvOk sy P (T.set ov fS (hStr tb tu)) := by
  have hinv : ∀ args s v s', hStr tb tu args s = some (v, s') → ∃ id l row, args = [.ptr id 0] ∧ loadC s id 1 1 = some l ∧ s.heap.get id = some row ∧ row.ty = tb + 1 ∧ row.exact = true ∧
      ((l = [.nils] ∧ v = .str 0 0 ∧ s' = s) ∨ ∃ i n c z rw' els x, l = [.slc i 0 n c z] ∧ 0 < n ∧ n ≤ 1000000000 ∧ s.heap.get i = some rw' ∧ elemsN s 1 i 0 n = some els ∧ packA els n = some x ∧ rw'.ty = tu + 1 ∧ s.floor ≤ i ∧ rw'.exact = false ∧ 0 < s.next ∧ killR s i rw' = some s' ∧ v = x) := by
    intro args s v s' h
    unfold hStr at h
    split at h
    · split at h
      · rename_i id off
        simp only [bi_some, ob_some] at h
        obtain ⟨h1, l, h2, row, h3, h4, h5⟩ := h
        simp at h1 h4
        subst h1
        refine ⟨id, l, row, rfl, h2, h3, h4.1, h4.2, ?_⟩
        unfold strR at h5
        split at h5
        · split at h5
          · simp at h5
            exact .inl ⟨rfl, h5.1.symm, h5.2.symm⟩
          · rename_i i o n c z
            simp only [bi_some, ob_some] at h5
            obtain ⟨k1, rw', k2, els, k3, b, k4, k5, s1, k6, k7⟩ := h5
            simp at k1 k5 k7
            obtain ⟨k0, k5⟩ := k5
            subst k0
            exact .inr ⟨i, n, c, z, rw', els, b, rfl, k1.1, k1.2, k2, k3, k4, k5.1, k5.2.1, k5.2.2.1, k5.2.2.2, by rw [← k7.2]; exact k6, k7.1.symm⟩
          · simp at h5
        · simp at h5
      · simp at h
    · simp at h
  refine ho.set (fun ρ args s s' v w vs hS hl hfr hh => ?_) hB.enS (fun args s v s' hh => ?_)
  · obtain ⟨id, l, row, rfl, h1, h2, h3, h4, h6⟩ := hinv _ _ _ _ hh
    obtain ⟨u, rfl, k1⟩ := one_arg hl
    obtain ⟨pl, g1, g2, g3, g4, g5⟩ := bld_at hS h2 h3 h4 hB.sm.1
    obtain ⟨pl', e1, e2⟩ := k1
    rw [g1] at e1; simp at e1; subst e1
    rw [g2] at e2
    subst e2
    obtain ⟨pl', vs, e1, q1, q2, q3, q4⟩ := loadC_at hS h1
    rw [g1] at e1; simp at e1; subst e1
    rw [g2] at q4
    rcases h6 with ⟨rfl, rfl, rfl⟩ | ⟨i, n, c, z, rw', els, b, rfl, n0, n9, r1, r2, r3, r4, r5, r6, r7, r8, rfl⟩
    · obtain ⟨y, r, rfl, m1, m2⟩ := q1
      have hr : r = [] := m2
      subst hr
      have hy : y = .slice none 0 0 := m1
      subst hy
      have hc := range_one q4
      refine (hB.nil _ w hc).mono fun e w' ⟨x1, x2⟩ => ?_
      exact ⟨ρ, _, x1, .below hS x2, ⟨.empty, rfl, rfl, rfl⟩⟩
    · obtain ⟨y, r, rfl, m1, m2⟩ := q1
      have hr : r = [] := m2
      subst hr
      obtain ⟨pb, c', o', b1, b2, b3, b4⟩ := m1
      subst b4
      have hc := range_one q4
      obtain ⟨ws, c1, c2⟩ := elemsN_at hS r2
      obtain ⟨pb', d1, d2, d3⟩ := c2 (by omega)
      rw [b1] at d1; simp at d1; subst d1
      have ho' := b3 (by have := b2.1; have := b2.2.1; omega)
      subst ho'
      obtain ⟨us, u1, u2, u3⟩ := packA_inv r3 c1.len.symm c1.vals
      have hul : us.length = n := by rw [u2, c1.len]
      subst hul
      obtain ⟨pb', v1, v2, v3, v4⟩ := hS.sat.rows i rw'.v (hv_some.2 ⟨rw', r1, rfl⟩)
      rw [b1] at v1; simp at v1; subst v1
      obtain ⟨el, hsh⟩ := v4.shape
      obtain ⟨hU, hbase⟩ : el = tu ∧ pb.base = 0 := by
        rcases v4.typ _ hsh with q | ⟨q, q2, _⟩ | ⟨q, -⟩
        · have : rw'.ty = 0 := q
          omega
        · have : rw'.ty = el + 1 := q.1
          exact ⟨Nat.succ.inj (this.symm.trans r4), q2⟩
        · have h1 : rw'.ty = 1099511627776 := q
          have h2 := hB.sm.2
          omega
      subst hU
      have hcell : ∀ j x, us[j]? = some x → w.cell? ⟨pb.blk, j, none⟩ = some (.int .u8 (x.toNat : Int)) := by
        intro j x hj
        have := d3 j (.int .u8 (x.toNat : Int)) (by rw [u1, List.getElem?_map, hj]; rfl)
        simpa [hbase] using this
      have hlast : us.length ≤ pb.size := by
        have hj : us.length - 1 < us.length := by omega
        have := hcell (us.length - 1) _ (List.getElem?_eq_getElem hj)
        have h2 := (cell_of_shape hsh _).1 (by rw [this]; rfl)
        omega
      have hle : us.length ≤ c' := Nat.le_trans b2.1 b2.2.1
      obtain ⟨f1, f2, f3, f4, f5, f6⟩ := freeze_facts w.drew ⟨pb.blk, 0, none⟩ us.length
      refine (hB.row pl.blk pb.blk c' pb.size us w (by simpa [hbase] using hc) hsh (by intro e; rw [e] at n0; simp at n0) hlast n9 hle (fun j x hj => by
        have e : (⟨pb.blk, 0, none⟩ : Addr).add j = ⟨pb.blk, j, none⟩ := by unfold Addr.add; split <;> simp_all
        rw [e]; exact hcell j x hj)).mono fun e w' ⟨x1, x2⟩ => ?_
      subst x2
      exact ⟨ρ, _, x1, kill_out hS r1 b1 r5 r6 r8 (by omega) f1 f2 f3 f4 f5 f6, u3 _⟩
  · obtain ⟨id, l, row, rfl, h1, h2, h3, h4, h6⟩ := hinv _ _ _ _ hh
    rcases h6 with ⟨_, _, rfl⟩ | ⟨i, n, c, z, rw', els, b, _, _, _, _, _, _, _, _, _, _, r8, _⟩
    · exact .refl _
    · exact killR_next r8
end Go.Ex

namespace Go.Ex
variable {sy : Nat → Value} {ρ : Env} {P : Program}

/-! runs that are cut at calls: a state of few rows stands for one of more -/
structure SubSt (t s : St) : Prop where
  heap : ∀ i r, t.heap.get i = some r → s.heap.get i = some r
  fams : ∀ f l, t.fams.get f = some l → s.fams.get f = some l
  has : ∀ i r, t.heap.get i = some r → r.fam ≠ 0 → ∃ l, t.fams.get r.fam = some l
  next : t.next = s.next
  floor : t.floor = s.floor
  ms : ∀ i m, t.fams.ms.get i = some m → s.fams.ms.get i = some m
theorem SubSt.hv {t s : St} (h : SubSt t s) {i : Nat} {r : VRow} (hr : t.hv i = some r) : s.hv i = some r := by
  obtain ⟨row, h1, h2⟩ := hv_some.1 hr
  exact hv_some.2 ⟨row, h.heap i row h1, h2⟩
theorem SubSt.famv {t s : St} (h : SubSt t s) {i : Nat} {r : VRow} (hr : t.hv i = some r) (h0 : r.fam ≠ 0) : ∃ l, t.fams.get r.fam = some l := by
  obtain ⟨row, h1, h2⟩ := hv_some.1 hr
  subst h2
  exact h.has i row h1 h0
theorem SubSt.rdb {t s : St} (h : SubSt t s) {r : VRow} {j : Nat} (hj : Rdb t.fams.get j r.fam) : Rdb s.fams.get j r.fam := by
  rcases hj with hj | ⟨l, h1, h2⟩
  · exact .inl hj
  · exact .inr ⟨l, h.fams _ _ h1, h2⟩
theorem SubSt.sat {t s : St} {w : World} (h : SubSt t s) (hS : SatS sy ρ s w) : SatS sy ρ t w := by
  refine ⟨⟨fun id r hr => ?_, fun i j ri rj pi pj hne hi hj hpi hpj hb => ?_, fun i r hr h0 => h.famv hr h0, fun i r hr h0 l hl => hS.sat.ends i r (h.hv hr) h0 l (h.fams _ _ hl), fun f l hl => hS.sat.pmem f l (h.fams _ _ hl), fun i r hr => hS.sat.exfam i r (h.hv hr), hS.sat.glob⟩,
    fun id row hr => hS.wf id row (h.heap id row hr), by rw [h.floor, h.next]; exact hS.fln, by
      rw [h.floor]
      exact ⟨fun i m hi => hS.maps.rows i m (h.ms i m hi), fun i j mi mj pi pj hij hi hj => hS.maps.sep i j mi mj pi pj hij (h.ms i mi hi) (h.ms j mj hj)⟩⟩
  · obtain ⟨pl, h1, h2, h3, h4⟩ := hS.sat.rows id r (h.hv hr)
    rw [h.floor]
    exact ⟨pl, h1, h2, h3, h4.shape, fun hf hj => h4.free hf (h.rdb hj), h4.plain, fun j c hc hj => h4.cells j c hc (h.rdb hj), h4.typ⟩
  · rw [h.floor]
    rcases hS.sat.sep i j ri rj pi pj hne (h.hv hi) (h.hv hj) hpi hpj hb with q | ⟨q1, q2, q3, q4, q5⟩
    · exact .inl q
    · exact .inr ⟨q1, q2, q3, q4, fun l hl => q5 l (h.fams _ _ hl)⟩
theorem SubSt.owned {t s : St} (h : SubSt t s) {b : Nat} (ho : Owned ρ t b) : Owned ρ s b := by
  rcases ho with ⟨i, r, pl, h1, h2, h3, h4⟩ | ⟨i, r, pl, h1, h2, h3, h4⟩
  · exact .inl ⟨i, r, pl, by rw [← h.floor]; exact h1, h.heap i r h2, h3, h4⟩
  · exact .inr ⟨i, r, pl, by rw [← h.floor]; exact h1, h.ms i r h2, h3, h4⟩
/-- a run of the smaller state, seen from the greater one -/
theorem SubSt.out {t s t' u : St} {w w' : World} {ρ' : Env} (h : SubSt t s) (k : SubSt u t') (ho : Out sy ρ t w ρ' t' w') : Out sy ρ s w ρ' u w' := by
  refine ⟨⟨?_, ?_, fun i hi hr => ?_, fun i hi hr => ?_⟩, ⟨ho.fr.size, ho.fr.os, ho.fr.tape, ho.fr.output, fun b hb hn => ho.fr.old b hb fun q => hn (h.owned q), ho.fr.mono, fun i q h1 h2 => ?_⟩, k.sat ho.sat⟩
  · rw [k.next, ← h.next]; exact ho.ext.next
  · rw [k.floor, ho.ext.floor, h.floor]
  · cases hq : u.heap.get i with
    | none => rfl
    | some r =>
      have h1 := k.heap i r hq
      have h2 : t.heap.get i = none := by
        cases h3 : t.heap.get i with
        | none => rfl
        | some r' => rw [h.heap i r' h3] at hi; simp at hi
      rw [ho.ext.dom i h2 (by rw [h.next, ← k.next]; exact hr)] at h1
      simp at h1
  · cases hq : u.fams.ms.get i with
    | none => rfl
    | some r =>
      have h1 := k.ms i r hq
      have h2 : t.fams.ms.get i = none := by
        cases h3 : t.fams.ms.get i with
        | none => rfl
        | some r' => rw [h.ms i r' h3] at hi; simp at hi
      rw [ho.ext.mdom i h2 (by rw [h.next, ← k.next]; exact hr)] at h1
      simp at h1
  · obtain ⟨g1, g2⟩ := ho.fr.newid i q h1 h2
    rw [h.next, ← k.next] at g1
    exact ⟨g1, g2.imp (fun x => x) h.owned⟩

/-! the smaller state, told by its rows -/
structure Lit where
  rows : List (Nat × Row)
  fams : List (Nat × List (Nat × Nat))
  next : Nat
  maps : List (Nat × MRow)
noncomputable def putAll {α : Type} (l : List (Nat × α)) : T α := List.rec (motive := fun _ => T α) .E (fun x _ ih => ih.set x.1 x.2) l
noncomputable def Lit.st (l : Lit) : St := ⟨putAll l.rows, ⟨putAll l.fams, putAll l.maps, []⟩, l.next, 2048⟩
theorem putAll_get {α : Type} : ∀ {l : List (Nat × α)} {i : Nat} {x : α}, (putAll l).get i = some x → (i, x) ∈ l
  | [], i, x, h => by
    have h' : (T.E : T α).get i = some x := h
    rw [T.get_E] at h'; simp at h'
  | y :: l, i, x, h => by
    have h' : ((putAll l).set y.1 y.2).get i = some x := h
    rw [T.get_set] at h'
    split at h'
    · rename_i e
      simp at h'
      subst e; subst h'
      exact List.mem_cons_self ..
    · exact List.mem_cons_of_mem _ (putAll_get h')

noncomputable def eqC (x y : AV) : Bool := eqF 8 x y
theorem eqC_eq {x y : AV} (h : eqC x y = true) : x = y := eqF_eq 8 x y h
noncomputable def eqLB {α : Type} (f : α → α → Bool) (l : List α) : List α → Bool :=
  List.rec (motive := fun _ => List α → Bool) (fun m => List.rec (motive := fun _ => Bool) true (fun _ _ _ => false) m)
    (fun a _ ih m => List.rec (motive := fun _ => Bool) false (fun b r _ => (f a b).and (ih r)) m) l
theorem eqLB_eq {α : Type} {f : α → α → Bool} (hf : ∀ a b, f a b = true → a = b) : ∀ {l m : List α}, eqLB f l m = true → l = m
  | [], [], _ => rfl
  | [], _ :: _, h => by cases h
  | _ :: _, [], h => by cases h
  | a :: l, b :: m, h => by
    have h' : (f a b).and (eqLB f l m) = true := h
    rw [and_true'] at h'
    rw [hf a b h'.1, eqLB_eq hf h'.2]
/-- an argument, an answer: plain, or of plain parts -/
noncomputable def eqArg (x y : AV) : Bool := eqF 8 x y
theorem eqArg_eq {x y : AV} (h : eqArg x y = true) : x = y := eqF_eq 8 x y h
noncomputable def eqB (a b : Bool) : Bool := bi a b b.not
theorem eqB_eq {a b : Bool} (h : eqB a b = true) : a = b := by cases a <;> cases b <;> first | rfl | cases h
noncomputable def eqRow (a b : Row) : Bool := (Nat.beq a.fam b.fam).and ((eqB a.exact b.exact).and ((Nat.beq a.sz b.sz).and ((Nat.beq a.ty b.ty).and (eqLB (eqLB eqC) a.cs b.cs))))
theorem eqRow_eq {a b : Row} (h : eqRow a b = true) : a = b := by
  unfold eqRow at h
  simp only [and_true'] at h
  obtain ⟨h1, h2, h3, h4, h5⟩ := h
  obtain ⟨f, e, z, c, t⟩ := a
  obtain ⟨f', e', z', c', t'⟩ := b
  obtain rfl := Nat.eq_of_beq_eq_true h1
  obtain rfl := eqB_eq h2
  obtain rfl := Nat.eq_of_beq_eq_true h3
  obtain rfl := Nat.eq_of_beq_eq_true h4
  obtain rfl := eqLB_eq (fun _ _ => eqLB_eq fun _ _ => eqC_eq) h5
  rfl
noncomputable def eqMRow (a b : MRow) : Bool := (Nat.beq a.clock b.clock).and (eqLB (fun x y : AV × AV × Nat => (eqC x.1 y.1).and ((eqArg x.2.1 y.2.1).and (Nat.beq x.2.2 y.2.2))) a.es b.es)
theorem eqMRow_eq {a b : MRow} (h : eqMRow a b = true) : a = b := by
  unfold eqMRow at h
  rw [and_true'] at h
  obtain ⟨h1, h2⟩ := h
  obtain ⟨c, l⟩ := a
  obtain ⟨c', l'⟩ := b
  obtain rfl := Nat.eq_of_beq_eq_true h1
  obtain rfl := eqLB_eq (fun x y hxy => by
    rw [and_true', and_true'] at hxy
    obtain ⟨k1, k2, k3⟩ := hxy
    exact Prod.ext (eqC_eq k1) (Prod.ext (eqArg_eq k2) (Nat.eq_of_beq_eq_true k3))) h2
  rfl
def eqPr (a b : Nat × Nat) : Bool := (Nat.beq a.1 b.1).and (Nat.beq a.2 b.2)
theorem eqPr_eq {a b : Nat × Nat} (h : eqPr a b = true) : a = b := by
  unfold eqPr at h
  rw [and_true'] at h
  exact Prod.ext (Nat.eq_of_beq_eq_true h.1) (Nat.eq_of_beq_eq_true h.2)
noncomputable def isO {α : Type} (f : α → Bool) (x : Option α) : Bool := Option.rec (motive := fun _ => Bool) false f x
theorem isO_some {α : Type} {f : α → Bool} {x : Option α} (h : isO f x = true) : ∃ y, x = some y ∧ f y = true := by
  cases x with
  | none => cases h
  | some y => exact ⟨y, rfl, h⟩
noncomputable def noFam (n : Nat) (b : Bool) : Bool := Nat.rec (motive := fun _ => Bool) true (fun _ _ => b) n
/-- does the state have these rows, these families? -/
noncomputable def subB (l : Lit) (s : St) : Bool :=
  ((Nat.beq l.next s.next).and (Nat.beq s.floor 2048)).and ((allL (fun x : Nat × Row => (isO (eqRow x.2) (s.heap.get x.1)).and (noFam x.2.fam (isO (fun _ => true) ((putAll l.fams).get x.2.fam)))) l.rows).and
    ((allL (fun x : Nat × List (Nat × Nat) => isO (eqLB eqPr x.2) (s.fams.get x.1)) l.fams).and (allL (fun x : Nat × MRow => isO (eqMRow x.2) (s.fams.ms.get x.1)) l.maps)))
theorem subB_sub {l : Lit} {s : St} (h : subB l s = true) : SubSt l.st s := by
  unfold subB at h
  simp only [and_true'] at h
  obtain ⟨⟨h1, h2⟩, h3, h4, h5⟩ := h
  have k5 := allL_mem.1 h5
  have k3 := allL_mem.1 h3
  have k4 := allL_mem.1 h4
  simp only [and_true'] at k3
  refine ⟨fun i r hr => ?_, fun f p hp => ?_, fun i r hr h0 => ?_, Nat.eq_of_beq_eq_true h1, (Nat.eq_of_beq_eq_true h2).symm, fun i m hi => by
    obtain ⟨y, e1, e2⟩ := isO_some (k5 _ (putAll_get hi))
    have e3 : m = y := eqMRow_eq e2
    rw [e3]; exact e1⟩
  · obtain ⟨y, e1, e2⟩ := isO_some (k3 _ (putAll_get hr)).1
    have e3 : r = y := eqRow_eq e2
    rw [e3]; exact e1
  · obtain ⟨y, e1, e2⟩ := isO_some (k4 _ (putAll_get hp))
    have e3 : p = y := eqLB_eq (fun _ _ => eqPr_eq) e2
    rw [e3]; exact e1
  · have := (k3 _ (putAll_get hr)).2
    cases hf : r.fam with
    | zero => exact absurd hf h0
    | succ m =>
      simp only [hf] at this
      obtain ⟨y, e1, -⟩ := isO_some (show isO (fun _ => true) ((putAll l.fams).get (m + 1)) = true from this)
      exact ⟨y, e1⟩

/-- a call that is told: from which arguments and rows, what it answers, with which rows -/
structure Ent where
  args : List AV
  before : Lit
  ans : AV
  after : Lit
noncomputable def hEnt (e : Ent) (args : List AV) (s : St) (k : R) : R :=
  bi (Nat.beq e.before.next s.next) (bi ((eqLB eqArg e.args args).and (subB e.before s)) (some (e.ans, setDs s.fams.ds e.after.st)) none) k
noncomputable def hSub (es : List Ent) : List AV → St → R := fun args s => List.rec (motive := fun _ => R) none (fun e _ ih => hEnt e args s ih) es
/-- its run -/
noncomputable def entRun (P : Program) (ov : OV) (mk : Nat → Nat) (n f : Nat) (e : Ent) : Bool :=
  isO (fun r : AV × St => (eqArg e.ans r.1).and (subB e.after r.2)) (topF P ov mk n f e.args e.before.st)
theorem hSub_some {es : List Ent} {args : List AV} {s : St} {r : AV × St} (h : hSub es args s = some r) : ∃ e ∈ es, e.args = args ∧ SubSt e.before.st s ∧ r = (e.ans, setDs s.fams.ds e.after.st) := by
  induction es with
  | nil => cases h
  | cons e es ih =>
    have h' : hEnt e args s (hSub es args s) = some r := h
    unfold hEnt at h'
    rw [bi_eq] at h'
    split at h'
    · rw [bi_eq] at h'
      split at h'
      · rename_i h1 h2
        rw [and_true'] at h2
        simp at h'
        exact ⟨e, List.mem_cons_self .., eqLB_eq (fun _ _ => eqArg_eq) h2.1, subB_sub h2.2, h'.symm⟩
      · simp at h'
    · obtain ⟨e', h1, h2⟩ := ih h'
      exact ⟨e', List.mem_cons_of_mem _ h1, h2⟩
/-- One more function whose calls are told, each by its own run. -/
theorem hSub_ok {ov ov' : OV} (ho : OvOk sy P ov) (ho' : OvOk sy P ov') {mk : Nat → Nat} {n f : Nat} {es : List Ent} (hE : Enters P f) (hr : ∀ e ∈ es, entRun P ov' mk n f e = true) : OvOk sy P (T.set ov f (hSub es)) := by
  have key : ∀ e ∈ es, ∃ t', topF P ov' mk n f e.args e.before.st = some (e.ans, t') ∧ SubSt e.after.st t' := by
    intro e he
    obtain ⟨⟨v, t'⟩, h1, h2⟩ := isO_some (hr e he)
    rw [and_true'] at h2
    have := eqArg_eq h2.1
    simp only at this
    exact ⟨t', by rw [h1, this], subB_sub h2.2⟩
  refine ho.set (fun ρ args s s' v w vs hS hl hfr hh => ?_) hE fun args s v s' hh => ?_
  · obtain ⟨e, he, rfl, hsub, hres⟩ := hSub_some hh
    obtain ⟨t', h1, h2⟩ := key e he
    simp only [Prod.mk.injEq] at hres
    obtain ⟨rfl, rfl⟩ := hres
    refine (topF_ok ho' h1 (hsub.sat hS) hl (by rw [hsub.next, ← h2.next]; exact hfr)).mono fun x w' ⟨ρ', u, g1, g2, g3⟩ => ⟨ρ', u, g1, (hsub.out h2 g2).setDs_r _, g3⟩
  · obtain ⟨e, he, rfl, hsub, hres⟩ := hSub_some hh
    obtain ⟨t', h1, h2⟩ := key e he
    simp only [Prod.mk.injEq] at hres
    obtain ⟨rfl, rfl⟩ := hres
    refine ⟨?_, rfl⟩
    show s.next ≤ e.after.st.next
    rw [h2.next, ← hsub.next]
    exact (callNF_grows (runF_ok (sy := sy) ho' n).2 _ _ _ _ _ h1).next
end Go.Ex

namespace Go.Ex
variable {sy : Nat → Value} {ρ : Env} {P : Program}
open Go.RowKit

/-! errors.As at a concrete target: told beforehand, where the error is of just that type -/
structure AsOk (P : Program) (fA : FuncId) (g tt tp : Nat) (hv : Value) : Prop where
  hit : ∀ (e t : Addr) (old : Value) (w : World), w.cell? ⟨g, 0, none⟩ = some hv → w.cell? t = some old → w.frozen? t = false →
    Calls P fA #[.iface tt (.pointer (some e)), .iface tp (.pointer (some t))] w fun x w' => x = .returned (.bool true) ∧ ∃ w1, Below w.heap.size w w1 ∧ w' = w1.setCell t (.pointer (some e))
  en : Enters P fA
/-- a type's handle -/
noncomputable def handIs (rt hb hi : Nat) (l : List AV) : Bool := match l with
  | [.ifc t (.agg [.ptr b o])] => (Nat.beq t rt).and ((Nat.beq b hb).and (Nat.beq o hi))
  | _ => false
noncomputable def isExact (x : Option Row) : Bool := isO (fun r => r.exact) x
noncomputable def hAs (g tt tp rt hb hi : Nat) : List AV → St → R := fun args s => match args with
  | [.ifc t x, .ifc u y] => match x, y with
    | .ptr i o, .ptr j q => bi ((Nat.beq t tt).and ((Nat.beq u tp).and ((isO (handIs rt hb hi) (loadC s g 0 1)).and ((isExact (s.heap.get j)).and (isO (fun l => Nat.beq (lenL l) 1) (loadC s j q 1))))))
        (ob (storeC s j q [.ptr i o]) fun s' => some (.bool true, s')) none
    | _, _ => none
  | _ => none
theorem isO_of {α : Type} {f : α → Bool} {x : Option α} (h : isO f x = true) : ∃ y, x = some y ∧ f y = true := isO_some h
theorem handIs_eq {rt hb hi : Nat} {l : List AV} (h : handIs rt hb hi l = true) : l = [.ifc rt (.agg [.ptr hb hi])] := by
  unfold handIs at h
  split at h
  · simp only [and_true'] at h
    rw [Nat.eq_of_beq_eq_true h.1, Nat.eq_of_beq_eq_true h.2.1, Nat.eq_of_beq_eq_true h.2.2]
  · cases h
theorem hAs_inv {g tt tp rt hb hi : Nat} {args : List AV} {s s' : St} {v : AV} (h : hAs g tt tp rt hb hi args s = some (v, s')) :
    ∃ i o j q row l, args = [.ifc tt (.ptr i o), .ifc tp (.ptr j q)] ∧ loadC s g 0 1 = some [.ifc rt (.agg [.ptr hb hi])] ∧ s.heap.get j = some row ∧ row.exact = true ∧ loadC s j q 1 = some l ∧ storeC s j q [.ptr i o] = some s' ∧ v = .bool true := by
  unfold hAs at h
  split at h
  · split at h
    · rename_i t x u y i o j q
      simp only [bi_some, ob_some, and_true'] at h
      obtain ⟨⟨h1, h2, h3, h4, h5⟩, s1, h6, h7⟩ := h
      obtain ⟨l, e1, e2⟩ := isO_of h3
      obtain ⟨row, e3, e4⟩ := isO_of h4
      obtain ⟨l2, e5, -⟩ := isO_of h5
      simp at h7
      rw [handIs_eq e2] at e1
      rw [Nat.eq_of_beq_eq_true h1, Nat.eq_of_beq_eq_true h2]
      exact ⟨i, o, j, q, row, l2, rfl, e1, e3, e4, e5, by rw [← h7.2]; exact h6, h7.1.symm⟩
    · simp at h
  · simp at h
theorem hAs_ok {ov : OV} {fA : FuncId} {g tt tp rt hb hi : Nat} (ho : OvOk sy P ov) (hA : AsOk P fA g tt tp (.iface rt (.agg #[.pointer (some ⟨hb, hi, none⟩)]))) (hg : g < 1024) (hb' : hb < 1024) : OvOk sy P (T.set ov fA (hAs g tt tp rt hb hi)) := by
  refine ho.set (fun ρ args s s' v w vs hS hl hfr hh => ?_) hA.en fun args s v s' hh => ?_
  · obtain ⟨i, o, j, q, row, l, rfl, h1, h2, h3, h4, h5, rfl⟩ := hAs_inv hh
    obtain ⟨u, r1, e1, k1, k2⟩ := hl
    obtain ⟨u2, r2, e2, k3, k4⟩ := k2
    have hr2 : r2 = [] := k4
    subst hr2; subst e2
    have hvs : vs = #[u, u2] := by
      apply Array.ext'
      simpa using e1
    subst hvs
    obtain ⟨x1, m1, m2⟩ := k1
    obtain ⟨x2, m3, m4⟩ := k3
    obtain ⟨pi, p1, p2⟩ := m2
    obtain ⟨pj, p3, p4⟩ := m4
    subst p2; subst p4; subst m1; subst m3
    obtain ⟨pg, vg, q1, q2, q3, q4, q5⟩ := loadC_at hS h1
    obtain ⟨y, r, rfl, q6, q7⟩ := q2
    have hr : r = [] := q7
    subst hr
    have hy : y = .iface rt (.agg #[.pointer (some ⟨hb, hi, none⟩)]) := by
      obtain ⟨y1, rfl, y2, rfl, ⟨y3, y4, y5, ⟨pb, y6, y7⟩, y8⟩, -⟩ := q6
      obtain ⟨pb', z0, z1, z2⟩ := hS.sat.glob hb hb'
      rw [y6] at z0; simp at z0; subst z0
      have h4 : y4 = [] := y8
      subst h4
      rw [z1, z2] at y7
      subst y7
      have : y2 = #[.pointer (some ⟨hb, 0 + hi, none⟩)] := by
        apply Array.ext'
        simpa using y5
      rw [this]
      simp
    obtain ⟨pg', z0, z1, z2⟩ := hS.sat.glob g hg
    rw [q1] at z0; simp at z0; subst z0
    have hc := range_one q5
    obtain ⟨pj', vj, a1, a2, a3, a4, a5⟩ := loadC_at hS h4
    rw [p3] at a1; simp at a1; subst a1
    obtain ⟨old, rfl⟩ : ∃ old, vj = [old] := by
      match vj, a3 with
      | [x], _ => exact ⟨x, rfl⟩
    have ht := range_one a5
    obtain ⟨pl, g1, g2, g3, g4⟩ := hS.sat.rows j row.v (hv_some.2 ⟨row, h2, rfl⟩)
    rw [p3] at g1; simp at g1; subst g1
    have hfz := g4.plain h3 (pj.base + q)
    rw [z1, z2] at hc
    simp only [Nat.add_zero] at hc
    refine (hA.hit _ _ old w (by rw [hc, hy]) ht hfz).mono fun e w' ⟨y1, w1, y2, y3⟩ => ?_
    subst y3
    have hS1 := hS.below y2
    obtain ⟨pl', e1', e2', e3', e4'⟩ := storeC_out (us := [.pointer (some ⟨pi.blk, pi.base + o, none⟩)]) hS1 h5 ⟨_, [], rfl, ⟨pi, p1, rfl⟩, rfl⟩ (by intro u hu; simp at hu; subst hu; trivial)
    rw [p3] at e1'; simp at e1'; subst e1'
    refine ⟨ρ, _, y1, ?_, rfl⟩
    exact (Out.below hS y2).trans e3' (by rw [storeC_next h5]; exact fun a b c => absurd b (by omega))
  · obtain ⟨i, o, j, q, row, l, rfl, h1, h2, h3, h4, h5, rfl⟩ := hAs_inv hh
    exact (storeC_ge h5).2
end Go.Ex

namespace Go.Ex
variable {sy : Nat → Value} {ρ : Env} {P : Program}
open Go.RowKit

/-! the first place of a byte in a text: told beforehand -/
noncomputable def idxF (c n : Nat) : Nat → Nat → Int := Nat.rec (motive := fun _ => Nat → Nat → Int) (fun _ _ => Int.negSucc 0) (fun _ ih b i => bi (Nat.beq (Nat.mod b 256) c) (Int.ofNat i) (ih (Nat.div b 256) (Nat.succ i))) n
noncomputable def hIdx : List AV → St → R := fun args s => match args with
  | [x, y] => match x with
    | .str n b => match y with
      | .int k c => match k with
        | .u8 => match c with
          | .ofNat c => bi (Nat.blt c 256) (some (.int .i64 (idxF c n b 0), s)) none
          | _ => none
        | _ => none
      | _ => none
    | _ => none
  | _ => none
theorem idxF_eq (c : UInt8) : ∀ (l : List UInt8) (i : Nat), idxF c.toNat l.length (pack l) i = if Lib.indexByte l c = -1 then -1 else (i : Int) + Lib.indexByte l c := by
  intro l
  induction l with
  | nil => intro i; rfl
  | cons b l ih =>
    intro i
    have e1 : Nat.mod (pack (b :: l)) 256 = b.toNat := by show pack (b :: l) % 256 = _; rw [pack_cons]; have := b.toNat_lt; omega
    have e2 : Nat.div (pack (b :: l)) 256 = pack l := by show pack (b :: l) / 256 = _; rw [pack_cons]; have := b.toNat_lt; omega
    show bi (Nat.beq (Nat.mod (pack (b :: l)) 256) c.toNat) (Int.ofNat i) (idxF c.toNat l.length (Nat.div (pack (b :: l)) 256) (Nat.succ i)) = _
    rw [e1, e2, ih, bi_eq]
    have hge := Lib.indexByte_ge l c
    have e0 : Lib.indexByte (b :: l) c = if b == c then 0 else if Lib.indexByte l c == -1 then -1 else Lib.indexByte l c + 1 := rfl
    rw [e0]
    generalize Lib.indexByte l c = z at hge
    by_cases hb : b = c
    · subst hb
      have h1 : Nat.beq b.toNat b.toNat = true := by simp
      rw [if_pos h1, if_pos (show (b == b) = true by simp), if_neg (show ¬ (0 : Int) = -1 by decide)]
      simp
    · have h1 : ¬ Nat.beq b.toNat c.toNat = true := fun h => hb (UInt8.toNat_inj.1 (Nat.eq_of_beq_eq_true h))
      have h2 : (b == c) = false := by simpa using hb
      rw [if_neg h1, h2]
      by_cases h3 : z = -1
      · simp [h3]
      · have h4 : (z == -1) = false := by simpa using h3
        have h5 : ¬ z + 1 = -1 := by omega
        simp only [h4, if_false, Bool.false_eq_true]
        rw [if_neg h3, if_neg h5]
        omega
theorem hIdx_ok {ov : OV} (ho : OvOk sy P ov) {f : FuncId} (hC : ∀ (s : ByteArray) (c : Int) (w : World), Calls P f #[.string s, .int .u8 c] w fun e w' => e = .returned (.int .i64 (Lib.indexByte s.data.toList c.toNat.toUInt8)) ∧ w' = w) (hE : Enters P f) : OvOk sy P (T.set ov f hIdx) := by
  have hinv : ∀ args s v s', hIdx args s = some (v, s') → ∃ n b c, args = [.str n b, .int .u8 (.ofNat c)] ∧ c < 256 ∧ v = .int .i64 (idxF c n b 0) ∧ s' = s := by
    intro args s v s' h
    unfold hIdx at h
    split at h <;> try (simp at h; done)
    split at h <;> try (simp at h; done)
    split at h <;> try (simp at h; done)
    split at h <;> try (simp at h; done)
    split at h <;> try (simp at h; done)
    rw [bi_some] at h
    obtain ⟨h1, h2⟩ := h
    simp only [Option.some.injEq, Prod.mk.injEq] at h2
    exact ⟨_, _, _, rfl, by simpa using h1, h2.1.symm, h2.2.symm⟩
  refine ho.set (fun ρ args s s' v w vs hS hl hfr hh => ?_) hE (fun args s v s' hh => ?_)
  · obtain ⟨n, b, c, rfl, h1, rfl, rfl⟩ := hinv _ _ _ _ hh
    obtain ⟨u, q, e1, k1, k2⟩ := hl
    obtain ⟨u2, q2, rfl, k3, k4⟩ := k2
    have hq : q2 = [] := k4
    subst hq
    obtain ⟨t, rfl, k5, k6⟩ := k1
    have k3' : u2 = .int .u8 (c : Int) := k3
    subst k3'
    have hvs : vs = #[.string t, .int .u8 (c : Int)] := by
      apply Array.ext'
      simpa using e1
    rw [hvs]
    have hc : ((c : Int).toNat.toUInt8).toNat = c := by simp; omega
    have hi := idxF_eq ((c : Int).toNat.toUInt8) t.data.toList 0
    rw [hc, k5, k6] at hi
    have hi' : idxF c n b 0 = Lib.indexByte t.data.toList ((c : Int).toNat.toUInt8) := by
      rw [hi]; split
      · rename_i h; rw [h]
      · simp
    refine (hC t c w).mono fun e w' ⟨g1, g2⟩ => ?_
    subst g2
    exact ⟨ρ, _, g1, .refl hS, by rw [hi']; rfl⟩
  · obtain ⟨n, b, c, rfl, h1, rfl, rfl⟩ := hinv _ _ _ _ hh
    exact .refl _
end Go.Ex

namespace Go.Ex
variable {sy : Nat → Value} {ρ : Env} {P : Program}
open Go.RowKit

/-! rows that go on evenly, written shortly -/
noncomputable def genL {α : Type} (f : Nat → List α) (n : Nat) : Nat → List α := Nat.rec (motive := fun _ => Nat → List α) (fun _ => []) (fun _ ih i => app (f i) (ih (Nat.succ i))) n
def la (a d i : Nat) : Nat := Nat.add a (Nat.mul d i)
def ls (a d i : Nat) : Nat := Nat.sub a (Nat.mul d i)

/-! numbers that are open: their rests, their texts -/
/-- gristmillworld.Number, where a rest may be open itself -/
noncomputable def hNum2 (res rsym : Nat → Nat → Option Nat) : List AV → St → R := fun args s => match hNum res args s with
  | some r => some r
  | none => match args with
    | [x, y] => match x with
      | .sym j => match y with
        | .int .i64 m => match m with
          | .ofNat m => bi ((Nat.ble 1 m).and (Nat.ble m 1000000)) (ob (rsym j m) fun j' => some (.sym j', s)) none
          | _ => none
        | _ => none
      | _ => none
    | _ => none
theorem hNum2_ok {fN : FuncId} {xs : Nat → Int} {res rsym : Nat → Nat → Option Nat} (hN : ∀ (x m : Int), 0 < m → m ≤ 1000000 → ∀ w, Calls P fN #[.int .i64 x, .int .i64 m] w fun e w' => e = .returned (.int .i64 (x % m)) ∧ w = w')
    (hE : Enters P fN) (hsy : ∀ j m r, res j m = some r → sy j = .int .i64 (xs j)) (hres : ∀ j m r, res j m = some r → xs j % (m : Int) = (r : Int))
    (hsym : ∀ j m j', rsym j m = some j' → sy j = .int .i64 (xs j) ∧ sy j' = .int .i64 (xs j % (m : Int)) ∧ IntKind.i64.wrap (xs j % (m : Int)) = xs j % (m : Int) ∧ SymOk j' (xs j % (m : Int))) : OvOk sy P (T.set .E fN (hNum2 res rsym)) := by
  have h0 := hNum_ok (sy := sy) hN hE hsy hres
  have hg : (T.set .E fN (hNum res) : OV).get fN = some (hNum res) := by rw [T.get_set]; simp
  have hinv : ∀ args s v s', hNum2 res rsym args s = some (v, s') → hNum res args s = some (v, s') ∨ ∃ j m j', args = [.sym j, .int .i64 (Int.ofNat m)] ∧ 1 ≤ m ∧ m ≤ 1000000 ∧ rsym j m = some j' ∧ v = .sym j' ∧ s' = s := by
    intro args s v s' h
    unfold hNum2 at h
    split at h
    · rename_i r hr; exact .inl (hr.trans h)
    · right
      split at h <;> try (simp at h; done)
      split at h <;> try (simp at h; done)
      split at h <;> try (simp at h; done)
      split at h <;> try (simp at h; done)
      rw [bi_some, and_true', ob_some] at h
      obtain ⟨⟨h1, h2⟩, j', h3, h4⟩ := h
      simp only [Option.some.injEq, Prod.mk.injEq] at h4
      exact ⟨_, _, j', rfl, by simpa using h1, by simpa using h2, h3, h4.1.symm, h4.2.symm⟩
  have hget : ∀ f h, (T.set .E fN (hNum2 res rsym) : OV).get f = some h → f = fN ∧ h = hNum2 res rsym := by
    intro f h e
    rw [T.get_set] at e
    split at e
    · rename_i ef; simp at e; exact ⟨ef, e.symm⟩
    · rw [T.get_E] at e; simp at e
  refine ⟨fun f h e ρ args s s' v w vs hS hl hfr hh => ?_, fun f h e => by rw [(hget f h e).1]; exact hE, fun f h e args s v s' hh => ?_⟩
  · obtain ⟨rfl, rfl⟩ := hget f h e
    rcases hinv _ _ _ _ hh with hh | ⟨j, m, j', rfl, h1, h2, h3, rfl, rfl⟩
    · exact h0.ok f _ hg ρ args s s' v w vs hS hl hfr hh
    · obtain ⟨u, q, e1, k1, k2⟩ := hl
      obtain ⟨u2, q2, e2, k3, k4⟩ := k2
      have hq2 : q2 = [] := k4
      have hu2 : u2 = .int .i64 (m : Int) := k3
      subst hq2; subst hu2; subst e2
      obtain ⟨g1, g2, g3, g4⟩ := hsym j m j' h3
      have hu : u = .int .i64 (xs j) := k1.1.trans g1
      have hvs : vs = #[.int .i64 (xs j), .int .i64 (m : Int)] := by
        apply Array.ext'
        simpa [hu] using e1
      rw [hvs]
      refine (hN (xs j) m (by omega) (by omega) w).mono fun e w' ⟨a1, a2⟩ => ?_
      subst a2
      exact ⟨ρ, _, a1, .refl hS, g2.symm, _, rfl, g3, g4⟩
  · obtain ⟨rfl, rfl⟩ := hget f h e
    rcases hinv _ _ _ _ hh with hh | ⟨j, m, j', rfl, h1, h2, h3, rfl, rfl⟩
    · exact h0.grows f _ hg _ _ _ _ hh
    · exact .refl _

/-- how a number is written: how many signs, and these -/
noncomputable def decP (f : Nat) : Nat → Nat × Nat := Nat.rec (motive := fun _ => Nat → Nat × Nat) (fun u => (1, Nat.add 48 u))
  (fun _ ih u => bi (Nat.blt u 10) (1, Nat.add 48 u) (Prod.rec (motive := fun _ => Nat × Nat) (fun l p => (Nat.succ l, Nat.add p (Nat.mul (Nat.add 48 (Nat.mod u 10)) (Nat.pow 256 l)))) (ih (Nat.div u 10)))) f
theorem pack_snoc : ∀ (l : List UInt8) (b : UInt8), pack (l ++ [b]) = pack l + b.toNat * 256 ^ l.length
  | [], b => by show b.toNat + 256 * 0 = 0 + b.toNat * 1; omega
  | a :: l, b => by
    show a.toNat + 256 * pack (l ++ [b]) = (a.toNat + 256 * pack l) + b.toNat * 256 ^ (l.length + 1)
    rw [pack_snoc l b, Nat.pow_succ, Nat.mul_add]
    have : b.toNat * (256 ^ l.length * 256) = 256 * (b.toNat * 256 ^ l.length) := by rw [Nat.mul_comm (256 ^ l.length) 256, ← Nat.mul_assoc, ← Nat.mul_assoc, Nat.mul_comm b.toNat 256]
    omega
theorem decP_eq : ∀ (f u : Nat), u < 10 ^ (f + 1) → decP f u = ((Lib.decDigits u).length, pack (Lib.decDigits u))
  | 0, u, h => by
    have h' : u < 10 := by simpa using h
    rw [Lib.decDigits_one h']
    show (1, 48 + u) = (1, (UInt8.ofNat (48 + u)).toNat + 256 * 0)
    have : (UInt8.ofNat (48 + u)).toNat = 48 + u := by simp; omega
    rw [this]
    rfl
  | f + 1, u, h => by
    have e : decP (f + 1) u = bi (Nat.blt u 10) (1, Nat.add 48 u) (Prod.rec (motive := fun _ => Nat × Nat) (fun l p => (Nat.succ l, Nat.add p (Nat.mul (Nat.add 48 (Nat.mod u 10)) (Nat.pow 256 l)))) (decP f (u / 10))) := rfl
    rw [e, bi_eq]
    split
    · rename_i h1
      have h' : u < 10 := by simpa using h1
      rw [Lib.decDigits_one h']
      show (1, 48 + u) = (1, (UInt8.ofNat (48 + u)).toNat + 256 * 0)
      have : (UInt8.ofNat (48 + u)).toNat = 48 + u := by simp; omega
      rw [this]
      rfl
    · rename_i h1
      have h' : ¬ u < 10 := by simpa using h1
      rw [decP_eq f (u / 10) (by rw [Nat.div_lt_iff_lt_mul (by omega), ← Nat.pow_succ]; exact h)]
      have hd : Lib.decDigits u = Lib.decDigits (u / 10) ++ [UInt8.ofNat (48 + u % 10)] := by
        rw [Lib.decDigits, dif_neg h']
      rw [hd, pack_snoc, List.length_append]
      have : (UInt8.ofNat (48 + u % 10)).toNat = 48 + u % 10 := by simp; omega
      rw [this]
      rfl
noncomputable def intP (n : Int) : Option (Nat × Nat) := match n with
  | .ofNat u => bi (Nat.blt u 1000000000000000000) (some (decP 18 u)) none
  | .negSucc u => bi (Nat.blt (Nat.succ u) 1000000000000000000) (Prod.rec (motive := fun _ => Option (Nat × Nat)) (fun l p => some (Nat.succ l, Nat.add 45 (Nat.mul 256 p))) (decP 18 (Nat.succ u))) none
theorem intP_eq {n : Int} {q : Nat × Nat} (h : intP n = some q) : (Lib.itoa n).length = q.1 ∧ pack (Lib.itoa n) = q.2 ∧ -9223372036854775808 ≤ n ∧ n ≤ 9223372036854775807 := by
  cases n with
  | ofNat u =>
    have h' : bi (Nat.blt u 1000000000000000000) (some (decP 18 u)) none = some q := h
    rw [bi_some] at h'
    obtain ⟨h1, h2⟩ := h'
    have h1' : u < 1000000000000000000 := by simpa using h1
    rw [decP_eq 18 u (by omega)] at h2
    simp only [Option.some.injEq] at h2
    subst h2
    have e : Lib.itoa (Int.ofNat u) = Lib.decDigits u := by
      unfold Lib.itoa
      rw [if_neg (by simp)]
      rfl
    rw [e]
    exact ⟨rfl, rfl, by show (-9223372036854775808 : Int) ≤ (u : Int); omega, by show (u : Int) ≤ 9223372036854775807; omega⟩
  | negSucc u =>
    have h' : bi (Nat.blt (Nat.succ u) 1000000000000000000) (Prod.rec (motive := fun _ => Option (Nat × Nat)) (fun l p => some (Nat.succ l, Nat.add 45 (Nat.mul 256 p))) (decP 18 (Nat.succ u))) none = some q := h
    rw [bi_some] at h'
    obtain ⟨h1, h2⟩ := h'
    have h1' : u + 1 < 1000000000000000000 := by simpa using h1
    rw [decP_eq 18 (Nat.succ u) (by show u + 1 < _; omega)] at h2
    simp only [Option.some.injEq] at h2
    subst h2
    have e : Lib.itoa (Int.negSucc u) = 45 :: Lib.decDigits (u + 1) := by
      unfold Lib.itoa
      rw [if_pos (Int.negSucc_lt_zero u)]
      rfl
    rw [e]
    exact ⟨rfl, rfl, by omega, by omega⟩
/-- strconv.FormatInt at base 10: of an open number a text that is as long as is known -/
noncomputable def fmtV (x : AV) : Option AV := match x with
  | .sym j => bi (Nat.ble 1000 j) (some (.anys (symLen j))) none
  | .int k n => match k with
    | .i64 => ob (intP n) fun q => some (.str q.1 q.2)
    | _ => none
  | _ => none
noncomputable def hFmt (g : Nat) (tab : List Int) : List AV → St → R := fun args s => match args with
  | [x, y] => match y with
    | .int k c => match k with
      | .i64 => bi (ibeq c 10) (ob (fmtV x) fun v => ob (s.heap.get g) fun row => bi ((Nat.beq row.ty 1099511627776).and ((Nat.beq row.sz (lenL tab)).and (Nat.blt g 1024)))
          (ob (loadC s g 0 (lenL tab)) fun l => bi (eqL l (mapL (fun z => AV.int .u64 z) tab)) (some (v, s)) none) none) none
      | _ => none
    | _ => none
  | _ => none
theorem i64_bounds {n : Int} (h : IntKind.i64.wrap n = n) : -9223372036854775808 ≤ n ∧ n ≤ 9223372036854775807 := by
  have e3 : IntKind.i64.wrap n = if n % 18446744073709551616 ≥ 9223372036854775808 then n % 18446744073709551616 - 18446744073709551616 else n % 18446744073709551616 := by
    unfold IntKind.wrap
    simp [IntKind.bits, IntKind.signed]
  rw [e3] at h
  split at h <;> omega
theorem ints_of_VL : ∀ {tab : List Int} {vs : List Value}, VL sy ρ (tab.map fun z => AV.int .u64 z) vs → vs = tab.map fun z => Value.int .u64 z
  | [], vs, h => h
  | z :: tab, vs, h => by
    obtain ⟨v, r, rfl, h1, h2⟩ := h
    have h1' : v = .int .u64 z := h1
    rw [h1', ints_of_VL h2]
    rfl
theorem whole_at {s : St} {w : World} {g : Nat} {row : Row} {tab : List Int} (hS : SatS sy ρ s w) (hr : s.heap.get g = some row) (hty : row.ty = 1099511627776) (hsz : row.sz = tab.length) (hg : g < 1024)
    (hl : loadC s g 0 tab.length = some (tab.map fun z => AV.int .u64 z)) : ∃ u k, w.heap[g]? = some (.cells (tab.map fun z => Value.int .u64 z).toArray u k) := by
  obtain ⟨pl, g1, g2, g3, g4⟩ := hS.sat.rows g row.v (hv_some.2 ⟨row, hr, rfl⟩)
  obtain ⟨pl', q1, q2, q3⟩ := hS.sat.glob g hg
  rw [g1] at q1
  simp at q1; subst q1
  obtain ⟨el, hsh⟩ := g4.shape
  obtain ⟨pl', vs, e1, k1, k2, k3, k4⟩ := loadC_at hS hl
  rw [g1] at e1
  simp at e1; subst e1
  rw [q2] at hsh k4
  have hsize : pl.size = tab.length := by
    rcases g4.typ (el, pl.size) (by rw [q2]; exact hsh) with q | ⟨q, -⟩ | ⟨-, -, q⟩
    · have q' : row.ty = 0 := q
      rw [hty] at q'
      exact absurd q' (by decide)
    · have q' : row.ty = el + 1 := q.1
      have q2' : el < 1000000 := q.2
      rw [hty] at q'
      have q3 : (el : Nat) = 1099511627775 := (Nat.succ.inj (show Nat.succ 1099511627775 = Nat.succ el from q')).symm
      rw [q3] at q2'
      exact absurd q2' (by decide)
    · exact q.trans hsz
  have hvs := ints_of_VL k1
  unfold World.shape? at hsh
  split at hsh
  · rename_i c e f hb
    simp at hsh
    refine ⟨e, f, ?_⟩
    rw [hb]
    congr 2
    apply Array.ext'
    apply List.ext_getElem?
    intro i
    by_cases hi : i < tab.length
    · have hv : ∃ v, vs[i]? = some v := ⟨vs[i], List.getElem?_eq_getElem (by omega)⟩
      obtain ⟨v, hv⟩ := hv
      have := k4 i v hv
      rw [q3] at this
      simp only [World.cell?, hb] at this
      rw [← hvs, hv]
      simpa [Addr.add, Addr.spot] using this
    · rw [List.getElem?_eq_none (by simp; omega), List.getElem?_eq_none (by simp; omega)]
  · simp at hsh
theorem hFmt_ok {ov : OV} (ho : OvOk sy P ov) {f : FuncId} {g : Nat} {tab : List Int}
    (hC : ∀ (n : Int) (w : World), -9223372036854775808 ≤ n → n ≤ 9223372036854775807 → (∃ u k, w.heap[g]? = some (.cells (tab.map fun z => Value.int .u64 z).toArray u k)) → Calls P f #[.int .i64 n, .int .i64 10] w fun e w' => e = .returned (.string ⟨(Lib.itoa n).toArray⟩) ∧ Below w.heap.size w w') (hE : Enters P f) : OvOk sy P (T.set ov f (hFmt g tab)) := by
  have hinv : ∀ args s v s', hFmt g tab args s = some (v, s') → ∃ x row, args = [x, .int .i64 10] ∧ fmtV x = some v ∧ s.heap.get g = some row ∧ row.ty = 1099511627776 ∧ row.sz = tab.length ∧ g < 1024 ∧ loadC s g 0 tab.length = some (tab.map fun z => AV.int .u64 z) ∧ s' = s := by
    intro args s v s' h
    unfold hFmt at h
    split at h <;> try (simp at h; done)
    split at h <;> try (simp at h; done)
    split at h <;> try (simp at h; done)
    rename_i c _
    simp only [bi_some, ob_some, and_true'] at h
    obtain ⟨h2, v', h1, row, h3, ⟨h4, h5, h6⟩, l, h7, h8, h9⟩ := h
    rw [ibeq_eq] at h2
    have hc := of_decide_eq_true h2
    subst hc
    rw [lenL_eq] at h5 h7
    have e := eqL_eq h8
    rw [mapL_eq] at e
    subst e
    simp only [Option.some.injEq, Prod.mk.injEq] at h9
    obtain ⟨rfl, rfl⟩ := h9
    exact ⟨_, row, rfl, h1, h3, by simpa using h4, by simpa using h5, by simpa using h6, h7, rfl⟩
  refine ho.set (fun ρ args s s' v w vs hS hl hfr hh => ?_) hE (fun args s v s' hh => ?_)
  · obtain ⟨x, row, rfl, h1, h2, h3, h4, h5, h6, rfl⟩ := hinv _ _ _ _ hh
    obtain ⟨u, q, e1, k1, k2⟩ := hl
    obtain ⟨u2, q2, e2, k3, k4⟩ := k2
    have hq2 : q2 = [] := k4
    have hu2 : u2 = .int .i64 10 := k3
    subst hq2; subst hu2; subst e2
    have key : ∀ (n : Int), u = .int .i64 n → -9223372036854775808 ≤ n → n ≤ 9223372036854775807 → V sy ρ v (.string ⟨(Lib.itoa n).toArray⟩) → Calls P f vs w fun e w' => ∃ ρ' u, e = .returned u ∧ Out sy ρ s' w ρ' s' w' ∧ V sy ρ' v u := by
      intro n hu b1 b2 hv
      subst hu
      have hvs : vs = #[.int .i64 n, .int .i64 10] := by
        apply Array.ext'
        simpa using e1
      rw [hvs]
      refine (hC n w b1 b2 (whole_at hS h2 h3 h4 h5 h6)).mono fun e w' ⟨a1, a2⟩ => ?_
      exact ⟨ρ, _, a1, .below hS a2, hv⟩
    unfold fmtV at h1
    split at h1
    · rename_i j
      rw [bi_some] at h1
      obtain ⟨h1, h1'⟩ := h1
      simp only [Option.some.injEq] at h1'
      subst h1'
      obtain ⟨-, n, hu, g1, -, g2⟩ := k1
      obtain ⟨-, -, g3, -⟩ := g2 (by simpa using h1)
      obtain ⟨b1, b2⟩ := i64_bounds g1
      exact key n hu b1 b2 ⟨_, rfl, by simpa using g3⟩
    · rename_i kk n
      split at h1
      · simp only [ob_some, Option.some.injEq] at h1
        obtain ⟨q, hq, rfl⟩ := h1
        obtain ⟨p1, p2, p3, p4⟩ := intP_eq hq
        exact key n k1 p3 p4 ⟨_, rfl, by simpa using p1, by simpa using p2⟩
      · simp at h1
    · simp at h1
  · obtain ⟨x, row, rfl, h1, h2, h3, h4, h5, h6, rfl⟩ := hinv _ _ _ _ hh
    exact .refl _
/-- the table that FormatInt reads -/
def fmtTab : List Int := [Int.ofNat 1, Int.ofNat 10, Int.ofNat 100, Int.ofNat 1000, Int.ofNat 10000, Int.ofNat 100000, Int.ofNat 1000000, Int.ofNat 10000000, Int.ofNat 100000000, Int.ofNat 1000000000, Int.ofNat 10000000000, Int.ofNat 100000000000, Int.ofNat 1000000000000, Int.ofNat 10000000000000, Int.ofNat 100000000000000, Int.ofNat 1000000000000000, Int.ofNat 10000000000000000, Int.ofNat 100000000000000000, Int.ofNat 1000000000000000000, Int.ofNat 10000000000000000000]
theorem fmtTab_eq : Lib.pow10Tab = fmtTab := by decide +kernel
theorem rests_mem : ∀ {l : List (Nat × Nat × Nat)} {j m r : Nat}, rests l j m = some r → (j, m, r) ∈ l
  | [], j, m, r, h => by
    have h' : (none : Option Nat) = some r := h
    simp at h'
  | x :: l, j, m, r, h => by
    have h' : bi ((Nat.beq x.1 j).and (Nat.beq x.2.1 m)) (some x.2.2) (rests l j m) = some r := h
    rw [bi_eq] at h'
    split at h'
    · rename_i hb
      rw [and_true'] at hb
      have e1 : x.1 = j := Nat.eq_of_beq_eq_true hb.1
      have e2 : x.2.1 = m := Nat.eq_of_beq_eq_true hb.2
      simp at h'
      rw [← e1, ← e2, ← h']
      exact List.mem_cons_self ..
    · exact List.mem_cons_of_mem _ (rests_mem h')
/-- what stands for open numbers: below 1000 the arguments, from there on what is known of them -/
def symX (a b : Nat → Int) (j : Nat) : Int := if 1000 ≤ j then b ((j - 1000) % 8) else a j
theorem symX_at {a b : Nat → Int} {i j : Nat} (h1 : 1000 ≤ j) (h2 : (j - 1000) % 8 = i) : symX a b j = b i := by
  unfold symX; rw [if_pos h1, h2]
/-- digits, of a small number: 0 of 0 -/
def clsR (n : Int) : Nat := if n = 0 then 0 else if n < 10 then 1 else if n < 100 then 2 else 3
def clsLo (r : Nat) : Int := if r = 0 then 0 else if r = 1 then 1 else if r = 2 then 10 else 100
def clsHi (M : Int) (r : Nat) : Int := if r = 0 then 0 else if r = 1 then (if M ≤ 10 then M - 1 else 9) else if r = 2 then (if M ≤ 100 then M - 1 else 99) else M - 1
/-- how long the text of class r is -/
def clsLen (r : Nat) : Nat := if r = 0 then 1 else r
theorem nDig {u : Nat} (h : u < 1000) : (Lib.decDigits u).length = if u < 10 then 1 else if u < 100 then 2 else 3 := by
  rw [Lib.decDigits]
  split
  · rfl
  · rename_i h1
    rw [List.length_append]
    by_cases h2 : u < 100
    · rw [if_pos h2, Lib.decDigits_one (by omega)]; rfl
    · rw [if_neg h2, Lib.decDigits_two (by omega) (by omega)]; rfl
theorem cls_ok {n M : Int} (h0 : 0 ≤ n) (h1 : n < M) (h2 : M ≤ 1000) : clsLo (clsR n) ≤ n ∧ n ≤ clsHi M (clsR n) ∧ (Lib.itoa n).length = clsLen (clsR n) := by
  have hl : (Lib.itoa n).length = if n.toNat < 10 then 1 else if n.toNat < 100 then 2 else 3 := by
    unfold Lib.itoa
    rw [if_neg (by omega), nDig (by omega)]
  rw [hl]
  unfold clsR clsLo clsHi clsLen
  by_cases h5 : n = 0
  · subst h5; exact ⟨by decide, by simp, by decide⟩
  · by_cases h3 : n < 10
    · simp only [if_neg h5, if_pos h3, if_pos (show n.toNat < 10 by omega)]
      refine ⟨by simp; omega, ?_, by simp⟩
      simp
      split <;> omega
    · by_cases h4 : n < 100
      · simp only [if_neg h5, if_neg h3, if_pos h4, if_neg (show ¬ n.toNat < 10 by omega), if_pos (show n.toNat < 100 by omega)]
        refine ⟨by simp; omega, ?_, by simp⟩
        simp
        split <;> omega
      · simp only [if_neg h5, if_neg h3, if_neg h4, if_neg (show ¬ n.toNat < 10 by omega), if_neg (show ¬ n.toNat < 100 by omega)]
        refine ⟨by simp; omega, ?_, by simp⟩
        simp; omega
theorem clsR_nz {n : Int} (h : clsR n ≠ 0) : n ≠ 0 := by
  rintro rfl
  exact h rfl
/-- how many runs an int wants whose text is asked for: 0, and each length of its text -/
def digR (n : Int) : Nat := if n = 0 then 0 else (Lib.itoa n).length
def digLo (r : Nat) : Int := if r = 0 then 0 else -9223372036854775808
def digHi (r : Nat) : Int := if r = 0 then 0 else 9223372036854775807
theorem dig_ok {n : Int} (h : IntKind.i64.wrap n = n) : digLo (digR n) ≤ n ∧ n ≤ digHi (digR n) ∧ (Lib.itoa n).length = clsLen (digR n) ∧ digR n < 22 := by
  obtain ⟨h0, h1⟩ := i64_bounds h
  have h2 := Lib.itoa_length_le n h0 h1
  have h3 : 1 ≤ (Lib.itoa n).length := by
    have hd : ∀ u, 1 ≤ (Lib.decDigits u).length := by
      intro u
      rw [Lib.decDigits]
      split
      · exact Nat.le_refl _
      · rw [List.length_append]; exact Nat.le_add_left _ _
    unfold Lib.itoa
    split
    · rw [List.length_cons]; omega
    · exact hd _
  unfold digLo digHi clsLen digR
  by_cases h5 : n = 0
  · subst h5
    have := nDig (u := 0) (by omega)
    refine ⟨by decide, by decide, ?_, by decide⟩
    unfold Lib.itoa
    simpa using this
  · simp only [if_neg h5]
    rw [if_neg (by omega), if_neg (by omega), if_neg (by omega)]
    exact ⟨h0, h1, rfl, by omega⟩
theorem digR_nz {n : Int} (h : digR n ≠ 0) : n ≠ 0 := by
  rintro rfl
  exact h rfl
end Go.Ex
