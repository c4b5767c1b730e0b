/- Tags, as plain data. No conditions. -/
import Derived.Test.YtoidogfnjpmceaaDoorGrew
namespace Go.Proofs.YtoidogfnjpmceaaDoor
open Go.RowKit

structure Tg where
  k : Int
  s : ByteArray
  n : Int
instance : Inhabited Tg := ⟨⟨0, ⟨#[]⟩, 0⟩⟩
def encT (x : Tg) : List Value := [.int .i64 x.k, .string x.s, .int .i64 x.n]
end Go.Proofs.YtoidogfnjpmceaaDoor
