/-
  Package chart: what is made of rules, in memory: names, kinds, parents, transitions in blocks of their own.
-/
import Derived.Test.YtkalfhhdljndfaaOwnI
import Derived.Deep.AppendLies
namespace Go.Proofs.Ytkalfhhdljndfaa
set_option maxRecDepth 100000
open Go.ChangeShapes Go.WideShapes Go.ChangeAt Go.RowKit

def tcell (t : Tr) : List Value := [.int .i64 t.kind, .int .i64 t.from_, .int .i64 t.to_, .string (bs t.event), .string (bs t.perm), .string (bs t.task), .int .i64 t.time]
end Go.Proofs.Ytkalfhhdljndfaa
