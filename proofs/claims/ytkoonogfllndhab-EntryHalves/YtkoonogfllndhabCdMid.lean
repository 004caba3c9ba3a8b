/-
  Nothing of its own: what package codec writes.
-/
import Derived.Test.YtkoonogfllndhabCdSmall
import Derived.Test.YtkoonogfllndhabCdNums
namespace Go.Proofs.Ytkoonogfllndhab
open Go.RowKit

end Go.Proofs.Ytkoonogfllndhab
