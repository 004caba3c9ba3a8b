/-
  What a change reads and writes, as the document says it: plain functions of what fresh pages hold, and of the disk.
-/
import Derived.Test.YtnngfkjbbedkpaaGreatDoorAl
namespace Go.Proofs.YtnngfkjbbedkpaaGreatDoor
open Go.RowKit
set_option linter.unusedVariables false

def corr (r : (ByteArray × Int) × Dk) : (ByteArray × Int) × Dk := ((r.1.1, if r.1.2 = 40 then 3 else r.1.2), r.2)
def TX.get (x : TX) (d : Dk) (id : Int) (kind : UInt8) : (ByteArray × Int) × Dk :=
  match x.fresh id with
  | some c => if c.there = true ∧ c.kind = kind then ((c.body, 0), d) else ((ByteArray.empty, 3), d)
  | none => if (x.pages : Int) ≤ id ∨ hasB x.free id = true then ((ByteArray.empty, 3), d) else corr (d.rd id kind)
/-- One page of Flush. -/
def flush1 (g : Fr) (d : Dk) (id : Int) : Int × Dk :=
  match g id with
  | some c => if c.there = true then d.wr id c.kind c.body else (0, d)
  | none => (0, d)
def flushL (g : Fr) : List Int → Dk → Int × Dk
  | [], d => d.sync
  | id :: L, d => if (flush1 g d id).1 = 0 then flushL g L (flush1 g d id).2 else flush1 g d id


end Go.Proofs.YtnngfkjbbedkpaaGreatDoor
