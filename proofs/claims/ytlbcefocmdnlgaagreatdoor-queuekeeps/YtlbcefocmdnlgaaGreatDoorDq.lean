/- A call of the law's, as values. -/
import Derived.Test.YtlbcefocmdnlgaaGreatDoorNw
namespace Go.Proofs.YtlbcefocmdnlgaaGreatDoor
open Go.RowKit Go.Lib
structure Opn where
  kind : Int
  conn : Int
  n : Int
  flag : Bool
  m : Msg
def opV (o : Opn) (pv : Value) : List Value := [.int .i64 o.kind, .int .i64 o.conn, .int .i64 o.n, .bool o.flag, tx o.m.topic, tx o.m.body, pv, .bool o.m.dur, .int .i64 o.m.til]
end Go.Proofs.YtlbcefocmdnlgaaGreatDoor
