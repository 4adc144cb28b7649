/- Messages, items and queues as lists; what the calls of package queue answer of them. -/
import Derived.Test.YtlbcefocmdnlgaaGreatDoorPf
import Derived.Test.YtlbcefocmdnlgaaGreatDoorMb
namespace Go.Proofs.YtlbcefocmdnlgaaGreatDoor
open Go.RowKit Go.Lib

structure Msg where
  topic : List UInt8
  body : List UInt8
  props : List Pr
  dur : Bool
  til : Int
structure Itm where
  seq : Int
  again : Bool
  msg : Msg
structure Hld where
  tag : Int
  conn : Int
  sub : Int
  itm : Itm
structure Que where
  name : List UInt8
  dur : Bool
  depth : Int
  seq : Int
  tag : Int
  items : List Itm
  held : List Hld

def numB (n : Int) : Bool := decide (0 ≤ n) && decide (n ≤ 1099511627776)
def depB (n : Int) : Bool := decide (1 ≤ n) && decide (n ≤ 64)
def conB (n : Int) : Bool := decide (0 ≤ n) && decide (n < 8)
def givB (n last : Int) : Bool := decide (1 ≤ n) && decide (n ≤ last)
def msgB (m : Msg) : Bool := good m.topic && decide (m.body.length ≤ 1024) && validL m.props && numB m.til
def itmB (s : Int) (x : Itm) : Bool := givB x.seq s && msgB x.msg
/-- What waits: the numbers rise. -/
def itmsB (s : Int) : Int → List Itm → Bool
  | _, [] => true
  | a, x :: l => decide (a < x.seq) && itmB s x && itmsB s x.seq l
def hldB (s t : Int) (h : Hld) : Bool := givB h.tag t && conB h.conn && numB h.sub && itmB s h.itm
def hldsB (s t : Int) : Int → List Hld → Bool
  | _, [] => true
  | a, h :: l => decide (a < h.tag) && hldB s t h && hldsB s t h.tag l
/-- All numbers of a queue's items. -/
def seqs (q : Que) : List Int := q.items.map (·.seq) ++ q.held.map (·.itm.seq)
def lenQ (q : Que) : Nat := q.items.length + q.held.length
def goodQ (q : Que) : Bool := nameL q.name && depB q.depth && numB q.seq && numB q.tag && decide ((lenQ q : Int) ≤ q.depth) && itmsB q.seq 0 q.items && hldsB q.seq q.tag 0 q.held && decide (seqs q).Nodup
def zeroQ : Que := ⟨[], false, 0, 0, 0, [], []⟩
def zeroM : Msg := ⟨[], [], [], false, 0⟩
def zeroI : Itm := ⟨0, false, zeroM⟩

def pushC (q : Que) (m : Msg) : Int := if !goodQ q || decide (q.seq = 1099511627776) then 1 else if !msgB m then 36 else if (lenQ q : Int) = q.depth then 35 else 0
def pushQ (q : Que) (m : Msg) : Que := { q with seq := q.seq + 1, items := q.items ++ [⟨q.seq + 1, false, m⟩] }
def takeC (q : Que) (conn sub : Int) : Int := if !goodQ q || (!conB conn || (!numB sub || decide (q.tag = 1099511627776))) then 1 else if q.items.length = 0 then 33 else 0
def takeQ (q : Que) (conn sub : Int) (hold : Bool) : Que :=
  if hold then { q with tag := q.tag + 1, items := q.items.drop 1, held := q.held ++ [⟨q.tag + 1, conn, sub, q.items.headD zeroI⟩] } else { q with items := q.items.drop 1 }
def isH (conn tag : Int) (h : Hld) : Bool := decide (h.conn = conn) && decide (h.tag = tag)
def putB (l : List Itm) (x : Itm) : List Itm := l.takeWhile (fun y => decide (y.seq < x.seq)) ++ { x with again := true } :: l.dropWhile (fun y => decide (y.seq < x.seq))
def zeroH : Hld := ⟨0, 0, 0, zeroI⟩
def settleC (q : Que) (conn tag : Int) : Int := if !goodQ q then 1 else if q.held.findIdx (isH conn tag) < q.held.length then 0 else 33
def settleQ (q : Que) (conn tag : Int) (again : Bool) : Que :=
  { q with held := q.held.eraseIdx (q.held.findIdx (isH conn tag)), items := if again then putB q.items (q.held.getD (q.held.findIdx (isH conn tag)) zeroH).itm else q.items }
def isR (conn sub : Int) (h : Hld) : Bool := decide (h.conn = conn) && (decide (h.sub = sub) || decide (sub = -1))
def backs (l : List Itm) (hs : List Hld) : List Itm := hs.foldl (fun a h => putB a h.itm) l
def releaseQ (q : Que) (conn sub : Int) : Que := { q with items := backs q.items (q.held.filter (isR conn sub)), held := q.held.filter (fun h => !isR conn sub h) }
def oldB (now : Int) (x : Itm) : Bool := decide (0 < x.msg.til) && decide (x.msg.til ≤ now)
def expireQ (q : Que) (now : Int) : Que := { q with items := q.items.filter (fun x => !oldB now x) }
def holdsQ (q : Que) (conn sub : Int) : Nat := q.held.countP (fun h => decide (h.conn = conn) && decide (h.sub = sub))
end Go.Proofs.YtlbcefocmdnlgaaGreatDoor
