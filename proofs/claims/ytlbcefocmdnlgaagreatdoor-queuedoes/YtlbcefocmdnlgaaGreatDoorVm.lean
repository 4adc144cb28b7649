/- QueueDoes, of what came in. -/
import Derived.Test.YtlbcefocmdnlgaaGreatDoorVl
import Derived.Test.YtlbcefocmdnlgaaGreatDoorLc
namespace Go.Proofs.YtlbcefocmdnlgaaGreatDoor
open Go.RowKit Go.Lib

theorem InM.fits {m : Msg} (h : InM m) : FitM m := ⟨fun p hp => ⟨(h.1 p hp).1, (h.1 p hp).2.2.2.2⟩, by have := h.2; omega⟩
theorem does_in (W : World) (hva : To.Vars W) (v : Value) (q : Que) (hx : RdQ W v q) (bx : lenQ q ≤ 9223372036854775806) (nx : q.name.length ≤ maxLen) (ix : ∀ y ∈ q.items, InM y.msg) (jx : ∀ y ∈ q.held, InM y.itm.msg)
    (o : Opn) (ov : Value) (hp : RdP W ov o.m.props) (im : InM o.m) :
    Calls Tryz.prog 4 #[v, .agg (opV o ov).toArray] W fun e w' => e = .returned (.bool true) ∧ Below W.heap.size W w' :=
  does_law W hva v q hx ⟨nx, fun y hy => (ix y hy).fits, fun y hy => (jx y hy).fits⟩ (fun y hy => (ix y hy).2) (fun y hy => (jx y hy).2) bx o ov hp im.fits
end Go.Proofs.YtlbcefocmdnlgaaGreatDoor
