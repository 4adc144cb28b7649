/- append of an item, of a held one, in a region that draws its order. Conditions: those that each row states. -/
import Derived.Test.YtlbcefocmdnlgaaGreatDoorCp
import Derived.Test.YtlbcefocmdnlgaaGreatDoorWz
namespace Go.Proofs.YtlbcefocmdnlgaaGreatDoor
open Go.RowKit Go.Lib
set_option maxRecDepth 100000

/-- append of one element that lies in a block made just before; what is the call's own stays so. -/
theorem appI_one {w W : World} {v : Value} {zs : Zs Itm} (ho' : OwnZ 43 7 (ItR (OwnP W w.heap.size)) W w.heap.size v zs) (hb' : Below w.heap.size w W) {o : Oper} {a : Act} {K : Act → World → Prop} {Q : Exit → Act → World → Prop} (s x : Operand)
    (ho : o.op = .call { callee := .builtin .append, args := #[s, x], argTypes := #[22, 22] }) (hs : a.eval s = v) (b : Nat) (hx : a.eval x = .slice (some ⟨b, 0, none⟩) 1 1) (it : Itm) (pv : Value) (hblk : Blk W b (itmV it pv).toArray 43) (hp : OwnP W w.heap.size pv it.msg.props) (hk : zs.length ≤ 1000)
    (cont : ∀ v' w', OwnZ 43 7 (ItR (OwnP w' w.heap.size)) w' w.heap.size v' (zs ++ [(itmV it pv, it)]) → W.grownBy w' v.ownBlock → K (a.put o.dst v') w') : o.wp Tryz.prog a W K Q := by
  obtain ⟨i0, hi, hz0, hz1, hz2⟩ := info_parts info43
  have hone : pv.oneCell' = true := hp.rd.one
  have hz := itmV_one it hone
  refine wp_append_own _ s x 22 ho w.heap.size 43 i0 (.agg #[.int .i64 0, .bool false, .string ⟨#[]⟩, .string ⟨#[]⟩, .slice none 0 0, .bool false, .int .i64 0]) 7 88 Tryz.underlying22 hi hz0 hz1 hz2 rfl (by decide) v zs.length (cellsZ zs) hs ho'.1 ⟨b, 0, none⟩ 1 1 (itmV it pv) hx (by rw [hz.1]) ?_ hz.2 (by unfold maxLen; omega) (by omega) hb'.size ?_
  · intro j u hj
    rw [Addr.add_lit, Nat.zero_add, hblk.cell j]
    simpa using hj
  · intro v' w' h1 h2 _
    have k54 : Kt 54 W w' := Kt.of_grown ho'.1 h2 (by decide)
    refine cont v' w' ⟨?_, ?_⟩ h2
    · rw [cellsZ_app, List.length_append]
      simpa [cellsZ] using h1
    · intro y hy
      rcases List.mem_append.1 hy with hy | hy
      · have := ho'.2 y hy
        exact ⟨this.1, this.2.keep k54⟩
      · rw [List.mem_singleton.1 hy]
        exact ⟨hz, pv, rfl, hp.keep k54⟩

/-- append of one element that lies in a block made just before; what is the call's own stays so. -/
theorem appH_one {w W : World} {v : Value} {zs : Zs Hld} (ho' : OwnZ 61 10 (HeR (OwnP W w.heap.size)) W w.heap.size v zs) (hb' : Below w.heap.size w W) {o : Oper} {a : Act} {K : Act → World → Prop} {Q : Exit → Act → World → Prop} (s x : Operand)
    (ho : o.op = .call { callee := .builtin .append, args := #[s, x], argTypes := #[23, 23] }) (hs : a.eval s = v) (b : Nat) (hx : a.eval x = .slice (some ⟨b, 0, none⟩) 1 1) (it : Hld) (pv : Value) (hblk : Blk W b (hldV it pv).toArray 61) (hp : OwnP W w.heap.size pv it.itm.msg.props) (hk : zs.length ≤ 1000)
    (cont : ∀ v' w', OwnZ 61 10 (HeR (OwnP w' w.heap.size)) w' w.heap.size v' (zs ++ [(hldV it pv, it)]) → W.grownBy w' v.ownBlock → K (a.put o.dst v') w') : o.wp Tryz.prog a W K Q := by
  obtain ⟨i0, hi, hz0, hz1, hz2⟩ := info_parts info61
  have hone : pv.oneCell' = true := hp.rd.one
  have hz := hldV_one it hone
  refine wp_append_own _ s x 23 ho w.heap.size 61 i0 (.agg #[.int .i64 0, .int .i64 0, .int .i64 0, .int .i64 0, .bool false, .string ⟨#[]⟩, .string ⟨#[]⟩, .slice none 0 0, .bool false, .int .i64 0]) 10 112 Tryz.underlying23 hi hz0 hz1 hz2 rfl (by decide) v zs.length (cellsZ zs) hs ho'.1 ⟨b, 0, none⟩ 1 1 (hldV it pv) hx (by rw [hz.1]) ?_ hz.2 (by unfold maxLen; omega) (by omega) hb'.size ?_
  · intro j u hj
    rw [Addr.add_lit, Nat.zero_add, hblk.cell j]
    simpa using hj
  · intro v' w' h1 h2 _
    have k54 : Kt 54 W w' := Kt.of_grown ho'.1 h2 (by decide)
    refine cont v' w' ⟨?_, ?_⟩ h2
    · rw [cellsZ_app, List.length_append]
      simpa [cellsZ] using h1
    · intro y hy
      rcases List.mem_append.1 hy with hy | hy
      · have := ho'.2 y hy
        exact ⟨this.1, this.2.keep k54⟩
      · rw [List.mem_singleton.1 hy]
        exact ⟨hz, pv, rfl, hp.keep k54⟩
end Go.Proofs.YtlbcefocmdnlgaaGreatDoor
