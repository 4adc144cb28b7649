/- What copyItem answers of any item: the same one, its properties in new memory. Conditions: those that each row states. -/
import Derived.Test.YtlbcefocmdnlgaaGreatDoorBx
namespace Go.Proofs.YtlbcefocmdnlgaaGreatDoor
open Go.RowKit Go.Lib
set_option maxRecDepth 100000

theorem OwnP.shape {w : World} {B : Nat} {v : Value} {l : List Pr} (h : OwnP w B v l) : ∃ a c, v = .slice a l.length c := by
  obtain ⟨_, ⟨rfl, h0⟩ | ⟨g, cap, cur, rfl, _⟩⟩ := h
  · exact ⟨_, _, by rw [h0]⟩
  · exact ⟨_, _, rfl⟩
theorem copyItem_any (w : World) (x : Itm) (pv : Value) (h : RdP w pv x.msg.props) (hn : x.msg.props.length ≤ 2513169434916) :
    Calls Tryz.prog 40 #[.agg (itmV x pv).toArray] w fun e w' => ∃ pv', e = .returned (.agg (itmV x pv').toArray) ∧ OwnP w' w.heap.size pv' x.msg.props ∧ Below w.heap.size w w' := by
  unfold itmV
  generalize x.msg.props = l at *
  generalize x.msg.topic = tp at *
  generalize x.msg.body = bd at *
  generalize x.msg.dur = du at *
  generalize x.msg.til = ti at *
  generalize x.seq = sq at *
  generalize x.again = ag at *
  go_enter Tryz.func40, Tryz.ntmps40
  have hb1 : Below w.heap.size w ((w.alloc (.cells #[.int .i64 sq, .bool ag, tx tp, tx bd, pv, .bool du, .int .i64 ti] 43)).alloc (.cells #[.int .i64 0, .bool false, .string ⟨#[]⟩, .string ⟨#[]⟩, .slice none 0 0, .bool false, .int .i64 0] 43)) := ((Below.refl _ w).alloc (Nat.le_refl _) _).alloc (by simp) _
  have hA := (Blk.new w #[.int .i64 sq, .bool ag, tx tp, tx bd, pv, .bool du, .int .i64 ti] 43).alloc (.cells #[.int .i64 0, .bool false, .string ⟨#[]⟩, .string ⟨#[]⟩, .slice none 0 0, .bool false, .int .i64 0] 43)
  have hC := Blk.new (w.alloc (.cells #[.int .i64 sq, .bool ag, tx tp, tx bd, pv, .bool du, .int .i64 ti] 43)) #[.int .i64 0, .bool false, .string ⟨#[]⟩, .string ⟨#[]⟩, .slice none 0 0, .bool false, .int .i64 0] 43
  rw [World.size_alloc] at hC
  go_wp2_with (at_builtin; refine wpl_appP rfl (.const (.slice none 0 0)) (.tmp 5) rfl w.heap.size _ _ [] l _ rfl (World.ownsRow_nil ..) rfl (h.on hb1) (by simp; omega) hb1.size ?_)
  intro v' w2 ho hg
  have hA2 := hA.grown hg (by simp [Value.ownBlock])
  have hC2 := hC.grown hg (by simp [Value.ownBlock])
  have hb2 := hb1.grown hg hb1.size (fun k hk => by simp [Value.ownBlock] at hk)
  clear hA hC hg h hb1
  obtain ⟨a', c', rfl⟩ := ho.shape
  obtain ⟨n, hn'⟩ : ∃ n, l.length = n := ⟨_, rfl⟩
  rw [hn'] at ho hn ⊢
  clear hn'
  obtain ⟨c0, c1, c2, c3, c4, c5, c6⟩ := hA2.c7
  have f4 := hA2.frozen 4
  have hC3 := hC2.setO (j := 4) (g' := w.heap.size) (by omega) (.slice a' n c')
  have hb3 := hb2.setCell (p := ⟨w.heap.size, 4, none⟩) (Nat.le_refl _) (.slice a' n c')
  have ho3 := ho.keep (kt_setCell (j := 4) hA2 (by decide) (.slice a' n c'))
  clear ho hC2 hA2 hb2
  go_wp2_with (refine wpl_store rfl (.tmp 2) (.tmp 9) rfl (w.heap.size + 1) _ rfl rfl hC3 (by kernel_rfl) rfl (by simp [Value.oneCell']) ?_)
  refine ret43 rfl (hC3.row _) rfl rfl ⟨.slice a' n c', rfl, ho3.keep (kt_setRow hC3 (by decide) _), below_setRow hb3 (by omega) _⟩
end Go.Proofs.YtlbcefocmdnlgaaGreatDoor
