/- What the calls leave is not too long; boxes. Conditions: those that each row states. -/
import Derived.Test.YtlbcefocmdnlgaaGreatDoorDo
import Derived.Test.YtlbcefocmdnlgaaGreatDoorSa
import Derived.Test.YtlbcefocmdnlgaaGreatDoorLo
import Derived.Test.YtlbcefocmdnlgaaGreatDoorWk
namespace Go.Proofs.YtlbcefocmdnlgaaGreatDoor
open Go.RowKit Go.Lib
set_option maxRecDepth 100000
set_option linter.unusedSimpArgs false

theorem small_zero : Small zeroQ := ⟨by simp [zeroQ], by simp [zeroQ], by simp [zeroQ], by simp [zeroQ]⟩
theorem small_good {q : Que} (h : GoodP q) : Small q := (goodQ_small ((goodQ_iff q).2 h)).1
theorem small_does {q : Que} (hs : Small q) (o : Opn) : Small (doesQ q o) := by
  unfold doesQ
  split
  · rename_i hc
    unfold doesC at hc
    unfold doesN
    split
    · rename_i h0
      rw [if_pos h0] at hc
      have hg : goodQ q = true := by
        cases hg : goodQ q with
        | true => rfl
        | false => simp [pushC, hg] at hc
      exact small_good (good_push ((goodQ_iff q).1 hg) hc)
    · rename_i h0
      rw [if_neg h0] at hc
      split
      · rename_i h1
        rw [if_pos h1] at hc
        exact small_good (good_take ((goodQ_iff q).1 (takeC_zero hc).1) hc o.flag)
      · rename_i h1
        rw [if_neg h1] at hc
        split
        · rename_i h2
          rw [if_pos h2] at hc
          exact small_good (good_settle ((goodQ_iff q).1 (settleC_zero hc).1) hc o.flag)
        · rename_i h2
          rw [if_neg h2] at hc
          have hrel : relC q = 0 → goodQ q = true := fun h => by
            cases hg : goodQ q with
            | true => rfl
            | false => simp [relC, hg] at h
          split
          · rename_i h3
            rw [if_pos h3] at hc
            exact small_good (good_release ((goodQ_iff q).1 (hrel hc)) o.conn o.n)
          · rename_i h3
            rw [if_neg h3] at hc
            split
            · rename_i h4
              rw [if_pos h4] at hc
              exact small_good (good_expire ((goodQ_iff q).1 (hrel hc)) o.n)
            · exact hs
  · exact small_zero
theorem itm_does {q : Que} (hs : Small q) (o : Opn) : (doesI q o).msg.props.length ≤ 2513169434916 := by
  have hz : zeroI.msg.props.length ≤ 2513169434916 := by simp [zeroI, zeroM]
  unfold doesI
  split
  · split
    · cases hq : q.items with
      | nil => exact hz
      | cons y l => exact hs.ip y (by rw [hq]; simp)
    · exact hz
  · exact hz
structure Qx2 (w W : World) (Q O : Array Value) : Prop where
  q : Blk W w.heap.size Q 25
  o : Blk W (w.heap.size + 1) O 30
  l : Below w.heap.size w W
theorem Qx2.on {w W W' : World} {Q O : Array Value} (h : Qx2 w W Q O) (hb : Below W.heap.size W W') : Qx2 w W' Q O := ⟨h.q.on hb, h.o.on hb, nxt h.l hb⟩
theorem Qx2.start (w : World) (Q O : Array Value) : Qx2 w ((w.alloc (.cells Q 25)).alloc (.cells O 30)) Q O := by
  refine ⟨(Blk.new _ _ _).alloc _, ?_, ((Below.refl _ w).alloc (Nat.le_refl _) _).alloc (by simp) _⟩
  have := Blk.new (w.alloc (.cells Q 25)) O 30
  rwa [World.size_alloc] at this
theorem load30 {ops : Array Oper} {rest : List Oper} {o : Oper} {a : Act} {w : World} {Q : Exit → Act → World → Prop} (hgd : o.guard = none) (x : Operand) (ho : o.op = .load 30 x) (g : Nat) (cs : Array Value) (hx : a.eval x = .pointer (some ⟨g, 0, none⟩)) (hg : Blk w g cs 30) (hs : cs.size = 9)
    (h : wpList Tryz.prog ops Q rest (a.put o.dst (.agg cs)) w) : wpList Tryz.prog ops Q (o :: rest) a w :=
  wpList_load_row hgd 30 x ho g hx 30 cs (0, 0) _ hg.h Tryz.underlying30 rfl (by rw [hs]; kernel_rfl) h
/-- Two blocks made one behind the other. -/
structure Two (w W : World) : Prop where
  a : Blk W w.heap.size #[.string ⟨#[]⟩, .bool false, .int .i64 0, .int .i64 0, .int .i64 0, .slice none 0 0, .slice none 0 0] 25
  b : Blk W (w.heap.size + 1) #[.int .i64 0, .bool false, .string ⟨#[]⟩, .string ⟨#[]⟩, .slice none 0 0, .bool false, .int .i64 0] 43
  l : Below w.heap.size w W
theorem Two.start (w : World) : Two w ((w.alloc (.cells #[.string ⟨#[]⟩, .bool false, .int .i64 0, .int .i64 0, .int .i64 0, .slice none 0 0, .slice none 0 0] 25)).alloc (.cells #[.int .i64 0, .bool false, .string ⟨#[]⟩, .string ⟨#[]⟩, .slice none 0 0, .bool false, .int .i64 0] 43)) := by
  refine ⟨(Blk.new _ _ _).alloc _, ?_, ((Below.refl _ w).alloc (Nat.le_refl _) _).alloc (by simp) _⟩
  have := Blk.new (w.alloc (.cells #[.string ⟨#[]⟩, .bool false, .int .i64 0, .int .i64 0, .int .i64 0, .slice none 0 0, .slice none 0 0] 25)) #[.int .i64 0, .bool false, .string ⟨#[]⟩, .string ⟨#[]⟩, .slice none 0 0, .bool false, .int .i64 0] 43
  rwa [World.size_alloc] at this

end Go.Proofs.YtlbcefocmdnlgaaGreatDoor
