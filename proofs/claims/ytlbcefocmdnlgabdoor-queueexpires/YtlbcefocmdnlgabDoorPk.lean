
/- What putBack answers: the item in the place of its number. Conditions: those that each row states. -/
import Derived.Test.YtlbcefocmdnlgabDoorPb2
import Derived.Test.YtlbcefocmdnlgabDoorIs
namespace Go.Proofs.YtlbcefocmdnlgabDoor
open Go.RowKit Go.Lib
set_option maxRecDepth 100000

theorem tw_take {α : Type} (p : α → Bool) : ∀ l : List α, l.take (l.takeWhile p).length = l.takeWhile p ∧ l.drop (l.takeWhile p).length = l.dropWhile p
  | [] => ⟨rfl, rfl⟩
  | x :: l => by
    cases e : p x with
    | true =>
      rw [List.takeWhile_cons_of_pos e, List.dropWhile_cons_of_pos e]
      simp [(tw_take p l).1, (tw_take p l).2]
    | false =>
      rw [List.takeWhile_cons_of_neg (by simp [e]), List.dropWhile_cons_of_neg (by simp [e])]
      simp
theorem putB_split (l : List Itm) (x : Itm) : putB l x = l.take (posB l x.seq) ++ { x with again := true } :: l.drop (posB l x.seq) := by
  unfold putB posB
  rw [(tw_take _ l).1, (tw_take _ l).2]

set_option maxHeartbeats 2000000 in
theorem putBack_any (w : World) (B : Nat) (hB : B ≤ w.heap.size) (v : Value) (zs : Zs Itm) (h : OwnZ 36 7 (ItR (OwnP w B)) w B v zs) (hr : Rises (zs.map (·.2))) (hn : zs.length ≤ 1000) (x : Itm) (pv : Value) (hp : OwnP w B pv x.msg.props) :
    Calls Tryd.prog 31 #[v, .agg (itmV x pv).toArray] w fun e w' => ∃ v', e = .returned v' ∧ OwnI w' B v' (putB (zs.map (·.2)) x) ∧ w.grownBy w' v.ownBlock := by
  obtain ⟨a, c, hv⟩ := h.rd.len
  obtain ⟨pa, pc, rfl⟩ := hp.shape
  obtain ⟨pn, hpn⟩ : ∃ pn, x.msg.props.length = pn := ⟨_, rfl⟩
  have HX : Hid (x.msg.props.length = pn) := hpn
  rw [hpn] at hp ⊢
  clear hpn
  obtain ⟨n, hnn⟩ : ∃ n, zs.length = n := ⟨_, rfl⟩
  rw [hnn] at hv hn
  have HN : Hid (zs.length = n) := hnn
  subst hv
  have b1 := (Below.refl w.heap.size w).alloc (Nat.le_refl _) (.cells #[.int .i64 x.seq, .bool true, tx x.msg.topic, tx x.msg.body, .slice pa pn pc, .bool x.msg.dur, .int .i64 x.msg.til] 36)
  have k1 := Blk.new w #[.int .i64 x.seq, .bool true, tx x.msg.topic, tx x.msg.body, .slice pa pn pc, .bool x.msg.dur, .int .i64 x.msg.til] 36
  have h1 : OwnZ 36 7 (ItR (OwnP (w.alloc (.cells #[.int .i64 x.seq, .bool true, tx x.msg.topic, tx x.msg.body, .slice pa pn pc, .bool x.msg.dur, .int .i64 x.msg.til] 36)) B)) (w.alloc (.cells #[.int .i64 x.seq, .bool true, tx x.msg.topic, tx x.msg.body, .slice pa pn pc, .bool x.msg.dur, .int .i64 x.msg.til] 36)) B (.slice a n c) zs := (h.keep (.of_below b1)).imp fun _ _ h => h.keep (.of_below b1)
  have hp1 := hp.keep (.of_below b1)
  have hbl : (Value.slice a n c).ownBlock ≠ some w.heap.size := fun e => by
    have := (World.ownsRow.lt h.1 _ e).2
    omega
  unfold itmV
  go_enter Tryd.func31, Tryd.ntmps31
  go_upto_region 2 with fail
  generalize w.alloc (.cells #[.int .i64 x.seq, .bool true, tx x.msg.topic, tx x.msg.body, .slice pa pn pc, .bool x.msg.dur, .int .i64 x.msg.til] 36) = w1 at *
  have hsr := search_any w1 a n c zs (h1.rd.imp fun _ _ h => h.rd) hnn (by omega) hr x.seq
  obtain ⟨wz, hwz⟩ : ∃ z, w.heap.size = z := ⟨_, rfl⟩
  have HWZ : Hid (w.heap.size = wz) := hwz
  rw [hwz] at k1 hbl ⊢
  have hpos := posB_le (zs.map (·.2)) x.seq
  rw [List.length_map, hnn] at hpos
  have EP := putB_split (zs.map (·.2)) x
  generalize posB (zs.map (·.2)) x.seq = ps at *
  have EP2 : Hid (putB (zs.map (·.2)) x = (zs.map (·.2)).take ps ++ { x with again := true } :: (zs.map (·.2)).drop ps) := EP
  obtain ⟨c0, c1, c2, c3, c4, c5, c6⟩ := k1.c7
  clear h hnn hwz EP hr
  go_wp2_with fail
  refine hsr.mono ?_
  rintro e w2 ⟨⟨bb, rfl⟩, b2⟩
  have k2 := k1.on b2
  have h2 : OwnZ 36 7 (ItR (OwnP w2 B)) w2 B (.slice a n c) zs := (h1.keep (.of_below b2)).imp fun _ _ h => h.keep (.of_below b2)
  have hp2 := hp1.keep (.of_below b2)
  have b02 : w.grownBy w2 (Value.slice a n c).ownBlock := gb_trans (gb_below b1 _) (gb_below b2 _)
  have b3 := (Below.refl w2.heap.size w2).alloc (Nat.le_refl _) (.cells #[.int .i64 x.seq, .bool true, tx x.msg.topic, tx x.msg.body, .slice pa pn pc, .bool x.msg.dur, .int .i64 x.msg.til] 36)
  have kv := Blk.new w2 #[.int .i64 x.seq, .bool true, tx x.msg.topic, tx x.msg.body, .slice pa pn pc, .bool x.msg.dur, .int .i64 x.msg.til] 36
  have h3 : OwnZ 36 7 (ItR (OwnP (w2.alloc (.cells #[.int .i64 x.seq, .bool true, tx x.msg.topic, tx x.msg.body, .slice pa pn pc, .bool x.msg.dur, .int .i64 x.msg.til] 36)) B)) (w2.alloc (.cells #[.int .i64 x.seq, .bool true, tx x.msg.topic, tx x.msg.body, .slice pa pn pc, .bool x.msg.dur, .int .i64 x.msg.til] 36)) B (.slice a n c) zs := (h2.keep (.of_below b3)).imp fun _ _ h => h.keep (.of_below b3)
  have hp3 := hp2.keep (.of_below b3)
  have hsz : B ≤ (w2.alloc (.cells #[.int .i64 x.seq, .bool true, tx x.msg.topic, tx x.msg.body, .slice pa pn pc, .bool x.msg.dur, .int .i64 x.msg.til] 36)).heap.size := Nat.le_trans hB (Nat.le_trans b02.size b3.size)
  have hin := insert_any _ B hsz _ zs _ h3 ps (by rw [HN.out]; exact hpos) (by rw [HN.out]; exact hn) w2.heap.size (itmV { x with again := true } (.slice pa pn pc), { x with again := true }) ⟨itmV_one _ rfl, .slice pa pn pc, rfl, hp3⟩ kv (fun e => by have := (World.ownsRow.lt h2.1 _ e).2; omega)
  have b03 := gb_trans b02 (gb_below b3 _)
  have ho3 : OwnZ 36 7 (ItR (OwnP (w2.alloc (.cells #[.int .i64 x.seq, .bool true, tx x.msg.topic, tx x.msg.body, .slice pa pn pc, .bool x.msg.dur, .int .i64 x.msg.til] 36)) B)) (w2.alloc (.cells #[.int .i64 x.seq, .bool true, tx x.msg.topic, tx x.msg.body, .slice pa pn pc, .bool x.msg.dur, .int .i64 x.msg.til] 36)) B (.slice a n c) zs := h3
  clear hsr h1 hp1 b1 k1 c0 c1 c2 c3 c4 c5 c6 h2 hp2 b2 b02 hp3 hsz kv b3
  go_wp2_with (refine wpl_load43 rfl (.tmp 3) rfl _ _ rfl k2 rfl ?_)
  refine hin.mono ?_
  rintro e w4 ⟨v4, rfl, o4, g4⟩
  have t54 : Kt 81 _ w4 := Kt.of_grown ho3.1 g4 (by decide)
  go_wp2
  go_ret
  refine ⟨_, rfl, ⟨_, ?_, o4.imp fun _ _ h => h.keep t54⟩, gb_trans b03 g4⟩
  rw [EP2.out, List.map_append, List.map_cons, List.map_take, List.map_drop]
end Go.Proofs.YtlbcefocmdnlgabDoor
