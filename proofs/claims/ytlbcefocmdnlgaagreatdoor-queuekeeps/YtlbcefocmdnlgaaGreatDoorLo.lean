
/- The law's long answers, whatever it is asked. -/
import Derived.Test.YtlbcefocmdnlgaaGreatDoorZf
namespace Go.Proofs.YtlbcefocmdnlgaaGreatDoor
open Go.RowKit Go.Lib
set_option maxRecDepth 100000
set_option linter.unusedSimpArgs false

/-- A truth is answered. -/
def IsB (n : Nat) (e : Ending) : Prop := ∃ b : Bool, e = .returned (.bool b) ∧ (b = false → n ≤ 200)

set_option maxHeartbeats 4000000 in
theorem long_any (w : World) (v : Value) (q : Que) (h : RdQ w v q) (hbig : lenQ q ≤ 9223372036854775806) : Calls Tryz.prog 7 #[v] w fun e w' => IsB (lenQ q) e ∧ Below w.heap.size w w' := by
  obtain ⟨iv, hv, rfl, ⟨zi, ei, hi⟩, ⟨zh, eh, hh⟩⟩ := h
  obtain ⟨ai, ci, rfl⟩ := hi.len
  obtain ⟨ah, ch, rfl⟩ := hh.len
  obtain ⟨ni, hni⟩ : ∃ n, zi.length = n := ⟨_, rfl⟩
  obtain ⟨nh, hnh⟩ : ∃ n, zh.length = n := ⟨_, rfl⟩
  rw [hni] at hi ⊢
  rw [hnh] at hh ⊢
  have hsum : ni + nh ≤ 9223372036854775806 := by
    unfold lenQ at hbig
    rw [← ei, ← eh, List.length_map, List.length_map, hni, hnh] at hbig
    exact hbig
  have HI : Hid (RdZ 7 (ItR (RdP w)) w (.slice ai ni ci) zi) := hi
  have HH : Hid (RdZ 10 (HeR (RdP w)) w (.slice ah nh ch) zh) := hh
  have NI : Hid (zi.length = ni) := hni
  have NH : Hid (zh.length = nh) := hnh
  have HLQ : Hid (lenQ q = ni + nh) := by
    show lenQ q = ni + nh
    unfold lenQ
    rw [← ei, ← eh, List.length_map, List.length_map, hni, hnh]
  clear hi hh ei eh hni hnh hbig
  have k0 := Blk.new w #[tx q.name, .bool q.dur, .int .i64 q.depth, .int .i64 q.seq, .int .i64 q.tag, .slice ai ni ci, .slice ah nh ch] 25
  have b0 := (Below.refl w.heap.size w).alloc (Nat.le_refl _) (.cells #[tx q.name, .bool q.dur, .int .i64 q.depth, .int .i64 q.seq, .int .i64 q.tag, .slice ai ni ci, .slice ah nh ch] 25)
  unfold queV at *
  by_cases h200 : ((ni : Int) + (nh : Int)) > 200
  · obtain ⟨c0, c1, c2, c3, c4, c5, c6⟩ := k0.c7
    go_enter Tryz.func7, Tryz.ntmps7
    go_wp2
    go_ret
    exact ⟨⟨true, rfl, fun e => by cases e⟩, b0⟩
  · go_enter Tryz.func7, Tryz.ntmps7
    go_upto_region 1 with fail
    generalize w.alloc (.cells #[tx q.name, .bool q.dur, .int .i64 q.depth, .int .i64 q.seq, .int .i64 q.tag, .slice ai ni ci, .slice ah nh ch] 25) = w1 at *
    obtain ⟨c0, c1, c2, c3, c4, c5, c6⟩ := k0.c7
    have KB : Hid (Blk w1 w.heap.size #[tx q.name, .bool q.dur, .int .i64 q.depth, .int .i64 q.seq, .int .i64 q.tag, .slice ai ni ci, .slice ah nh ch] 25 ∧ Below w.heap.size w w1) := ⟨k0, b0⟩
    clear k0 b0
    go_wp2_with fail
    clear c0 c1 c2 c3 c4 c5 c6
    go_loopg [3, 5, 20] ni (fun gg s3 _ s20 wr => ∃ kk : Nat, kk ≤ ni ∧ ni - kk ≤ gg ∧ (∃ z : Int, s3 = .int .i64 z) ∧ s20 = .int .i64 kk ∧ Hid (Blk wr w.heap.size #[tx q.name, .bool q.dur, .int .i64 q.depth, .int .i64 q.seq, .int .i64 q.tag, .slice ai ni ci, .slice ah nh ch] 25 ∧ Below w.heap.size w wr))
    case atStart => exact ⟨0, Nat.zero_le _, by omega, ⟨_, rfl⟩, rfl, KB⟩
    case round =>
      obtain ⟨kk, hkk, hg, ⟨z, rfl⟩, rfl, HS⟩ := hrel
      clear KB
      by_cases hlt : kk < ni
      · have hltz : (kk : Int) < (ni : Int) := by omega
        obtain ⟨b, o, pv, rfl, hz1, hp, c0, c1, c2, c3, c4, c5, c6⟩ := itm_at HI.out HS.out.2 (i := kk) (by rw [NI.out]; exact hlt)
        generalize (zi[kk]'(by rw [NI.out]; exact hlt)).2 = x at *
        clear hz1
        obtain ⟨wr, hwr⟩ : ∃ W, W = wr := ⟨_, rfl⟩
        subst hwr
        obtain ⟨pa, pc, rfl⟩ := hp.shape
        clear hp
        generalize x.msg.props.length = np at *
        go_wp2_with (refine wpl_fresh rfl (.tmp 5) (.tmp 23) rfl _ _ rfl rfl (by kernel_rfl) rfl (by simp [Value.oneCell']) ?_)
        intro w1 k1 b1 s1
        have HS1 : Hid (Blk w1 w.heap.size #[tx q.name, .bool q.dur, .int .i64 q.depth, .int .i64 q.seq, .int .i64 q.tag, .slice (some ⟨b, o, none⟩) ni ci, .slice ah nh ch] 25 ∧ Below w.heap.size w w1) := ⟨HS.out.1.on b1, nxt HS.out.2 b1⟩
        obtain ⟨d0, d1, d2, d3, d4, d5, d6⟩ := k1.c7
        clear HS c0 c1 c2 c3 c4 c5 c6 b1
        go_wp2_with fail
        go_roundg (ni - (kk + 1))
        case measure => omega
        case rel => exact ⟨kk + 1, by omega, by omega, ⟨_, rfl⟩, by go_num, HS1⟩
      · have hltz : ¬ (kk : Int) < (ni : Int) := by omega
        obtain ⟨wr, hwr⟩ : ∃ W, W = wr := ⟨_, rfl⟩
        subst hwr
        obtain ⟨c0, c1, c2, c3, c4, c5, c6⟩ := HS.out.1.c7
        clear HI
        go_wp2_with fail
        clear c0 c1 c2 c3 c4 c5 c6
        go_loopg [3, 7, 39] nh (fun gg s3 _ s39 wy => ∃ k2 : Nat, k2 ≤ nh ∧ nh - k2 ≤ gg ∧ (∃ z : Int, s3 = .int .i64 z) ∧ s39 = .int .i64 k2 ∧ Hid (Below w.heap.size w wy))
        case atStart => exact ⟨0, Nat.zero_le _, by omega, ⟨_, rfl⟩, rfl, HS.out.2⟩
        case round =>
          obtain ⟨k2, hk2, hg2, ⟨z2, rfl⟩, rfl, HT⟩ := hrel
          clear HS
          by_cases hl2 : k2 < nh
          · have hl2z : (k2 : Int) < (nh : Int) := by omega
            obtain ⟨b, o, pv, rfl, hz1, hp, c0, c1, c2, c3, c4, c5, c6, c7, c8, c9⟩ := hld_at HH.out HT.out (i := k2) (by rw [NH.out]; exact hl2)
            generalize (zh[k2]'(by rw [NH.out]; exact hl2)).2 = x at *
            clear hz1
            obtain ⟨wt, hwt⟩ : ∃ W, W = wr := ⟨_, rfl⟩
            subst hwt
            obtain ⟨pa, pc, rfl⟩ := hp.shape
            clear hp
            generalize x.itm.msg.props.length = np at *
            go_wp2_with (refine wpl_fresh rfl (.tmp 7) (.tmp 42) rfl _ _ rfl rfl (by kernel_rfl) rfl (by simp [Value.oneCell']) ?_)
            intro w1 k1 b1 s1
            have HS1 : Hid (Below w.heap.size w w1) := nxt HT.out b1
            obtain ⟨d0, d1, d2, d3, d4, d5, d6, d7, d8, d9⟩ := k1.c10
            clear HT c0 c1 c2 c3 c4 c5 c6 c7 c8 c9 b1
            go_wp2_with fail
            go_roundg (nh - (k2 + 1))
            case measure => omega
            case rel => exact ⟨k2 + 1, by omega, by omega, ⟨_, rfl⟩, by go_num, HS1⟩
          · have hl2z : ¬ (k2 : Int) < (nh : Int) := by omega
            obtain ⟨wt, hwt⟩ : ∃ W, W = wr := ⟨_, rfl⟩
            subst hwt
            go_wp2
            go_ret
            exact ⟨⟨_, rfl, fun _ => by rw [HLQ.out]; omega⟩, HT.out⟩
end Go.Proofs.YtlbcefocmdnlgaaGreatDoor
