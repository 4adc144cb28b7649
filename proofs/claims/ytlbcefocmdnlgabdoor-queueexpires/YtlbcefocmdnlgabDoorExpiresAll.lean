/- Whatever a queue and two ticks, trivetlaw10.QueueExpires answers true and leaves its arguments as they were, where the listed tables of the library read as the program's text lays them (tied by the card). -/
import Derived.Test.YtlbcefocmdnlgabDoorCp
import Derived.Test.YtlbcefocmdnlgabDoorSe
import Derived.Test.YtlbcefocmdnlgabDoorTk
import Derived.Test.YtlbcefocmdnlgabDoorNw
import Derived.Test.YtlbcefocmdnlgabDoorPrg
import Derived.Test.YtlbcefocmdnlgabDoorIx
import Derived.Test.YtlbcefocmdnlgabDoorGs
import Derived.BigRegion
import Derived.Deep.DeepCutAuto
import Derived.Test.YtlbcefocmdnlgabDoorMq
import Derived.Test.YtlbcefocmdnlgabDoorEx
import Derived.Test.YtlbcefocmdnlgabDoorCards
import Derived.Test.YtlbcefocmdnlgabDoorTie
import Derived.Test.YtlbcefocmdnlgabDoorLa
import Derived.Test.YtlbcefocmdnlgabDoorLb
namespace Go.Proofs.YtlbcefocmdnlgabDoor
open Go.RowKit Go.Lib
set_option maxRecDepth 100000
set_option linter.unusedSimpArgs false

/-- A truth is answered. -/
def IsB (n : Nat) (e : Ending) : Prop := ∃ b : Bool, e = .returned (.bool b) ∧ (b = false → n ≤ 200)

set_option maxHeartbeats 4000000 in
theorem long_any (w : World) (v : Value) (q : Que) (h : RdQ w v q) (hbig : lenQ q ≤ 9223372036854775806) : Calls Tryd.prog 5 #[v] w fun e w' => IsB (lenQ q) e ∧ Below w.heap.size w w' := by
  obtain ⟨iv, hv, rfl, ⟨zi, ei, hi⟩, ⟨zh, eh, hh⟩⟩ := h
  obtain ⟨ai, ci, rfl⟩ := hi.len
  obtain ⟨ah, ch, rfl⟩ := hh.len
  obtain ⟨ni, hni⟩ : ∃ n, zi.length = n := ⟨_, rfl⟩
  obtain ⟨nh, hnh⟩ : ∃ n, zh.length = n := ⟨_, rfl⟩
  rw [hni] at hi ⊢
  rw [hnh] at hh ⊢
  have hsum : ni + nh ≤ 9223372036854775806 := by
    unfold lenQ at hbig
    rw [← ei, ← eh, List.length_map, List.length_map, hni, hnh] at hbig
    exact hbig
  have HI : Hid (RdZ 7 (ItR (RdP w)) w (.slice ai ni ci) zi) := hi
  have HH : Hid (RdZ 10 (HeR (RdP w)) w (.slice ah nh ch) zh) := hh
  have NI : Hid (zi.length = ni) := hni
  have NH : Hid (zh.length = nh) := hnh
  have HLQ : Hid (lenQ q = ni + nh) := by
    show lenQ q = ni + nh
    unfold lenQ
    rw [← ei, ← eh, List.length_map, List.length_map, hni, hnh]
  clear hi hh ei eh hni hnh hbig
  have k0 := Blk.new w #[tx q.name, .bool q.dur, .int .i64 q.depth, .int .i64 q.seq, .int .i64 q.tag, .slice ai ni ci, .slice ah nh ch] 25
  have b0 := (Below.refl w.heap.size w).alloc (Nat.le_refl _) (.cells #[tx q.name, .bool q.dur, .int .i64 q.depth, .int .i64 q.seq, .int .i64 q.tag, .slice ai ni ci, .slice ah nh ch] 25)
  unfold queV at *
  by_cases h200 : ((ni : Int) + (nh : Int)) > 200
  · obtain ⟨c0, c1, c2, c3, c4, c5, c6⟩ := k0.c7
    go_enter Tryd.func5, Tryd.ntmps5
    go_wp2
    go_ret
    exact ⟨⟨true, rfl, fun e => by cases e⟩, b0⟩
  · go_enter Tryd.func5, Tryd.ntmps5
    go_upto_region 1 with fail
    generalize w.alloc (.cells #[tx q.name, .bool q.dur, .int .i64 q.depth, .int .i64 q.seq, .int .i64 q.tag, .slice ai ni ci, .slice ah nh ch] 25) = w1 at *
    obtain ⟨c0, c1, c2, c3, c4, c5, c6⟩ := k0.c7
    have KB : Hid (Blk w1 w.heap.size #[tx q.name, .bool q.dur, .int .i64 q.depth, .int .i64 q.seq, .int .i64 q.tag, .slice ai ni ci, .slice ah nh ch] 25 ∧ Below w.heap.size w w1) := ⟨k0, b0⟩
    clear k0 b0
    go_wp2_with fail
    clear c0 c1 c2 c3 c4 c5 c6
    go_loopg [3, 5, 20] ni (fun gg s3 _ s20 wr => ∃ kk : Nat, kk ≤ ni ∧ ni - kk ≤ gg ∧ (∃ z : Int, s3 = .int .i64 z) ∧ s20 = .int .i64 kk ∧ Hid (Blk wr w.heap.size #[tx q.name, .bool q.dur, .int .i64 q.depth, .int .i64 q.seq, .int .i64 q.tag, .slice ai ni ci, .slice ah nh ch] 25 ∧ Below w.heap.size w wr))
    case atStart => exact ⟨0, Nat.zero_le _, by omega, ⟨_, rfl⟩, rfl, KB⟩
    case round =>
      obtain ⟨kk, hkk, hg, ⟨z, rfl⟩, rfl, HS⟩ := hrel
      clear KB
      by_cases hlt : kk < ni
      · have hltz : (kk : Int) < (ni : Int) := by omega
        obtain ⟨b, o, pv, rfl, hz1, hp, c0, c1, c2, c3, c4, c5, c6⟩ := itm_at HI.out HS.out.2 (i := kk) (by rw [NI.out]; exact hlt)
        generalize (zi[kk]'(by rw [NI.out]; exact hlt)).2 = x at *
        clear hz1
        obtain ⟨wr, hwr⟩ : ∃ W, W = wr := ⟨_, rfl⟩
        subst hwr
        obtain ⟨pa, pc, rfl⟩ := hp.shape
        clear hp
        generalize x.msg.props.length = np at *
        go_wp2_with (refine wpl_fresh rfl (.tmp 5) (.tmp 23) rfl _ _ rfl rfl (by kernel_rfl) rfl (by simp [Value.oneCell']) ?_)
        intro w1 k1 b1 s1
        have HS1 : Hid (Blk w1 w.heap.size #[tx q.name, .bool q.dur, .int .i64 q.depth, .int .i64 q.seq, .int .i64 q.tag, .slice (some ⟨b, o, none⟩) ni ci, .slice ah nh ch] 25 ∧ Below w.heap.size w w1) := ⟨HS.out.1.on b1, nxt HS.out.2 b1⟩
        obtain ⟨d0, d1, d2, d3, d4, d5, d6⟩ := k1.c7
        clear HS c0 c1 c2 c3 c4 c5 c6 b1
        go_wp2_with fail
        go_roundg (ni - (kk + 1))
        case measure => omega
        case rel => exact ⟨kk + 1, by omega, by omega, ⟨_, rfl⟩, by go_num, HS1⟩
      · have hltz : ¬ (kk : Int) < (ni : Int) := by omega
        obtain ⟨wr, hwr⟩ : ∃ W, W = wr := ⟨_, rfl⟩
        subst hwr
        obtain ⟨c0, c1, c2, c3, c4, c5, c6⟩ := HS.out.1.c7
        clear HI
        go_wp2_with fail
        clear c0 c1 c2 c3 c4 c5 c6
        go_loopg [3, 7, 39] nh (fun gg s3 _ s39 wy => ∃ k2 : Nat, k2 ≤ nh ∧ nh - k2 ≤ gg ∧ (∃ z : Int, s3 = .int .i64 z) ∧ s39 = .int .i64 k2 ∧ Hid (Below w.heap.size w wy))
        case atStart => exact ⟨0, Nat.zero_le _, by omega, ⟨_, rfl⟩, rfl, HS.out.2⟩
        case round =>
          obtain ⟨k2, hk2, hg2, ⟨z2, rfl⟩, rfl, HT⟩ := hrel
          clear HS
          by_cases hl2 : k2 < nh
          · have hl2z : (k2 : Int) < (nh : Int) := by omega
            obtain ⟨b, o, pv, rfl, hz1, hp, c0, c1, c2, c3, c4, c5, c6, c7, c8, c9⟩ := hld_at HH.out HT.out (i := k2) (by rw [NH.out]; exact hl2)
            generalize (zh[k2]'(by rw [NH.out]; exact hl2)).2 = x at *
            clear hz1
            obtain ⟨wt, hwt⟩ : ∃ W, W = wr := ⟨_, rfl⟩
            subst hwt
            obtain ⟨pa, pc, rfl⟩ := hp.shape
            clear hp
            generalize x.itm.msg.props.length = np at *
            go_wp2_with (refine wpl_fresh rfl (.tmp 7) (.tmp 42) rfl _ _ rfl rfl (by kernel_rfl) rfl (by simp [Value.oneCell']) ?_)
            intro w1 k1 b1 s1
            have HS1 : Hid (Below w.heap.size w w1) := nxt HT.out b1
            obtain ⟨d0, d1, d2, d3, d4, d5, d6, d7, d8, d9⟩ := k1.c10
            clear HT c0 c1 c2 c3 c4 c5 c6 c7 c8 c9 b1
            go_wp2_with fail
            go_roundg (nh - (k2 + 1))
            case measure => omega
            case rel => exact ⟨k2 + 1, by omega, by omega, ⟨_, rfl⟩, by go_num, HS1⟩
          · have hl2z : ¬ (k2 : Int) < (nh : Int) := by omega
            obtain ⟨wt, hwt⟩ : ∃ W, W = wr := ⟨_, rfl⟩
            subst hwt
            go_wp2
            go_ret
            exact ⟨⟨_, rfl, fun _ => by rw [HLQ.out]; omega⟩, HT.out⟩
end Go.Proofs.YtlbcefocmdnlgabDoor

namespace Go.Proofs.YtlbcefocmdnlgabDoor
open Go.RowKit Go.Lib
set_option maxRecDepth 100000
set_option linter.unusedSimpArgs false

def mx (c : UInt8) : Msg := ⟨[c], [], [], false, 0⟩
def kq : Nat → Que
  | 0 => newQ [113] true 5
  | k + 1 => pushQ (kq k) (mx (UInt8.ofNat (120 + k)))
theorem new_ok : newC [113] 5 = 0 := by decide
theorem push0 : pushC (kq 0) (mx 120) = 0 := by decide
theorem push1 : pushC (kq 1) (mx 121) = 0 := by decide
theorem push2 : pushC (kq 2) (mx 122) = 0 := by decide
theorem take0 : takeC (kq 3) 1 0 = 0 := by decide
def kt1 : Que := takeQ (kq 3) 1 0 true
theorem take1 : takeC kt1 1 0 = 0 := by decide
def kt2 : Que := takeQ kt1 1 0 true
theorem settle2 : settleC kt2 1 1 = 0 := by decide
def kt3 : Que := settleQ kt2 1 1 true
theorem kt3_len : kt3.items.length = 2 := by decide

theorem small_kq : ∀ k, k ≤ 3 → lenQ (kq k) ≤ 1000000 := fun k hk => by
  have : ∀ k, lenQ (kq k) = k := fun k => by
    induction k with
    | zero => rfl
    | succ k ih => simp only [lenQ, kq, pushQ, List.length_append, List.length_singleton] at ih ⊢; omega
  rw [this]
  omega
structure Chain (q3 q4 q5 q6 : Que) (x3 x4 y : Itm) (l : List Itm) : Prop where
  c3 : takeC q3 1 0 = 0
  t3 : takeQ q3 1 0 true = q4
  g3 : q3.tag + 1 = 1
  x3 : q3.items.headD zeroI = x3
  c4 : takeC q4 1 0 = 0
  t4 : takeQ q4 1 0 true = q5
  g4 : q4.tag + 1 = 2
  x4 : q4.items.headD zeroI = x4
  c5 : settleC q5 1 1 = 0
  t5 : settleQ q5 1 1 true = q6
  n6 : q6.items.length = 2
  i6 : q6.items = y :: l
  a6 : y.again = true
  o6 : y.msg.topic = [120]
  l3 : lenQ q3 ≤ 1000000
  l4 : lenQ q4 ≤ 1000000
  l5 : lenQ q5 ≤ 1000000
theorem chain : ∃ q3 q4 q5 q6 x3 x4 y l, kq 3 = q3 ∧ Chain q3 q4 q5 q6 x3 x4 y l :=
  ⟨kq 3, kt1, kt2, kt3, _, _, _, _, rfl, take0, rfl, rfl, rfl, take1, rfl, rfl, rfl, settle2, rfl, kt3_len, rfl, rfl, rfl, small_kq 3 (by omega), by decide, by decide⟩
theorem take_at {W : World} (hva : To.Vars W) {q q' : Que} {x : Itm} {iv hv : Value} {tg : Int} (hi : RdI W iv q.items) (hh : RdH W hv q.held) {conn sub : Int} (hc : takeC q conn sub = 0) (hq : takeQ q conn sub true = q') (ht : q.tag + 1 = tg) (hx : q.items.headD zeroI = x) (hl : lenQ q ≤ 1000000) :
    Calls Tryd.prog 11 #[.agg #[tx q.name, .bool q.dur, .int .i64 q.depth, .int .i64 q.seq, .int .i64 q.tag, iv, hv], .int .i64 conn, .int .i64 sub, .bool true] W fun e w' => ∃ v' pv', e = .returned (.tuple #[v', .int .i64 tg, .agg (itmV x pv').toArray, .int .i64 0]) ∧ OwnQ w' W.heap.size v' q' ∧ OwnP w' W.heap.size pv' x.msg.props ∧ Below W.heap.size W w' := by
  have h := take_any W hva _ q ⟨iv, hv, rfl, hi, hh⟩ conn sub true hl
  rw [hc, if_pos rfl, if_pos rfl, if_pos rfl, if_pos rfl, hq, ht, hx] at h
  exact h
theorem settle_at {W : World} (hva : To.Vars W) {q q' : Que} {iv hv : Value} (hi : RdI W iv q.items) (hh : RdH W hv q.held) {conn tag : Int} (hc : settleC q conn tag = 0) (hq : settleQ q conn tag true = q') (hl : lenQ q ≤ 1000000) :
    Calls Tryd.prog 12 #[.agg #[tx q.name, .bool q.dur, .int .i64 q.depth, .int .i64 q.seq, .int .i64 q.tag, iv, hv], .int .i64 conn, .int .i64 tag, .bool true] W fun e w' => ∃ v', e = .returned (.tuple #[v', .int .i64 0]) ∧ OwnQ w' W.heap.size v' q' ∧ Below W.heap.size W w' := by
  have h := settle_any W hva _ q ⟨iv, hv, rfl, hi, hh⟩ conn tag true hl
  rw [hc, if_pos rfl, hq] at h
  exact h
/-- The queue lies in the block g. -/
structure WkS (w W : World) (g : Nat) (q : Que) : Prop where
  q : ∃ iv hv, RdI W iv q.items ∧ RdH W hv q.held ∧ Blk W g #[tx q.name, .bool q.dur, .int .i64 q.depth, .int .i64 q.seq, .int .i64 q.tag, iv, hv] 25
  l : w.heap.size ≤ g
  b : Below w.heap.size w W

theorem WkS.on {w W W' : World} {g : Nat} {q : Que} (h : WkS w W g q) (hb : Below W.heap.size W W') : WkS w W' g q := by
  obtain ⟨⟨iv, hv, h1, h2, h3⟩, h4, h5⟩ := h
  exact ⟨⟨iv, hv, h1.on hb, h2.on hb, h3.on hb⟩, h4, nxt h5 hb⟩

theorem Kt.then_new {t : TypeId} {a b c : World} (h : Kt t a b) (hs : a.heap.size ≤ b.heap.size) (hg : b.grownBy c (some a.heap.size)) : Kt t a c := fun k cur hk => by
  have hlt := (Array.getElem?_eq_some_iff.1 hk).1
  exact (hg.block k (by omega) (fun e => by injection e with e; omega)).trans (h k cur hk)
theorem head_at {W : World} {a : Option Addr} {n c : Nat} {y : Itm} {l : List Itm} (h : RdI W (.slice a n c) (y :: l)) :
    ∃ b o, a = some ⟨b, o, none⟩ ∧ W.cell? ⟨b, o, none⟩ = some (.int .i64 y.seq) ∧ W.cell? ⟨b, o + 1, none⟩ = some (.bool y.again) ∧ W.cell? ⟨b, o + 2, none⟩ = some (tx y.msg.topic) := by
  obtain ⟨zs, e, hz⟩ := h
  cases zs with
  | nil => simp at e
  | cons z zs =>
    simp only [List.map_cons, List.cons.injEq] at e
    obtain ⟨b, o, pv, rfl, _, _, c0, c1, c2, _⟩ := itm_at hz (Below.refl _ W) (i := 0) (by simp)
    simp only [List.getElem_cons_zero, Nat.zero_mul, Nat.add_zero, e.1] at c0 c1 c2
    exact ⟨b, o, rfl, c0, c1, c2⟩
theorem rdp_nil (w : World) : RdP w (.slice none 0 0) [] := OwnP.rd (B := 0) (World.ownsRow_nil ..)

set_option maxHeartbeats 4000000 in
theorem wakes_any (w : World) (hva : To.Vars w) : Calls Tryd.prog 4 #[] w fun e w' => e = .returned (.bool true) ∧ Below w.heap.size w w' := by
  have HN : Calls Tryd.prog 9 #[tx [113], .bool true, .int .i64 5] w fun e w' => ∃ v', e = .returned (.tuple #[v', .int .i64 0]) ∧ OwnQ w' w.heap.size v' (kq 0) ∧ Below w.heap.size w w' := by
    have h := new_any w [113] true 5
    rw [new_ok, if_pos rfl] at h
    exact h
  go_enter Tryd.func4, Tryd.ntmps4
  go_upto_region 2 with (refine HN.mono ?_; rintro e w1 ⟨v1, rfl, ⟨iv1, hv1, rfl, oi1, oh1⟩, b1⟩; obtain ⟨ai1, ci1, rfl⟩ := oi1.rd.len; obtain ⟨ah1, ch1, rfl⟩ := oh1.rd.len; unfold queV)
  have S1 : WkS w (w1.alloc (.cells #[tx (kq 0).name, .bool (kq 0).dur, .int .i64 (kq 0).depth, .int .i64 (kq 0).seq, .int .i64 (kq 0).tag, .slice ai1 (kq 0).items.length ci1, .slice ah1 (kq 0).held.length ch1] 25)) w1.heap.size (kq 0) :=
    have hb := (Below.refl _ w1).alloc (Nat.le_refl _) (.cells #[tx (kq 0).name, .bool (kq 0).dur, .int .i64 (kq 0).depth, .int .i64 (kq 0).seq, .int .i64 (kq 0).tag, .slice ai1 (kq 0).items.length ci1, .slice ah1 (kq 0).held.length ch1] 25)
    ⟨⟨_, _, oi1.rd.on hb, oh1.rd.on hb, Blk.new ..⟩, b1.size, nxt b1 hb⟩
  clear oi1 oh1 b1 HN
  generalize w1.heap.size = g at *
  generalize w1.alloc (.cells #[tx (kq 0).name, .bool (kq 0).dur, .int .i64 (kq 0).depth, .int .i64 (kq 0).seq, .int .i64 (kq 0).tag, .slice ai1 (kq 0).items.length ci1, .slice ah1 (kq 0).held.length ch1] 25) = w2 at *
  go_wp2_with fail
  have S3 : Hid (WkS w (w2.alloc (.cells #[.string ⟨#[120]⟩, .string ⟨#[121]⟩, .string ⟨#[122]⟩] 9)) g (kq 0)) := S1.on ((Below.refl _ w2).alloc (Nat.le_refl _) _)
  have K3 : Hid (Blk (w2.alloc (.cells #[.string ⟨#[120]⟩, .string ⟨#[121]⟩, .string ⟨#[122]⟩] 9)) w2.heap.size #[.string ⟨#[120]⟩, .string ⟨#[121]⟩, .string ⟨#[122]⟩] 9) := Blk.new ..
  clear S1
  generalize w2.heap.size = gs at *
  generalize w2.alloc (.cells #[.string ⟨#[120]⟩, .string ⟨#[121]⟩, .string ⟨#[122]⟩] 9) = w3 at *
  go_loopg [2, 4, 18] 3 (fun gg s2 _ s18 wr => ∃ kk : Nat, kk ≤ 3 ∧ 3 - kk ≤ gg ∧ s2 = .int .i64 0 ∧ s18 = .int .i64 kk ∧ Hid (WkS w wr g (kq kk)) ∧ Hid (Blk wr gs #[.string ⟨#[120]⟩, .string ⟨#[121]⟩, .string ⟨#[122]⟩] 9))
  case atStart => exact ⟨0, Nat.zero_le _, by omega, rfl, rfl, S3, K3⟩
  case round =>
    obtain ⟨kk, hkk, hg, rfl, rfl, HS, HK⟩ := hrel
    clear S3 K3
    obtain ⟨wr, hwr⟩ : ∃ W, W = wr := ⟨_, rfl⟩
    subst hwr
    by_cases hlt : kk < 3
    · have hltz : (kk : Int) < 3 := by omega
      have cs : wr.cell? ⟨gs, kk, none⟩ = some (tx [UInt8.ofNat (120 + kk)]) := by
        rcases (by omega : kk = 0 ∨ kk = 1 ∨ kk = 2) with rfl | rfl | rfl
        · exact HK.out.cell 0
        · exact HK.out.cell 1
        · exact HK.out.cell 2
      have hpc : pushC (kq kk) (mx (UInt8.ofNat (120 + kk))) = 0 := by
        rcases (by omega : kk = 0 ∨ kk = 1 ∨ kk = 2) with rfl | rfl | rfl
        · exact push0
        · exact push1
        · exact push2
      obtain ⟨⟨iv, hv, h1, h2, h3⟩, h4, h5⟩ := HS.out
      have HP : Calls Tryd.prog 10 #[.agg #[tx (kq kk).name, .bool (kq kk).dur, .int .i64 (kq kk).depth, .int .i64 (kq kk).seq, .int .i64 (kq kk).tag, iv, hv], .agg #[tx [UInt8.ofNat (120 + kk)], .string ⟨#[]⟩, .slice none 0 0, .bool false, .int .i64 0]] wr fun e w' => ∃ v', e = .returned (.tuple #[v', .int .i64 0]) ∧ OwnQ w' wr.heap.size v' (kq (kk + 1)) ∧ Below wr.heap.size wr w' := by
        have h := push_any wr (hva.below h5) _ (kq kk) ⟨iv, hv, rfl, h1, h2⟩ (mx (UInt8.ofNat (120 + kk))) (.slice none 0 0) (rdp_nil _) (small_kq kk hkk)
        rw [hpc, if_pos rfl] at h
        exact h
      have K0 : Hid (Blk wr g #[tx (kq kk).name, .bool (kq kk).dur, .int .i64 (kq kk).depth, .int .i64 (kq kk).seq, .int .i64 (kq kk).tag, iv, hv] 25) := h3
      have B0 : Hid (Below w.heap.size w wr) := h5
      clear HS h1 h2 h3 h5 hpc
      obtain ⟨c, hc⟩ : ∃ c, UInt8.ofNat (120 + kk) = c := ⟨_, rfl⟩
      obtain ⟨q, hq⟩ : ∃ q, kq kk = q := ⟨_, rfl⟩
      obtain ⟨q', hq'⟩ : ∃ q, kq (kk + 1) = q := ⟨_, rfl⟩
      rw [hc] at cs HP
      rw [hq] at HP K0
      rw [hq'] at HP
      have HQ' : Hid (kq (kk + 1) = q') := hq'
      clear hc hq hq'
      go_wp2_with (refine wpl_load25 rfl (.tmp 1) rfl _ _ rfl K0.out rfl ?_)
      refine HP.mono ?_
      rintro e w4 ⟨v4, rfl, ⟨iv4, hv4, rfl, oi4, oh4⟩, b4⟩
      obtain ⟨ai4, ci4, rfl⟩ := oi4.rd.len
      obtain ⟨ah4, ch4, rfl⟩ := oh4.rd.len
      have K4 := K0.out.on b4
      have HK4 := HK.out.on b4
      have B4 := nxt B0.out b4
      have HL4 : Hid (gs ≠ g) := fun e => by
        subst e
        have h1 := K4.h
        rw [HK4.h] at h1
        injection h1 with e2
        injection e2 with _ e3 _
        exact absurd e3 (by decide)
      clear HP K0 B0 b4 cs HK
      unfold queV
      go_wp2_with (refine wpl_put rfl (.tmp 1) (.tmp 27) rfl _ _ rfl rfl K4 (by kernel_rfl) rfl (by simp [Value.oneCell']) ?_)
      intro w5 k5 g5 s5
      have HS5 : Hid (WkS w w5 g q') := ⟨⟨_, _, (oi4.keep (kt_grown K4 g5 (by decide)) (kt_grown K4 g5 (by decide))).rd, (oh4.keep (kt_grown K4 g5 (by decide)) (kt_grown K4 g5 (by decide))).rd, k5⟩, h4, B4.grown g5 B4.size (fun k hk => by injection hk with hk; omega)⟩
      have HK5 : Hid (Blk w5 gs #[.string ⟨#[120]⟩, .string ⟨#[121]⟩, .string ⟨#[122]⟩] 9) := HK4.grown g5 (fun e => by injection e with e; exact HL4.out e)
      clear K4 HK4 B4 HL4 oi4 oh4 k5 g5 s5
      go_wp2_with fail
      go_roundg (3 - (kk + 1))
      case measure => omega
      case rel => exact ⟨kk + 1, by omega, by omega, rfl, by go_num, by rw [HQ'.out]; exact HS5, HK5⟩
    · have hk3 : kk = 3 := by omega
      subst hk3
      clear hkk hg HK hlt
      obtain ⟨q3, q4, q5, q6, x3, x4, y, l, eq3, HC⟩ := chain
      rw [eq3] at HS
      clear eq3
      have HD : Hid (Chain q3 q4 q5 q6 x3 x4 y l) := HC
      obtain ⟨⟨iv, hv, h1, h2, h3⟩, h4, h5⟩ := HS.out
      have HP := take_at (hva.below h5) h1 h2 HC.c3 HC.t3 HC.g3 HC.x3 HC.l3
      have K0 : Hid (Blk wr g #[tx q3.name, .bool q3.dur, .int .i64 q3.depth, .int .i64 q3.seq, .int .i64 q3.tag, iv, hv] 25) := h3
      have B0 : Hid (Below w.heap.size w wr) := h5
      clear HS h1 h2 h3 h5 HC
      go_wp2_with (refine wpl_load25 rfl (.tmp 1) rfl _ _ rfl K0.out rfl ?_)
      refine HP.mono ?_
      rintro e w4 ⟨v4, pv4, rfl, ⟨iv4, hv4, rfl, oi4, oh4⟩, hp4, b4⟩
      obtain ⟨ai4, ci4, rfl⟩ := oi4.rd.len
      obtain ⟨ah4, ch4, rfl⟩ := oh4.rd.len
      obtain ⟨pa4, pc4, rfl⟩ := hp4.shape
      have K4 := K0.out.on b4
      have B4 := nxt B0.out b4
      clear HP K0 B0 b4 hp4
      unfold queV itmV
      have K4a := K4.alloc (.cells #[.int .i64 0, .bool false, .string ⟨#[]⟩, .string ⟨#[]⟩, .slice none 0 0, .bool false, .int .i64 0] 36)
      have B4a := B4.alloc B4.size (.cells #[.int .i64 0, .bool false, .string ⟨#[]⟩, .string ⟨#[]⟩, .slice none 0 0, .bool false, .int .i64 0] 36)
      go_wp2_with (refine wpl_put rfl (.tmp 1) (.tmp 35) rfl _ _ rfl rfl K4a (by kernel_rfl) rfl (by simp [Value.oneCell']) ?_)
      intro w5 k5 g5 s5
      have i5 := (Blk.new w4 #[.int .i64 0, .bool false, .string ⟨#[]⟩, .string ⟨#[]⟩, .slice none 0 0, .bool false, .int .i64 0] 36).grown g5 (fun e => by injection e with e; have := K4.lt; omega)
      have B5 := B4a.grown g5 B4a.size (fun k hk => by injection hk with hk; omega)
      have t35 : Kt 36 w4 w5 := (Kt.of_below ((Below.refl _ w4).alloc (Nat.le_refl _) _)).trans (kt_grown K4a g5 (by decide))
      have t45 : Kt 45 w4 w5 := (Kt.of_below ((Below.refl _ w4).alloc (Nat.le_refl _) _)).trans (kt_grown K4a g5 (by decide))
      have t88 : Kt 81 w4 w5 := (Kt.of_below ((Below.refl _ w4).alloc (Nat.le_refl _) _)).trans (kt_grown K4a g5 (by decide))
      have hs5 : w4.heap.size ≤ w5.heap.size := Nat.le_of_lt i5.lt
      have hg4 : g < w4.heap.size := K4.lt
      clear K4 K4a B4 B4a g5 s5
      go_wp2_with (refine wpl_put rfl (.tmp 6) (.tmp 37) rfl _ _ rfl rfl i5 (by kernel_rfl) rfl (by simp [Value.oneCell']) ?_)
      intro w6 k6 g6 s6
      have K6 : Hid (Blk w6 g #[tx q4.name, .bool q4.dur, .int .i64 q4.depth, .int .i64 q4.seq, .int .i64 q4.tag, .slice ai4 q4.items.length ci4, .slice ah4 q4.held.length ch4] 25) := k5.grown g6 (fun e => by injection e with e; omega)
      have B6 : Hid (Below w.heap.size w w6) := B5.grown g6 B5.size (fun k hk => by injection hk with hk; have := h4; omega)
      have oi6 := (oi4.keep (t35.then_new hs5 g6) (t88.then_new hs5 g6)).rd
      have oh6 := (oh4.keep (t45.then_new hs5 g6) (t88.then_new hs5 g6)).rd
      clear oi4 oh4 t35 t45 t88 hs5 hg4 i5 k5 k6 g6 s6 B5
      have HP := take_at (hva.below B6.out) oi6 oh6 HD.out.c4 HD.out.t4 HD.out.g4 HD.out.x4 HD.out.l4
      clear oi6 oh6
      go_wp2_with (refine wpl_load25 rfl (.tmp 1) rfl _ _ rfl K6.out rfl ?_)
      refine HP.mono ?_
      obtain ⟨wr, hwr⟩ : ∃ W, W = w6 := ⟨_, rfl⟩
      subst hwr
      rintro e w7 ⟨v4, pv4, rfl, ⟨iv4, hv4, rfl, oi4, oh4⟩, hp4, b4⟩
      obtain ⟨ai4, ci4, rfl⟩ := oi4.rd.len
      obtain ⟨ah4, ch4, rfl⟩ := oh4.rd.len
      obtain ⟨pa4, pc4, rfl⟩ := hp4.shape
      have K4 := K6.out.on b4
      have B4 := nxt B6.out b4
      clear HP K6 B6 b4 hp4
      unfold queV itmV
      obtain ⟨w4, hw4⟩ : ∃ W, W = w7 := ⟨_, rfl⟩
      subst hw4
      have K4a := K4.alloc (.cells #[.int .i64 0, .bool false, .string ⟨#[]⟩, .string ⟨#[]⟩, .slice none 0 0, .bool false, .int .i64 0] 36)
      have B4a := B4.alloc B4.size (.cells #[.int .i64 0, .bool false, .string ⟨#[]⟩, .string ⟨#[]⟩, .slice none 0 0, .bool false, .int .i64 0] 36)
      go_wp2_with (refine wpl_put rfl (.tmp 1) (.tmp 42) rfl _ _ rfl rfl K4a (by kernel_rfl) rfl (by simp [Value.oneCell']) ?_)
      intro w5 k5 g5 s5
      have i5 := (Blk.new w4 #[.int .i64 0, .bool false, .string ⟨#[]⟩, .string ⟨#[]⟩, .slice none 0 0, .bool false, .int .i64 0] 36).grown g5 (fun e => by injection e with e; have := K4.lt; omega)
      have B5 := B4a.grown g5 B4a.size (fun k hk => by injection hk with hk; omega)
      have t35 : Kt 36 w4 w5 := (Kt.of_below ((Below.refl _ w4).alloc (Nat.le_refl _) _)).trans (kt_grown K4a g5 (by decide))
      have t45 : Kt 45 w4 w5 := (Kt.of_below ((Below.refl _ w4).alloc (Nat.le_refl _) _)).trans (kt_grown K4a g5 (by decide))
      have t88 : Kt 81 w4 w5 := (Kt.of_below ((Below.refl _ w4).alloc (Nat.le_refl _) _)).trans (kt_grown K4a g5 (by decide))
      have hs5 : w4.heap.size ≤ w5.heap.size := Nat.le_of_lt i5.lt
      have hg4 : g < w4.heap.size := K4.lt
      clear K4 K4a B4 B4a g5 s5
      go_wp2_with (refine wpl_put rfl (.tmp 8) (.tmp 44) rfl _ _ rfl rfl i5 (by kernel_rfl) rfl (by simp [Value.oneCell']) ?_)
      intro w6 k6 g6 s6
      have K6 : Hid (Blk w6 g #[tx q5.name, .bool q5.dur, .int .i64 q5.depth, .int .i64 q5.seq, .int .i64 q5.tag, .slice ai4 q5.items.length ci4, .slice ah4 q5.held.length ch4] 25) := k5.grown g6 (fun e => by injection e with e; omega)
      have B6 : Hid (Below w.heap.size w w6) := B5.grown g6 B5.size (fun k hk => by injection hk with hk; have := h4; omega)
      have oi6 := (oi4.keep (t35.then_new hs5 g6) (t88.then_new hs5 g6)).rd
      have oh6 := (oh4.keep (t45.then_new hs5 g6) (t88.then_new hs5 g6)).rd
      clear oi4 oh4 t35 t45 t88 hs5 hg4 i5 k5 k6 g6 s6 B5
      have HP := settle_at (hva.below B6.out) oi6 oh6 HD.out.c5 HD.out.t5 HD.out.l5
      clear oi6 oh6
      go_wp2_with (refine wpl_load25 rfl (.tmp 1) rfl _ _ rfl K6.out rfl ?_)
      refine HP.mono ?_
      rintro e w7 ⟨v4, rfl, ⟨iv4, hv4, rfl, oi4, oh4⟩, b4⟩
      obtain ⟨ah4, ch4, rfl⟩ := oh4.rd.len
      obtain ⟨ai4, ci4, rfl⟩ := oi4.rd.len
      have K4 := K6.out.on b4
      have B4 := nxt B6.out b4
      clear HP K6 B6 b4 oh4
      unfold queV
      go_wp2_with (refine wpl_put rfl (.tmp 1) (.tmp 63) rfl _ _ rfl rfl K4 (by kernel_rfl) rfl (by simp [Value.oneCell']) ?_)
      intro w8 k8 g8 s8
      have B8 := B4.grown g8 B4.size (fun k hk => by injection hk with hk; have := h4; omega)
      have oi8 := (oi4.keep (kt_grown K4 g8 (by decide)) (kt_grown K4 g8 (by decide))).rd
      rw [HD.out.n6, HD.out.i6] at oi8
      rw [HD.out.n6] at k8
      obtain ⟨ai4, hai⟩ : ∃ a, a = ai4 := ⟨_, rfl⟩
      subst hai
      clear oi4 K4 B4 g8 s8
      obtain ⟨d0, d1, d2, d3, d4, d5, d6⟩ := k8.c7
      obtain ⟨bb, oo, rfl, e0, e1, e2⟩ := head_at oi8
      rw [HD.out.a6] at e1
      rw [HD.out.o6] at e2
      clear oi8 HD
      go_wp2
      go_ret
      exact ⟨ret_b (by simp), B8⟩
end Go.Proofs.YtlbcefocmdnlgabDoor

namespace Go.Proofs.YtlbcefocmdnlgabDoor
open Go.RowKit Go.Lib
set_option maxRecDepth 100000
set_option linter.unusedSimpArgs false

theorem sameL_self (l : List Pr) : sameL l l = true := (sameL_eq l l).2 rfl
theorem sameMsg_same (w : World) (m : Msg) (pv pv' : Value) (h : RdP w pv m.props) (h' : RdP w pv' m.props) (h63 : m.props.length ≤ 9223372036854775806) :
    Calls Tryd.prog 40 #[.agg (msgV m pv).toArray, .agg (msgV m pv').toArray] w fun e w' => e = .returned (.bool true) ∧ Below w.heap.size w w' := by
  have hA := fun (W : World) (b : Below w.heap.size w W) => all7 W pv pv' m.props m.props (h.on b) (h'.on b) h63
  simp only [sameL_self] at hA
  unfold msgV
  have k1 := (Blk.new w #[tx m.topic, tx m.body, pv, .bool m.dur, .int .i64 m.til] 34).alloc (.cells #[tx m.topic, tx m.body, pv', .bool m.dur, .int .i64 m.til] 34)
  have k2 := Blk.new (w.alloc (.cells #[tx m.topic, tx m.body, pv, .bool m.dur, .int .i64 m.til] 34)) #[tx m.topic, tx m.body, pv', .bool m.dur, .int .i64 m.til] 34
  rw [World.size_alloc] at k2
  have b2 := ((Below.refl w.heap.size w).alloc (Nat.le_refl _) (.cells #[tx m.topic, tx m.body, pv, .bool m.dur, .int .i64 m.til] 34)).alloc (by simp) (.cells #[tx m.topic, tx m.body, pv', .bool m.dur, .int .i64 m.til] 34)
  go_enter Tryd.func40, Tryd.ntmps40
  go_upto_region 1 with fail
  generalize (w.alloc (.cells #[tx m.topic, tx m.body, pv, .bool m.dur, .int .i64 m.til] 34)).alloc (.cells #[tx m.topic, tx m.body, pv', .bool m.dur, .int .i64 m.til] 34) = w2 at *
  obtain ⟨c0, c1, c2, c3, c4⟩ := k1.c5
  obtain ⟨d0, d1, d2, d3, d4⟩ := k2.c5
  clear k1 k2 h h'
  go_wp2_with fail
  refine (hA _ b2).mono ?_
  rintro e w3 ⟨rfl, b3⟩
  go_wp2
  go_ret
  exact ⟨rfl, nxt b2 b3⟩
theorem sameItem_same (w : World) (x : Itm) (pv pv' : Value) (h : RdP w pv x.msg.props) (h' : RdP w pv' x.msg.props) (h63 : x.msg.props.length ≤ 9223372036854775806) :
    Calls Tryd.prog 23 #[.agg (itmV x pv).toArray, .agg (itmV x pv').toArray] w fun e w' => e = .returned (.bool true) ∧ Below w.heap.size w w' := by
  have hA := fun (W : World) (b : Below w.heap.size w W) => sameMsg_same W x.msg pv pv' (h.on b) (h'.on b) h63
  unfold itmV
  unfold msgV at hA
  have k1 := (Blk.new w #[.int .i64 x.seq, .bool x.again, tx x.msg.topic, tx x.msg.body, pv, .bool x.msg.dur, .int .i64 x.msg.til] 36).alloc (.cells #[.int .i64 x.seq, .bool x.again, tx x.msg.topic, tx x.msg.body, pv', .bool x.msg.dur, .int .i64 x.msg.til] 36)
  have k2 := Blk.new (w.alloc (.cells #[.int .i64 x.seq, .bool x.again, tx x.msg.topic, tx x.msg.body, pv, .bool x.msg.dur, .int .i64 x.msg.til] 36)) #[.int .i64 x.seq, .bool x.again, tx x.msg.topic, tx x.msg.body, pv', .bool x.msg.dur, .int .i64 x.msg.til] 36
  rw [World.size_alloc] at k2
  have b2 := ((Below.refl w.heap.size w).alloc (Nat.le_refl _) (.cells #[.int .i64 x.seq, .bool x.again, tx x.msg.topic, tx x.msg.body, pv, .bool x.msg.dur, .int .i64 x.msg.til] 36)).alloc (by simp) (.cells #[.int .i64 x.seq, .bool x.again, tx x.msg.topic, tx x.msg.body, pv', .bool x.msg.dur, .int .i64 x.msg.til] 36)
  go_enter Tryd.func23, Tryd.ntmps23
  go_upto_region 1 with fail
  generalize (w.alloc (.cells #[.int .i64 x.seq, .bool x.again, tx x.msg.topic, tx x.msg.body, pv, .bool x.msg.dur, .int .i64 x.msg.til] 36)).alloc (.cells #[.int .i64 x.seq, .bool x.again, tx x.msg.topic, tx x.msg.body, pv', .bool x.msg.dur, .int .i64 x.msg.til] 36) = w2 at *
  obtain ⟨c0, c1, c2, c3, c4, c5, c6⟩ := k1.c7
  obtain ⟨d0, d1, d2, d3, d4, d5, d6⟩ := k2.c7
  clear k1 k2 h h'
  go_wp2_with fail
  refine (hA _ b2).mono ?_
  rintro e w3 ⟨rfl, b3⟩
  go_wp2
  go_ret
  exact ⟨rfl, nxt b2 b3⟩
end Go.Proofs.YtlbcefocmdnlgabDoor

namespace Go.Proofs.YtlbcefocmdnlgabDoor
open Go.RowKit Go.Lib
set_option maxRecDepth 100000
set_option linter.unusedSimpArgs false

/-- An item's cells, where nothing that was there is changed. -/
def ItC (w : World) (b o : Nat) (x : Itm) (pv : Value) : Prop := ∀ W, Below w.heap.size w W → W.cell? ⟨b, o, none⟩ = some (.int .i64 x.seq) ∧ W.cell? ⟨b, o + 1, none⟩ = some (.bool x.again) ∧ W.cell? ⟨b, o + 2, none⟩ = some (tx x.msg.topic) ∧ W.cell? ⟨b, o + 3, none⟩ = some (tx x.msg.body) ∧ W.cell? ⟨b, o + 4, none⟩ = some pv ∧ W.cell? ⟨b, o + 5, none⟩ = some (.bool x.msg.dur) ∧ W.cell? ⟨b, o + 6, none⟩ = some (.int .i64 x.msg.til)
theorem itc_at {w : World} {a : Option Addr} {n c : Nat} {zs : Zs Itm} (h : RdZ 7 (ItR (RdP w)) w (.slice a n c) zs) {i : Nat} (hi : i < zs.length) :
    ∃ b o pv, a = some ⟨b, o, none⟩ ∧ RdP w pv (zs[i]).2.msg.props ∧ ItC w b (o + i * 7) (zs[i]).2 pv := by
  obtain ⟨b, o, pv, e, _, hp, c0, c1, c2, c3, c4, c5, c6⟩ := itm_at h (Below.refl _ w) hi
  have k : ∀ {ad : Addr} {u : Value}, w.cell? ad = some u → ∀ W, Below w.heap.size w W → W.cell? ad = some u := fun hc W hb => (hb.cell (World.block_lt_of_cell? w _ hc)).trans hc
  exact ⟨b, o, pv, e, hp, fun W hb => ⟨k c0 W hb, k c1 W hb, k c2 W hb, k c3 W hb, k c4 W hb, k c5 W hb, k c6 W hb⟩⟩
/-- A held one's cells, where nothing that was there is changed. -/
def HeC (w : World) (b o : Nat) (x : Hld) (pv : Value) : Prop := ∀ W, Below w.heap.size w W → W.cell? ⟨b, o, none⟩ = some (.int .i64 x.tag) ∧ W.cell? ⟨b, o + 1, none⟩ = some (.int .i64 x.conn) ∧ W.cell? ⟨b, o + 2, none⟩ = some (.int .i64 x.sub) ∧ W.cell? ⟨b, o + 3, none⟩ = some (.int .i64 x.itm.seq) ∧ W.cell? ⟨b, o + 4, none⟩ = some (.bool x.itm.again) ∧ W.cell? ⟨b, o + 5, none⟩ = some (tx x.itm.msg.topic) ∧ W.cell? ⟨b, o + 6, none⟩ = some (tx x.itm.msg.body) ∧ W.cell? ⟨b, o + 7, none⟩ = some (pv) ∧ W.cell? ⟨b, o + 8, none⟩ = some (.bool x.itm.msg.dur) ∧ W.cell? ⟨b, o + 9, none⟩ = some (.int .i64 x.itm.msg.til)
theorem hec_at {w : World} {a : Option Addr} {n c : Nat} {zs : Zs Hld} (h : RdZ 10 (HeR (RdP w)) w (.slice a n c) zs) {i : Nat} (hi : i < zs.length) :
    ∃ b o pv, a = some ⟨b, o, none⟩ ∧ RdP w pv (zs[i]).2.itm.msg.props ∧ HeC w b (o + i * 10) (zs[i]).2 pv := by
  obtain ⟨b, o, pv, e, _, hp, c0, c1, c2, c3, c4, c5, c6, c7, c8, c9⟩ := hld_at h (Below.refl _ w) hi
  have k : ∀ {ad : Addr} {u : Value}, w.cell? ad = some u → ∀ W, Below w.heap.size w W → W.cell? ad = some u := fun hc W hb => (hb.cell (World.block_lt_of_cell? w _ hc)).trans hc
  exact ⟨b, o, pv, e, hp, fun W hb => ⟨k c0 W hb, k c1 W hb, k c2 W hb, k c3 W hb, k c4 W hb, k c5 W hb, k c6 W hb, k c7 W hb, k c8 W hb, k c9 W hb⟩⟩
structure SaS (w W : World) (qs rs : Array Value) : Prop where
  a : Blk W w.heap.size qs 25
  b : Blk W (w.heap.size + 1) rs 25
  l : Below w.heap.size w W
theorem SaS.on {w W W' : World} {qs rs : Array Value} (h : SaS w W qs rs) (hb : Below W.heap.size W W') : SaS w W' qs rs := ⟨h.a.on hb, h.b.on hb, nxt h.l hb⟩
theorem SaS.start (w : World) (qs rs : Array Value) : SaS w ((w.alloc (.cells qs 25)).alloc (.cells rs 25)) qs rs := by
  refine ⟨(Blk.new _ _ _).alloc _, ?_, ((Below.refl _ w).alloc (Nat.le_refl _) _).alloc (by simp) _⟩
  have := Blk.new (w.alloc (.cells qs 25)) rs 25
  rwa [World.size_alloc] at this

set_option maxHeartbeats 4000000 in
theorem same_same (w : World) (v u : Value) (q : Que) (h : RdQ w v q) (h' : RdQ w u q) (hq : Small q) :
    Calls Tryd.prog 8 #[v, u] w fun e w' => e = .returned (.bool true) ∧ Below w.heap.size w w' := by
  obtain ⟨i1, h1, rfl, ⟨zi, ei, hi⟩, ⟨zh, eh, hh⟩⟩ := h
  obtain ⟨i2, h2, rfl, ⟨yi, fi, gi⟩, ⟨yh, fh, gh⟩⟩ := h'
  obtain ⟨ai, ci, rfl⟩ := hi.len
  obtain ⟨ah, ch, rfl⟩ := hh.len
  obtain ⟨bi, di, rfl⟩ := gi.len
  obtain ⟨bh, dh, rfl⟩ := gh.len
  obtain ⟨ni, hni⟩ : ∃ n, q.items.length = n := ⟨_, rfl⟩
  obtain ⟨nh, hnh⟩ : ∃ n, q.held.length = n := ⟨_, rfl⟩
  have l1 : zi.length = ni := by rw [← hni, ← ei, List.length_map]
  have l2 : yi.length = ni := by rw [← hni, ← fi, List.length_map]
  have l3 : zh.length = nh := by rw [← hnh, ← eh, List.length_map]
  have l4 : yh.length = nh := by rw [← hnh, ← fh, List.length_map]
  rw [l1] at hi ⊢
  rw [l2] at gi ⊢
  rw [l3] at hh ⊢
  rw [l4] at gh ⊢
  have HI : Hid (RdZ 7 (ItR (RdP w)) w (.slice ai ni ci) zi ∧ RdZ 7 (ItR (RdP w)) w (.slice bi ni di) yi ∧ zi.map (·.2) = q.items ∧ yi.map (·.2) = q.items ∧ zi.length = ni ∧ yi.length = ni) := ⟨hi, gi, ei, fi, l1, l2⟩
  have HH : Hid (RdZ 10 (HeR (RdP w)) w (.slice ah nh ch) zh ∧ RdZ 10 (HeR (RdP w)) w (.slice bh nh dh) yh ∧ zh.map (·.2) = q.held ∧ yh.map (·.2) = q.held ∧ zh.length = nh ∧ yh.length = nh) := ⟨hh, gh, eh, fh, l3, l4⟩
  have hl1 : ni ≤ 1000 := by have := hq.items; omega
  have hl2 : nh ≤ 1000 := by have := hq.held; omega
  clear hi gi ei fi l1 l2 hh gh eh fh l3 l4 hni hnh
  have S0 : Hid (SaS w ((w.alloc (.cells #[tx q.name, .bool q.dur, .int .i64 q.depth, .int .i64 q.seq, .int .i64 q.tag, .slice ai ni ci, .slice ah nh ch] 25)).alloc (.cells #[tx q.name, .bool q.dur, .int .i64 q.depth, .int .i64 q.seq, .int .i64 q.tag, .slice bi ni di, .slice bh nh dh] 25)) #[tx q.name, .bool q.dur, .int .i64 q.depth, .int .i64 q.seq, .int .i64 q.tag, .slice ai ni ci, .slice ah nh ch] #[tx q.name, .bool q.dur, .int .i64 q.depth, .int .i64 q.seq, .int .i64 q.tag, .slice bi ni di, .slice bh nh dh]) := SaS.start ..
  unfold queV at *
  go_enter Tryd.func8, Tryd.ntmps8
  go_upto_region 1 with fail
  generalize (w.alloc (.cells #[tx q.name, .bool q.dur, .int .i64 q.depth, .int .i64 q.seq, .int .i64 q.tag, .slice ai ni ci, .slice ah nh ch] 25)).alloc (.cells #[tx q.name, .bool q.dur, .int .i64 q.depth, .int .i64 q.seq, .int .i64 q.tag, .slice bi ni di, .slice bh nh dh] 25) = w1 at *
  obtain ⟨c0, c1, c2, c3, c4, c5, c6⟩ := S0.out.a.c7
  obtain ⟨d0, d1, d2, d3, d4, d5, d6⟩ := S0.out.b.c7
  go_wp2_with fail
  clear c0 c1 c2 c3 c4 c5 c6 d0 d1 d2 d3 d4 d5 d6
  go_loopg [5, 63] ni (fun gg _ s63 wr => ∃ kk : Nat, kk ≤ ni ∧ ni - kk ≤ gg ∧ s63 = .int .i64 kk ∧ Hid (SaS w wr #[tx q.name, .bool q.dur, .int .i64 q.depth, .int .i64 q.seq, .int .i64 q.tag, .slice ai ni ci, .slice ah nh ch] #[tx q.name, .bool q.dur, .int .i64 q.depth, .int .i64 q.seq, .int .i64 q.tag, .slice bi ni di, .slice bh nh dh]))
  case atStart => exact ⟨0, Nat.zero_le _, by omega, rfl, S0⟩
  case round =>
    obtain ⟨kk, hkk, hg, rfl, HS⟩ := hrel
    clear S0
    obtain ⟨wr, hwr⟩ : ∃ W, W = wr := ⟨_, rfl⟩
    subst hwr
    by_cases hlt : kk < ni
    · have hltz : (kk : Int) < (ni : Int) := by omega
      obtain ⟨hi, gi, ei, fi, l1, l2⟩ := HI.out
      obtain ⟨b1, o1, p1, rfl, hp1, C1⟩ := itc_at hi (i := kk) (by omega)
      obtain ⟨b2, o2, p2, rfl, hp2, C2⟩ := itc_at gi (i := kk) (by omega)
      have hql : kk < q.items.length := by rw [← ei, List.length_map]; omega
      have x1 : (zi[kk]'(by omega)).2 = q.items[kk] := by simp only [← ei, List.getElem_map]
      have x2 : (yi[kk]'(by omega)).2 = q.items[kk] := by simp only [← fi, List.getElem_map]
      rw [x1] at hp1 C1
      rw [x2] at hp2 C2
      have hpl : (q.items[kk]).msg.props.length ≤ 140000 := hq.ip _ (List.getElem_mem _)
      generalize q.items[kk] = x at *
      have HC : Hid (ItC w b1 (o1 + kk * 7) x p1 ∧ ItC w b2 (o2 + kk * 7) x p2) := ⟨C1, C2⟩
      obtain ⟨pa1, pc1, rfl⟩ := hp1.shape
      obtain ⟨pa2, pc2, rfl⟩ := hp2.shape
      have HA := fun (W : World) (b : Below w.heap.size w W) => sameItem_same W x _ _ (hp1.on b) (hp2.on b) (by omega)
      unfold itmV at HA
      clear hi gi ei fi l1 l2 hql x1 x2 hp1 hp2 C1 C2 hpl
      go_upto_region 6 with fail
      refine wp_region_held (S := fun W => SaS w W #[tx q.name, .bool q.dur, .int .i64 q.depth, .int .i64 q.seq, .int .i64 q.tag, .slice (some ⟨b1, o1, none⟩) ni ci, .slice ah nh ch] #[tx q.name, .bool q.dur, .int .i64 q.depth, .int .i64 q.seq, .int .i64 q.tag, .slice (some ⟨b2, o2, none⟩) ni di, .slice bh nh dh]) hmix ?_
      show wpAnyH _ _ _ _ _ _ _ _ (World.drew _)
      have hS : SaS w wr.drew #[tx q.name, .bool q.dur, .int .i64 q.depth, .int .i64 q.seq, .int .i64 q.tag, .slice (some ⟨b1, o1, none⟩) ni ci, .slice ah nh ch] #[tx q.name, .bool q.dur, .int .i64 q.depth, .int .i64 q.seq, .int .i64 q.tag, .slice (some ⟨b2, o2, none⟩) ni di, .slice bh nh dh] := ⟨⟨HS.out.a.h⟩, ⟨HS.out.b.h⟩, HS.out.l.drew⟩
      clear HS
      generalize wr.drew = w4 at *
      refine wpAnyH_take (i := 0) (v := .pointer (some ⟨w.heap.size, 5, none⟩)) rfl (by kernel_rfl) (by kernel_rfl) (by kernel_rfl) (fun _ _ _ h => h) (.inl ⟨by rfl, fun W' hW' => ?_⟩) hS ?_
      · obtain ⟨d0, d1, d2, d3, d4, d5, d6⟩ := hW'.a.c7
        go_simp
      simp only [Act.put, List.getElem_toArray, List.getElem_cons_zero, List.setIfInBounds_toArray, List.set_cons_succ, List.set_cons_zero]
      refine wpAnyH_take (i := 1) (v := .slice (some ⟨b1, o1, none⟩) ni ci) rfl (by kernel_rfl) (by kernel_rfl) (by kernel_rfl) (fun _ _ _ h => h) (.inl ⟨by rfl, fun W' hW' => ?_⟩) hS ?_
      · obtain ⟨d0, d1, d2, d3, d4, d5, d6⟩ := hW'.a.c7
        go_simp
      simp only [Act.put, List.getElem_toArray, List.getElem_cons_succ, List.getElem_cons_zero, List.setIfInBounds_toArray, List.set_cons_succ, List.set_cons_zero]
      refine wpAnyH_take (i := 2) (v := .int .i64 kk) rfl (by kernel_rfl) (by kernel_rfl) (by kernel_rfl) (fun _ _ _ h => h) (.inl ⟨by rfl, fun W' hW' => ?_⟩) hS ?_
      · obtain ⟨d0, d1, d2, d3, d4, d5, d6⟩ := hW'.a.c7
        go_simp
      simp only [Act.put, List.getElem_toArray, List.getElem_cons_succ, List.getElem_cons_zero, List.setIfInBounds_toArray, List.set_cons_succ, List.set_cons_zero]
      refine wpAnyH_take (i := 3) (v := .pointer (some ⟨b1, o1 + kk * 7, none⟩)) rfl (by kernel_rfl) (by kernel_rfl) (by kernel_rfl) (fun _ _ _ h => h) (.inl ⟨by rfl, fun W' hW' => ?_⟩) hS ?_
      · obtain ⟨d0, d1, d2, d3, d4, d5, d6⟩ := hW'.a.c7
        go_simp
      simp only [Act.put, List.getElem_toArray, List.getElem_cons_succ, List.getElem_cons_zero, List.setIfInBounds_toArray, List.set_cons_succ, List.set_cons_zero]
      refine wpAnyH_take (i := 4) (v := .agg #[.int .i64 x.seq, .bool x.again, tx x.msg.topic, tx x.msg.body, .slice pa1 x.msg.props.length pc1, .bool x.msg.dur, .int .i64 x.msg.til]) rfl (by kernel_rfl) (by kernel_rfl) (by kernel_rfl) (fun _ _ _ h => h) (.inl ⟨by rfl, fun W' hW' => ?_⟩) hS ?_
      · obtain ⟨d0, d1, d2, d3, d4, d5, d6⟩ := HC.out.1 W' hW'.l
        go_simp
      simp only [Act.put, List.getElem_toArray, List.getElem_cons_succ, List.getElem_cons_zero, List.setIfInBounds_toArray, List.set_cons_succ, List.set_cons_zero]
      refine wpAnyH_take (i := 5) (v := .pointer (some ⟨w.heap.size + 1, 5, none⟩)) rfl (by kernel_rfl) (by kernel_rfl) (by kernel_rfl) (fun _ _ _ h => h) (.inl ⟨by rfl, fun W' hW' => ?_⟩) hS ?_
      · obtain ⟨d0, d1, d2, d3, d4, d5, d6⟩ := hW'.b.c7
        go_simp
      simp only [Act.put, List.getElem_toArray, List.getElem_cons_succ, List.getElem_cons_zero, List.setIfInBounds_toArray, List.set_cons_succ, List.set_cons_zero]
      refine wpAnyH_take (i := 6) (v := .slice (some ⟨b2, o2, none⟩) ni di) rfl (by kernel_rfl) (by kernel_rfl) (by kernel_rfl) (fun _ _ _ h => h) (.inl ⟨by rfl, fun W' hW' => ?_⟩) hS ?_
      · obtain ⟨d0, d1, d2, d3, d4, d5, d6⟩ := hW'.b.c7
        go_simp
      simp only [Act.put, List.getElem_toArray, List.getElem_cons_succ, List.getElem_cons_zero, List.setIfInBounds_toArray, List.set_cons_succ, List.set_cons_zero]
      refine wpAnyH_take (i := 7) (v := .int .i64 kk) rfl (by kernel_rfl) (by kernel_rfl) (by kernel_rfl) (fun _ _ _ h => h) (.inl ⟨by rfl, fun W' hW' => ?_⟩) hS ?_
      · obtain ⟨d0, d1, d2, d3, d4, d5, d6⟩ := hW'.b.c7
        go_simp
      simp only [Act.put, List.getElem_toArray, List.getElem_cons_succ, List.getElem_cons_zero, List.setIfInBounds_toArray, List.set_cons_succ, List.set_cons_zero]
      refine wpAnyH_take (i := 8) (v := .pointer (some ⟨b2, o2 + kk * 7, none⟩)) rfl (by kernel_rfl) (by kernel_rfl) (by kernel_rfl) (fun _ _ _ h => h) (.inl ⟨by rfl, fun W' hW' => ?_⟩) hS ?_
      · obtain ⟨d0, d1, d2, d3, d4, d5, d6⟩ := hW'.b.c7
        go_simp
      simp only [Act.put, List.getElem_toArray, List.getElem_cons_succ, List.getElem_cons_zero, List.setIfInBounds_toArray, List.set_cons_succ, List.set_cons_zero]
      refine wpAnyH_take (i := 9) (v := .agg #[.int .i64 x.seq, .bool x.again, tx x.msg.topic, tx x.msg.body, .slice pa2 x.msg.props.length pc2, .bool x.msg.dur, .int .i64 x.msg.til]) rfl (by kernel_rfl) (by kernel_rfl) (by kernel_rfl) (fun _ _ _ h => h) (.inl ⟨by rfl, fun W' hW' => ?_⟩) hS ?_
      · obtain ⟨d0, d1, d2, d3, d4, d5, d6⟩ := HC.out.2 W' hW'.l
        go_simp
      simp only [Act.put, List.getElem_toArray, List.getElem_cons_succ, List.getElem_cons_zero, List.setIfInBounds_toArray, List.set_cons_succ, List.set_cons_zero]
      refine wpAnyH_one (i := 10) (by kernel_rfl) rfl (by rfl) (fun K hK => ?_)
      go_simp
      refine (HA _ hS.l).mono ?_
      rintro e w5 ⟨rfl, b5⟩
      replace hS := hS.on b5
      show K _ _
      refine hK _ _ hS ?_
      clear hK K b5
      refine wpAnyH_take (i := 11) (v := .bool false) rfl (by kernel_rfl) (by kernel_rfl) (by kernel_rfl) (fun _ _ _ h => h) (.inl ⟨by rfl, fun W' hW' => ?_⟩) hS ?_
      · go_simp
      simp only [Act.put, List.getElem_toArray, List.getElem_cons_succ, List.getElem_cons_zero, List.setIfInBounds_toArray, List.set_cons_succ, List.set_cons_zero]
      refine wpAnyH_done (by kernel_rfl) ?_ _
      have S5 : Hid (SaS w w5 #[tx q.name, .bool q.dur, .int .i64 q.depth, .int .i64 q.seq, .int .i64 q.tag, .slice (some ⟨b1, o1, none⟩) ni ci, .slice ah nh ch] #[tx q.name, .bool q.dur, .int .i64 q.depth, .int .i64 q.seq, .int .i64 q.tag, .slice (some ⟨b2, o2, none⟩) ni di, .slice bh nh dh]) := hS
      clear hS HC HA
      go_wp2_with fail
      go_roundg (ni - (kk + 1))
      case measure => omega
      case rel => exact ⟨kk + 1, by omega, by omega, by go_num, S5⟩
    · have hltz : ¬ (kk : Int) < (ni : Int) := by omega
      obtain ⟨c0, c1, c2, c3, c4, c5, c6⟩ := HS.out.a.c7
      go_wp2_with fail
      clear c0 c1 c2 c3 c4 c5 c6 HI
      go_loopg [6, 7, 8, 82] nh (fun gg _ _ _ s82 wy => ∃ k2 : Nat, k2 ≤ nh ∧ nh - k2 ≤ gg ∧ s82 = .int .i64 k2 ∧ Hid (SaS w wy #[tx q.name, .bool q.dur, .int .i64 q.depth, .int .i64 q.seq, .int .i64 q.tag, .slice ai ni ci, .slice ah nh ch] #[tx q.name, .bool q.dur, .int .i64 q.depth, .int .i64 q.seq, .int .i64 q.tag, .slice bi ni di, .slice bh nh dh]))
      case atStart => exact ⟨0, Nat.zero_le _, by omega, rfl, HS⟩
      case round =>
        obtain ⟨k2, hk2, hg2, rfl, HT⟩ := hrel
        clear HS
        obtain ⟨wt, hwt⟩ : ∃ W, W = wr := ⟨_, rfl⟩
        subst hwt
        by_cases hl2 : k2 < nh
        · have hl2z : (k2 : Int) < (nh : Int) := by omega
          obtain ⟨hh, gh, eh, fh, l3, l4⟩ := HH.out
          obtain ⟨b1, o1, p1, rfl, hp1, C1⟩ := hec_at hh (i := k2) (by omega)
          obtain ⟨b2, o2, p2, rfl, hp2, C2⟩ := hec_at gh (i := k2) (by omega)
          have hql : k2 < q.held.length := by rw [← eh, List.length_map]; omega
          have x1 : (zh[k2]'(by omega)).2 = q.held[k2] := by simp only [← eh, List.getElem_map]
          have x2 : (yh[k2]'(by omega)).2 = q.held[k2] := by simp only [← fh, List.getElem_map]
          rw [x1] at hp1 C1
          rw [x2] at hp2 C2
          have hpl : (q.held[k2]).itm.msg.props.length ≤ 140000 := hq.hp _ (List.getElem_mem _)
          generalize q.held[k2] = x at *
          obtain ⟨pa1, pc1, rfl⟩ := hp1.shape
          obtain ⟨pa2, pc2, rfl⟩ := hp2.shape
          have HA : Hid (∀ W, Below w.heap.size w W → Calls Tryd.prog 23 #[.agg (itmV x.itm (.slice pa1 x.itm.msg.props.length pc1)).toArray, .agg (itmV x.itm (.slice pa2 x.itm.msg.props.length pc2)).toArray] W fun e w' => e = .returned (.bool true) ∧ Below W.heap.size W w') := fun W b => sameItem_same W x.itm _ _ (hp1.on b) (hp2.on b) (by omega)
          clear hh gh eh fh l3 l4 hql x1 x2 hp1 hp2 hpl
          obtain ⟨c0, c1, c2, c3, c4, c5, c6⟩ := HT.out.a.c7
          obtain ⟨d0, d1, d2, d3, d4, d5, d6⟩ := HT.out.b.c7
          obtain ⟨e0, e1, e2, e3, e4, e5, e6, e7, e8, e9⟩ := C1 wt HT.out.l
          obtain ⟨f0, f1, f2, f3, f4, f5, f6, f7, f8, f9⟩ := C2 wt HT.out.l
          clear C1 C2
          have L1 : w.heap.size < wt.heap.size := HT.out.a.lt
          have L2 : w.heap.size + 1 < wt.heap.size := HT.out.b.lt
          have L3 : b1 < wt.heap.size := World.block_lt_of_cell? wt _ e0
          have L4 : b2 < wt.heap.size := World.block_lt_of_cell? wt _ f0
          have L1' : w.heap.size ≠ wt.heap.size := by omega
          have L2' : w.heap.size + 1 ≠ wt.heap.size := by omega
          have L3' : b1 ≠ wt.heap.size := by omega
          have L4' : b2 ≠ wt.heap.size := by omega
          have L5' : w.heap.size + 1 ≠ wt.heap.size + 1 := by omega
          have L6' : b1 ≠ wt.heap.size + 1 := by omega
          have L7' : b2 ≠ wt.heap.size + 1 := by omega
          generalize x.itm.msg.props.length = np at *
          go_upto_region 12 with fail
          go_cut [7, 8] (fun s7 s8 wq => ∃ gA gB : Nat, s7 = .pointer (some ⟨gA, 0, none⟩) ∧ s8 = .pointer (some ⟨gB, 0, none⟩) ∧ Hid (Blk wq gA #[.int .i64 x.tag, .int .i64 x.conn, .int .i64 x.sub, .int .i64 x.itm.seq, .bool x.itm.again, .string ⟨x.itm.msg.topic.toArray⟩, .string ⟨x.itm.msg.body.toArray⟩, .slice pa1 np pc1, .bool x.itm.msg.dur, .int .i64 x.itm.msg.til] 45 ∧ Blk wq gB #[.int .i64 x.tag, .int .i64 x.conn, .int .i64 x.sub, .int .i64 x.itm.seq, .bool x.itm.again, .string ⟨x.itm.msg.topic.toArray⟩, .string ⟨x.itm.msg.body.toArray⟩, .slice pa2 np pc2, .bool x.itm.msg.dur, .int .i64 x.itm.msg.til] 45 ∧ SaS w wq #[tx q.name, .bool q.dur, .int .i64 q.depth, .int .i64 q.seq, .int .i64 q.tag, .slice ai ni ci, .slice (some ⟨b1, o1, none⟩) nh ch] #[tx q.name, .bool q.dur, .int .i64 q.depth, .int .i64 q.seq, .int .i64 q.tag, .slice bi ni di, .slice (some ⟨b2, o2, none⟩) nh dh]))
          case first =>
            go_region
            all_goals clear c0 c1 c2 c3 c4 c5 c6 d0 d1 d2 d3 d4 d5 d6 e0 e1 e2 e3 e4 e5 e6 e7 e8 e9 f0 f1 f2 f3 f4 f5 f6 f7 f8 f9 L1 L2 L3 L4 L1' L2' L3' L4' L5' L6' L7'
            · have kA : Blk ((wt.alloc (.cells #[.int .i64 x.tag, .int .i64 x.conn, .int .i64 x.sub, .int .i64 x.itm.seq, .bool x.itm.again, .string ⟨x.itm.msg.topic.toArray⟩, .string ⟨x.itm.msg.body.toArray⟩, .slice pa1 np pc1, .bool x.itm.msg.dur, .int .i64 x.itm.msg.til] 45)).alloc (.cells #[.int .i64 x.tag, .int .i64 x.conn, .int .i64 x.sub, .int .i64 x.itm.seq, .bool x.itm.again, .string ⟨x.itm.msg.topic.toArray⟩, .string ⟨x.itm.msg.body.toArray⟩, .slice pa2 np pc2, .bool x.itm.msg.dur, .int .i64 x.itm.msg.til] 45)).drew wt.heap.size #[.int .i64 x.tag, .int .i64 x.conn, .int .i64 x.sub, .int .i64 x.itm.seq, .bool x.itm.again, .string ⟨x.itm.msg.topic.toArray⟩, .string ⟨x.itm.msg.body.toArray⟩, .slice pa1 np pc1, .bool x.itm.msg.dur, .int .i64 x.itm.msg.til] 45 := ⟨((Blk.new wt _ _).alloc _).h⟩
              have kB : Blk ((wt.alloc (.cells #[.int .i64 x.tag, .int .i64 x.conn, .int .i64 x.sub, .int .i64 x.itm.seq, .bool x.itm.again, .string ⟨x.itm.msg.topic.toArray⟩, .string ⟨x.itm.msg.body.toArray⟩, .slice pa1 np pc1, .bool x.itm.msg.dur, .int .i64 x.itm.msg.til] 45)).alloc (.cells #[.int .i64 x.tag, .int .i64 x.conn, .int .i64 x.sub, .int .i64 x.itm.seq, .bool x.itm.again, .string ⟨x.itm.msg.topic.toArray⟩, .string ⟨x.itm.msg.body.toArray⟩, .slice pa2 np pc2, .bool x.itm.msg.dur, .int .i64 x.itm.msg.til] 45)).drew (wt.heap.size + 1) #[.int .i64 x.tag, .int .i64 x.conn, .int .i64 x.sub, .int .i64 x.itm.seq, .bool x.itm.again, .string ⟨x.itm.msg.topic.toArray⟩, .string ⟨x.itm.msg.body.toArray⟩, .slice pa2 np pc2, .bool x.itm.msg.dur, .int .i64 x.itm.msg.til] 45 := by
                have := Blk.new (wt.alloc (.cells #[.int .i64 x.tag, .int .i64 x.conn, .int .i64 x.sub, .int .i64 x.itm.seq, .bool x.itm.again, .string ⟨x.itm.msg.topic.toArray⟩, .string ⟨x.itm.msg.body.toArray⟩, .slice pa1 np pc1, .bool x.itm.msg.dur, .int .i64 x.itm.msg.til] 45)) #[.int .i64 x.tag, .int .i64 x.conn, .int .i64 x.sub, .int .i64 x.itm.seq, .bool x.itm.again, .string ⟨x.itm.msg.topic.toArray⟩, .string ⟨x.itm.msg.body.toArray⟩, .slice pa2 np pc2, .bool x.itm.msg.dur, .int .i64 x.itm.msg.til] 45
                rw [World.size_alloc] at this
                exact ⟨this.h⟩
              have bb : Below wt.heap.size wt ((wt.alloc (.cells #[.int .i64 x.tag, .int .i64 x.conn, .int .i64 x.sub, .int .i64 x.itm.seq, .bool x.itm.again, .string ⟨x.itm.msg.topic.toArray⟩, .string ⟨x.itm.msg.body.toArray⟩, .slice pa1 np pc1, .bool x.itm.msg.dur, .int .i64 x.itm.msg.til] 45)).alloc (.cells #[.int .i64 x.tag, .int .i64 x.conn, .int .i64 x.sub, .int .i64 x.itm.seq, .bool x.itm.again, .string ⟨x.itm.msg.topic.toArray⟩, .string ⟨x.itm.msg.body.toArray⟩, .slice pa2 np pc2, .bool x.itm.msg.dur, .int .i64 x.itm.msg.til] 45)).drew := (((Below.refl _ wt).alloc (Nat.le_refl _) _).alloc (by simp) _).drew
              go_wp2_with fail
              go_meet
              exact ⟨_, _, rfl, rfl, kA, kB, HT.out.on bb⟩
            · have kA : Blk ((wt.alloc (.cells #[.int .i64 x.tag, .int .i64 x.conn, .int .i64 x.sub, .int .i64 x.itm.seq, .bool x.itm.again, .string ⟨x.itm.msg.topic.toArray⟩, .string ⟨x.itm.msg.body.toArray⟩, .slice pa2 np pc2, .bool x.itm.msg.dur, .int .i64 x.itm.msg.til] 45)).alloc (.cells #[.int .i64 x.tag, .int .i64 x.conn, .int .i64 x.sub, .int .i64 x.itm.seq, .bool x.itm.again, .string ⟨x.itm.msg.topic.toArray⟩, .string ⟨x.itm.msg.body.toArray⟩, .slice pa1 np pc1, .bool x.itm.msg.dur, .int .i64 x.itm.msg.til] 45)).drew wt.heap.size #[.int .i64 x.tag, .int .i64 x.conn, .int .i64 x.sub, .int .i64 x.itm.seq, .bool x.itm.again, .string ⟨x.itm.msg.topic.toArray⟩, .string ⟨x.itm.msg.body.toArray⟩, .slice pa2 np pc2, .bool x.itm.msg.dur, .int .i64 x.itm.msg.til] 45 := ⟨((Blk.new wt _ _).alloc _).h⟩
              have kB : Blk ((wt.alloc (.cells #[.int .i64 x.tag, .int .i64 x.conn, .int .i64 x.sub, .int .i64 x.itm.seq, .bool x.itm.again, .string ⟨x.itm.msg.topic.toArray⟩, .string ⟨x.itm.msg.body.toArray⟩, .slice pa2 np pc2, .bool x.itm.msg.dur, .int .i64 x.itm.msg.til] 45)).alloc (.cells #[.int .i64 x.tag, .int .i64 x.conn, .int .i64 x.sub, .int .i64 x.itm.seq, .bool x.itm.again, .string ⟨x.itm.msg.topic.toArray⟩, .string ⟨x.itm.msg.body.toArray⟩, .slice pa1 np pc1, .bool x.itm.msg.dur, .int .i64 x.itm.msg.til] 45)).drew (wt.heap.size + 1) #[.int .i64 x.tag, .int .i64 x.conn, .int .i64 x.sub, .int .i64 x.itm.seq, .bool x.itm.again, .string ⟨x.itm.msg.topic.toArray⟩, .string ⟨x.itm.msg.body.toArray⟩, .slice pa1 np pc1, .bool x.itm.msg.dur, .int .i64 x.itm.msg.til] 45 := by
                have := Blk.new (wt.alloc (.cells #[.int .i64 x.tag, .int .i64 x.conn, .int .i64 x.sub, .int .i64 x.itm.seq, .bool x.itm.again, .string ⟨x.itm.msg.topic.toArray⟩, .string ⟨x.itm.msg.body.toArray⟩, .slice pa2 np pc2, .bool x.itm.msg.dur, .int .i64 x.itm.msg.til] 45)) #[.int .i64 x.tag, .int .i64 x.conn, .int .i64 x.sub, .int .i64 x.itm.seq, .bool x.itm.again, .string ⟨x.itm.msg.topic.toArray⟩, .string ⟨x.itm.msg.body.toArray⟩, .slice pa1 np pc1, .bool x.itm.msg.dur, .int .i64 x.itm.msg.til] 45
                rw [World.size_alloc] at this
                exact ⟨this.h⟩
              have bb : Below wt.heap.size wt ((wt.alloc (.cells #[.int .i64 x.tag, .int .i64 x.conn, .int .i64 x.sub, .int .i64 x.itm.seq, .bool x.itm.again, .string ⟨x.itm.msg.topic.toArray⟩, .string ⟨x.itm.msg.body.toArray⟩, .slice pa2 np pc2, .bool x.itm.msg.dur, .int .i64 x.itm.msg.til] 45)).alloc (.cells #[.int .i64 x.tag, .int .i64 x.conn, .int .i64 x.sub, .int .i64 x.itm.seq, .bool x.itm.again, .string ⟨x.itm.msg.topic.toArray⟩, .string ⟨x.itm.msg.body.toArray⟩, .slice pa1 np pc1, .bool x.itm.msg.dur, .int .i64 x.itm.msg.til] 45)).drew := (((Below.refl _ wt).alloc (Nat.le_refl _) _).alloc (by simp) _).drew
              go_wp2_with fail
              go_meet
              exact ⟨_, _, rfl, rfl, kB, kA, HT.out.on bb⟩
          case rest =>
            obtain ⟨gA, gB, rfl, rfl, HU⟩ := hcut
            clear c0 c1 c2 c3 c4 c5 c6 d0 d1 d2 d3 d4 d5 d6 e0 e1 e2 e3 e4 e5 e6 e7 e8 e9 f0 f1 f2 f3 f4 f5 f6 f7 f8 f9 L1 L2 L3 L4 L1' L2' L3' L4' L5' L6' L7' HT
            have HB := HA.out wc HU.out.2.2.l
            unfold itmV at HB
            obtain ⟨c0, c1, c2, c3, c4, c5, c6, c7, c8, c9⟩ := HU.out.1.c10
            obtain ⟨d0, d1, d2, d3, d4, d5, d6, d7, d8, d9⟩ := HU.out.2.1.c10
            have S5 : Hid (SaS w wc #[tx q.name, .bool q.dur, .int .i64 q.depth, .int .i64 q.seq, .int .i64 q.tag, .slice ai ni ci, .slice (some ⟨b1, o1, none⟩) nh ch] #[tx q.name, .bool q.dur, .int .i64 q.depth, .int .i64 q.seq, .int .i64 q.tag, .slice bi ni di, .slice (some ⟨b2, o2, none⟩) nh dh]) := HU.out.2.2
            clear HU HA
            go_wp2_with fail
            refine HB.mono ?_
            rintro e w6 ⟨rfl, b6⟩
            have S6 : Hid (SaS w w6 #[tx q.name, .bool q.dur, .int .i64 q.depth, .int .i64 q.seq, .int .i64 q.tag, .slice ai ni ci, .slice (some ⟨b1, o1, none⟩) nh ch] #[tx q.name, .bool q.dur, .int .i64 q.depth, .int .i64 q.seq, .int .i64 q.tag, .slice bi ni di, .slice (some ⟨b2, o2, none⟩) nh dh]) := S5.out.on b6
            clear S5 b6 HB c0 c1 c2 c3 c4 c5 c6 c7 c8 c9 d0 d1 d2 d3 d4 d5 d6 d7 d8 d9
            go_wp2_with fail
            go_roundg (nh - (k2 + 1))
            case measure => omega
            case rel => exact ⟨k2 + 1, by omega, by omega, by go_num, S6⟩
        · have hl2z : ¬ (k2 : Int) < (nh : Int) := by omega
          go_wp2
          go_ret
          exact ⟨rfl, HT.out.l⟩
end Go.Proofs.YtlbcefocmdnlgabDoor
namespace Go.Proofs.YtlbcefocmdnlgabDoor
open Go.RowKit Go.Lib
set_option linter.unusedSimpArgs false

theorem expire_later {q : Que} {now later : Int} (h : now ≤ later) : expireQ (expireQ q now) later = expireQ q later := by
  have e : (q.items.filter (fun x => !oldB now x)).filter (fun x => !oldB later x) = q.items.filter (fun x => !oldB later x) := by
    rw [List.filter_filter]
    congr 1
    funext x
    simp only [oldB]
    by_cases h1 : 0 < x.msg.til <;> by_cases h2 : x.msg.til ≤ later <;> by_cases h3 : x.msg.til ≤ now <;> simp [h1, h2, h3]
    omega
  simp only [expireQ, e]
theorem expire_less {q : Que} {now later : Int} (h : now ≤ later) : (expireQ q later).items.length ≤ (expireQ q now).items.length := by
  rw [← expire_later h]
  exact List.length_filter_le ..
/-- How many stay. -/
def cntK (now : Int) (l : List Itm) : Nat := l.countP fun x => decide (x.msg.til = 0) || decide (x.msg.til > now)
theorem cntK_snoc (now : Int) (l : List Itm) (x : Itm) : cntK now (l ++ [x]) = cntK now l + if (decide (x.msg.til = 0) || decide (x.msg.til > now)) = true then 1 else 0 := by
  simp only [cntK, List.countP_append, List.countP_cons, List.countP_nil, Nat.zero_add]
theorem expire_count {q : Que} (hg : GoodP q) (now : Int) : (expireQ q now).items.length = cntK now q.items := by
  show (q.items.filter (fun x => !oldB now x)).length = _
  rw [← List.countP_eq_length_filter]
  refine List.countP_congr fun x hx => ?_
  have h1 := hg.it x hx
  simp only [itmB, msgB, numB, Bool.and_eq_true, decide_eq_true_eq] at h1
  simp only [oldB, Bool.not_eq_true', Bool.and_eq_false_iff, decide_eq_false_iff_not, Bool.or_eq_true, decide_eq_true_eq]
  omega
theorem expire_none {q : Que} {now : Int} {x : Itm} (h : x ∈ (expireQ q now).items) (h0 : x.msg.til > 0) : ¬ x.msg.til ≤ now := fun h1 => by
  have h2 := (List.mem_filter.1 h).2
  simp only [oldB, Bool.not_eq_true', Bool.and_eq_false_iff, decide_eq_false_iff_not] at h2
  omega
end Go.Proofs.YtlbcefocmdnlgabDoor

namespace Go.Proofs.YtlbcefocmdnlgabDoor
open Go.RowKit Go.Lib
set_option maxRecDepth 100000
set_option linter.unusedSimpArgs false

theorem expire_at {W : World} (hva : To.Vars W) {q q' : Que} {iv hv : Value} (hi : RdI W iv q.items) (hh : RdH W hv q.held) {now : Int} (hc : goodQ q = true) (hq : expireQ q now = q') (hl : lenQ q ≤ 1000000) :
    Calls Tryd.prog 7 #[.agg #[tx q.name, .bool q.dur, .int .i64 q.depth, .int .i64 q.seq, .int .i64 q.tag, iv, hv], .int .i64 now] W fun e w' => ∃ v', e = .returned (.tuple #[v', .int .i64 0]) ∧ OwnQ w' W.heap.size v' q' ∧ Below W.heap.size W w' := by
  have h := expire_any W hva _ q ⟨iv, hv, rfl, hi, hh⟩ now hl
  have e0 : relC q = 0 := by simp [relC, hc]
  rw [e0, if_pos rfl, hq] at h
  exact h

set_option maxHeartbeats 4000000 in
theorem expires_law (w : World) (hva : To.Vars w) (v : Value) (q : Que) (h : RdQ w v q) (hbig : lenQ q ≤ 9223372036854775806) (now later : Int) :
    Calls Tryd.prog 3 #[v, .int .i64 now, .int .i64 later] w fun e w' => e = .returned (.bool true) ∧ Below w.heap.size w w' := by
  obtain ⟨iv, hv, rfl, hi, hh⟩ := h
  obtain ⟨ai, ci, rfl⟩ := hi.len
  obtain ⟨ah, ch, rfl⟩ := hh.len
  obtain ⟨ni, hni⟩ : ∃ n, q.items.length = n := ⟨_, rfl⟩
  obtain ⟨nh, hnh⟩ : ∃ n, q.held.length = n := ⟨_, rfl⟩
  rw [hni] at hi ⊢
  rw [hnh] at hh ⊢
  have NQ : Hid (q.items.length = ni ∧ q.held.length = nh) := ⟨hni, hnh⟩
  have RQ : Hid (RdI w (.slice ai ni ci) q.items ∧ RdH w (.slice ah nh ch) q.held) := ⟨hi, hh⟩
  clear hi hh hni hnh
  have B0 := (Below.refl w.heap.size w).alloc (Nat.le_refl _) (.cells #[tx q.name, .bool q.dur, .int .i64 q.depth, .int .i64 q.seq, .int .i64 q.tag, .slice ai ni ci, .slice ah nh ch] 25)
  have K0 := Blk.new w #[tx q.name, .bool q.dur, .int .i64 q.depth, .int .i64 q.seq, .int .i64 q.tag, .slice ai ni ci, .slice ah nh ch] 25
  unfold queV at *
  go_enter Tryd.func3, Tryd.ntmps3
  go_upto_region 1 with fail
  generalize w.alloc (.cells #[tx q.name, .bool q.dur, .int .i64 q.depth, .int .i64 q.seq, .int .i64 q.tag, .slice ai ni ci, .slice ah nh ch] 25) = w1 at *
  go_wp2_with fail
  refine (wakes_any w1 (hva.below B0)).mono ?_
  rintro e w2 ⟨rfl, b2⟩
  have B2 := nxt B0 b2
  have K2 : Hid (Blk w2 w.heap.size #[tx q.name, .bool q.dur, .int .i64 q.depth, .int .i64 q.seq, .int .i64 q.tag, .slice ai ni ci, .slice ah nh ch] 25) := K0.on b2
  have R2 := RQ.out.1.on B2
  have R2' := RQ.out.2.on B2
  have HL := long_any w2 _ q ⟨_, _, rfl, R2, R2'⟩ hbig
  have HG2 := fun (W : World) (b : Below w2.heap.size w2 W) (hs : lenQ q ≤ 200) => good_any W (hva.below (nxt B2 b)) _ q ⟨_, _, rfl, R2.on b, R2'.on b⟩ (by omega)
  have BB : Hid (Below w.heap.size w w2) := B2
  clear B0 K0 b2 R2 R2' B2
  unfold queV at HL HG2
  go_wp2_with (refine wpl_load25 rfl (.tmp 3) rfl _ _ rfl K2.out rfl ?_)
  refine HL.mono ?_
  rintro e w3 ⟨⟨bl, rfl, hbl⟩, b3⟩
  have B3 : Hid (Below w.heap.size w w3) := nxt BB.out b3
  have K3 : Hid (Blk w3 w.heap.size #[tx q.name, .bool q.dur, .int .i64 q.depth, .int .i64 q.seq, .int .i64 q.tag, .slice ai ni ci, .slice ah nh ch] 25) := K2.out.on b3
  clear HL K2
  cases bl with
  | true =>
    clear HG2 hbl
    go_wp2
    go_ret
    exact ⟨rfl, B3.out⟩
  | false =>
    have hl200 := hbl rfl
    have HG := HG2 w3 b3 hl200
    clear hbl HG2 b3 BB
    obtain ⟨c0, c1, c2, c3, c4, c5, c6⟩ := K3.out.c7
    go_wp2_with fail
    refine HG.mono ?_
    rintro e w4 ⟨rfl, b4⟩
    have B4 : Hid (Below w.heap.size w w4) := nxt B3.out b4
    have K4 : Hid (Blk w4 w.heap.size #[tx q.name, .bool q.dur, .int .i64 q.depth, .int .i64 q.seq, .int .i64 q.tag, .slice ai ni ci, .slice ah nh ch] 25) := K3.out.on b4
    clear HG K3 B3 b4 c0 c1 c2 c3 c4 c5 c6
    cases hg : goodQ q with
    | false =>
      go_wp2
      go_ret
      exact ⟨rfl, B4.out⟩
    | true =>
      by_cases hlt : later < now
      · clear hg
        go_wp2
        go_ret
        exact ⟨rfl, B4.out⟩
      have hb0 : decide (later < now) = false := by simpa using hlt
      obtain ⟨x, hx⟩ : ∃ x, expireQ q now = x := ⟨_, rfl⟩
      obtain ⟨y, hy⟩ : ∃ y, expireQ q later = y := ⟨_, rfl⟩
      have hle : now ≤ later := by omega
      have HP := (goodQ_iff q).1 hg
      have hz : expireQ x later = y := by rw [← hx, ← hy]; exact expire_later hle
      have hgx : goodQ x = true := by rw [← hx]; exact (goodQ_iff _).2 (good_expire HP now)
      have hgy : goodQ y = true := by rw [← hy]; exact (goodQ_iff _).2 (good_expire HP later)
      have hq64 := (goodQ_small hg).2.1
      have hx64 := (goodQ_small hgx).2.1
      have hyx : y.items.length ≤ x.items.length := by rw [← hx, ← hy]; exact expire_less hle
      have hxh : x.held.length = nh := by rw [← hx, ← NQ.out.2]; rfl
      have hyh : y.held.length = nh := by rw [← hy, ← NQ.out.2]; rfl
      have hcx : x.items.length = cntK now q.items := by rw [← hx]; exact expire_count HP now
      have HR1 := expire_at (hva.below B4.out) (RQ.out.1.on B4.out) (RQ.out.2.on B4.out) hg hx (by omega)
      have HR2 := fun (W : World) (b : Below w.heap.size w W) => expire_at (hva.below b) (RQ.out.1.on b) (RQ.out.2.on b) hg hy (by omega)
      have FX : Hid (expireQ q now = x ∧ expireQ x later = y ∧ goodQ x = true ∧ goodQ y = true ∧ lenQ x ≤ 64 ∧ lenQ q ≤ 64) := ⟨hx, hz, hgx, hgy, hx64, hq64⟩
      obtain ⟨mi, hmi⟩ : ∃ n, x.items.length = n := ⟨_, rfl⟩
      obtain ⟨li, hli⟩ : ∃ n, y.items.length = n := ⟨_, rfl⟩
      rw [hmi] at hyx hcx
      rw [hli] at hyx
      have NX : Hid (x.items.length = mi ∧ x.held.length = nh ∧ y.items.length = li ∧ y.held.length = nh ∧ mi = cntK now q.items) := ⟨hmi, hxh, hli, hyh, hcx⟩
      clear HP hx hy hz hgx hgy hg hq64 hx64 hle hmi hli hxh hyh hcx hl200
      go_wp2_with (refine wpl_load25 rfl (.tmp 3) rfl _ _ rfl K4.out rfl ?_)
      refine HR1.mono ?_
      rintro e w5 ⟨v5, rfl, ⟨iv5, hv5, rfl, oi5, oh5⟩, b5⟩
      obtain ⟨bi, di, rfl⟩ := oi5.rd.len
      obtain ⟨bh, dh, rfl⟩ := oh5.rd.len
      rw [NX.out.1] at oi5 ⊢
      rw [NX.out.2.1] at oh5 ⊢
      have O5 : Hid (RdI w5 (.slice bi mi di) x.items ∧ RdH w5 (.slice bh nh dh) x.held) := ⟨oi5.rd, oh5.rd⟩
      have B5 : Hid (Below w.heap.size w w5) := nxt B4.out b5
      have K5 : Hid (Blk w5 w.heap.size #[tx q.name, .bool q.dur, .int .i64 q.depth, .int .i64 q.seq, .int .i64 q.tag, .slice ai ni ci, .slice ah nh ch] 25) := K4.out.on b5
      clear oi5 oh5 HR1 b5 K4 B4
      unfold queV
      go_wp2_with (refine wpl_fresh rfl (.tmp 7) (.tmp 36) rfl _ _ rfl rfl (by kernel_rfl) rfl (by simp [Value.oneCell']) ?_)
      intro w6 k6 b6 s6
      have K6 : Hid (Blk w6 w.heap.size #[tx q.name, .bool q.dur, .int .i64 q.depth, .int .i64 q.seq, .int .i64 q.tag, .slice ai ni ci, .slice ah nh ch] 25) := K5.out.on b6
      have X6 : Hid (Blk w6 w5.heap.size #[tx x.name, .bool x.dur, .int .i64 x.depth, .int .i64 x.seq, .int .i64 x.tag, .slice bi mi di, .slice bh nh dh] 25) := k6
      have B6 : Hid (Below w.heap.size w w6) := nxt B5.out b6
      have O6 : Hid (RdI w6 (.slice bi mi di) x.items ∧ RdH w6 (.slice bh nh dh) x.held) := ⟨O5.out.1.on b6, O5.out.2.on b6⟩
      clear k6 b6 s6 K5 B5 O5
      generalize w5.heap.size = g7 at *
      have HR := HR2 w6 B6.out
      clear HR2
      go_wp2_with (refine wpl_load25 rfl (.tmp 3) rfl _ _ rfl K6.out rfl ?_)
      refine HR.mono ?_
      rintro e w7 ⟨v7, rfl, ⟨iv7, hv7, rfl, oi7, oh7⟩, b7⟩
      obtain ⟨ei, fi, rfl⟩ := oi7.rd.len
      obtain ⟨eh, fh, rfl⟩ := oh7.rd.len
      rw [NX.out.2.2.1] at oi7 ⊢
      rw [NX.out.2.2.2.1] at oh7 ⊢
      have K7 : Hid (Blk w7 w.heap.size #[tx q.name, .bool q.dur, .int .i64 q.depth, .int .i64 q.seq, .int .i64 q.tag, .slice ai ni ci, .slice ah nh ch] 25) := K6.out.on b7
      have X7 : Hid (Blk w7 g7 #[tx x.name, .bool x.dur, .int .i64 x.depth, .int .i64 x.seq, .int .i64 x.tag, .slice bi mi di, .slice bh nh dh] 25) := X6.out.on b7
      have B7 : Hid (Below w.heap.size w w7) := nxt B6.out b7
      have O7 : Hid (RdI w7 (.slice bi mi di) x.items ∧ RdH w7 (.slice bh nh dh) x.held) := ⟨O6.out.1.on b7, O6.out.2.on b7⟩
      have P7 : Hid (RdI w7 (.slice ei li fi) y.items ∧ RdH w7 (.slice eh nh fh) y.held) := ⟨oi7.rd, oh7.rd⟩
      clear oi7 oh7 b7 K6 X6 B6 O6 HR
      unfold queV
      go_wp2_with (refine wpl_fresh rfl (.tmp 9) (.tmp 42) rfl _ _ rfl rfl (by kernel_rfl) rfl (by simp [Value.oneCell']) ?_)
      intro w8 k8 b8 s8
      have K8 : Hid (Blk w8 w.heap.size #[tx q.name, .bool q.dur, .int .i64 q.depth, .int .i64 q.seq, .int .i64 q.tag, .slice ai ni ci, .slice ah nh ch] 25) := K7.out.on b8
      have X8 : Hid (Blk w8 g7 #[tx x.name, .bool x.dur, .int .i64 x.depth, .int .i64 x.seq, .int .i64 x.tag, .slice bi mi di, .slice bh nh dh] 25) := X7.out.on b8
      have Y8 : Hid (Blk w8 w7.heap.size #[tx y.name, .bool y.dur, .int .i64 y.depth, .int .i64 y.seq, .int .i64 y.tag, .slice ei li fi, .slice eh nh fh] 25) := k8
      have B8 : Hid (Below w.heap.size w w8) := nxt B7.out b8
      have O8 : Hid (RdI w8 (.slice bi mi di) x.items ∧ RdH w8 (.slice bh nh dh) x.held) := ⟨O7.out.1.on b8, O7.out.2.on b8⟩
      have P8 : Hid (RdI w8 (.slice ei li fi) y.items ∧ RdH w8 (.slice eh nh fh) y.held) := ⟨P7.out.1.on b8, P7.out.2.on b8⟩
      clear k8 b8 s8 K7 X7 B7 O7 P7
      generalize w7.heap.size = g9 at *
      have HR := expire_at (hva.below B8.out) O8.out.1 O8.out.2 FX.out.2.2.1 FX.out.2.1 (by have := FX.out.2.2.2.2.1; omega)
      go_wp2_with (refine wpl_load25 rfl (.tmp 7) rfl _ _ rfl X8.out rfl ?_)
      refine HR.mono ?_
      rintro e w9 ⟨v9, rfl, ⟨iv9, hv9, rfl, oi9, oh9⟩, b9⟩
      obtain ⟨ri, si, rfl⟩ := oi9.rd.len
      obtain ⟨rh, sh, rfl⟩ := oh9.rd.len
      rw [NX.out.2.2.1] at oi9 ⊢
      rw [NX.out.2.2.2.1] at oh9 ⊢
      have K9 : Hid (Blk w9 w.heap.size #[tx q.name, .bool q.dur, .int .i64 q.depth, .int .i64 q.seq, .int .i64 q.tag, .slice ai ni ci, .slice ah nh ch] 25 ∧ Blk w9 g7 #[tx x.name, .bool x.dur, .int .i64 x.depth, .int .i64 x.seq, .int .i64 x.tag, .slice bi mi di, .slice bh nh dh] 25 ∧ Blk w9 g9 #[tx y.name, .bool y.dur, .int .i64 y.depth, .int .i64 y.seq, .int .i64 y.tag, .slice ei li fi, .slice eh nh fh] 25) := ⟨K8.out.on b9, X8.out.on b9, Y8.out.on b9⟩
      have B9 : Hid (Below w.heap.size w w9) := nxt B8.out b9
      have O9 : Hid (RdI w9 (.slice bi mi di) x.items) := O8.out.1.on b9
      have P9 : Hid (RdI w9 (.slice ei li fi) y.items ∧ RdH w9 (.slice eh nh fh) y.held ∧ RdI w9 (.slice ri li si) y.items ∧ RdH w9 (.slice rh nh sh) y.held) := ⟨P8.out.1.on b9, P8.out.2.on b9, oi9.rd, oh9.rd⟩
      clear oi9 oh9 b9 K8 X8 Y8 B8 O8 P8 HR
      unfold queV
      go_wp2_with (refine wpl_fresh rfl (.tmp 11) (.tmp 48) rfl _ _ rfl rfl (by kernel_rfl) rfl (by simp [Value.oneCell']) ?_)
      intro wA kA bA sA
      have KA : Hid (Blk wA w.heap.size #[tx q.name, .bool q.dur, .int .i64 q.depth, .int .i64 q.seq, .int .i64 q.tag, .slice ai ni ci, .slice ah nh ch] 25 ∧ Blk wA g7 #[tx x.name, .bool x.dur, .int .i64 x.depth, .int .i64 x.seq, .int .i64 x.tag, .slice bi mi di, .slice bh nh dh] 25) := ⟨K9.out.1.on bA, K9.out.2.1.on bA⟩
      have BA : Hid (Below w.heap.size w wA) := nxt B9.out bA
      have OA : Hid (RdI wA (.slice bi mi di) x.items) := O9.out.on bA
      have YA := K9.out.2.2.on bA
      have HE := same_same wA _ _ y ⟨_, _, rfl, P9.out.1.on bA, P9.out.2.1.on bA⟩ ⟨_, _, rfl, P9.out.2.2.1.on bA, P9.out.2.2.2.on bA⟩ (goodQ_small FX.out.2.2.2.1).1
      unfold queV at HE
      obtain ⟨a0, a1, a2, a3, a4, a5, a6⟩ := YA.c7
      obtain ⟨z0, z1, z2, z3, z4, z5, z6⟩ := kA.c7
      generalize w9.heap.size = gB at *
      have YA' : Hid (Blk wA g9 #[tx y.name, .bool y.dur, .int .i64 y.depth, .int .i64 y.seq, .int .i64 y.tag, .slice ei li fi, .slice eh nh fh] 25) := YA
      clear bA sA kA K9 B9 O9 P9 YA
      go_wp2_with fail
      refine HE.mono ?_
      rintro e wB ⟨rfl, bB⟩
      have KB : Hid (Blk wB w.heap.size #[tx q.name, .bool q.dur, .int .i64 q.depth, .int .i64 q.seq, .int .i64 q.tag, .slice ai ni ci, .slice ah nh ch] 25 ∧ Blk wB g7 #[tx x.name, .bool x.dur, .int .i64 x.depth, .int .i64 x.seq, .int .i64 x.tag, .slice bi mi di, .slice bh nh dh] 25) := ⟨KA.out.1.on bB, KA.out.2.on bB⟩
      have BB : Hid (Below w.heap.size w wB) := nxt BA.out bB
      have OB : Hid (RdI wB (.slice bi mi di) x.items) := OA.out.on bB
      have q5 : wB.cell? ⟨w.heap.size, 5, none⟩ = some (.slice ai ni ci) := KB.out.1.cell 5
      have q6 : wB.cell? ⟨w.heap.size, 6, none⟩ = some (.slice ah nh ch) := KB.out.1.cell 6
      have x5 : wB.cell? ⟨g7, 5, none⟩ = some (.slice bi mi di) := KB.out.2.cell 5
      have x6 : wB.cell? ⟨g7, 6, none⟩ = some (.slice bh nh dh) := KB.out.2.cell 6
      have y5 : wB.cell? ⟨g9, 5, none⟩ = some (.slice ei li fi) := (YA'.out.on bB).cell 5
      clear HE KA BA OA YA' bB a0 a1 a2 a3 a4 a5 a6 z0 z1 z2 z3 z4 z5 z6
      have hyz : ¬ (li : Int) > (mi : Int) := by omega
      have hb1 : decide ((mi : Int) < (li : Int)) = false := by simp; omega
      have hb2 : decide (mi < li) = false := by simp; omega
      obtain ⟨zq, eq1, hzq⟩ := RQ.out.1.on BB.out
      obtain ⟨zx, eq2, hzx⟩ := OB.out
      have HI : Hid (RdZ 7 (ItR (RdP wB)) wB (.slice ai ni ci) zq ∧ zq.map (·.2) = q.items ∧ zq.length = ni) := by
        refine (⟨hzq, eq1, ?_⟩ : RdZ 7 (ItR (RdP wB)) wB (.slice ai ni ci) zq ∧ zq.map (·.2) = q.items ∧ zq.length = ni)
        rw [← NQ.out.1, ← eq1, List.length_map]
      have HX : Hid (RdZ 7 (ItR (RdP wB)) wB (.slice bi mi di) zx ∧ zx.map (·.2) = x.items ∧ zx.length = mi) := by
        refine (⟨hzx, eq2, ?_⟩ : RdZ 7 (ItR (RdP wB)) wB (.slice bi mi di) zx ∧ zx.map (·.2) = x.items ∧ zx.length = mi)
        rw [← NX.out.1, ← eq2, List.length_map]
      have hni : ni ≤ 64 := by
        have h2 := FX.out.2.2.2.2.2
        rw [← NQ.out.1]
        exact Nat.le_trans (Nat.le_add_right _ _) h2
      have hmi : mi ≤ 64 := by
        have h2 := FX.out.2.2.2.2.1
        rw [← NX.out.1]
        exact Nat.le_trans (Nat.le_add_right _ _) h2
      clear eq1 eq2 hzq hzx OB RQ
      go_wp2_with fail
      go_loopg [13, 87] ni (fun gg s13 s87 wy => ∃ k c : Nat, k ≤ ni ∧ ni - k ≤ gg ∧ s87 = .int .i64 k ∧ s13 = .int .i64 c ∧ c ≤ k ∧ Hid (c = cntK now (q.items.take k)) ∧ Hid (Below wB.heap.size wB wy))
      case atStart => exact ⟨0, 0, Nat.zero_le _, by omega, rfl, rfl, Nat.le_refl _, rfl, Below.refl _ wB⟩
      case round =>
        obtain ⟨k, c, hk, hgk, rfl, rfl, hck, HC, HB⟩ := hrel
        clear q5 q6 x5 x6 y5
        obtain ⟨wy, hwy⟩ : ∃ W, W = wr := ⟨_, rfl⟩
        subst hwy
        by_cases hlk : k < ni
        · have hlkz : (k : Int) < (ni : Int) := by omega
          obtain ⟨b2, o2, pv2, rfl, hz2, hp2, e0, e1, e2, e3, e4, e5, e6⟩ := itm_at HI.out.1 HB.out (i := k) (by rw [HI.out.2.2]; exact hlk)
          have ET : Hid (q.items.take (k + 1) = q.items.take k ++ [(zq[k]'(by rw [HI.out.2.2]; exact hlk)).2]) := by
            show q.items.take (k + 1) = _
            rw [List.take_succ_eq_append_getElem (by rw [NQ.out.1]; exact hlk)]
            congr 2
            simp only [← HI.out.2.1, List.getElem_map]
          generalize (zq[k]'(by rw [HI.out.2.2]; exact hlk)).2 = z at *
          clear hz2
          obtain ⟨pa2, pc2, rfl⟩ := hp2.shape
          clear hp2
          generalize z.msg.props.length = np2 at *
          go_wp2_with (refine wpl_fresh rfl (.tmp 15) (.tmp 90) rfl _ _ rfl rfl (by kernel_rfl) rfl (by simp [Value.oneCell']) ?_)
          intro wq kz bz sz
          have HB1 : Hid (Below wB.heap.size wB wq) := nxt HB.out bz
          have d6 : wq.cell? ⟨wy.heap.size, 6, none⟩ = some (.int .i64 z.msg.til) := kz.cell 6
          clear HB e0 e1 e2 e3 e4 e5 e6 bz kz sz
          obtain ⟨tl, htl⟩ : ∃ t, z.msg.til = t := ⟨_, rfl⟩
          have TL : Hid (z.msg.til = tl) := htl
          rw [htl] at d6
          clear htl
          by_cases h0 : tl = 0
          · subst h0
            have HC1 : Hid (c + 1 = cntK now (q.items.take (k + 1))) := by
              show c + 1 = _
              rw [ET.out, cntK_snoc, if_pos (by rw [TL.out]; simp), ← HC.out]
            go_wp2_with fail
            go_roundg (ni - (k + 1))
            case measure => omega
            case rel => exact ⟨k + 1, c + 1, by omega, by omega, by go_num, by go_num, by omega, HC1, HB1⟩
          · by_cases h1 : tl > now
            · have HC1 : Hid (c + 1 = cntK now (q.items.take (k + 1))) := by
                show c + 1 = _
                rw [ET.out, cntK_snoc, if_pos (by rw [TL.out]; simp [h1]), ← HC.out]
              go_wp2_with fail
              go_roundg (ni - (k + 1))
              case measure => omega
              case rel => exact ⟨k + 1, c + 1, by omega, by omega, by go_num, by go_num, by omega, HC1, HB1⟩
            · have HC1 : Hid (c = cntK now (q.items.take (k + 1))) := by
                show c = _
                rw [ET.out, cntK_snoc, if_neg (by rw [TL.out]; simp [h0]; omega), ← HC.out]
                rfl
              go_wp2_with fail
              go_roundg (ni - (k + 1))
              case measure => omega
              case rel => exact ⟨k + 1, c, by omega, by omega, by go_num, rfl, by omega, HC1, HB1⟩
        · have hlkz : ¬ (k : Int) < (ni : Int) := by omega
          have hcm : c = mi := by
            have et : q.items.take k = q.items := List.take_of_length_le (by rw [NQ.out.1]; omega)
            have h1 := HC.out
            rw [et, ← NX.out.2.2.2.2] at h1
            exact h1
          subst hcm
          have x5 : wy.cell? ⟨g7, 5, none⟩ = some (.slice bi c di) := (KB.out.2.on HB.out).cell 5
          clear HI HC
          go_wp2_with fail
          go_loopg [108] c (fun gg s108 wz => ∃ j : Nat, j ≤ c ∧ c - j ≤ gg ∧ s108 = .int .i64 j ∧ Hid (Below wB.heap.size wB wz))
          case atStart => exact ⟨0, Nat.zero_le _, by omega, rfl, HB⟩
          case round =>
            obtain ⟨j, hj, hgj, rfl, HBz⟩ := hrel
            clear HB x5
            obtain ⟨wz, hwz⟩ : ∃ W, W = wr := ⟨_, rfl⟩
            subst hwz
            by_cases hlj : j < c
            · have hljz : (j : Int) < (c : Int) := by omega
              obtain ⟨b3, o3, pv3, rfl, hz3, hp3, e0, e1, e2, e3, e4, e5, e6⟩ := itm_at HX.out.1 HBz.out (i := j) (by rw [HX.out.2.2]; exact hlj)
              have MZ : Hid ((zx[j]'(by rw [HX.out.2.2]; exact hlj)).2 ∈ x.items) := by
                show (zx[j]'(by rw [HX.out.2.2]; exact hlj)).2 ∈ x.items
                exact (fun a (ha : a ∈ zx.map (·.2)) => (HX.out.2.1 ▸ ha : a ∈ x.items)) _ (List.mem_map_of_mem (List.getElem_mem _))
              generalize (zx[j]'(by rw [HX.out.2.2]; exact hlj)).2 = z at *
              clear hz3
              obtain ⟨pa3, pc3, rfl⟩ := hp3.shape
              clear hp3
              generalize z.msg.props.length = np3 at *
              go_wp2_with (refine wpl_fresh rfl (.tmp 17) (.tmp 111) rfl _ _ rfl rfl (by kernel_rfl) rfl (by simp [Value.oneCell']) ?_)
              intro wv kv bv sv
              have HB2 : Hid (Below wB.heap.size wB wv) := nxt HBz.out bv
              have d6 : wv.cell? ⟨wz.heap.size, 6, none⟩ = some (.int .i64 z.msg.til) := kv.cell 6
              clear HBz e0 e1 e2 e3 e4 e5 e6 bv kv sv
              by_cases h0 : z.msg.til > 0
              · have h1 : ¬ z.msg.til ≤ now := expire_none (q := q) (by rw [FX.out.1]; exact MZ.out) h0
                go_wp2_with fail
                go_roundg (c - (j + 1))
                case measure => omega
                case rel => exact ⟨j + 1, by omega, by omega, by go_num, HB2⟩
              · go_wp2_with fail
                go_roundg (c - (j + 1))
                case measure => omega
                case rel => exact ⟨j + 1, by omega, by omega, by go_num, HB2⟩
            · have hljz : ¬ (j : Int) < (c : Int) := by omega
              have x5 : wz.cell? ⟨g7, 5, none⟩ = some (.slice bi c di) := (KB.out.2.on HBz.out).cell 5
              clear HX
              go_wp2
              go_ret
              exact ⟨rfl, nxt BB.out HBz.out⟩
end Go.Proofs.YtlbcefocmdnlgabDoor

set_option maxRecDepth 100000
namespace Go.Proofs.YtlbcefocmdnlgabDoor
open Go.ChangeShapes Go.WideShapes Go.ChangeAt Go.RowKit Go.Lib
open Go.ChangeMaps (open_string shut_string)

theorem expires_contract (H : Type) (enc : TypeId × Value → H) (W : World) (base : Nat) (args : Array Value) (ds gs : List (DataW H)) (before : List MemPlace)
    (hval : ∀ (j : Nat) t v, Tryd.f3.params[j]? = some t → args[j]? = some v → Value.okWide Tryd.prog W .any base t v)
    (hW : DataW.Whole enc Tryd.prog Tryd.f3.params.toList Rows.queueExpiresSpec.vars false W args.toList ds gs before)
    (hsz0 : (DataW.weightsEach Tryd.prog (Tryd.f3.params.toList ++ Rows.queueExpiresSpec.plain.varTypes Tryd.prog) (ds ++ gs)).all (· ≤ reachBytes) = true)
    (_hL : laidMetH Tryd.prog Rows.queueExpiresRow.laid W) (hsh : W.ShapedOpen Tryd.prog) :
    Calls Tryd.prog 3 args W fun e W' => ∃ v, e = .returned v ∧ Rows.queueExpiresSpec.post enc Tryd.prog Tryd.f3 false true false false W args v W' := by
  have hv : To.Vars W := by
    exact vars_of_shape hsh
  have hW' := hW
  obtain ⟨p, q, hA0, hV, rfl, hfz, hnd⟩ := hW
  have hA : DataW.TrodAll enc Tryd.prog W 0 (fun _ => true) true Tryd.f3.params.toList args.toList ds p := hA0
  have hsz := hsz0
  rw [Tryd.params3] at hA hval hsz
  obtain ⟨v0, vs0, d0, ds0, p0, q0, hargs, rfl, rfl, h0, r0⟩ := trodAll_cons hA
  obtain ⟨v1, vs1, d1, ds1, p1, q1, rfl, rfl, rfl, h1, r1⟩ := trodAll_cons r0
  obtain ⟨v2, vs2, d2, ds2, p2, q2, rfl, rfl, rfl, h2, r2⟩ := trodAll_cons r1
  obtain ⟨rfl, rfl, rfl⟩ := trodAll_nil r2
  obtain rfl : args = #[v0, v1, v2] := by cases args; simp_all
  obtain ⟨rfl, rfl⟩ := trodVars_none hV
  have lt0 : ∀ x ∈ p0, x.block < W.heap.size := by obtain ⟨m, hm⟩ := h0; exact DataW.trod_lt m _ _ _ hm
  obtain ⟨x0, hx0, bx0⟩ := open_que h0 (fun n hn => by have := List.all_eq_true.1 hsz n (DataW.weights_mem_each (j := 0) rfl rfl n hn); simpa using this)
  have lt1 : ∀ x ∈ p1, x.block < W.heap.size := by obtain ⟨m, hm⟩ := h1; exact DataW.trod_lt m _ _ _ hm
  obtain ⟨x1, rfl, _, _, wx1⟩ := open_int Tryd.underlying3 (hval 1 3 v1 rfl rfl) h1
  have lt2 : ∀ x ∈ p2, x.block < W.heap.size := by obtain ⟨m, hm⟩ := h2; exact DataW.trod_lt m _ _ _ hm
  obtain ⟨x2, rfl, _, _, wx2⟩ := open_int Tryd.underlying3 (hval 2 3 v2 rfl rfl) h2
  refine (expires_law W hv _ x0 hx0 bx0 x1 x2).mono fun e W' ⟨he, bel⟩ => ?_
  subst he
  exact ⟨_, rfl, _, _, _, [], _, [], hW', trodAll_mk1 (shut_bool Tryd.underlying4 _), (trodAll_cons_mk (Below.trod laidOut (by kernel_rfl) (of_decide_eq_true (by kernel_rfl)) h0 bel lt0) (trodAll_cons_mk (Below.trod laidOut (by kernel_rfl) (of_decide_eq_true (by kernel_rfl)) h1 bel lt1) (trodAll_cons_mk (Below.trod laidOut (by kernel_rfl) (of_decide_eq_true (by kernel_rfl)) h2 bel lt2) trodAll_mk0))), rfl, bel.frame _, fun h => by cases h⟩

theorem expires_lifted (os : Os) (started : os.Started) (H : Type) (enc : TypeId × Value → H) :
    ReturnsInHanded {} Tryd.checked os 3 .any (fun w args => (Rows.queueExpiresSpec.pre enc Tryd.prog Tryd.f3 [] false w args ∧ laidMetH Tryd.prog Rows.queueExpiresRow.laid w) ∧ sizedMet enc Tryd.prog Tryd.f3 (OpenSpec.ofChange Rows.queueExpiresSpec) false w args)
      (Rows.queueExpiresSpec.post enc Tryd.prog Tryd.f3 false true false false) := by
  refine returns_and_shaped (C := Tryd.checked) (X := fun w _ => laidMetH Tryd.prog Rows.queueExpiresRow.laid w) (fun _ _ _ hh h => h.of_heap hh) own started (by kernel_rfl) Tryd.func3
    (ChangeSpec.witness_shaped (enc := enc) (C := Tryd.checked) (os := os) (X := fun w _ => laidMetH Tryd.prog Rows.queueExpiresRow.laid w) false (World.laidAll Tryd.prog os Rows.queueExpiresRow.laid) #[.agg #[.string ByteArray.empty, .bool false, .int .i64 0, .int .i64 0, .int .i64 0, .slice none 0 0, .slice none 0 0], .int .i64 0, .int .i64 0] 8 (World.laidAll_os _ _ _)
      (World.shaped_of_ZipB (by kernel_rfl) (by kernel_rfl)) (by kernel_rfl) (by kernel_rfl) (by kernel_rfl)
      (by rw [MakeChecks.laidMetH_plain _ _ _ (by kernel_rfl)]; exact laidMet_laidAll _ (by kernel_rfl) (by kernel_rfl))) ?_
  intro W base args ds gs before hval hW hsz hL hsh
  exact expires_contract H enc W base args ds gs before hval hW hsz hL hsh

theorem expires_said : Rows.QueueExpiresSaid :=
  OpenClaim.holds_of_wide 3 Tryd.f3 rfl rfl rfl rfl rfl rfl rfl ⟨rfl, rfl, rfl, rfl, rfl⟩ rfl rfl rfl rfl rfl (by kernel_rfl) Tryd.func3 (by kernel_rfl)
    (of_decide_eq_true (by kernel_rfl)) (by unfold Func.isWrapper; first | (rw [if_pos (by decide +kernel)]; kernel_rfl) | (rw [if_neg (by decide +kernel)]; exact ⟨rfl, rfl⟩))
    (fun os started H enc _ => expires_lifted os started H enc)

theorem expires_plain (f : FuncId) (fn : Func) (hf : Tryd.pinned.checked.prog.funcNamed "trivet/trivetlaw10.QueueExpires" = some f) (hfn : Tryd.pinned.checked.prog.funcs[f]? = some fn) :
    false = Tryd.pinned.checked.prog.looks [] ∧ ∀ (j : Nat) t, fn.params[j]? = some t → Tryd.pinned.checked.prog.wantsStandIn t = false := by
  obtain rfl : f = 3 := Option.some.inj ((show Tryd.prog.funcNamed "trivet/trivetlaw10.QueueExpires" = some 3 by kernel_rfl).symm.trans hf) |>.symm
  obtain rfl : fn = Tryd.f3 := (Option.some.inj (Tryd.func3.symm.trans hfn)).symm
  refine ⟨by kernel_rfl, fun j t ht => ?_⟩
  rw [Tryd.params3] at ht
  have hm : t ∈ [25, 3, 3] := by simpa using Array.mem_of_getElem? ht
  have hall : ([25, 3, 3].all fun u => !Tryd.prog.wantsStandIn u) = true := by kernel_rfl
  exact (show Tryd.prog.wantsStandIn t = false by simpa using List.all_eq_true.1 hall t hm)

theorem queueExpires_card : Rows.QueueExpiresCardSaid :=
  Claim7.holds_tied_plain_at .later [] _ _ _ _ expires_said (fun _ h => by cases h) (by kernel_rfl) (fun _ h => by cases h) queueExpires_row_tie rfl ⟨rfl, rfl⟩ (by kernel_rfl) rfl expires_plain (by kernel_rfl)
#print axioms queueExpires_card
end Go.Proofs.YtlbcefocmdnlgabDoor
