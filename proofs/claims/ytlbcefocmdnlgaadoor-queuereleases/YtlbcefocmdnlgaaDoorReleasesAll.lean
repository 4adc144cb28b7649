/- Whatever a queue and a connection, trivetlaw10.QueueReleases answers true and leaves its arguments as they were, where the listed tables of the library read as the program's text lays them (tied by the card). -/
import Derived.Test.YtlbcefocmdnlgaaDoorCp
import Derived.Test.YtlbcefocmdnlgaaDoorDo
import Derived.Test.YtlbcefocmdnlgaaDoorMq
import Derived.Test.YtlbcefocmdnlgaaDoorPrg
import Derived.Test.YtlbcefocmdnlgaaDoorIx
import Derived.Test.YtlbcefocmdnlgaaDoorGs
import Derived.Test.YtlbcefocmdnlgaaDoorNw
import Derived.BigRegion
import Derived.Deep.DeepCutAuto
import Derived.Test.YtlbcefocmdnlgaaDoorEx
import Derived.Test.YtlbcefocmdnlgaaDoorRl
import Derived.BigQuiet
import Derived.Test.YtlbcefocmdnlgaaDoorCards
import Derived.Test.YtlbcefocmdnlgaaDoorTie
import Derived.Test.YtlbcefocmdnlgaaDoorLa
import Derived.Test.YtlbcefocmdnlgaaDoorLb
namespace Go.Proofs.YtlbcefocmdnlgaaDoor
open Go.RowKit Go.Lib
set_option maxRecDepth 100000
set_option linter.unusedSimpArgs false

/-- A truth is answered. -/
def IsB (n : Nat) (e : Ending) : Prop := ∃ b : Bool, e = .returned (.bool b) ∧ (b = false → n ≤ 200)

set_option maxHeartbeats 4000000 in
theorem long_any (w : World) (v : Value) (q : Que) (h : RdQ w v q) (hbig : lenQ q ≤ 9223372036854775806) : Calls Tryd.prog 7 #[v] w fun e w' => IsB (lenQ q) e ∧ Below w.heap.size w w' := by
  obtain ⟨iv, hv, rfl, ⟨zi, ei, hi⟩, ⟨zh, eh, hh⟩⟩ := h
  obtain ⟨ai, ci, rfl⟩ := hi.len
  obtain ⟨ah, ch, rfl⟩ := hh.len
  obtain ⟨ni, hni⟩ : ∃ n, zi.length = n := ⟨_, rfl⟩
  obtain ⟨nh, hnh⟩ : ∃ n, zh.length = n := ⟨_, rfl⟩
  rw [hni] at hi ⊢
  rw [hnh] at hh ⊢
  have hsum : ni + nh ≤ 9223372036854775806 := by
    unfold lenQ at hbig
    rw [← ei, ← eh, List.length_map, List.length_map, hni, hnh] at hbig
    exact hbig
  have HI : Hid (RdZ 7 (ItR (RdP w)) w (.slice ai ni ci) zi) := hi
  have HH : Hid (RdZ 10 (HeR (RdP w)) w (.slice ah nh ch) zh) := hh
  have NI : Hid (zi.length = ni) := hni
  have NH : Hid (zh.length = nh) := hnh
  have HLQ : Hid (lenQ q = ni + nh) := by
    show lenQ q = ni + nh
    unfold lenQ
    rw [← ei, ← eh, List.length_map, List.length_map, hni, hnh]
  clear hi hh ei eh hni hnh hbig
  have k0 := Blk.new w #[tx q.name, .bool q.dur, .int .i64 q.depth, .int .i64 q.seq, .int .i64 q.tag, .slice ai ni ci, .slice ah nh ch] 25
  have b0 := (Below.refl w.heap.size w).alloc (Nat.le_refl _) (.cells #[tx q.name, .bool q.dur, .int .i64 q.depth, .int .i64 q.seq, .int .i64 q.tag, .slice ai ni ci, .slice ah nh ch] 25)
  unfold queV at *
  by_cases h200 : ((ni : Int) + (nh : Int)) > 200
  · obtain ⟨c0, c1, c2, c3, c4, c5, c6⟩ := k0.c7
    go_enter Tryd.func7, Tryd.ntmps7
    go_wp2
    go_ret
    exact ⟨⟨true, rfl, fun e => by cases e⟩, b0⟩
  · go_enter Tryd.func7, Tryd.ntmps7
    go_upto_region 1 with fail
    generalize w.alloc (.cells #[tx q.name, .bool q.dur, .int .i64 q.depth, .int .i64 q.seq, .int .i64 q.tag, .slice ai ni ci, .slice ah nh ch] 25) = w1 at *
    obtain ⟨c0, c1, c2, c3, c4, c5, c6⟩ := k0.c7
    have KB : Hid (Blk w1 w.heap.size #[tx q.name, .bool q.dur, .int .i64 q.depth, .int .i64 q.seq, .int .i64 q.tag, .slice ai ni ci, .slice ah nh ch] 25 ∧ Below w.heap.size w w1) := ⟨k0, b0⟩
    clear k0 b0
    go_wp2_with fail
    clear c0 c1 c2 c3 c4 c5 c6
    go_loopg [3, 5, 20] ni (fun gg s3 _ s20 wr => ∃ kk : Nat, kk ≤ ni ∧ ni - kk ≤ gg ∧ (∃ z : Int, s3 = .int .i64 z) ∧ s20 = .int .i64 kk ∧ Hid (Blk wr w.heap.size #[tx q.name, .bool q.dur, .int .i64 q.depth, .int .i64 q.seq, .int .i64 q.tag, .slice ai ni ci, .slice ah nh ch] 25 ∧ Below w.heap.size w wr))
    case atStart => exact ⟨0, Nat.zero_le _, by omega, ⟨_, rfl⟩, rfl, KB⟩
    case round =>
      obtain ⟨kk, hkk, hg, ⟨z, rfl⟩, rfl, HS⟩ := hrel
      clear KB
      by_cases hlt : kk < ni
      · have hltz : (kk : Int) < (ni : Int) := by omega
        obtain ⟨b, o, pv, rfl, hz1, hp, c0, c1, c2, c3, c4, c5, c6⟩ := itm_at HI.out HS.out.2 (i := kk) (by rw [NI.out]; exact hlt)
        generalize (zi[kk]'(by rw [NI.out]; exact hlt)).2 = x at *
        clear hz1
        obtain ⟨wr, hwr⟩ : ∃ W, W = wr := ⟨_, rfl⟩
        subst hwr
        obtain ⟨pa, pc, rfl⟩ := hp.shape
        clear hp
        generalize x.msg.props.length = np at *
        go_wp2_with (refine wpl_fresh rfl (.tmp 5) (.tmp 23) rfl _ _ rfl rfl (by kernel_rfl) rfl (by simp [Value.oneCell']) ?_)
        intro w1 k1 b1 s1
        have HS1 : Hid (Blk w1 w.heap.size #[tx q.name, .bool q.dur, .int .i64 q.depth, .int .i64 q.seq, .int .i64 q.tag, .slice (some ⟨b, o, none⟩) ni ci, .slice ah nh ch] 25 ∧ Below w.heap.size w w1) := ⟨HS.out.1.on b1, nxt HS.out.2 b1⟩
        obtain ⟨d0, d1, d2, d3, d4, d5, d6⟩ := k1.c7
        clear HS c0 c1 c2 c3 c4 c5 c6 b1
        go_wp2_with fail
        go_roundg (ni - (kk + 1))
        case measure => omega
        case rel => exact ⟨kk + 1, by omega, by omega, ⟨_, rfl⟩, by go_num, HS1⟩
      · have hltz : ¬ (kk : Int) < (ni : Int) := by omega
        obtain ⟨wr, hwr⟩ : ∃ W, W = wr := ⟨_, rfl⟩
        subst hwr
        obtain ⟨c0, c1, c2, c3, c4, c5, c6⟩ := HS.out.1.c7
        clear HI
        go_wp2_with fail
        clear c0 c1 c2 c3 c4 c5 c6
        go_loopg [3, 7, 39] nh (fun gg s3 _ s39 wy => ∃ k2 : Nat, k2 ≤ nh ∧ nh - k2 ≤ gg ∧ (∃ z : Int, s3 = .int .i64 z) ∧ s39 = .int .i64 k2 ∧ Hid (Below w.heap.size w wy))
        case atStart => exact ⟨0, Nat.zero_le _, by omega, ⟨_, rfl⟩, rfl, HS.out.2⟩
        case round =>
          obtain ⟨k2, hk2, hg2, ⟨z2, rfl⟩, rfl, HT⟩ := hrel
          clear HS
          by_cases hl2 : k2 < nh
          · have hl2z : (k2 : Int) < (nh : Int) := by omega
            obtain ⟨b, o, pv, rfl, hz1, hp, c0, c1, c2, c3, c4, c5, c6, c7, c8, c9⟩ := hld_at HH.out HT.out (i := k2) (by rw [NH.out]; exact hl2)
            generalize (zh[k2]'(by rw [NH.out]; exact hl2)).2 = x at *
            clear hz1
            obtain ⟨wt, hwt⟩ : ∃ W, W = wr := ⟨_, rfl⟩
            subst hwt
            obtain ⟨pa, pc, rfl⟩ := hp.shape
            clear hp
            generalize x.itm.msg.props.length = np at *
            go_wp2_with (refine wpl_fresh rfl (.tmp 7) (.tmp 42) rfl _ _ rfl rfl (by kernel_rfl) rfl (by simp [Value.oneCell']) ?_)
            intro w1 k1 b1 s1
            have HS1 : Hid (Below w.heap.size w w1) := nxt HT.out b1
            obtain ⟨d0, d1, d2, d3, d4, d5, d6, d7, d8, d9⟩ := k1.c10
            clear HT c0 c1 c2 c3 c4 c5 c6 c7 c8 c9 b1
            go_wp2_with fail
            go_roundg (nh - (k2 + 1))
            case measure => omega
            case rel => exact ⟨k2 + 1, by omega, by omega, ⟨_, rfl⟩, by go_num, HS1⟩
          · have hl2z : ¬ (k2 : Int) < (nh : Int) := by omega
            obtain ⟨wt, hwt⟩ : ∃ W, W = wr := ⟨_, rfl⟩
            subst hwt
            go_wp2
            go_ret
            exact ⟨⟨_, rfl, fun _ => by rw [HLQ.out]; omega⟩, HT.out⟩
end Go.Proofs.YtlbcefocmdnlgaaDoor

namespace Go.Proofs.YtlbcefocmdnlgaaDoor
open Go.RowKit Go.Lib
set_option maxRecDepth 100000
set_option linter.unusedSimpArgs false

def mx (c : UInt8) : Msg := ⟨[c], [], [], false, 0⟩
def kq : Nat → Que
  | 0 => newQ [113] true 5
  | k + 1 => pushQ (kq k) (mx (UInt8.ofNat (120 + k)))
theorem new_ok : newC [113] 5 = 0 := by decide
theorem push0 : pushC (kq 0) (mx 120) = 0 := by decide
theorem push1 : pushC (kq 1) (mx 121) = 0 := by decide
theorem push2 : pushC (kq 2) (mx 122) = 0 := by decide
theorem take0 : takeC (kq 3) 1 0 = 0 := by decide
def kt1 : Que := takeQ (kq 3) 1 0 true
theorem take1 : takeC kt1 1 0 = 0 := by decide
def kt2 : Que := takeQ kt1 1 0 true
theorem settle2 : settleC kt2 1 1 = 0 := by decide
def kt3 : Que := settleQ kt2 1 1 true
theorem kt3_len : kt3.items.length = 2 := by decide

theorem small_kq : ∀ k, k ≤ 3 → lenQ (kq k) ≤ 1000000 := fun k hk => by
  have : ∀ k, lenQ (kq k) = k := fun k => by
    induction k with
    | zero => rfl
    | succ k ih => simp only [lenQ, kq, pushQ, List.length_append, List.length_singleton] at ih ⊢; omega
  rw [this]
  omega
structure Chain (q3 q4 q5 q6 : Que) (x3 x4 y : Itm) (l : List Itm) : Prop where
  c3 : takeC q3 1 0 = 0
  t3 : takeQ q3 1 0 true = q4
  g3 : q3.tag + 1 = 1
  x3 : q3.items.headD zeroI = x3
  c4 : takeC q4 1 0 = 0
  t4 : takeQ q4 1 0 true = q5
  g4 : q4.tag + 1 = 2
  x4 : q4.items.headD zeroI = x4
  c5 : settleC q5 1 1 = 0
  t5 : settleQ q5 1 1 true = q6
  n6 : q6.items.length = 2
  i6 : q6.items = y :: l
  a6 : y.again = true
  o6 : y.msg.topic = [120]
  l3 : lenQ q3 ≤ 1000000
  l4 : lenQ q4 ≤ 1000000
  l5 : lenQ q5 ≤ 1000000
theorem chain : ∃ q3 q4 q5 q6 x3 x4 y l, kq 3 = q3 ∧ Chain q3 q4 q5 q6 x3 x4 y l :=
  ⟨kq 3, kt1, kt2, kt3, _, _, _, _, rfl, take0, rfl, rfl, rfl, take1, rfl, rfl, rfl, settle2, rfl, kt3_len, rfl, rfl, rfl, small_kq 3 (by omega), by decide, by decide⟩
theorem take_at {W : World} (hva : To.Vars W) {q q' : Que} {x : Itm} {iv hv : Value} {tg : Int} (hi : RdI W iv q.items) (hh : RdH W hv q.held) {conn sub : Int} (hc : takeC q conn sub = 0) (hq : takeQ q conn sub true = q') (ht : q.tag + 1 = tg) (hx : q.items.headD zeroI = x) (hl : lenQ q ≤ 1000000) :
    Calls Tryd.prog 17 #[.agg #[tx q.name, .bool q.dur, .int .i64 q.depth, .int .i64 q.seq, .int .i64 q.tag, iv, hv], .int .i64 conn, .int .i64 sub, .bool true] W fun e w' => ∃ v' pv', e = .returned (.tuple #[v', .int .i64 tg, .agg (itmV x pv').toArray, .int .i64 0]) ∧ OwnQ w' W.heap.size v' q' ∧ OwnP w' W.heap.size pv' x.msg.props ∧ Below W.heap.size W w' := by
  have h := take_any W hva _ q ⟨iv, hv, rfl, hi, hh⟩ conn sub true hl
  rw [hc, if_pos rfl, if_pos rfl, if_pos rfl, if_pos rfl, hq, ht, hx] at h
  exact h
theorem settle_at {W : World} (hva : To.Vars W) {q q' : Que} {iv hv : Value} (hi : RdI W iv q.items) (hh : RdH W hv q.held) {conn tag : Int} (hc : settleC q conn tag = 0) (hq : settleQ q conn tag true = q') (hl : lenQ q ≤ 1000000) :
    Calls Tryd.prog 18 #[.agg #[tx q.name, .bool q.dur, .int .i64 q.depth, .int .i64 q.seq, .int .i64 q.tag, iv, hv], .int .i64 conn, .int .i64 tag, .bool true] W fun e w' => ∃ v', e = .returned (.tuple #[v', .int .i64 0]) ∧ OwnQ w' W.heap.size v' q' ∧ Below W.heap.size W w' := by
  have h := settle_any W hva _ q ⟨iv, hv, rfl, hi, hh⟩ conn tag true hl
  rw [hc, if_pos rfl, hq] at h
  exact h
/-- The queue lies in the block g. -/
structure WkS (w W : World) (g : Nat) (q : Que) : Prop where
  q : ∃ iv hv, RdI W iv q.items ∧ RdH W hv q.held ∧ Blk W g #[tx q.name, .bool q.dur, .int .i64 q.depth, .int .i64 q.seq, .int .i64 q.tag, iv, hv] 25
  l : w.heap.size ≤ g
  b : Below w.heap.size w W

theorem WkS.on {w W W' : World} {g : Nat} {q : Que} (h : WkS w W g q) (hb : Below W.heap.size W W') : WkS w W' g q := by
  obtain ⟨⟨iv, hv, h1, h2, h3⟩, h4, h5⟩ := h
  exact ⟨⟨iv, hv, h1.on hb, h2.on hb, h3.on hb⟩, h4, nxt h5 hb⟩

theorem Kt.then_new {t : TypeId} {a b c : World} (h : Kt t a b) (hs : a.heap.size ≤ b.heap.size) (hg : b.grownBy c (some a.heap.size)) : Kt t a c := fun k cur hk => by
  have hlt := (Array.getElem?_eq_some_iff.1 hk).1
  exact (hg.block k (by omega) (fun e => by injection e with e; omega)).trans (h k cur hk)
theorem head_at {W : World} {a : Option Addr} {n c : Nat} {y : Itm} {l : List Itm} (h : RdI W (.slice a n c) (y :: l)) :
    ∃ b o, a = some ⟨b, o, none⟩ ∧ W.cell? ⟨b, o, none⟩ = some (.int .i64 y.seq) ∧ W.cell? ⟨b, o + 1, none⟩ = some (.bool y.again) ∧ W.cell? ⟨b, o + 2, none⟩ = some (tx y.msg.topic) := by
  obtain ⟨zs, e, hz⟩ := h
  cases zs with
  | nil => simp at e
  | cons z zs =>
    simp only [List.map_cons, List.cons.injEq] at e
    obtain ⟨b, o, pv, rfl, _, _, c0, c1, c2, _⟩ := itm_at hz (Below.refl _ W) (i := 0) (by simp)
    simp only [List.getElem_cons_zero, Nat.zero_mul, Nat.add_zero, e.1] at c0 c1 c2
    exact ⟨b, o, rfl, c0, c1, c2⟩
theorem rdp_nil (w : World) : RdP w (.slice none 0 0) [] := OwnP.rd (B := 0) (World.ownsRow_nil ..)

set_option maxHeartbeats 4000000 in
theorem wakes_any (w : World) (hva : To.Vars w) : Calls Tryd.prog 6 #[] w fun e w' => e = .returned (.bool true) ∧ Below w.heap.size w w' := by
  have HN : Calls Tryd.prog 10 #[tx [113], .bool true, .int .i64 5] w fun e w' => ∃ v', e = .returned (.tuple #[v', .int .i64 0]) ∧ OwnQ w' w.heap.size v' (kq 0) ∧ Below w.heap.size w w' := by
    have h := new_any w [113] true 5
    rw [new_ok, if_pos rfl] at h
    exact h
  go_enter Tryd.func6, Tryd.ntmps6
  go_upto_region 2 with (refine HN.mono ?_; rintro e w1 ⟨v1, rfl, ⟨iv1, hv1, rfl, oi1, oh1⟩, b1⟩; obtain ⟨ai1, ci1, rfl⟩ := oi1.rd.len; obtain ⟨ah1, ch1, rfl⟩ := oh1.rd.len; unfold queV)
  have S1 : WkS w (w1.alloc (.cells #[tx (kq 0).name, .bool (kq 0).dur, .int .i64 (kq 0).depth, .int .i64 (kq 0).seq, .int .i64 (kq 0).tag, .slice ai1 (kq 0).items.length ci1, .slice ah1 (kq 0).held.length ch1] 25)) w1.heap.size (kq 0) :=
    have hb := (Below.refl _ w1).alloc (Nat.le_refl _) (.cells #[tx (kq 0).name, .bool (kq 0).dur, .int .i64 (kq 0).depth, .int .i64 (kq 0).seq, .int .i64 (kq 0).tag, .slice ai1 (kq 0).items.length ci1, .slice ah1 (kq 0).held.length ch1] 25)
    ⟨⟨_, _, oi1.rd.on hb, oh1.rd.on hb, Blk.new ..⟩, b1.size, nxt b1 hb⟩
  clear oi1 oh1 b1 HN
  generalize w1.heap.size = g at *
  generalize w1.alloc (.cells #[tx (kq 0).name, .bool (kq 0).dur, .int .i64 (kq 0).depth, .int .i64 (kq 0).seq, .int .i64 (kq 0).tag, .slice ai1 (kq 0).items.length ci1, .slice ah1 (kq 0).held.length ch1] 25) = w2 at *
  go_wp2_with fail
  have S3 : Hid (WkS w (w2.alloc (.cells #[.string ⟨#[120]⟩, .string ⟨#[121]⟩, .string ⟨#[122]⟩] 9)) g (kq 0)) := S1.on ((Below.refl _ w2).alloc (Nat.le_refl _) _)
  have K3 : Hid (Blk (w2.alloc (.cells #[.string ⟨#[120]⟩, .string ⟨#[121]⟩, .string ⟨#[122]⟩] 9)) w2.heap.size #[.string ⟨#[120]⟩, .string ⟨#[121]⟩, .string ⟨#[122]⟩] 9) := Blk.new ..
  clear S1
  generalize w2.heap.size = gs at *
  generalize w2.alloc (.cells #[.string ⟨#[120]⟩, .string ⟨#[121]⟩, .string ⟨#[122]⟩] 9) = w3 at *
  go_loopg [2, 4, 18] 3 (fun gg s2 _ s18 wr => ∃ kk : Nat, kk ≤ 3 ∧ 3 - kk ≤ gg ∧ s2 = .int .i64 0 ∧ s18 = .int .i64 kk ∧ Hid (WkS w wr g (kq kk)) ∧ Hid (Blk wr gs #[.string ⟨#[120]⟩, .string ⟨#[121]⟩, .string ⟨#[122]⟩] 9))
  case atStart => exact ⟨0, Nat.zero_le _, by omega, rfl, rfl, S3, K3⟩
  case round =>
    obtain ⟨kk, hkk, hg, rfl, rfl, HS, HK⟩ := hrel
    clear S3 K3
    obtain ⟨wr, hwr⟩ : ∃ W, W = wr := ⟨_, rfl⟩
    subst hwr
    by_cases hlt : kk < 3
    · have hltz : (kk : Int) < 3 := by omega
      have cs : wr.cell? ⟨gs, kk, none⟩ = some (tx [UInt8.ofNat (120 + kk)]) := by
        rcases (by omega : kk = 0 ∨ kk = 1 ∨ kk = 2) with rfl | rfl | rfl
        · exact HK.out.cell 0
        · exact HK.out.cell 1
        · exact HK.out.cell 2
      have hpc : pushC (kq kk) (mx (UInt8.ofNat (120 + kk))) = 0 := by
        rcases (by omega : kk = 0 ∨ kk = 1 ∨ kk = 2) with rfl | rfl | rfl
        · exact push0
        · exact push1
        · exact push2
      obtain ⟨⟨iv, hv, h1, h2, h3⟩, h4, h5⟩ := HS.out
      have HP : Calls Tryd.prog 16 #[.agg #[tx (kq kk).name, .bool (kq kk).dur, .int .i64 (kq kk).depth, .int .i64 (kq kk).seq, .int .i64 (kq kk).tag, iv, hv], .agg #[tx [UInt8.ofNat (120 + kk)], .string ⟨#[]⟩, .slice none 0 0, .bool false, .int .i64 0]] wr fun e w' => ∃ v', e = .returned (.tuple #[v', .int .i64 0]) ∧ OwnQ w' wr.heap.size v' (kq (kk + 1)) ∧ Below wr.heap.size wr w' := by
        have h := push_any wr (hva.below h5) _ (kq kk) ⟨iv, hv, rfl, h1, h2⟩ (mx (UInt8.ofNat (120 + kk))) (.slice none 0 0) (rdp_nil _) (small_kq kk hkk)
        rw [hpc, if_pos rfl] at h
        exact h
      have K0 : Hid (Blk wr g #[tx (kq kk).name, .bool (kq kk).dur, .int .i64 (kq kk).depth, .int .i64 (kq kk).seq, .int .i64 (kq kk).tag, iv, hv] 25) := h3
      have B0 : Hid (Below w.heap.size w wr) := h5
      clear HS h1 h2 h3 h5 hpc
      obtain ⟨c, hc⟩ : ∃ c, UInt8.ofNat (120 + kk) = c := ⟨_, rfl⟩
      obtain ⟨q, hq⟩ : ∃ q, kq kk = q := ⟨_, rfl⟩
      obtain ⟨q', hq'⟩ : ∃ q, kq (kk + 1) = q := ⟨_, rfl⟩
      rw [hc] at cs HP
      rw [hq] at HP K0
      rw [hq'] at HP
      have HQ' : Hid (kq (kk + 1) = q') := hq'
      clear hc hq hq'
      go_wp2_with (refine wpl_load25 rfl (.tmp 1) rfl _ _ rfl K0.out rfl ?_)
      refine HP.mono ?_
      rintro e w4 ⟨v4, rfl, ⟨iv4, hv4, rfl, oi4, oh4⟩, b4⟩
      obtain ⟨ai4, ci4, rfl⟩ := oi4.rd.len
      obtain ⟨ah4, ch4, rfl⟩ := oh4.rd.len
      have K4 := K0.out.on b4
      have HK4 := HK.out.on b4
      have B4 := nxt B0.out b4
      have HL4 : Hid (gs ≠ g) := fun e => by
        subst e
        have h1 := K4.h
        rw [HK4.h] at h1
        injection h1 with e2
        injection e2 with _ e3 _
        exact absurd e3 (by decide)
      clear HP K0 B0 b4 cs HK
      unfold queV
      go_wp2_with (refine wpl_put rfl (.tmp 1) (.tmp 27) rfl _ _ rfl rfl K4 (by kernel_rfl) rfl (by simp [Value.oneCell']) ?_)
      intro w5 k5 g5 s5
      have HS5 : Hid (WkS w w5 g q') := ⟨⟨_, _, (oi4.keep (kt_grown K4 g5 (by decide)) (kt_grown K4 g5 (by decide))).rd, (oh4.keep (kt_grown K4 g5 (by decide)) (kt_grown K4 g5 (by decide))).rd, k5⟩, h4, B4.grown g5 B4.size (fun k hk => by injection hk with hk; omega)⟩
      have HK5 : Hid (Blk w5 gs #[.string ⟨#[120]⟩, .string ⟨#[121]⟩, .string ⟨#[122]⟩] 9) := HK4.grown g5 (fun e => by injection e with e; exact HL4.out e)
      clear K4 HK4 B4 HL4 oi4 oh4 k5 g5 s5
      go_wp2_with fail
      go_roundg (3 - (kk + 1))
      case measure => omega
      case rel => exact ⟨kk + 1, by omega, by omega, rfl, by go_num, by rw [HQ'.out]; exact HS5, HK5⟩
    · have hk3 : kk = 3 := by omega
      subst hk3
      clear hkk hg HK hlt
      obtain ⟨q3, q4, q5, q6, x3, x4, y, l, eq3, HC⟩ := chain
      rw [eq3] at HS
      clear eq3
      have HD : Hid (Chain q3 q4 q5 q6 x3 x4 y l) := HC
      obtain ⟨⟨iv, hv, h1, h2, h3⟩, h4, h5⟩ := HS.out
      have HP := take_at (hva.below h5) h1 h2 HC.c3 HC.t3 HC.g3 HC.x3 HC.l3
      have K0 : Hid (Blk wr g #[tx q3.name, .bool q3.dur, .int .i64 q3.depth, .int .i64 q3.seq, .int .i64 q3.tag, iv, hv] 25) := h3
      have B0 : Hid (Below w.heap.size w wr) := h5
      clear HS h1 h2 h3 h5 HC
      go_wp2_with (refine wpl_load25 rfl (.tmp 1) rfl _ _ rfl K0.out rfl ?_)
      refine HP.mono ?_
      rintro e w4 ⟨v4, pv4, rfl, ⟨iv4, hv4, rfl, oi4, oh4⟩, hp4, b4⟩
      obtain ⟨ai4, ci4, rfl⟩ := oi4.rd.len
      obtain ⟨ah4, ch4, rfl⟩ := oh4.rd.len
      obtain ⟨pa4, pc4, rfl⟩ := hp4.shape
      have K4 := K0.out.on b4
      have B4 := nxt B0.out b4
      clear HP K0 B0 b4 hp4
      unfold queV itmV
      have K4a := K4.alloc (.cells #[.int .i64 0, .bool false, .string ⟨#[]⟩, .string ⟨#[]⟩, .slice none 0 0, .bool false, .int .i64 0] 35)
      have B4a := B4.alloc B4.size (.cells #[.int .i64 0, .bool false, .string ⟨#[]⟩, .string ⟨#[]⟩, .slice none 0 0, .bool false, .int .i64 0] 35)
      go_wp2_with (refine wpl_put rfl (.tmp 1) (.tmp 35) rfl _ _ rfl rfl K4a (by kernel_rfl) rfl (by simp [Value.oneCell']) ?_)
      intro w5 k5 g5 s5
      have i5 := (Blk.new w4 #[.int .i64 0, .bool false, .string ⟨#[]⟩, .string ⟨#[]⟩, .slice none 0 0, .bool false, .int .i64 0] 35).grown g5 (fun e => by injection e with e; have := K4.lt; omega)
      have B5 := B4a.grown g5 B4a.size (fun k hk => by injection hk with hk; omega)
      have t35 : Kt 35 w4 w5 := (Kt.of_below ((Below.refl _ w4).alloc (Nat.le_refl _) _)).trans (kt_grown K4a g5 (by decide))
      have t45 : Kt 45 w4 w5 := (Kt.of_below ((Below.refl _ w4).alloc (Nat.le_refl _) _)).trans (kt_grown K4a g5 (by decide))
      have t88 : Kt 88 w4 w5 := (Kt.of_below ((Below.refl _ w4).alloc (Nat.le_refl _) _)).trans (kt_grown K4a g5 (by decide))
      have hs5 : w4.heap.size ≤ w5.heap.size := Nat.le_of_lt i5.lt
      have hg4 : g < w4.heap.size := K4.lt
      clear K4 K4a B4 B4a g5 s5
      go_wp2_with (refine wpl_put rfl (.tmp 6) (.tmp 37) rfl _ _ rfl rfl i5 (by kernel_rfl) rfl (by simp [Value.oneCell']) ?_)
      intro w6 k6 g6 s6
      have K6 : Hid (Blk w6 g #[tx q4.name, .bool q4.dur, .int .i64 q4.depth, .int .i64 q4.seq, .int .i64 q4.tag, .slice ai4 q4.items.length ci4, .slice ah4 q4.held.length ch4] 25) := k5.grown g6 (fun e => by injection e with e; omega)
      have B6 : Hid (Below w.heap.size w w6) := B5.grown g6 B5.size (fun k hk => by injection hk with hk; have := h4; omega)
      have oi6 := (oi4.keep (t35.then_new hs5 g6) (t88.then_new hs5 g6)).rd
      have oh6 := (oh4.keep (t45.then_new hs5 g6) (t88.then_new hs5 g6)).rd
      clear oi4 oh4 t35 t45 t88 hs5 hg4 i5 k5 k6 g6 s6 B5
      have HP := take_at (hva.below B6.out) oi6 oh6 HD.out.c4 HD.out.t4 HD.out.g4 HD.out.x4 HD.out.l4
      clear oi6 oh6
      go_wp2_with (refine wpl_load25 rfl (.tmp 1) rfl _ _ rfl K6.out rfl ?_)
      refine HP.mono ?_
      obtain ⟨wr, hwr⟩ : ∃ W, W = w6 := ⟨_, rfl⟩
      subst hwr
      rintro e w7 ⟨v4, pv4, rfl, ⟨iv4, hv4, rfl, oi4, oh4⟩, hp4, b4⟩
      obtain ⟨ai4, ci4, rfl⟩ := oi4.rd.len
      obtain ⟨ah4, ch4, rfl⟩ := oh4.rd.len
      obtain ⟨pa4, pc4, rfl⟩ := hp4.shape
      have K4 := K6.out.on b4
      have B4 := nxt B6.out b4
      clear HP K6 B6 b4 hp4
      unfold queV itmV
      obtain ⟨w4, hw4⟩ : ∃ W, W = w7 := ⟨_, rfl⟩
      subst hw4
      have K4a := K4.alloc (.cells #[.int .i64 0, .bool false, .string ⟨#[]⟩, .string ⟨#[]⟩, .slice none 0 0, .bool false, .int .i64 0] 35)
      have B4a := B4.alloc B4.size (.cells #[.int .i64 0, .bool false, .string ⟨#[]⟩, .string ⟨#[]⟩, .slice none 0 0, .bool false, .int .i64 0] 35)
      go_wp2_with (refine wpl_put rfl (.tmp 1) (.tmp 42) rfl _ _ rfl rfl K4a (by kernel_rfl) rfl (by simp [Value.oneCell']) ?_)
      intro w5 k5 g5 s5
      have i5 := (Blk.new w4 #[.int .i64 0, .bool false, .string ⟨#[]⟩, .string ⟨#[]⟩, .slice none 0 0, .bool false, .int .i64 0] 35).grown g5 (fun e => by injection e with e; have := K4.lt; omega)
      have B5 := B4a.grown g5 B4a.size (fun k hk => by injection hk with hk; omega)
      have t35 : Kt 35 w4 w5 := (Kt.of_below ((Below.refl _ w4).alloc (Nat.le_refl _) _)).trans (kt_grown K4a g5 (by decide))
      have t45 : Kt 45 w4 w5 := (Kt.of_below ((Below.refl _ w4).alloc (Nat.le_refl _) _)).trans (kt_grown K4a g5 (by decide))
      have t88 : Kt 88 w4 w5 := (Kt.of_below ((Below.refl _ w4).alloc (Nat.le_refl _) _)).trans (kt_grown K4a g5 (by decide))
      have hs5 : w4.heap.size ≤ w5.heap.size := Nat.le_of_lt i5.lt
      have hg4 : g < w4.heap.size := K4.lt
      clear K4 K4a B4 B4a g5 s5
      go_wp2_with (refine wpl_put rfl (.tmp 8) (.tmp 44) rfl _ _ rfl rfl i5 (by kernel_rfl) rfl (by simp [Value.oneCell']) ?_)
      intro w6 k6 g6 s6
      have K6 : Hid (Blk w6 g #[tx q5.name, .bool q5.dur, .int .i64 q5.depth, .int .i64 q5.seq, .int .i64 q5.tag, .slice ai4 q5.items.length ci4, .slice ah4 q5.held.length ch4] 25) := k5.grown g6 (fun e => by injection e with e; omega)
      have B6 : Hid (Below w.heap.size w w6) := B5.grown g6 B5.size (fun k hk => by injection hk with hk; have := h4; omega)
      have oi6 := (oi4.keep (t35.then_new hs5 g6) (t88.then_new hs5 g6)).rd
      have oh6 := (oh4.keep (t45.then_new hs5 g6) (t88.then_new hs5 g6)).rd
      clear oi4 oh4 t35 t45 t88 hs5 hg4 i5 k5 k6 g6 s6 B5
      have HP := settle_at (hva.below B6.out) oi6 oh6 HD.out.c5 HD.out.t5 HD.out.l5
      clear oi6 oh6
      go_wp2_with (refine wpl_load25 rfl (.tmp 1) rfl _ _ rfl K6.out rfl ?_)
      refine HP.mono ?_
      rintro e w7 ⟨v4, rfl, ⟨iv4, hv4, rfl, oi4, oh4⟩, b4⟩
      obtain ⟨ah4, ch4, rfl⟩ := oh4.rd.len
      obtain ⟨ai4, ci4, rfl⟩ := oi4.rd.len
      have K4 := K6.out.on b4
      have B4 := nxt B6.out b4
      clear HP K6 B6 b4 oh4
      unfold queV
      go_wp2_with (refine wpl_put rfl (.tmp 1) (.tmp 63) rfl _ _ rfl rfl K4 (by kernel_rfl) rfl (by simp [Value.oneCell']) ?_)
      intro w8 k8 g8 s8
      have B8 := B4.grown g8 B4.size (fun k hk => by injection hk with hk; have := h4; omega)
      have oi8 := (oi4.keep (kt_grown K4 g8 (by decide)) (kt_grown K4 g8 (by decide))).rd
      rw [HD.out.n6, HD.out.i6] at oi8
      rw [HD.out.n6] at k8
      obtain ⟨ai4, hai⟩ : ∃ a, a = ai4 := ⟨_, rfl⟩
      subst hai
      clear oi4 K4 B4 g8 s8
      obtain ⟨d0, d1, d2, d3, d4, d5, d6⟩ := k8.c7
      obtain ⟨bb, oo, rfl, e0, e1, e2⟩ := head_at oi8
      rw [HD.out.a6] at e1
      rw [HD.out.o6] at e2
      clear oi8 HD
      go_wp2
      go_ret
      exact ⟨ret_b (by simp), B8⟩
end Go.Proofs.YtlbcefocmdnlgaaDoor

namespace Go.Proofs.YtlbcefocmdnlgaaDoor
open Go.RowKit Go.Lib

/-- A list without a number. -/
def wout (l : List Int) (n : Int) : List Int := l.filter (fun x => x != n)
theorem wout_perm {l m : List Int} {n : Int} (h : l.Perm (n :: m)) (hn : (n :: m).Nodup) : (wout l n).Perm m := by
  have h1 : (wout l n).Perm (wout (n :: m) n) := h.filter _
  have h2 : wout (n :: m) n = m := by
    have hm : ∀ x ∈ m, x ≠ n := fun x hx e => by subst e; exact (List.nodup_cons.1 hn).1 hx
    simp only [wout, List.filter_cons, bne_self_eq_false, Bool.false_eq_true, if_false]
    exact List.filter_eq_self.2 fun x hx => by simpa using hm x hx
  rw [h2] at h1
  exact h1
theorem tell_push {q : Que} {l : List Int} (h : l.Perm (seqs q)) (m : Msg) : (l ++ [(pushQ q m).seq]).Perm (seqs (pushQ q m)) := by
  have e : seqs (pushQ q m) = q.items.map (·.seq) ++ ([q.seq + 1] ++ q.held.map (·.itm.seq)) := by simp [seqs, pushQ]
  rw [e]
  refine (h.append_right _).trans ?_
  show ((q.items.map (·.seq) ++ q.held.map (·.itm.seq)) ++ [q.seq + 1]).Perm _
  rw [List.append_assoc]
  exact List.Perm.append_left _ List.perm_append_comm
theorem tell_take {q : Que} {conn sub : Int} {y : Itm} {r : List Itm} (hi : q.items = y :: r) {l : List Int} (h : l.Perm (seqs q)) : l.Perm (seqs (takeQ q conn sub true)) := by
  refine h.trans ?_
  simp only [seqs, takeQ, if_true, hi, List.drop_succ_cons, List.drop_zero, List.headD_cons, List.map_append, List.map_cons, List.map_nil, List.cons_append]
  rw [← List.append_assoc]
  exact (List.perm_append_singleton _ _).symm
theorem tell_hand {q : Que} {conn sub : Int} {y : Itm} {r : List Itm} (hi : q.items = y :: r) {l : List Int} (h : l.Perm (seqs q)) (hn : (seqs q).Nodup) : (wout l y.seq).Perm (seqs (takeQ q conn sub false)) := by
  have e : seqs q = y.seq :: seqs (takeQ q conn sub false) := by simp [seqs, takeQ, hi]
  rw [e] at h hn
  exact wout_perm h hn
theorem held_perm {q : Que} {K : Nat} (hK : K < q.held.length) : (seqs q).Perm (q.held[K].itm.seq :: (q.items.map (·.seq) ++ (q.held.eraseIdx K).map (·.itm.seq))) := by
  have h1 := (erase_perm q.held K hK).symm.map (·.itm.seq)
  exact (List.Perm.append_left _ h1).trans List.perm_middle
theorem tell_settle {q : Que} {conn tag : Int} (hK : q.held.findIdx (isH conn tag) < q.held.length) {l : List Int} (h : l.Perm (seqs q)) : l.Perm (seqs (settleQ q conn tag true)) := by
  refine (h.trans (held_perm hK)).trans ?_
  have eg : q.held.getD (q.held.findIdx (isH conn tag)) zeroH = q.held[q.held.findIdx (isH conn tag)] := by simp [List.getD, List.getElem?_eq_getElem hK]
  simp only [seqs, settleQ, if_true, eg]
  exact (putB_seqs _ _).symm.append_right _
theorem tell_done {q : Que} {conn tag : Int} (hK : q.held.findIdx (isH conn tag) < q.held.length) {l : List Int} (h : l.Perm (seqs q)) (hn : (seqs q).Nodup) : (wout l (q.held[q.held.findIdx (isH conn tag)].itm.seq)).Perm (seqs (settleQ q conn tag false)) := by
  have hp := held_perm hK
  refine wout_perm (h.trans hp) (hp.nodup_iff.1 hn)
theorem tell_release {q : Que} {conn sub : Int} (hg : GoodP q) {l : List Int} (h : l.Perm (seqs q)) : l.Perm (seqs (releaseQ q conn sub)) := by
  refine h.trans ?_
  have hp : (q.held.map (·.itm.seq)).Perm ((q.held.filter (isR conn sub)).map (·.itm.seq) ++ (q.held.filter (fun h => !isR conn sub h)).map (·.itm.seq)) := by
    rw [← List.map_append]
    exact (List.filter_append_perm (isR conn sub) q.held).symm.map _
  have hn2 : (q.items.map (·.seq) ++ (q.held.filter (isR conn sub)).map (·.itm.seq)).Nodup := by
    have h1 : (q.items.map (·.seq) ++ ((q.held.filter (isR conn sub)).map (·.itm.seq) ++ (q.held.filter (fun h => !isR conn sub h)).map (·.itm.seq))).Nodup := (List.Perm.append_left _ hp).nodup_iff.1 hg.nd
    rw [← List.append_assoc] at h1
    exact (List.nodup_append.1 h1).1
  obtain ⟨_, h2, _⟩ := backs_facts (q.held.filter (isR conn sub)) q.items hg.ri hn2
  show (q.items.map (·.seq) ++ q.held.map (·.itm.seq)).Perm ((backs q.items (q.held.filter (isR conn sub))).map (·.seq) ++ (q.held.filter (fun h => !isR conn sub h)).map (·.itm.seq))
  refine (List.Perm.append_left _ hp).trans ?_
  rw [← List.append_assoc]
  exact h2.symm.append_right _
theorem wout_all : ∀ (xs : List Itm) (p : Itm → Bool) (l : List Int), (xs.foldl (fun a y => if p y then wout a y.seq else a) l) = l.filter (fun n => !(xs.any fun y => p y && y.seq == n))
  | [], _, l => by
    exact (List.filter_eq_self.2 fun _ _ => rfl).symm
  | y :: xs, p, l => by
    rw [List.foldl_cons, wout_all xs p]
    cases hp : p y with
    | false => simp [hp]
    | true =>
      simp only [if_true, wout, List.filter_filter, List.any_cons, hp, Bool.true_and]
      congr 1
      funext n
      by_cases e : y.seq = n
      · subst e; simp
      · have e1 : (y.seq == n) = false := by simpa using e
        have e2 : (n != y.seq) = true := by simpa using fun e' => e e'.symm
        simp [e1, e2]
theorem inj_of_nodup : ∀ {l : List Itm}, (l.map (·.seq)).Nodup → ∀ {x y : Itm}, x ∈ l → y ∈ l → x.seq = y.seq → x = y
  | [], _, _, _, h, _, _ => by simp at h
  | z :: l, hn, x, y, hx, hy, e => by
    simp only [List.map_cons, List.nodup_cons] at hn
    rcases List.mem_cons.1 hx with ex | hx1 <;> rcases List.mem_cons.1 hy with ey | hy1
    · rw [ex, ey]
    · refine absurd ?_ hn.1
      rw [← ex, e]
      exact List.mem_map_of_mem hy1
    · refine absurd ?_ hn.1
      rw [← ey, ← e]
      exact List.mem_map_of_mem hx1
    · exact inj_of_nodup hn.2 hx1 hy1 e
theorem tell_expire {q : Que} {now : Int} {l : List Int} (h : l.Perm (seqs q)) (hn : (seqs q).Nodup) : (q.items.foldl (fun a y => if oldB now y then wout a y.seq else a) l).Perm (seqs (expireQ q now)) := by
  rw [wout_all]
  refine (h.filter _).trans ?_
  have e : (seqs q).filter (fun n => !(q.items.any fun y => oldB now y && y.seq == n)) = seqs (expireQ q now) := by
    simp only [seqs, expireQ, List.filter_append, List.filter_map]
    have hd := List.nodup_append.1 hn
    congr 1
    · congr 1
      refine List.filter_congr fun x hx => ?_
      simp only [Function.comp]
      congr 1
      rw [Bool.eq_iff_iff]
      simp only [List.any_eq_true, Bool.and_eq_true, beq_iff_eq]
      constructor
      · rintro ⟨y, hy, ho, e⟩
        have : y = x := by
          have hnd := hd.1
          exact inj_of_nodup hnd hy hx e
        subst this
        exact ho
      · intro ho
        exact ⟨x, hx, ho, rfl⟩
    · congr 1
      refine List.filter_eq_self.2 fun x hx => ?_
      simp only [Function.comp, Bool.not_eq_true', List.any_eq_false, Bool.and_eq_true, beq_iff_eq, not_and]
      intro y hy _ e
      exact hd.2.2 _ (List.mem_map_of_mem hy) _ (List.mem_map_of_mem hx) e
  rw [e]
end Go.Proofs.YtlbcefocmdnlgaaDoor

namespace Go.Proofs.YtlbcefocmdnlgaaDoor
open Go.RowKit Go.Lib
set_option maxRecDepth 100000
set_option linter.unusedSimpArgs false

theorem sameL_self (l : List Pr) : sameL l l = true := (sameL_eq l l).2 rfl
theorem sameMsg_same (w : World) (m : Msg) (pv pv' : Value) (h : RdP w pv m.props) (h' : RdP w pv' m.props) (h63 : m.props.length ≤ 9223372036854775806) :
    Calls Tryd.prog 15 #[.agg (msgV m pv).toArray, .agg (msgV m pv').toArray] w fun e w' => e = .returned (.bool true) ∧ Below w.heap.size w w' := by
  have hA := fun (W : World) (b : Below w.heap.size w W) => all7 W pv pv' m.props m.props (h.on b) (h'.on b) h63
  simp only [sameL_self] at hA
  unfold msgV
  have k1 := (Blk.new w #[tx m.topic, tx m.body, pv, .bool m.dur, .int .i64 m.til] 31).alloc (.cells #[tx m.topic, tx m.body, pv', .bool m.dur, .int .i64 m.til] 31)
  have k2 := Blk.new (w.alloc (.cells #[tx m.topic, tx m.body, pv, .bool m.dur, .int .i64 m.til] 31)) #[tx m.topic, tx m.body, pv', .bool m.dur, .int .i64 m.til] 31
  rw [World.size_alloc] at k2
  have b2 := ((Below.refl w.heap.size w).alloc (Nat.le_refl _) (.cells #[tx m.topic, tx m.body, pv, .bool m.dur, .int .i64 m.til] 31)).alloc (by simp) (.cells #[tx m.topic, tx m.body, pv', .bool m.dur, .int .i64 m.til] 31)
  go_enter Tryd.func15, Tryd.ntmps15
  go_upto_region 1 with fail
  generalize (w.alloc (.cells #[tx m.topic, tx m.body, pv, .bool m.dur, .int .i64 m.til] 31)).alloc (.cells #[tx m.topic, tx m.body, pv', .bool m.dur, .int .i64 m.til] 31) = w2 at *
  obtain ⟨c0, c1, c2, c3, c4⟩ := k1.c5
  obtain ⟨d0, d1, d2, d3, d4⟩ := k2.c5
  clear k1 k2 h h'
  go_wp2_with fail
  refine (hA _ b2).mono ?_
  rintro e w3 ⟨rfl, b3⟩
  go_wp2
  go_ret
  exact ⟨rfl, nxt b2 b3⟩
theorem sameItem_same (w : World) (x : Itm) (pv pv' : Value) (h : RdP w pv x.msg.props) (h' : RdP w pv' x.msg.props) (h63 : x.msg.props.length ≤ 9223372036854775806) :
    Calls Tryd.prog 30 #[.agg (itmV x pv).toArray, .agg (itmV x pv').toArray] w fun e w' => e = .returned (.bool true) ∧ Below w.heap.size w w' := by
  have hA := fun (W : World) (b : Below w.heap.size w W) => sameMsg_same W x.msg pv pv' (h.on b) (h'.on b) h63
  unfold itmV
  unfold msgV at hA
  have k1 := (Blk.new w #[.int .i64 x.seq, .bool x.again, tx x.msg.topic, tx x.msg.body, pv, .bool x.msg.dur, .int .i64 x.msg.til] 35).alloc (.cells #[.int .i64 x.seq, .bool x.again, tx x.msg.topic, tx x.msg.body, pv', .bool x.msg.dur, .int .i64 x.msg.til] 35)
  have k2 := Blk.new (w.alloc (.cells #[.int .i64 x.seq, .bool x.again, tx x.msg.topic, tx x.msg.body, pv, .bool x.msg.dur, .int .i64 x.msg.til] 35)) #[.int .i64 x.seq, .bool x.again, tx x.msg.topic, tx x.msg.body, pv', .bool x.msg.dur, .int .i64 x.msg.til] 35
  rw [World.size_alloc] at k2
  have b2 := ((Below.refl w.heap.size w).alloc (Nat.le_refl _) (.cells #[.int .i64 x.seq, .bool x.again, tx x.msg.topic, tx x.msg.body, pv, .bool x.msg.dur, .int .i64 x.msg.til] 35)).alloc (by simp) (.cells #[.int .i64 x.seq, .bool x.again, tx x.msg.topic, tx x.msg.body, pv', .bool x.msg.dur, .int .i64 x.msg.til] 35)
  go_enter Tryd.func30, Tryd.ntmps30
  go_upto_region 1 with fail
  generalize (w.alloc (.cells #[.int .i64 x.seq, .bool x.again, tx x.msg.topic, tx x.msg.body, pv, .bool x.msg.dur, .int .i64 x.msg.til] 35)).alloc (.cells #[.int .i64 x.seq, .bool x.again, tx x.msg.topic, tx x.msg.body, pv', .bool x.msg.dur, .int .i64 x.msg.til] 35) = w2 at *
  obtain ⟨c0, c1, c2, c3, c4, c5, c6⟩ := k1.c7
  obtain ⟨d0, d1, d2, d3, d4, d5, d6⟩ := k2.c7
  clear k1 k2 h h'
  go_wp2_with fail
  refine (hA _ b2).mono ?_
  rintro e w3 ⟨rfl, b3⟩
  go_wp2
  go_ret
  exact ⟨rfl, nxt b2 b3⟩
end Go.Proofs.YtlbcefocmdnlgaaDoor

namespace Go.Proofs.YtlbcefocmdnlgaaDoor
open Go.RowKit Go.Lib
set_option maxRecDepth 100000
set_option linter.unusedSimpArgs false

/-- An item's cells, where nothing that was there is changed. -/
def ItC (w : World) (b o : Nat) (x : Itm) (pv : Value) : Prop := ∀ W, Below w.heap.size w W → W.cell? ⟨b, o, none⟩ = some (.int .i64 x.seq) ∧ W.cell? ⟨b, o + 1, none⟩ = some (.bool x.again) ∧ W.cell? ⟨b, o + 2, none⟩ = some (tx x.msg.topic) ∧ W.cell? ⟨b, o + 3, none⟩ = some (tx x.msg.body) ∧ W.cell? ⟨b, o + 4, none⟩ = some pv ∧ W.cell? ⟨b, o + 5, none⟩ = some (.bool x.msg.dur) ∧ W.cell? ⟨b, o + 6, none⟩ = some (.int .i64 x.msg.til)
theorem itc_at {w : World} {a : Option Addr} {n c : Nat} {zs : Zs Itm} (h : RdZ 7 (ItR (RdP w)) w (.slice a n c) zs) {i : Nat} (hi : i < zs.length) :
    ∃ b o pv, a = some ⟨b, o, none⟩ ∧ RdP w pv (zs[i]).2.msg.props ∧ ItC w b (o + i * 7) (zs[i]).2 pv := by
  obtain ⟨b, o, pv, e, _, hp, c0, c1, c2, c3, c4, c5, c6⟩ := itm_at h (Below.refl _ w) hi
  have k : ∀ {ad : Addr} {u : Value}, w.cell? ad = some u → ∀ W, Below w.heap.size w W → W.cell? ad = some u := fun hc W hb => (hb.cell (World.block_lt_of_cell? w _ hc)).trans hc
  exact ⟨b, o, pv, e, hp, fun W hb => ⟨k c0 W hb, k c1 W hb, k c2 W hb, k c3 W hb, k c4 W hb, k c5 W hb, k c6 W hb⟩⟩
/-- A held one's cells, where nothing that was there is changed. -/
def HeC (w : World) (b o : Nat) (x : Hld) (pv : Value) : Prop := ∀ W, Below w.heap.size w W → W.cell? ⟨b, o, none⟩ = some (.int .i64 x.tag) ∧ W.cell? ⟨b, o + 1, none⟩ = some (.int .i64 x.conn) ∧ W.cell? ⟨b, o + 2, none⟩ = some (.int .i64 x.sub) ∧ W.cell? ⟨b, o + 3, none⟩ = some (.int .i64 x.itm.seq) ∧ W.cell? ⟨b, o + 4, none⟩ = some (.bool x.itm.again) ∧ W.cell? ⟨b, o + 5, none⟩ = some (tx x.itm.msg.topic) ∧ W.cell? ⟨b, o + 6, none⟩ = some (tx x.itm.msg.body) ∧ W.cell? ⟨b, o + 7, none⟩ = some (pv) ∧ W.cell? ⟨b, o + 8, none⟩ = some (.bool x.itm.msg.dur) ∧ W.cell? ⟨b, o + 9, none⟩ = some (.int .i64 x.itm.msg.til)
theorem hec_at {w : World} {a : Option Addr} {n c : Nat} {zs : Zs Hld} (h : RdZ 10 (HeR (RdP w)) w (.slice a n c) zs) {i : Nat} (hi : i < zs.length) :
    ∃ b o pv, a = some ⟨b, o, none⟩ ∧ RdP w pv (zs[i]).2.itm.msg.props ∧ HeC w b (o + i * 10) (zs[i]).2 pv := by
  obtain ⟨b, o, pv, e, _, hp, c0, c1, c2, c3, c4, c5, c6, c7, c8, c9⟩ := hld_at h (Below.refl _ w) hi
  have k : ∀ {ad : Addr} {u : Value}, w.cell? ad = some u → ∀ W, Below w.heap.size w W → W.cell? ad = some u := fun hc W hb => (hb.cell (World.block_lt_of_cell? w _ hc)).trans hc
  exact ⟨b, o, pv, e, hp, fun W hb => ⟨k c0 W hb, k c1 W hb, k c2 W hb, k c3 W hb, k c4 W hb, k c5 W hb, k c6 W hb, k c7 W hb, k c8 W hb, k c9 W hb⟩⟩
structure SaS (w W : World) (qs rs : Array Value) : Prop where
  a : Blk W w.heap.size qs 25
  b : Blk W (w.heap.size + 1) rs 25
  l : Below w.heap.size w W
theorem SaS.on {w W W' : World} {qs rs : Array Value} (h : SaS w W qs rs) (hb : Below W.heap.size W W') : SaS w W' qs rs := ⟨h.a.on hb, h.b.on hb, nxt h.l hb⟩
theorem SaS.start (w : World) (qs rs : Array Value) : SaS w ((w.alloc (.cells qs 25)).alloc (.cells rs 25)) qs rs := by
  refine ⟨(Blk.new _ _ _).alloc _, ?_, ((Below.refl _ w).alloc (Nat.le_refl _) _).alloc (by simp) _⟩
  have := Blk.new (w.alloc (.cells qs 25)) rs 25
  rwa [World.size_alloc] at this

set_option maxHeartbeats 4000000 in
theorem same_same (w : World) (v u : Value) (q : Que) (h : RdQ w v q) (h' : RdQ w u q) (hq : Small q) :
    Calls Tryd.prog 14 #[v, u] w fun e w' => e = .returned (.bool true) ∧ Below w.heap.size w w' := by
  obtain ⟨i1, h1, rfl, ⟨zi, ei, hi⟩, ⟨zh, eh, hh⟩⟩ := h
  obtain ⟨i2, h2, rfl, ⟨yi, fi, gi⟩, ⟨yh, fh, gh⟩⟩ := h'
  obtain ⟨ai, ci, rfl⟩ := hi.len
  obtain ⟨ah, ch, rfl⟩ := hh.len
  obtain ⟨bi, di, rfl⟩ := gi.len
  obtain ⟨bh, dh, rfl⟩ := gh.len
  obtain ⟨ni, hni⟩ : ∃ n, q.items.length = n := ⟨_, rfl⟩
  obtain ⟨nh, hnh⟩ : ∃ n, q.held.length = n := ⟨_, rfl⟩
  have l1 : zi.length = ni := by rw [← hni, ← ei, List.length_map]
  have l2 : yi.length = ni := by rw [← hni, ← fi, List.length_map]
  have l3 : zh.length = nh := by rw [← hnh, ← eh, List.length_map]
  have l4 : yh.length = nh := by rw [← hnh, ← fh, List.length_map]
  rw [l1] at hi ⊢
  rw [l2] at gi ⊢
  rw [l3] at hh ⊢
  rw [l4] at gh ⊢
  have HI : Hid (RdZ 7 (ItR (RdP w)) w (.slice ai ni ci) zi ∧ RdZ 7 (ItR (RdP w)) w (.slice bi ni di) yi ∧ zi.map (·.2) = q.items ∧ yi.map (·.2) = q.items ∧ zi.length = ni ∧ yi.length = ni) := ⟨hi, gi, ei, fi, l1, l2⟩
  have HH : Hid (RdZ 10 (HeR (RdP w)) w (.slice ah nh ch) zh ∧ RdZ 10 (HeR (RdP w)) w (.slice bh nh dh) yh ∧ zh.map (·.2) = q.held ∧ yh.map (·.2) = q.held ∧ zh.length = nh ∧ yh.length = nh) := ⟨hh, gh, eh, fh, l3, l4⟩
  have hl1 : ni ≤ 1000 := by have := hq.items; omega
  have hl2 : nh ≤ 1000 := by have := hq.held; omega
  clear hi gi ei fi l1 l2 hh gh eh fh l3 l4 hni hnh
  have S0 : Hid (SaS w ((w.alloc (.cells #[tx q.name, .bool q.dur, .int .i64 q.depth, .int .i64 q.seq, .int .i64 q.tag, .slice ai ni ci, .slice ah nh ch] 25)).alloc (.cells #[tx q.name, .bool q.dur, .int .i64 q.depth, .int .i64 q.seq, .int .i64 q.tag, .slice bi ni di, .slice bh nh dh] 25)) #[tx q.name, .bool q.dur, .int .i64 q.depth, .int .i64 q.seq, .int .i64 q.tag, .slice ai ni ci, .slice ah nh ch] #[tx q.name, .bool q.dur, .int .i64 q.depth, .int .i64 q.seq, .int .i64 q.tag, .slice bi ni di, .slice bh nh dh]) := SaS.start ..
  unfold queV at *
  go_enter Tryd.func14, Tryd.ntmps14
  go_upto_region 1 with fail
  generalize (w.alloc (.cells #[tx q.name, .bool q.dur, .int .i64 q.depth, .int .i64 q.seq, .int .i64 q.tag, .slice ai ni ci, .slice ah nh ch] 25)).alloc (.cells #[tx q.name, .bool q.dur, .int .i64 q.depth, .int .i64 q.seq, .int .i64 q.tag, .slice bi ni di, .slice bh nh dh] 25) = w1 at *
  obtain ⟨c0, c1, c2, c3, c4, c5, c6⟩ := S0.out.a.c7
  obtain ⟨d0, d1, d2, d3, d4, d5, d6⟩ := S0.out.b.c7
  go_wp2_with fail
  clear c0 c1 c2 c3 c4 c5 c6 d0 d1 d2 d3 d4 d5 d6
  go_loopg [5, 63] ni (fun gg _ s63 wr => ∃ kk : Nat, kk ≤ ni ∧ ni - kk ≤ gg ∧ s63 = .int .i64 kk ∧ Hid (SaS w wr #[tx q.name, .bool q.dur, .int .i64 q.depth, .int .i64 q.seq, .int .i64 q.tag, .slice ai ni ci, .slice ah nh ch] #[tx q.name, .bool q.dur, .int .i64 q.depth, .int .i64 q.seq, .int .i64 q.tag, .slice bi ni di, .slice bh nh dh]))
  case atStart => exact ⟨0, Nat.zero_le _, by omega, rfl, S0⟩
  case round =>
    obtain ⟨kk, hkk, hg, rfl, HS⟩ := hrel
    clear S0
    obtain ⟨wr, hwr⟩ : ∃ W, W = wr := ⟨_, rfl⟩
    subst hwr
    by_cases hlt : kk < ni
    · have hltz : (kk : Int) < (ni : Int) := by omega
      obtain ⟨hi, gi, ei, fi, l1, l2⟩ := HI.out
      obtain ⟨b1, o1, p1, rfl, hp1, C1⟩ := itc_at hi (i := kk) (by omega)
      obtain ⟨b2, o2, p2, rfl, hp2, C2⟩ := itc_at gi (i := kk) (by omega)
      have hql : kk < q.items.length := by rw [← ei, List.length_map]; omega
      have x1 : (zi[kk]'(by omega)).2 = q.items[kk] := by simp only [← ei, List.getElem_map]
      have x2 : (yi[kk]'(by omega)).2 = q.items[kk] := by simp only [← fi, List.getElem_map]
      rw [x1] at hp1 C1
      rw [x2] at hp2 C2
      have hpl : (q.items[kk]).msg.props.length ≤ 140000 := hq.ip _ (List.getElem_mem _)
      generalize q.items[kk] = x at *
      have HC : Hid (ItC w b1 (o1 + kk * 7) x p1 ∧ ItC w b2 (o2 + kk * 7) x p2) := ⟨C1, C2⟩
      obtain ⟨pa1, pc1, rfl⟩ := hp1.shape
      obtain ⟨pa2, pc2, rfl⟩ := hp2.shape
      have HA := fun (W : World) (b : Below w.heap.size w W) => sameItem_same W x _ _ (hp1.on b) (hp2.on b) (by omega)
      unfold itmV at HA
      clear hi gi ei fi l1 l2 hql x1 x2 hp1 hp2 C1 C2 hpl
      go_upto_region 6 with fail
      refine wp_region_held (S := fun W => SaS w W #[tx q.name, .bool q.dur, .int .i64 q.depth, .int .i64 q.seq, .int .i64 q.tag, .slice (some ⟨b1, o1, none⟩) ni ci, .slice ah nh ch] #[tx q.name, .bool q.dur, .int .i64 q.depth, .int .i64 q.seq, .int .i64 q.tag, .slice (some ⟨b2, o2, none⟩) ni di, .slice bh nh dh]) hmix ?_
      show wpAnyH _ _ _ _ _ _ _ _ (World.drew _)
      have hS : SaS w wr.drew #[tx q.name, .bool q.dur, .int .i64 q.depth, .int .i64 q.seq, .int .i64 q.tag, .slice (some ⟨b1, o1, none⟩) ni ci, .slice ah nh ch] #[tx q.name, .bool q.dur, .int .i64 q.depth, .int .i64 q.seq, .int .i64 q.tag, .slice (some ⟨b2, o2, none⟩) ni di, .slice bh nh dh] := ⟨⟨HS.out.a.h⟩, ⟨HS.out.b.h⟩, HS.out.l.drew⟩
      clear HS
      generalize wr.drew = w4 at *
      refine wpAnyH_take (i := 0) (v := .pointer (some ⟨w.heap.size, 5, none⟩)) rfl (by kernel_rfl) (by kernel_rfl) (by kernel_rfl) (fun _ _ _ h => h) (.inl ⟨by rfl, fun W' hW' => ?_⟩) hS ?_
      · obtain ⟨d0, d1, d2, d3, d4, d5, d6⟩ := hW'.a.c7
        go_simp
      simp only [Act.put, List.getElem_toArray, List.getElem_cons_zero, List.setIfInBounds_toArray, List.set_cons_succ, List.set_cons_zero]
      refine wpAnyH_take (i := 1) (v := .slice (some ⟨b1, o1, none⟩) ni ci) rfl (by kernel_rfl) (by kernel_rfl) (by kernel_rfl) (fun _ _ _ h => h) (.inl ⟨by rfl, fun W' hW' => ?_⟩) hS ?_
      · obtain ⟨d0, d1, d2, d3, d4, d5, d6⟩ := hW'.a.c7
        go_simp
      simp only [Act.put, List.getElem_toArray, List.getElem_cons_succ, List.getElem_cons_zero, List.setIfInBounds_toArray, List.set_cons_succ, List.set_cons_zero]
      refine wpAnyH_take (i := 2) (v := .int .i64 kk) rfl (by kernel_rfl) (by kernel_rfl) (by kernel_rfl) (fun _ _ _ h => h) (.inl ⟨by rfl, fun W' hW' => ?_⟩) hS ?_
      · obtain ⟨d0, d1, d2, d3, d4, d5, d6⟩ := hW'.a.c7
        go_simp
      simp only [Act.put, List.getElem_toArray, List.getElem_cons_succ, List.getElem_cons_zero, List.setIfInBounds_toArray, List.set_cons_succ, List.set_cons_zero]
      refine wpAnyH_take (i := 3) (v := .pointer (some ⟨b1, o1 + kk * 7, none⟩)) rfl (by kernel_rfl) (by kernel_rfl) (by kernel_rfl) (fun _ _ _ h => h) (.inl ⟨by rfl, fun W' hW' => ?_⟩) hS ?_
      · obtain ⟨d0, d1, d2, d3, d4, d5, d6⟩ := hW'.a.c7
        go_simp
      simp only [Act.put, List.getElem_toArray, List.getElem_cons_succ, List.getElem_cons_zero, List.setIfInBounds_toArray, List.set_cons_succ, List.set_cons_zero]
      refine wpAnyH_take (i := 4) (v := .agg #[.int .i64 x.seq, .bool x.again, tx x.msg.topic, tx x.msg.body, .slice pa1 x.msg.props.length pc1, .bool x.msg.dur, .int .i64 x.msg.til]) rfl (by kernel_rfl) (by kernel_rfl) (by kernel_rfl) (fun _ _ _ h => h) (.inl ⟨by rfl, fun W' hW' => ?_⟩) hS ?_
      · obtain ⟨d0, d1, d2, d3, d4, d5, d6⟩ := HC.out.1 W' hW'.l
        go_simp
      simp only [Act.put, List.getElem_toArray, List.getElem_cons_succ, List.getElem_cons_zero, List.setIfInBounds_toArray, List.set_cons_succ, List.set_cons_zero]
      refine wpAnyH_take (i := 5) (v := .pointer (some ⟨w.heap.size + 1, 5, none⟩)) rfl (by kernel_rfl) (by kernel_rfl) (by kernel_rfl) (fun _ _ _ h => h) (.inl ⟨by rfl, fun W' hW' => ?_⟩) hS ?_
      · obtain ⟨d0, d1, d2, d3, d4, d5, d6⟩ := hW'.b.c7
        go_simp
      simp only [Act.put, List.getElem_toArray, List.getElem_cons_succ, List.getElem_cons_zero, List.setIfInBounds_toArray, List.set_cons_succ, List.set_cons_zero]
      refine wpAnyH_take (i := 6) (v := .slice (some ⟨b2, o2, none⟩) ni di) rfl (by kernel_rfl) (by kernel_rfl) (by kernel_rfl) (fun _ _ _ h => h) (.inl ⟨by rfl, fun W' hW' => ?_⟩) hS ?_
      · obtain ⟨d0, d1, d2, d3, d4, d5, d6⟩ := hW'.b.c7
        go_simp
      simp only [Act.put, List.getElem_toArray, List.getElem_cons_succ, List.getElem_cons_zero, List.setIfInBounds_toArray, List.set_cons_succ, List.set_cons_zero]
      refine wpAnyH_take (i := 7) (v := .int .i64 kk) rfl (by kernel_rfl) (by kernel_rfl) (by kernel_rfl) (fun _ _ _ h => h) (.inl ⟨by rfl, fun W' hW' => ?_⟩) hS ?_
      · obtain ⟨d0, d1, d2, d3, d4, d5, d6⟩ := hW'.b.c7
        go_simp
      simp only [Act.put, List.getElem_toArray, List.getElem_cons_succ, List.getElem_cons_zero, List.setIfInBounds_toArray, List.set_cons_succ, List.set_cons_zero]
      refine wpAnyH_take (i := 8) (v := .pointer (some ⟨b2, o2 + kk * 7, none⟩)) rfl (by kernel_rfl) (by kernel_rfl) (by kernel_rfl) (fun _ _ _ h => h) (.inl ⟨by rfl, fun W' hW' => ?_⟩) hS ?_
      · obtain ⟨d0, d1, d2, d3, d4, d5, d6⟩ := hW'.b.c7
        go_simp
      simp only [Act.put, List.getElem_toArray, List.getElem_cons_succ, List.getElem_cons_zero, List.setIfInBounds_toArray, List.set_cons_succ, List.set_cons_zero]
      refine wpAnyH_take (i := 9) (v := .agg #[.int .i64 x.seq, .bool x.again, tx x.msg.topic, tx x.msg.body, .slice pa2 x.msg.props.length pc2, .bool x.msg.dur, .int .i64 x.msg.til]) rfl (by kernel_rfl) (by kernel_rfl) (by kernel_rfl) (fun _ _ _ h => h) (.inl ⟨by rfl, fun W' hW' => ?_⟩) hS ?_
      · obtain ⟨d0, d1, d2, d3, d4, d5, d6⟩ := HC.out.2 W' hW'.l
        go_simp
      simp only [Act.put, List.getElem_toArray, List.getElem_cons_succ, List.getElem_cons_zero, List.setIfInBounds_toArray, List.set_cons_succ, List.set_cons_zero]
      refine wpAnyH_one (i := 10) (by kernel_rfl) rfl (by rfl) (fun K hK => ?_)
      go_simp
      refine (HA _ hS.l).mono ?_
      rintro e w5 ⟨rfl, b5⟩
      replace hS := hS.on b5
      show K _ _
      refine hK _ _ hS ?_
      clear hK K b5
      refine wpAnyH_take (i := 11) (v := .bool false) rfl (by kernel_rfl) (by kernel_rfl) (by kernel_rfl) (fun _ _ _ h => h) (.inl ⟨by rfl, fun W' hW' => ?_⟩) hS ?_
      · go_simp
      simp only [Act.put, List.getElem_toArray, List.getElem_cons_succ, List.getElem_cons_zero, List.setIfInBounds_toArray, List.set_cons_succ, List.set_cons_zero]
      refine wpAnyH_done (by kernel_rfl) ?_ _
      have S5 : Hid (SaS w w5 #[tx q.name, .bool q.dur, .int .i64 q.depth, .int .i64 q.seq, .int .i64 q.tag, .slice (some ⟨b1, o1, none⟩) ni ci, .slice ah nh ch] #[tx q.name, .bool q.dur, .int .i64 q.depth, .int .i64 q.seq, .int .i64 q.tag, .slice (some ⟨b2, o2, none⟩) ni di, .slice bh nh dh]) := hS
      clear hS HC HA
      go_wp2_with fail
      go_roundg (ni - (kk + 1))
      case measure => omega
      case rel => exact ⟨kk + 1, by omega, by omega, by go_num, S5⟩
    · have hltz : ¬ (kk : Int) < (ni : Int) := by omega
      obtain ⟨c0, c1, c2, c3, c4, c5, c6⟩ := HS.out.a.c7
      go_wp2_with fail
      clear c0 c1 c2 c3 c4 c5 c6 HI
      go_loopg [6, 7, 8, 82] nh (fun gg _ _ _ s82 wy => ∃ k2 : Nat, k2 ≤ nh ∧ nh - k2 ≤ gg ∧ s82 = .int .i64 k2 ∧ Hid (SaS w wy #[tx q.name, .bool q.dur, .int .i64 q.depth, .int .i64 q.seq, .int .i64 q.tag, .slice ai ni ci, .slice ah nh ch] #[tx q.name, .bool q.dur, .int .i64 q.depth, .int .i64 q.seq, .int .i64 q.tag, .slice bi ni di, .slice bh nh dh]))
      case atStart => exact ⟨0, Nat.zero_le _, by omega, rfl, HS⟩
      case round =>
        obtain ⟨k2, hk2, hg2, rfl, HT⟩ := hrel
        clear HS
        obtain ⟨wt, hwt⟩ : ∃ W, W = wr := ⟨_, rfl⟩
        subst hwt
        by_cases hl2 : k2 < nh
        · have hl2z : (k2 : Int) < (nh : Int) := by omega
          obtain ⟨hh, gh, eh, fh, l3, l4⟩ := HH.out
          obtain ⟨b1, o1, p1, rfl, hp1, C1⟩ := hec_at hh (i := k2) (by omega)
          obtain ⟨b2, o2, p2, rfl, hp2, C2⟩ := hec_at gh (i := k2) (by omega)
          have hql : k2 < q.held.length := by rw [← eh, List.length_map]; omega
          have x1 : (zh[k2]'(by omega)).2 = q.held[k2] := by simp only [← eh, List.getElem_map]
          have x2 : (yh[k2]'(by omega)).2 = q.held[k2] := by simp only [← fh, List.getElem_map]
          rw [x1] at hp1 C1
          rw [x2] at hp2 C2
          have hpl : (q.held[k2]).itm.msg.props.length ≤ 140000 := hq.hp _ (List.getElem_mem _)
          generalize q.held[k2] = x at *
          obtain ⟨pa1, pc1, rfl⟩ := hp1.shape
          obtain ⟨pa2, pc2, rfl⟩ := hp2.shape
          have HA : Hid (∀ W, Below w.heap.size w W → Calls Tryd.prog 30 #[.agg (itmV x.itm (.slice pa1 x.itm.msg.props.length pc1)).toArray, .agg (itmV x.itm (.slice pa2 x.itm.msg.props.length pc2)).toArray] W fun e w' => e = .returned (.bool true) ∧ Below W.heap.size W w') := fun W b => sameItem_same W x.itm _ _ (hp1.on b) (hp2.on b) (by omega)
          clear hh gh eh fh l3 l4 hql x1 x2 hp1 hp2 hpl
          obtain ⟨c0, c1, c2, c3, c4, c5, c6⟩ := HT.out.a.c7
          obtain ⟨d0, d1, d2, d3, d4, d5, d6⟩ := HT.out.b.c7
          obtain ⟨e0, e1, e2, e3, e4, e5, e6, e7, e8, e9⟩ := C1 wt HT.out.l
          obtain ⟨f0, f1, f2, f3, f4, f5, f6, f7, f8, f9⟩ := C2 wt HT.out.l
          clear C1 C2
          have L1 : w.heap.size < wt.heap.size := HT.out.a.lt
          have L2 : w.heap.size + 1 < wt.heap.size := HT.out.b.lt
          have L3 : b1 < wt.heap.size := World.block_lt_of_cell? wt _ e0
          have L4 : b2 < wt.heap.size := World.block_lt_of_cell? wt _ f0
          have L1' : w.heap.size ≠ wt.heap.size := by omega
          have L2' : w.heap.size + 1 ≠ wt.heap.size := by omega
          have L3' : b1 ≠ wt.heap.size := by omega
          have L4' : b2 ≠ wt.heap.size := by omega
          have L5' : w.heap.size + 1 ≠ wt.heap.size + 1 := by omega
          have L6' : b1 ≠ wt.heap.size + 1 := by omega
          have L7' : b2 ≠ wt.heap.size + 1 := by omega
          generalize x.itm.msg.props.length = np at *
          go_upto_region 12 with fail
          go_cut [7, 8] (fun s7 s8 wq => ∃ gA gB : Nat, s7 = .pointer (some ⟨gA, 0, none⟩) ∧ s8 = .pointer (some ⟨gB, 0, none⟩) ∧ Hid (Blk wq gA #[.int .i64 x.tag, .int .i64 x.conn, .int .i64 x.sub, .int .i64 x.itm.seq, .bool x.itm.again, .string ⟨x.itm.msg.topic.toArray⟩, .string ⟨x.itm.msg.body.toArray⟩, .slice pa1 np pc1, .bool x.itm.msg.dur, .int .i64 x.itm.msg.til] 45 ∧ Blk wq gB #[.int .i64 x.tag, .int .i64 x.conn, .int .i64 x.sub, .int .i64 x.itm.seq, .bool x.itm.again, .string ⟨x.itm.msg.topic.toArray⟩, .string ⟨x.itm.msg.body.toArray⟩, .slice pa2 np pc2, .bool x.itm.msg.dur, .int .i64 x.itm.msg.til] 45 ∧ SaS w wq #[tx q.name, .bool q.dur, .int .i64 q.depth, .int .i64 q.seq, .int .i64 q.tag, .slice ai ni ci, .slice (some ⟨b1, o1, none⟩) nh ch] #[tx q.name, .bool q.dur, .int .i64 q.depth, .int .i64 q.seq, .int .i64 q.tag, .slice bi ni di, .slice (some ⟨b2, o2, none⟩) nh dh]))
          case first =>
            go_region
            all_goals clear c0 c1 c2 c3 c4 c5 c6 d0 d1 d2 d3 d4 d5 d6 e0 e1 e2 e3 e4 e5 e6 e7 e8 e9 f0 f1 f2 f3 f4 f5 f6 f7 f8 f9 L1 L2 L3 L4 L1' L2' L3' L4' L5' L6' L7'
            · have kA : Blk ((wt.alloc (.cells #[.int .i64 x.tag, .int .i64 x.conn, .int .i64 x.sub, .int .i64 x.itm.seq, .bool x.itm.again, .string ⟨x.itm.msg.topic.toArray⟩, .string ⟨x.itm.msg.body.toArray⟩, .slice pa1 np pc1, .bool x.itm.msg.dur, .int .i64 x.itm.msg.til] 45)).alloc (.cells #[.int .i64 x.tag, .int .i64 x.conn, .int .i64 x.sub, .int .i64 x.itm.seq, .bool x.itm.again, .string ⟨x.itm.msg.topic.toArray⟩, .string ⟨x.itm.msg.body.toArray⟩, .slice pa2 np pc2, .bool x.itm.msg.dur, .int .i64 x.itm.msg.til] 45)).drew wt.heap.size #[.int .i64 x.tag, .int .i64 x.conn, .int .i64 x.sub, .int .i64 x.itm.seq, .bool x.itm.again, .string ⟨x.itm.msg.topic.toArray⟩, .string ⟨x.itm.msg.body.toArray⟩, .slice pa1 np pc1, .bool x.itm.msg.dur, .int .i64 x.itm.msg.til] 45 := ⟨((Blk.new wt _ _).alloc _).h⟩
              have kB : Blk ((wt.alloc (.cells #[.int .i64 x.tag, .int .i64 x.conn, .int .i64 x.sub, .int .i64 x.itm.seq, .bool x.itm.again, .string ⟨x.itm.msg.topic.toArray⟩, .string ⟨x.itm.msg.body.toArray⟩, .slice pa1 np pc1, .bool x.itm.msg.dur, .int .i64 x.itm.msg.til] 45)).alloc (.cells #[.int .i64 x.tag, .int .i64 x.conn, .int .i64 x.sub, .int .i64 x.itm.seq, .bool x.itm.again, .string ⟨x.itm.msg.topic.toArray⟩, .string ⟨x.itm.msg.body.toArray⟩, .slice pa2 np pc2, .bool x.itm.msg.dur, .int .i64 x.itm.msg.til] 45)).drew (wt.heap.size + 1) #[.int .i64 x.tag, .int .i64 x.conn, .int .i64 x.sub, .int .i64 x.itm.seq, .bool x.itm.again, .string ⟨x.itm.msg.topic.toArray⟩, .string ⟨x.itm.msg.body.toArray⟩, .slice pa2 np pc2, .bool x.itm.msg.dur, .int .i64 x.itm.msg.til] 45 := by
                have := Blk.new (wt.alloc (.cells #[.int .i64 x.tag, .int .i64 x.conn, .int .i64 x.sub, .int .i64 x.itm.seq, .bool x.itm.again, .string ⟨x.itm.msg.topic.toArray⟩, .string ⟨x.itm.msg.body.toArray⟩, .slice pa1 np pc1, .bool x.itm.msg.dur, .int .i64 x.itm.msg.til] 45)) #[.int .i64 x.tag, .int .i64 x.conn, .int .i64 x.sub, .int .i64 x.itm.seq, .bool x.itm.again, .string ⟨x.itm.msg.topic.toArray⟩, .string ⟨x.itm.msg.body.toArray⟩, .slice pa2 np pc2, .bool x.itm.msg.dur, .int .i64 x.itm.msg.til] 45
                rw [World.size_alloc] at this
                exact ⟨this.h⟩
              have bb : Below wt.heap.size wt ((wt.alloc (.cells #[.int .i64 x.tag, .int .i64 x.conn, .int .i64 x.sub, .int .i64 x.itm.seq, .bool x.itm.again, .string ⟨x.itm.msg.topic.toArray⟩, .string ⟨x.itm.msg.body.toArray⟩, .slice pa1 np pc1, .bool x.itm.msg.dur, .int .i64 x.itm.msg.til] 45)).alloc (.cells #[.int .i64 x.tag, .int .i64 x.conn, .int .i64 x.sub, .int .i64 x.itm.seq, .bool x.itm.again, .string ⟨x.itm.msg.topic.toArray⟩, .string ⟨x.itm.msg.body.toArray⟩, .slice pa2 np pc2, .bool x.itm.msg.dur, .int .i64 x.itm.msg.til] 45)).drew := (((Below.refl _ wt).alloc (Nat.le_refl _) _).alloc (by simp) _).drew
              go_wp2_with fail
              go_meet
              exact ⟨_, _, rfl, rfl, kA, kB, HT.out.on bb⟩
            · have kA : Blk ((wt.alloc (.cells #[.int .i64 x.tag, .int .i64 x.conn, .int .i64 x.sub, .int .i64 x.itm.seq, .bool x.itm.again, .string ⟨x.itm.msg.topic.toArray⟩, .string ⟨x.itm.msg.body.toArray⟩, .slice pa2 np pc2, .bool x.itm.msg.dur, .int .i64 x.itm.msg.til] 45)).alloc (.cells #[.int .i64 x.tag, .int .i64 x.conn, .int .i64 x.sub, .int .i64 x.itm.seq, .bool x.itm.again, .string ⟨x.itm.msg.topic.toArray⟩, .string ⟨x.itm.msg.body.toArray⟩, .slice pa1 np pc1, .bool x.itm.msg.dur, .int .i64 x.itm.msg.til] 45)).drew wt.heap.size #[.int .i64 x.tag, .int .i64 x.conn, .int .i64 x.sub, .int .i64 x.itm.seq, .bool x.itm.again, .string ⟨x.itm.msg.topic.toArray⟩, .string ⟨x.itm.msg.body.toArray⟩, .slice pa2 np pc2, .bool x.itm.msg.dur, .int .i64 x.itm.msg.til] 45 := ⟨((Blk.new wt _ _).alloc _).h⟩
              have kB : Blk ((wt.alloc (.cells #[.int .i64 x.tag, .int .i64 x.conn, .int .i64 x.sub, .int .i64 x.itm.seq, .bool x.itm.again, .string ⟨x.itm.msg.topic.toArray⟩, .string ⟨x.itm.msg.body.toArray⟩, .slice pa2 np pc2, .bool x.itm.msg.dur, .int .i64 x.itm.msg.til] 45)).alloc (.cells #[.int .i64 x.tag, .int .i64 x.conn, .int .i64 x.sub, .int .i64 x.itm.seq, .bool x.itm.again, .string ⟨x.itm.msg.topic.toArray⟩, .string ⟨x.itm.msg.body.toArray⟩, .slice pa1 np pc1, .bool x.itm.msg.dur, .int .i64 x.itm.msg.til] 45)).drew (wt.heap.size + 1) #[.int .i64 x.tag, .int .i64 x.conn, .int .i64 x.sub, .int .i64 x.itm.seq, .bool x.itm.again, .string ⟨x.itm.msg.topic.toArray⟩, .string ⟨x.itm.msg.body.toArray⟩, .slice pa1 np pc1, .bool x.itm.msg.dur, .int .i64 x.itm.msg.til] 45 := by
                have := Blk.new (wt.alloc (.cells #[.int .i64 x.tag, .int .i64 x.conn, .int .i64 x.sub, .int .i64 x.itm.seq, .bool x.itm.again, .string ⟨x.itm.msg.topic.toArray⟩, .string ⟨x.itm.msg.body.toArray⟩, .slice pa2 np pc2, .bool x.itm.msg.dur, .int .i64 x.itm.msg.til] 45)) #[.int .i64 x.tag, .int .i64 x.conn, .int .i64 x.sub, .int .i64 x.itm.seq, .bool x.itm.again, .string ⟨x.itm.msg.topic.toArray⟩, .string ⟨x.itm.msg.body.toArray⟩, .slice pa1 np pc1, .bool x.itm.msg.dur, .int .i64 x.itm.msg.til] 45
                rw [World.size_alloc] at this
                exact ⟨this.h⟩
              have bb : Below wt.heap.size wt ((wt.alloc (.cells #[.int .i64 x.tag, .int .i64 x.conn, .int .i64 x.sub, .int .i64 x.itm.seq, .bool x.itm.again, .string ⟨x.itm.msg.topic.toArray⟩, .string ⟨x.itm.msg.body.toArray⟩, .slice pa2 np pc2, .bool x.itm.msg.dur, .int .i64 x.itm.msg.til] 45)).alloc (.cells #[.int .i64 x.tag, .int .i64 x.conn, .int .i64 x.sub, .int .i64 x.itm.seq, .bool x.itm.again, .string ⟨x.itm.msg.topic.toArray⟩, .string ⟨x.itm.msg.body.toArray⟩, .slice pa1 np pc1, .bool x.itm.msg.dur, .int .i64 x.itm.msg.til] 45)).drew := (((Below.refl _ wt).alloc (Nat.le_refl _) _).alloc (by simp) _).drew
              go_wp2_with fail
              go_meet
              exact ⟨_, _, rfl, rfl, kB, kA, HT.out.on bb⟩
          case rest =>
            obtain ⟨gA, gB, rfl, rfl, HU⟩ := hcut
            clear c0 c1 c2 c3 c4 c5 c6 d0 d1 d2 d3 d4 d5 d6 e0 e1 e2 e3 e4 e5 e6 e7 e8 e9 f0 f1 f2 f3 f4 f5 f6 f7 f8 f9 L1 L2 L3 L4 L1' L2' L3' L4' L5' L6' L7' HT
            have HB := HA.out wc HU.out.2.2.l
            unfold itmV at HB
            obtain ⟨c0, c1, c2, c3, c4, c5, c6, c7, c8, c9⟩ := HU.out.1.c10
            obtain ⟨d0, d1, d2, d3, d4, d5, d6, d7, d8, d9⟩ := HU.out.2.1.c10
            have S5 : Hid (SaS w wc #[tx q.name, .bool q.dur, .int .i64 q.depth, .int .i64 q.seq, .int .i64 q.tag, .slice ai ni ci, .slice (some ⟨b1, o1, none⟩) nh ch] #[tx q.name, .bool q.dur, .int .i64 q.depth, .int .i64 q.seq, .int .i64 q.tag, .slice bi ni di, .slice (some ⟨b2, o2, none⟩) nh dh]) := HU.out.2.2
            clear HU HA
            go_wp2_with fail
            refine HB.mono ?_
            rintro e w6 ⟨rfl, b6⟩
            have S6 : Hid (SaS w w6 #[tx q.name, .bool q.dur, .int .i64 q.depth, .int .i64 q.seq, .int .i64 q.tag, .slice ai ni ci, .slice (some ⟨b1, o1, none⟩) nh ch] #[tx q.name, .bool q.dur, .int .i64 q.depth, .int .i64 q.seq, .int .i64 q.tag, .slice bi ni di, .slice (some ⟨b2, o2, none⟩) nh dh]) := S5.out.on b6
            clear S5 b6 HB c0 c1 c2 c3 c4 c5 c6 c7 c8 c9 d0 d1 d2 d3 d4 d5 d6 d7 d8 d9
            go_wp2_with fail
            go_roundg (nh - (k2 + 1))
            case measure => omega
            case rel => exact ⟨k2 + 1, by omega, by omega, by go_num, S6⟩
        · have hl2z : ¬ (k2 : Int) < (nh : Int) := by omega
          go_wp2
          go_ret
          exact ⟨rfl, HT.out.l⟩
end Go.Proofs.YtlbcefocmdnlgaaDoor
namespace Go.Proofs.YtlbcefocmdnlgaaDoor
open Go.RowKit Go.Lib
set_option linter.unusedSimpArgs false

theorem isR_all (conn : Int) (h : Hld) : isR conn (-1) h = decide (h.conn = conn) := by simp [isR]
theorem release_again (q : Que) (conn : Int) : releaseQ (releaseQ q conn (-1)) conn (-1) = releaseQ q conn (-1) := by
  have e1 : (q.held.filter (fun h => !isR conn (-1) h)).filter (isR conn (-1)) = [] := by
    rw [List.filter_filter]
    exact List.filter_eq_nil_iff.2 fun h _ => by simp
  have e2 : (q.held.filter (fun h => !isR conn (-1) h)).filter (fun h => !isR conn (-1) h) = q.held.filter (fun h => !isR conn (-1) h) := by
    rw [List.filter_filter]
    congr 1
    funext h
    simp
  simp only [releaseQ, e1, e2, backs, List.foldl_nil]
theorem release_len {q : Que} (hg : GoodP q) (conn sub : Int) : lenQ (releaseQ q conn sub) = lenQ q := by
  have h := tell_release (q := q) (conn := conn) (sub := sub) hg (List.Perm.refl (seqs q))
  have h1 := h.length_eq
  simp only [seqs, List.length_append, List.length_map] at h1
  unfold lenQ
  omega
/-- How many are not of this connection. -/
def cntN (conn : Int) (l : List Hld) : Nat := l.countP fun h => !decide (h.conn = conn)
theorem cntN_snoc (conn : Int) (l : List Hld) (x : Hld) : cntN conn (l ++ [x]) = cntN conn l + if x.conn = conn then 0 else 1 := by
  by_cases e : x.conn = conn <;> simp [cntN, List.countP_append, List.countP_cons, e]
theorem release_held (q : Que) (conn : Int) : (releaseQ q conn (-1)).held.length = cntN conn q.held := by
  show (q.held.filter (fun h => !isR conn (-1) h)).length = _
  rw [← List.countP_eq_length_filter]
  simp only [isR_all]
  rfl
theorem inj_held : ∀ {l : List Hld}, (l.map (·.itm.seq)).Nodup → ∀ {x y : Hld}, x ∈ l → y ∈ l → x.itm.seq = y.itm.seq → x = y
  | [], _, _, _, h, _, _ => by simp at h
  | z :: l, hn, x, y, hx, hy, e => by
    simp only [List.map_cons, List.nodup_cons] at hn
    rcases List.mem_cons.1 hx with ex | hx1 <;> rcases List.mem_cons.1 hy with ey | hy1
    · rw [ex, ey]
    · refine absurd ?_ hn.1
      rw [← ex, e]
      exact List.mem_map_of_mem hy1
    · refine absurd ?_ hn.1
      rw [← ey, ← e]
      exact List.mem_map_of_mem hx1
    · exact inj_held hn.2 hx1 hy1 e
/-- What waits by the number of what was held is it, marked. -/
theorem release_is {q : Que} (hg : GoodP q) {conn : Int} {h : Hld} (hh : h ∈ q.held) {z : Itm} (hz : z ∈ (releaseQ q conn (-1)).items) (e : z.seq = h.itm.seq) : z = { h.itm with again := true } := by
  have hnd := List.nodup_append.1 hg.nd
  have hn1 : (q.items.map (·.seq) ++ (q.held.filter (isR conn (-1))).map (·.itm.seq)).Nodup := by
    refine List.nodup_append.2 ⟨hnd.1, hnd.2.1.sublist (List.filter_sublist.map _), fun a ha b hb => ?_⟩
    exact hnd.2.2 a ha b ((List.filter_sublist.map _).subset hb)
  obtain ⟨_, _, h3⟩ := backs_facts (q.held.filter (isR conn (-1))) q.items hg.ri hn1
  rcases h3 z hz with h4 | ⟨x, hx, rfl⟩
  · exact absurd e (hnd.2.2 _ (List.mem_map_of_mem h4) _ (List.mem_map_of_mem hh))
  · have hx' := (List.mem_filter.1 hx).1
    rw [inj_held hnd.2.1 hx' hh e]
/-- What a connection held waits. -/
theorem release_has {q : Que} (hg : GoodP q) {conn : Int} {h : Hld} (hh : h ∈ q.held) (hc : h.conn = conn) : ((releaseQ q conn (-1)).items.any fun z => z.seq == h.itm.seq) = true := by
  have hnd := List.nodup_append.1 hg.nd
  have hn1 : (q.items.map (·.seq) ++ (q.held.filter (isR conn (-1))).map (·.itm.seq)).Nodup := by
    refine List.nodup_append.2 ⟨hnd.1, hnd.2.1.sublist (List.filter_sublist.map _), fun a ha b hb => ?_⟩
    exact hnd.2.2 a ha b ((List.filter_sublist.map _).subset hb)
  obtain ⟨_, h2, _⟩ := backs_facts (q.held.filter (isR conn (-1))) q.items hg.ri hn1
  have hm : h.itm.seq ∈ (backs q.items (q.held.filter (isR conn (-1)))).map (·.seq) := by
    refine h2.mem_iff.2 (List.mem_append_right _ (List.mem_map_of_mem (List.mem_filter.2 ⟨hh, ?_⟩)))
    rw [isR_all]
    simpa using hc
  obtain ⟨z, hz, e⟩ := List.mem_map.1 hm
  exact List.any_eq_true.2 ⟨z, hz, by simpa using e⟩
def fnd (n : Int) (l : List Itm) : Bool := l.any fun z => z.seq == n
theorem fnd_snoc (n : Int) (l : List Itm) (x : Itm) : fnd n (l ++ [x]) = (fnd n l || (x.seq == n)) := by
  simp [fnd, List.any_append]
end Go.Proofs.YtlbcefocmdnlgaaDoor

namespace Go.Proofs.YtlbcefocmdnlgaaDoor
open Go.RowKit Go.Lib
set_option maxRecDepth 100000
set_option linter.unusedSimpArgs false

/-- Three queues lie in three blocks. -/
structure Re3 (w W : World) (g2 g5 g7 : Nat) (Q X Y : Array Value) : Prop where
  a : Blk W g2 Q 25
  b : Blk W g5 X 25
  c : Blk W g7 Y 25
  l : Below w.heap.size w W
theorem Re3.on {w W W' : World} {g2 g5 g7 : Nat} {Q X Y : Array Value} (h : Re3 w W g2 g5 g7 Q X Y) (hb : Below W.heap.size W W') : Re3 w W' g2 g5 g7 Q X Y := ⟨h.a.on hb, h.b.on hb, h.c.on hb, nxt h.l hb⟩
theorem release_at {W : World} (hva : To.Vars W) {q q' : Que} {iv hv : Value} (hi : RdI W iv q.items) (hh : RdH W hv q.held) {conn : Int} (hc : goodQ q = true) (hq : releaseQ q conn (-1) = q') (hl : lenQ q ≤ 1000000) :
    Calls Tryd.prog 13 #[.agg #[tx q.name, .bool q.dur, .int .i64 q.depth, .int .i64 q.seq, .int .i64 q.tag, iv, hv], .int .i64 conn, .int .i64 (-1)] W fun e w' => ∃ v', e = .returned (.tuple #[v', .int .i64 0]) ∧ OwnQ w' W.heap.size v' q' ∧ Below W.heap.size W w' := by
  have h := release_any W hva _ q ⟨iv, hv, rfl, hi, hh⟩ conn (-1) hl
  have e0 : relC q = 0 := by simp [relC, hc]
  rw [e0, if_pos rfl, hq] at h
  exact h

set_option maxHeartbeats 4000000 in
theorem releases_law (w : World) (hva : To.Vars w) (v : Value) (q : Que) (h : RdQ w v q) (hbig : lenQ q ≤ 9223372036854775806) (conn : Int) :
    Calls Tryd.prog 5 #[v, .int .i64 conn] w fun e w' => e = .returned (.bool true) ∧ Below w.heap.size w w' := by
  obtain ⟨iv, hv, rfl, hi, hh⟩ := h
  obtain ⟨ai, ci, rfl⟩ := hi.len
  obtain ⟨ah, ch, rfl⟩ := hh.len
  obtain ⟨ni, hni⟩ : ∃ n, q.items.length = n := ⟨_, rfl⟩
  obtain ⟨nh, hnh⟩ : ∃ n, q.held.length = n := ⟨_, rfl⟩
  rw [hni] at hi ⊢
  rw [hnh] at hh ⊢
  have NQ : Hid (q.items.length = ni ∧ q.held.length = nh) := ⟨hni, hnh⟩
  have RQ : Hid (RdI w (.slice ai ni ci) q.items ∧ RdH w (.slice ah nh ch) q.held) := ⟨hi, hh⟩
  clear hi hh hni hnh
  have B0 := (Below.refl w.heap.size w).alloc (Nat.le_refl _) (.cells #[tx q.name, .bool q.dur, .int .i64 q.depth, .int .i64 q.seq, .int .i64 q.tag, .slice ai ni ci, .slice ah nh ch] 25)
  have K0 := Blk.new w #[tx q.name, .bool q.dur, .int .i64 q.depth, .int .i64 q.seq, .int .i64 q.tag, .slice ai ni ci, .slice ah nh ch] 25
  unfold queV at *
  go_enter Tryd.func5, Tryd.ntmps5
  go_upto_region 1 with fail
  generalize w.alloc (.cells #[tx q.name, .bool q.dur, .int .i64 q.depth, .int .i64 q.seq, .int .i64 q.tag, .slice ai ni ci, .slice ah nh ch] 25) = w1 at *
  go_wp2_with fail
  refine (wakes_any w1 (hva.below B0)).mono ?_
  rintro e w2 ⟨rfl, b2⟩
  have B2 := nxt B0 b2
  have K2 : Hid (Blk w2 w.heap.size #[tx q.name, .bool q.dur, .int .i64 q.depth, .int .i64 q.seq, .int .i64 q.tag, .slice ai ni ci, .slice ah nh ch] 25) := K0.on b2
  have R2 := RQ.out.1.on B2
  have R2' := RQ.out.2.on B2
  have HL := long_any w2 _ q ⟨_, _, rfl, R2, R2'⟩ hbig
  have HG2 := fun (W : World) (b : Below w2.heap.size w2 W) (hs : lenQ q ≤ 200) => good_any W (hva.below (nxt B2 b)) _ q ⟨_, _, rfl, R2.on b, R2'.on b⟩ (by omega)
  have BB : Hid (Below w.heap.size w w2) := B2
  clear B0 K0 b2 R2 R2' B2
  unfold queV at HL HG2
  go_wp2_with (refine wpl_load25 rfl (.tmp 2) rfl _ _ rfl K2.out rfl ?_)
  refine HL.mono ?_
  rintro e w3 ⟨⟨bl, rfl, hbl⟩, b3⟩
  have B3 : Hid (Below w.heap.size w w3) := nxt BB.out b3
  have K3 : Hid (Blk w3 w.heap.size #[tx q.name, .bool q.dur, .int .i64 q.depth, .int .i64 q.seq, .int .i64 q.tag, .slice ai ni ci, .slice ah nh ch] 25) := K2.out.on b3
  clear HL K2
  cases bl with
  | true =>
    clear HG2 hbl
    go_wp2
    go_ret
    exact ⟨rfl, B3.out⟩
  | false =>
    have hl200 := hbl rfl
    have HG := HG2 w3 b3 hl200
    clear hbl HG2 b3 BB
    obtain ⟨c0, c1, c2, c3, c4, c5, c6⟩ := K3.out.c7
    go_wp2_with fail
    refine HG.mono ?_
    rintro e w4 ⟨rfl, b4⟩
    have B4 : Hid (Below w.heap.size w w4) := nxt B3.out b4
    have K4 : Hid (Blk w4 w.heap.size #[tx q.name, .bool q.dur, .int .i64 q.depth, .int .i64 q.seq, .int .i64 q.tag, .slice ai ni ci, .slice ah nh ch] 25) := K3.out.on b4
    clear HG K3 B3 b4 c0 c1 c2 c3 c4 c5 c6
    cases hg : goodQ q with
    | false =>
      go_wp2
      go_ret
      exact ⟨rfl, B4.out⟩
    | true =>
      obtain ⟨x, hx⟩ : ∃ x, releaseQ q conn (-1) = x := ⟨_, rfl⟩
      have HP := (goodQ_iff q).1 hg
      have hxx : releaseQ x conn (-1) = x := by rw [← hx]; exact release_again q conn
      have hgx : goodQ x = true := by rw [← hx]; exact (goodQ_iff _).2 (good_release HP conn (-1))
      have hlx : lenQ x = lenQ q := by rw [← hx]; exact release_len HP conn (-1)
      have hq64 := (goodQ_small hg).2.1
      have HR := release_at (hva.below B4.out) (RQ.out.1.on B4.out) (RQ.out.2.on B4.out) hg hx (by omega)
      have FX : Hid (releaseQ q conn (-1) = x ∧ releaseQ x conn (-1) = x ∧ goodQ x = true ∧ lenQ x = lenQ q ∧ goodQ q = true ∧ lenQ q ≤ 64) := ⟨hx, hxx, hgx, hlx, hg, hq64⟩
      clear HP hx hxx hgx hlx hg hq64
      go_wp2_with (refine wpl_load25 rfl (.tmp 2) rfl _ _ rfl K4.out rfl ?_)
      refine HR.mono ?_
      rintro e w5 ⟨v5, rfl, ⟨iv5, hv5, rfl, oi5, oh5⟩, b5⟩
      obtain ⟨bi, di, rfl⟩ := oi5.rd.len
      obtain ⟨bh, dh, rfl⟩ := oh5.rd.len
      obtain ⟨mi, hmi⟩ : ∃ n, x.items.length = n := ⟨_, rfl⟩
      obtain ⟨mh, hmh⟩ : ∃ n, x.held.length = n := ⟨_, rfl⟩
      rw [hmi] at oi5 ⊢
      rw [hmh] at oh5 ⊢
      have NX : Hid (x.items.length = mi ∧ x.held.length = mh) := ⟨hmi, hmh⟩
      have O5 : Hid (RdI w5 (.slice bi mi di) x.items ∧ RdH w5 (.slice bh mh dh) x.held) := ⟨oi5.rd, oh5.rd⟩
      have B5 : Hid (Below w.heap.size w w5) := nxt B4.out b5
      have K5 : Hid (Blk w5 w.heap.size #[tx q.name, .bool q.dur, .int .i64 q.depth, .int .i64 q.seq, .int .i64 q.tag, .slice ai ni ci, .slice ah nh ch] 25) := K4.out.on b5
      clear oi5 oh5 hmi hmh HR b5 K4 B4
      unfold queV
      go_wp2_with (refine wpl_fresh rfl (.tmp 5) (.tmp 28) rfl _ _ rfl rfl (by kernel_rfl) rfl (by simp [Value.oneCell']) ?_)
      intro w6 k6 b6 s6
      have K6 : Hid (Blk w6 w.heap.size #[tx q.name, .bool q.dur, .int .i64 q.depth, .int .i64 q.seq, .int .i64 q.tag, .slice ai ni ci, .slice ah nh ch] 25) := K5.out.on b6
      have X6 : Hid (Blk w6 w5.heap.size #[tx x.name, .bool x.dur, .int .i64 x.depth, .int .i64 x.seq, .int .i64 x.tag, .slice bi mi di, .slice bh mh dh] 25) := k6
      have B6 : Hid (Below w.heap.size w w6) := nxt B5.out b6
      have O6 : Hid (RdI w6 (.slice bi mi di) x.items ∧ RdH w6 (.slice bh mh dh) x.held) := ⟨O5.out.1.on b6, O5.out.2.on b6⟩
      clear k6 b6 s6 K5 B5 O5
      generalize w5.heap.size = g5 at *
      have HR := release_at (hva.below B6.out) O6.out.1 O6.out.2 FX.out.2.2.1 FX.out.2.1 (by have h1 := FX.out.2.2.2.1; have h2 := FX.out.2.2.2.2.2; omega)
      go_wp2_with (refine wpl_load25 rfl (.tmp 5) rfl _ _ rfl X6.out rfl ?_)
      refine HR.mono ?_
      rintro e w7 ⟨v7, rfl, ⟨iv7, hv7, rfl, oi7, oh7⟩, b7⟩
      obtain ⟨ei, fi, rfl⟩ := oi7.rd.len
      obtain ⟨eh, fh, rfl⟩ := oh7.rd.len
      rw [NX.out.1] at oi7 ⊢
      rw [NX.out.2] at oh7 ⊢
      have K7 : Hid (Blk w7 w.heap.size #[tx q.name, .bool q.dur, .int .i64 q.depth, .int .i64 q.seq, .int .i64 q.tag, .slice ai ni ci, .slice ah nh ch] 25) := K6.out.on b7
      have X7 : Hid (Blk w7 g5 #[tx x.name, .bool x.dur, .int .i64 x.depth, .int .i64 x.seq, .int .i64 x.tag, .slice bi mi di, .slice bh mh dh] 25) := X6.out.on b7
      have B7 : Hid (Below w.heap.size w w7) := nxt B6.out b7
      have O7 : Hid (RdI w7 (.slice bi mi di) x.items ∧ RdH w7 (.slice bh mh dh) x.held) := ⟨O6.out.1.on b7, O6.out.2.on b7⟩
      have P7 : Hid (RdI w7 (.slice ei mi fi) x.items ∧ RdH w7 (.slice eh mh fh) x.held) := ⟨oi7.rd, oh7.rd⟩
      clear oi7 oh7 b7 K6 X6 B6 O6 HR
      unfold queV
      go_wp2_with (refine wpl_fresh rfl (.tmp 7) (.tmp 34) rfl _ _ rfl rfl (by kernel_rfl) rfl (by simp [Value.oneCell']) ?_)
      intro w8 k8 b8 s8
      have T8 : Re3 w8 w8 w.heap.size g5 w7.heap.size #[tx q.name, .bool q.dur, .int .i64 q.depth, .int .i64 q.seq, .int .i64 q.tag, .slice ai ni ci, .slice ah nh ch] #[tx x.name, .bool x.dur, .int .i64 x.depth, .int .i64 x.seq, .int .i64 x.tag, .slice bi mi di, .slice bh mh dh] #[tx x.name, .bool x.dur, .int .i64 x.depth, .int .i64 x.seq, .int .i64 x.tag, .slice ei mi fi, .slice eh mh fh] := ⟨K7.out.on b8, X7.out.on b8, k8, Below.refl _ w8⟩
      have B8 : Hid (Below w.heap.size w w8) := nxt B7.out b8
      have O8 : Hid (RdI w8 (.slice bi mi di) x.items ∧ RdH w8 (.slice bh mh dh) x.held) := ⟨O7.out.1.on b8, O7.out.2.on b8⟩
      have P8 : Hid (RdI w8 (.slice ei mi fi) x.items ∧ RdH w8 (.slice eh mh fh) x.held) := ⟨P7.out.1.on b8, P7.out.2.on b8⟩
      clear k8 b8 s8 K7 X7 B7 O7 P7
      generalize w7.heap.size = g7 at *
      have HG := fun (W : World) (b : Below w8.heap.size w8 W) => good_any W (hva.below (nxt B8.out b)) _ x ⟨_, _, rfl, O8.out.1.on b, O8.out.2.on b⟩ (by have h1 := FX.out.2.2.2.1; have h2 := FX.out.2.2.2.2.2; omega)
      have HE := fun (W : World) (b : Below w8.heap.size w8 W) => same_same W _ _ x ⟨_, _, rfl, O8.out.1.on b, O8.out.2.on b⟩ ⟨_, _, rfl, P8.out.1.on b, P8.out.2.on b⟩ (goodQ_small FX.out.2.2.1).1
      have HX := fun (W : World) (b : Below w8.heap.size w8 W) => len_any W _ x ⟨_, _, rfl, O8.out.1.on b, O8.out.2.on b⟩ (by have h1 := FX.out.2.2.2.1; have h2 := FX.out.2.2.2.2.2; omega)
      have HQ := fun (W : World) (b : Below w8.heap.size w8 W) => len_any W _ q ⟨_, _, rfl, RQ.out.1.on (nxt B8.out b), RQ.out.2.on (nxt B8.out b)⟩ (by have h2 := FX.out.2.2.2.2.2; omega)
      rw [FX.out.2.2.1] at HG
      rw [FX.out.2.2.2.1] at HX
      unfold queV at HG HE HX HQ
      generalize lenQ q = lq at *
      clear P8
      go_upto_region 7 with fail
      refine wp_region_held (S := fun W => Re3 w8 W w.heap.size g5 g7 #[tx q.name, .bool q.dur, .int .i64 q.depth, .int .i64 q.seq, .int .i64 q.tag, .slice ai ni ci, .slice ah nh ch] #[tx x.name, .bool x.dur, .int .i64 x.depth, .int .i64 x.seq, .int .i64 x.tag, .slice bi mi di, .slice bh mh dh] #[tx x.name, .bool x.dur, .int .i64 x.depth, .int .i64 x.seq, .int .i64 x.tag, .slice ei mi fi, .slice eh mh fh]) hmix ?_
      show wpAnyH _ _ _ _ _ _ _ _ (World.drew _)
      have hS : Re3 w8 w8.drew w.heap.size g5 g7 #[tx q.name, .bool q.dur, .int .i64 q.depth, .int .i64 q.seq, .int .i64 q.tag, .slice ai ni ci, .slice ah nh ch] #[tx x.name, .bool x.dur, .int .i64 x.depth, .int .i64 x.seq, .int .i64 x.tag, .slice bi mi di, .slice bh mh dh] #[tx x.name, .bool x.dur, .int .i64 x.depth, .int .i64 x.seq, .int .i64 x.tag, .slice ei mi fi, .slice eh mh fh] := ⟨⟨T8.a.h⟩, ⟨T8.b.h⟩, ⟨T8.c.h⟩, T8.l.drew⟩
      clear T8
      generalize w8.drew = w9 at *
      refine wpAnyH_take (i := 0) (v := .int .i64 0) rfl (by kernel_rfl) (by kernel_rfl) (by kernel_rfl) (fun _ _ _ h => h) (.inl ⟨by rfl, fun W' hW' => ?_⟩) hS ?_
      · go_simp
      simp only [Act.put, List.getElem_toArray, List.getElem_cons_zero, List.setIfInBounds_toArray, List.set_cons_succ, List.set_cons_zero]
      refine wpAnyH_take (i := 1) (v := .bool false) rfl (by kernel_rfl) (by kernel_rfl) (by kernel_rfl) (fun _ _ _ h => h) (.inl ⟨by rfl, fun W' hW' => ?_⟩) hS ?_
      · go_simp
      simp only [Act.put, List.getElem_toArray, List.getElem_cons_succ, List.getElem_cons_zero, List.setIfInBounds_toArray, List.set_cons_succ, List.set_cons_zero]
      refine wpAnyH_take (i := 2) (v := .bool false) rfl (by kernel_rfl) (by kernel_rfl) (by kernel_rfl) (fun _ _ _ h => h) (.inl ⟨by rfl, fun W' hW' => ?_⟩) hS ?_
      · go_simp
      simp only [Act.put, List.getElem_toArray, List.getElem_cons_succ, List.getElem_cons_zero, List.setIfInBounds_toArray, List.set_cons_succ, List.set_cons_zero]
      refine wpAnyH_take (i := 3) (v := .int .i64 0) rfl (by kernel_rfl) (by kernel_rfl) (by kernel_rfl) (fun _ _ _ h => h) (.inl ⟨by rfl, fun W' hW' => ?_⟩) hS ?_
      · go_simp
      simp only [Act.put, List.getElem_toArray, List.getElem_cons_succ, List.getElem_cons_zero, List.setIfInBounds_toArray, List.set_cons_succ, List.set_cons_zero]
      refine wpAnyH_take (i := 4) (v := .bool false) rfl (by kernel_rfl) (by kernel_rfl) (by kernel_rfl) (fun _ _ _ h => h) (.inl ⟨by rfl, fun W' hW' => ?_⟩) hS ?_
      · go_simp
      simp only [Act.put, List.getElem_toArray, List.getElem_cons_succ, List.getElem_cons_zero, List.setIfInBounds_toArray, List.set_cons_succ, List.set_cons_zero]
      refine wpAnyH_take (i := 5) (v := .bool false) rfl (by kernel_rfl) (by kernel_rfl) (by kernel_rfl) (fun _ _ _ h => h) (.inl ⟨by rfl, fun W' hW' => ?_⟩) hS ?_
      · go_simp
      simp only [Act.put, List.getElem_toArray, List.getElem_cons_succ, List.getElem_cons_zero, List.setIfInBounds_toArray, List.set_cons_succ, List.set_cons_zero]
      refine wpAnyH_take (i := 6) (v := .bool false) rfl (by kernel_rfl) (by kernel_rfl) (by kernel_rfl) (fun _ _ _ h => h) (.inl ⟨by rfl, fun W' hW' => ?_⟩) hS ?_
      · go_simp
      simp only [Act.put, List.getElem_toArray, List.getElem_cons_succ, List.getElem_cons_zero, List.setIfInBounds_toArray, List.set_cons_succ, List.set_cons_zero]
      refine wpAnyH_take (i := 7) (v := .agg #[tx x.name, .bool x.dur, .int .i64 x.depth, .int .i64 x.seq, .int .i64 x.tag, .slice bi mi di, .slice bh mh dh]) rfl (by kernel_rfl) (by kernel_rfl) (by kernel_rfl) (fun _ _ _ h => h) (.inl ⟨by rfl, fun W' hW' => ?_⟩) hS ?_
      · obtain ⟨d0, d1, d2, d3, d4, d5, d6⟩ := hW'.b.c7; go_simp
      simp only [Act.put, List.getElem_toArray, List.getElem_cons_succ, List.getElem_cons_zero, List.setIfInBounds_toArray, List.set_cons_succ, List.set_cons_zero]
      refine wpAnyH_one (i := 8) (by kernel_rfl) rfl (by rfl) (fun K hK => ?_)
      go_simp
      refine (HG _ hS.l).mono ?_
      rintro e w5 ⟨rfl, b5⟩
      replace hS := hS.on b5
      show K _ _
      refine hK _ _ hS ?_
      clear hK K b5
      refine wpAnyH_take (i := 9) (v := .bool false) rfl (by kernel_rfl) (by kernel_rfl) (by kernel_rfl) (fun _ _ _ h => h) (.inl ⟨by rfl, fun W' hW' => ?_⟩) hS ?_
      · go_simp
      simp only [Act.put, List.getElem_toArray, List.getElem_cons_succ, List.getElem_cons_zero, List.setIfInBounds_toArray, List.set_cons_succ, List.set_cons_zero]
      refine wpAnyH_take (i := 10) (v := .bool false) rfl (by kernel_rfl) (by kernel_rfl) (by kernel_rfl) (fun _ _ _ h => h) (.inl ⟨by rfl, fun W' hW' => ?_⟩) hS ?_
      · go_simp
      simp only [Act.put, List.getElem_toArray, List.getElem_cons_succ, List.getElem_cons_zero, List.setIfInBounds_toArray, List.set_cons_succ, List.set_cons_zero]
      refine wpAnyH_take (i := 11) (v := .bool false) rfl (by kernel_rfl) (by kernel_rfl) (by kernel_rfl) (fun _ _ _ h => h) (.inl ⟨by rfl, fun W' hW' => ?_⟩) hS ?_
      · go_simp
      simp only [Act.put, List.getElem_toArray, List.getElem_cons_succ, List.getElem_cons_zero, List.setIfInBounds_toArray, List.set_cons_succ, List.set_cons_zero]
      refine wpAnyH_take (i := 12) (v := .agg #[tx x.name, .bool x.dur, .int .i64 x.depth, .int .i64 x.seq, .int .i64 x.tag, .slice bi mi di, .slice bh mh dh]) rfl (by kernel_rfl) (by kernel_rfl) (by kernel_rfl) (fun _ _ _ h => h) (.inl ⟨by rfl, fun W' hW' => ?_⟩) hS ?_
      · obtain ⟨d0, d1, d2, d3, d4, d5, d6⟩ := hW'.b.c7; go_simp
      simp only [Act.put, List.getElem_toArray, List.getElem_cons_succ, List.getElem_cons_zero, List.setIfInBounds_toArray, List.set_cons_succ, List.set_cons_zero]
      refine wpAnyH_take (i := 13) (v := .agg #[tx x.name, .bool x.dur, .int .i64 x.depth, .int .i64 x.seq, .int .i64 x.tag, .slice ei mi fi, .slice eh mh fh]) rfl (by kernel_rfl) (by kernel_rfl) (by kernel_rfl) (fun _ _ _ h => h) (.inl ⟨by rfl, fun W' hW' => ?_⟩) hS ?_
      · obtain ⟨d0, d1, d2, d3, d4, d5, d6⟩ := hW'.c.c7; go_simp
      simp only [Act.put, List.getElem_toArray, List.getElem_cons_succ, List.getElem_cons_zero, List.setIfInBounds_toArray, List.set_cons_succ, List.set_cons_zero]
      refine wpAnyH_one (i := 14) (by kernel_rfl) rfl (by rfl) (fun K hK => ?_)
      go_simp
      refine (HE _ hS.l).mono ?_
      rintro e w5 ⟨rfl, b5⟩
      replace hS := hS.on b5
      show K _ _
      refine hK _ _ hS ?_
      clear hK K b5
      refine wpAnyH_take (i := 15) (v := .bool false) rfl (by kernel_rfl) (by kernel_rfl) (by kernel_rfl) (fun _ _ _ h => h) (.inl ⟨by rfl, fun W' hW' => ?_⟩) hS ?_
      · go_simp
      simp only [Act.put, List.getElem_toArray, List.getElem_cons_succ, List.getElem_cons_zero, List.setIfInBounds_toArray, List.set_cons_succ, List.set_cons_zero]
      refine wpAnyH_take (i := 16) (v := .bool false) rfl (by kernel_rfl) (by kernel_rfl) (by kernel_rfl) (fun _ _ _ h => h) (.inl ⟨by rfl, fun W' hW' => ?_⟩) hS ?_
      · go_simp
      simp only [Act.put, List.getElem_toArray, List.getElem_cons_succ, List.getElem_cons_zero, List.setIfInBounds_toArray, List.set_cons_succ, List.set_cons_zero]
      refine wpAnyH_take (i := 17) (v := .bool false) rfl (by kernel_rfl) (by kernel_rfl) (by kernel_rfl) (fun _ _ _ h => h) (.inl ⟨by rfl, fun W' hW' => ?_⟩) hS ?_
      · go_simp
      simp only [Act.put, List.getElem_toArray, List.getElem_cons_succ, List.getElem_cons_zero, List.setIfInBounds_toArray, List.set_cons_succ, List.set_cons_zero]
      refine wpAnyH_take (i := 18) (v := .agg #[tx x.name, .bool x.dur, .int .i64 x.depth, .int .i64 x.seq, .int .i64 x.tag, .slice bi mi di, .slice bh mh dh]) rfl (by kernel_rfl) (by kernel_rfl) (by kernel_rfl) (fun _ _ _ h => h) (.inl ⟨by rfl, fun W' hW' => ?_⟩) hS ?_
      · obtain ⟨d0, d1, d2, d3, d4, d5, d6⟩ := hW'.b.c7; go_simp
      simp only [Act.put, List.getElem_toArray, List.getElem_cons_succ, List.getElem_cons_zero, List.setIfInBounds_toArray, List.set_cons_succ, List.set_cons_zero]
      refine wpAnyH_take (i := 20) (v := .agg #[tx q.name, .bool q.dur, .int .i64 q.depth, .int .i64 q.seq, .int .i64 q.tag, .slice ai ni ci, .slice ah nh ch]) rfl (by kernel_rfl) (by kernel_rfl) (by kernel_rfl) (fun _ _ _ h => h) (.inl ⟨by rfl, fun W' hW' => ?_⟩) hS ?_
      · obtain ⟨d0, d1, d2, d3, d4, d5, d6⟩ := hW'.a.c7; go_simp
      simp only [Act.put, List.getElem_toArray, List.getElem_cons_succ, List.getElem_cons_zero, List.setIfInBounds_toArray, List.set_cons_succ, List.set_cons_zero]
      refine wpAnyH_one (i := 19) (by kernel_rfl) rfl (by rfl) (fun K hK => ?_)
      go_simp
      refine (HX _ hS.l).mono ?_
      rintro e w5 ⟨rfl, b5⟩
      replace hS := hS.on b5
      show K _ _
      refine hK _ _ hS ?_
      clear hK K b5
      refine wpAnyH_one (i := 21) (by kernel_rfl) rfl (by rfl) (fun K hK => ?_)
      go_simp
      refine (HQ _ hS.l).mono ?_
      rintro e w5 ⟨rfl, b5⟩
      replace hS := hS.on b5
      show K _ _
      refine hK _ _ hS ?_
      clear hK K b5
      refine wpAnyH_take (i := 22) (v := .bool false) rfl (by kernel_rfl) (by kernel_rfl) (by kernel_rfl) (fun _ _ _ h => h) (.inl ⟨by rfl, fun W' hW' => ?_⟩) hS ?_
      · go_simp
      simp only [Act.put, List.getElem_toArray, List.getElem_cons_succ, List.getElem_cons_zero, List.setIfInBounds_toArray, List.set_cons_succ, List.set_cons_zero]
      refine wpAnyH_take (i := 23) (v := .bool false) rfl (by kernel_rfl) (by kernel_rfl) (by kernel_rfl) (fun _ _ _ h => h) (.inl ⟨by rfl, fun W' hW' => ?_⟩) hS ?_
      · go_simp
      simp only [Act.put, List.getElem_toArray, List.getElem_cons_succ, List.getElem_cons_zero, List.setIfInBounds_toArray, List.set_cons_succ, List.set_cons_zero]
      refine wpAnyH_done (by kernel_rfl) ?_ _
      clear HG HE HX HQ
      obtain ⟨wD, hwD⟩ : ∃ W, W = w5 := ⟨_, rfl⟩
      subst hwD
      have KQ : Hid (Blk wD w.heap.size #[tx q.name, .bool q.dur, .int .i64 q.depth, .int .i64 q.seq, .int .i64 q.tag, .slice ai ni ci, .slice ah nh ch] 25) := hS.a
      have KX : Hid (Blk wD g5 #[tx x.name, .bool x.dur, .int .i64 x.depth, .int .i64 x.seq, .int .i64 x.tag, .slice bi mi di, .slice bh mh dh] 25) := hS.b
      have BD : Hid (Below w.heap.size w wD) := nxt B8.out hS.l
      obtain ⟨zh, eq1, hh⟩ := RQ.out.2.on BD.out
      obtain ⟨zi, eq2, hi⟩ := O8.out.1.on hS.l
      have HH : Hid (RdZ 10 (HeR (RdP wD)) wD (.slice ah nh ch) zh ∧ zh.map (·.2) = q.held ∧ zh.length = nh) := by
        refine (⟨hh, eq1, ?_⟩ : RdZ 10 (HeR (RdP wD)) wD (.slice ah nh ch) zh ∧ zh.map (·.2) = q.held ∧ zh.length = nh)
        rw [← NQ.out.2, ← eq1, List.length_map]
      have HI : Hid (RdZ 7 (ItR (RdP wD)) wD (.slice bi mi di) zi ∧ zi.map (·.2) = x.items ∧ zi.length = mi) := by
        refine (⟨hi, eq2, ?_⟩ : RdZ 7 (ItR (RdP wD)) wD (.slice bi mi di) zi ∧ zi.map (·.2) = x.items ∧ zi.length = mi)
        rw [← NX.out.1, ← eq2, List.length_map]
      have hnh : nh ≤ 64 := by
        have h2 := (goodQ_small FX.out.2.2.2.2.1).2.1
        rw [← NQ.out.2]
        exact Nat.le_trans (Nat.le_add_left _ _) h2
      have hmi : mi ≤ 64 := by
        have h2 := (goodQ_small FX.out.2.2.1).2.1
        rw [← NX.out.1]
        exact Nat.le_trans (Nat.le_add_right _ _) h2
      clear hS B8 O8 RQ eq1 eq2 hh hi hl200
      have c6 : wD.cell? ⟨w.heap.size, 6, none⟩ = some (.slice ah nh ch) := KQ.out.cell 6
      go_wp2_with fail
      go_loopg [9, 63] nh (fun gg s9 s63 wy => ∃ k c : Nat, k ≤ nh ∧ nh - k ≤ gg ∧ s63 = .int .i64 k ∧ s9 = .int .i64 c ∧ c ≤ k ∧ Hid (c = cntN conn (q.held.take k)) ∧ Hid (Below wD.heap.size wD wy))
      case atStart => exact ⟨0, 0, Nat.zero_le _, by omega, rfl, rfl, Nat.le_refl _, rfl, Below.refl _ wD⟩
      case round =>
        obtain ⟨k, c, hk, hgk, rfl, rfl, hck, HC, HB⟩ := hrel
        clear c6
        obtain ⟨wy, hwy⟩ : ∃ W, W = wr := ⟨_, rfl⟩
        subst hwy
        by_cases hlk : k < nh
        · have hlkz : (k : Int) < (nh : Int) := by omega
          obtain ⟨b2, o2, pv2, rfl, hz2, hp2, e0, e1, e2, e3, e4, e5, e6, e7, e8, e9⟩ := hld_at HH.out.1 HB.out (i := k) (by rw [HH.out.2.2]; exact hlk)
          have ET : Hid (q.held.take (k + 1) = q.held.take k ++ [(zh[k]'(by rw [HH.out.2.2]; exact hlk)).2]) := by
            show q.held.take (k + 1) = _
            rw [List.take_succ_eq_append_getElem (by rw [NQ.out.2]; exact hlk)]
            congr 2
            simp only [← HH.out.2.1, List.getElem_map]
          have HM : Hid ((zh[k]'(by rw [HH.out.2.2]; exact hlk)).2 ∈ q.held) := by
            show (zh[k]'(by rw [HH.out.2.2]; exact hlk)).2 ∈ q.held
            exact (fun a (ha : a ∈ zh.map (·.2)) => (HH.out.2.1 ▸ ha : a ∈ q.held)) _ (List.mem_map_of_mem (List.getElem_mem _))
          generalize (zh[k]'(by rw [HH.out.2.2]; exact hlk)).2 = h at *
          clear hz2
          obtain ⟨pa2, pc2, rfl⟩ := hp2.shape
          obtain ⟨np2, hnp2⟩ : ∃ n, h.itm.msg.props.length = n := ⟨_, rfl⟩
          rw [hnp2] at e7 hp2
          have HPH : Hid (RdP wy (.slice pa2 np2 pc2) h.itm.msg.props ∧ h.itm.msg.props.length = np2) := ⟨hp2, hnp2⟩
          clear hp2 hnp2
          go_wp2_with (refine wpl_fresh rfl (.tmp 11) (.tmp 66) rfl _ _ rfl rfl (by kernel_rfl) rfl (by simp [Value.oneCell']) ?_)
          intro wq kz bz sz
          have HB1 : Hid (Below wD.heap.size wD wq) := nxt HB.out bz
          have KH : Hid (Blk wq wy.heap.size #[.int .i64 h.tag, .int .i64 h.conn, .int .i64 h.sub, .int .i64 h.itm.seq, .bool h.itm.again, tx h.itm.msg.topic, tx h.itm.msg.body, .slice pa2 np2 pc2, .bool h.itm.msg.dur, .int .i64 h.itm.msg.til] 45) := kz
          have HPQ : Hid (RdP wq (.slice pa2 np2 pc2) h.itm.msg.props ∧ h.itm.msg.props.length = np2) := ⟨HPH.out.1.on bz, HPH.out.2⟩
          clear HB HPH e0 e1 e2 e3 e4 e5 e6 e7 e8 e9 bz kz sz
          generalize wy.heap.size = gh at *
          have d1 : wq.cell? ⟨gh, 1, none⟩ = some (.int .i64 h.conn) := KH.out.cell 1
          by_cases hcn : h.conn = conn
          · rw [hcn] at d1
            have HCN : Hid (h.conn = conn) := hcn
            clear hcn
            have KXq := KX.out.on HB1.out
            have x5 : wq.cell? ⟨g5, 5, none⟩ = some (.slice bi mi di) := KXq.cell 5
            clear KXq
            go_wp2_with fail
            go_loopg [12, 76] mi (fun gg s12 s76 wz => ∃ (j : Nat) (f : Bool), j ≤ mi ∧ mi - j ≤ gg ∧ s76 = .int .i64 j ∧ s12 = .bool f ∧ Hid (f = fnd h.itm.seq (x.items.take j)) ∧ Hid (Below wq.heap.size wq wz))
            case atStart => exact ⟨0, false, Nat.zero_le _, by omega, rfl, rfl, rfl, Below.refl _ wq⟩
            case round =>
              obtain ⟨j, f, hj, hgj, rfl, rfl, HF, HBz⟩ := hrel
              clear x5 d1
              obtain ⟨wz, hwz⟩ : ∃ W, W = wr := ⟨_, rfl⟩
              subst hwz
              by_cases hlj : j < mi
              · have hljz : (j : Int) < (mi : Int) := by omega
                obtain ⟨b3, o3, pv3, rfl, hz3, hp3, e0, e1, e2, e3, e4, e5, e6⟩ := itm_at HI.out.1 (nxt HB1.out HBz.out) (i := j) (by rw [HI.out.2.2]; exact hlj)
                have EZ : Hid (x.items.take (j + 1) = x.items.take j ++ [(zi[j]'(by rw [HI.out.2.2]; exact hlj)).2]) := by
                  show x.items.take (j + 1) = _
                  rw [List.take_succ_eq_append_getElem (by rw [NX.out.1]; exact hlj)]
                  congr 2
                  simp only [← HI.out.2.1, List.getElem_map]
                have MZ : Hid ((zi[j]'(by rw [HI.out.2.2]; exact hlj)).2 ∈ x.items) := by
                  show (zi[j]'(by rw [HI.out.2.2]; exact hlj)).2 ∈ x.items
                  exact (fun a (ha : a ∈ zi.map (·.2)) => (HI.out.2.1 ▸ ha : a ∈ x.items)) _ (List.mem_map_of_mem (List.getElem_mem _))
                generalize (zi[j]'(by rw [HI.out.2.2]; exact hlj)).2 = z at *
                clear hz3
                obtain ⟨pa3, pc3, rfl⟩ := hp3.shape
                have HPZ : Hid (RdP wz (.slice pa3 z.msg.props.length pc3) z.msg.props) := hp3
                clear hp3
                go_wp2_with (refine wpl_fresh rfl (.tmp 14) (.tmp 79) rfl _ _ rfl rfl (by kernel_rfl) rfl (by simp [Value.oneCell']) ?_)
                intro wv kv bv sv
                have HB2 : Hid (Below wq.heap.size wq wv) := nxt HBz.out bv
                have KZ : Hid (Blk wv wz.heap.size #[.int .i64 z.seq, .bool z.again, tx z.msg.topic, tx z.msg.body, .slice pa3 z.msg.props.length pc3, .bool z.msg.dur, .int .i64 z.msg.til] 35) := kv
                have HPV : Hid (RdP wv (.slice pa3 z.msg.props.length pc3) z.msg.props) := HPZ.out.on bv
                clear HBz HPZ e0 e1 e2 e3 e4 e5 e6 bv kv sv
                generalize wz.heap.size = gz at *
                cases f with
                | true =>
                  have HF1 : Hid (true = fnd h.itm.seq (x.items.take (j + 1))) := by
                    show true = _
                    rw [EZ.out, fnd_snoc, ← HF.out]
                    rfl
                  go_wp2_with fail
                  go_roundg (mi - (j + 1))
                  case measure => omega
                  case rel => exact ⟨j + 1, true, by omega, by omega, by go_num, rfl, HF1, HB2⟩
                | false =>
                  by_cases hz : z.seq = h.itm.seq
                  · obtain rfl : z = { h.itm with again := true } := release_is ((goodQ_iff _).1 FX.out.2.2.2.2.1) (conn := conn) HM.out (by rw [FX.out.1]; exact MZ.out) hz
                    have HF1 : Hid (true = fnd h.itm.seq (x.items.take (j + 1))) := by
                      show true = _
                      rw [EZ.out, fnd_snoc, ← HF.out]
                      simp
                    have HS15 := sameMsg_same wv h.itm.msg _ _ HPV.out (HPQ.out.1.on HB2.out) (by have := (goodQ_small FX.out.2.2.2.2.1).1.hp _ HM.out; omega)
                    have np3 : h.itm.msg.props.length = np2 := HPQ.out.2
                    rw [np3] at HS15
                    unfold msgV at HS15
                    have z0 : wv.cell? ⟨gz, 0, none⟩ = some (.int .i64 h.itm.seq) := KZ.out.cell 0
                    have z1 : wv.cell? ⟨gz, 1, none⟩ = some (.bool true) := KZ.out.cell 1
                    have z2 : wv.cell? ⟨gz, 2, none⟩ = some (tx h.itm.msg.topic) := KZ.out.cell 2
                    have z3 : wv.cell? ⟨gz, 3, none⟩ = some (tx h.itm.msg.body) := KZ.out.cell 3
                    have z4 : wv.cell? ⟨gz, 4, none⟩ = some (.slice pa3 np2 pc3) := by rw [← np3]; exact KZ.out.cell 4
                    have z5 : wv.cell? ⟨gz, 5, none⟩ = some (.bool h.itm.msg.dur) := KZ.out.cell 5
                    have z6 : wv.cell? ⟨gz, 6, none⟩ = some (.int .i64 h.itm.msg.til) := KZ.out.cell 6
                    obtain ⟨y0, y1, y2, y3, y4, y5, y6, y7, y8, y9⟩ := (KH.out.on HB2.out).c10
                    clear hz np3 EZ MZ HF
                    go_wp2_with fail
                    refine HS15.mono ?_
                    rintro e wu ⟨rfl, bu⟩
                    have HB3 : Hid (Below wq.heap.size wq wu) := nxt HB2.out bu
                    clear z0 z1 z2 z3 z4 z5 z6 y0 y1 y2 y3 y4 y5 y6 y7 y8 y9 bu HS15
                    go_wp2_with fail
                    go_roundg (mi - (j + 1))
                    case measure => omega
                    case rel => exact ⟨j + 1, true, by omega, by omega, by go_num, rfl, HF1, HB3⟩
                  · have HF1 : Hid (false = fnd h.itm.seq (x.items.take (j + 1))) := by
                      show false = _
                      rw [EZ.out, fnd_snoc, ← HF.out]
                      simpa using hz
                    have z0 : wv.cell? ⟨gz, 0, none⟩ = some (.int .i64 z.seq) := KZ.out.cell 0
                    have y3 : wv.cell? ⟨gh, 3, none⟩ = some (.int .i64 h.itm.seq) := (KH.out.on HB2.out).cell 3
                    go_wp2_with fail
                    go_roundg (mi - (j + 1))
                    case measure => omega
                    case rel => exact ⟨j + 1, false, by omega, by omega, by go_num, rfl, HF1, HB2⟩
              · have hljz : ¬ (j : Int) < (mi : Int) := by omega
                have hf : f = true := by
                  have et : x.items.take j = x.items := List.take_of_length_le (by rw [NX.out.1]; omega)
                  have h1 := release_has ((goodQ_iff _).1 FX.out.2.2.2.2.1) HM.out HCN.out
                  have h2 := HF.out
                  rw [et] at h2
                  rw [FX.out.1] at h1
                  rw [h2]
                  exact h1
                subst hf
                have HC1 : Hid (c = cntN conn (q.held.take (k + 1))) := by
                  show c = _
                  rw [ET.out, cntN_snoc, if_pos HCN.out, ← HC.out]
                  rfl
                have HB3 : Hid (Below wD.heap.size wD wz) := nxt HB1.out HBz.out
                clear HF HBz
                go_wp2_with fail
                go_roundg (nh - (k + 1))
                case measure => omega
                case rel => exact ⟨k + 1, c, by omega, by omega, by go_num, rfl, by omega, HC1, HB3⟩
          · have HC1 : Hid (c + 1 = cntN conn (q.held.take (k + 1))) := by
              show c + 1 = _
              rw [ET.out, cntN_snoc, if_neg hcn, ← HC.out]
            go_wp2_with fail
            go_roundg (nh - (k + 1))
            case measure => omega
            case rel => exact ⟨k + 1, c + 1, by omega, by omega, by go_num, by go_num, by omega, HC1, HB1⟩
        · have hlkz : ¬ (k : Int) < (nh : Int) := by omega
          have hcm : c = mh := by
            have et : q.held.take k = q.held := List.take_of_length_le (by rw [NQ.out.2]; omega)
            have h1 := HC.out
            rw [et, ← release_held, FX.out.1, NX.out.2] at h1
            exact h1
          subst hcm
          have KXy := KX.out.on HB.out
          have x6 : wy.cell? ⟨g5, 6, none⟩ = some (.slice bh c dh) := KXy.cell 6
          clear KXy HH HI
          go_wp2
          go_ret
          exact ⟨rfl, nxt BD.out HB.out⟩
end Go.Proofs.YtlbcefocmdnlgaaDoor

set_option maxRecDepth 100000
namespace Go.Proofs.YtlbcefocmdnlgaaDoor
open Go.ChangeShapes Go.WideShapes Go.ChangeAt Go.RowKit Go.Lib
open Go.ChangeMaps (open_string shut_string)

theorem releases_contract (H : Type) (enc : TypeId × Value → H) (W : World) (base : Nat) (args : Array Value) (ds gs : List (DataW H)) (before : List MemPlace)
    (hval : ∀ (j : Nat) t v, Tryd.f5.params[j]? = some t → args[j]? = some v → Value.okWide Tryd.prog W .any base t v)
    (hW : DataW.Whole enc Tryd.prog Tryd.f5.params.toList Rows.queueReleasesSpec.vars false W args.toList ds gs before)
    (hsz0 : (DataW.weightsEach Tryd.prog (Tryd.f5.params.toList ++ Rows.queueReleasesSpec.plain.varTypes Tryd.prog) (ds ++ gs)).all (· ≤ reachBytes) = true)
    (_hL : laidMetH Tryd.prog Rows.queueReleasesRow.laid W) (hsh : W.ShapedOpen Tryd.prog) :
    Calls Tryd.prog 5 args W fun e W' => ∃ v, e = .returned v ∧ Rows.queueReleasesSpec.post enc Tryd.prog Tryd.f5 false true false false W args v W' := by
  have hv : To.Vars W := by
    exact vars_of_shape hsh
  have hW' := hW
  obtain ⟨p, q, hA0, hV, rfl, hfz, hnd⟩ := hW
  have hA : DataW.TrodAll enc Tryd.prog W 0 (fun _ => true) true Tryd.f5.params.toList args.toList ds p := hA0
  have hsz := hsz0
  rw [Tryd.params5] at hA hval hsz
  obtain ⟨v0, vs0, d0, ds0, p0, q0, hargs, rfl, rfl, h0, r0⟩ := trodAll_cons hA
  obtain ⟨v1, vs1, d1, ds1, p1, q1, rfl, rfl, rfl, h1, r1⟩ := trodAll_cons r0
  obtain ⟨rfl, rfl, rfl⟩ := trodAll_nil r1
  obtain rfl : args = #[v0, v1] := by cases args; simp_all
  obtain ⟨rfl, rfl⟩ := trodVars_none hV
  have lt0 : ∀ x ∈ p0, x.block < W.heap.size := by obtain ⟨m, hm⟩ := h0; exact DataW.trod_lt m _ _ _ hm
  obtain ⟨x0, hx0, bx0⟩ := open_que h0 (fun n hn => by have := List.all_eq_true.1 hsz n (DataW.weights_mem_each (j := 0) rfl rfl n hn); simpa using this)
  have lt1 : ∀ x ∈ p1, x.block < W.heap.size := by obtain ⟨m, hm⟩ := h1; exact DataW.trod_lt m _ _ _ hm
  obtain ⟨x1, rfl, _, _, wx1⟩ := open_int Tryd.underlying3 (hval 1 3 v1 rfl rfl) h1
  refine (releases_law W hv _ x0 hx0 bx0 x1).mono fun e W' ⟨he, bel⟩ => ?_
  subst he
  exact ⟨_, rfl, _, _, _, [], _, [], hW', trodAll_mk1 (shut_bool Tryd.underlying4 _), (trodAll_cons_mk (Below.trod laidOut (by kernel_rfl) (of_decide_eq_true (by kernel_rfl)) h0 bel lt0) (trodAll_cons_mk (Below.trod laidOut (by kernel_rfl) (of_decide_eq_true (by kernel_rfl)) h1 bel lt1) trodAll_mk0)), rfl, bel.frame _, fun h => by cases h⟩

theorem releases_lifted (os : Os) (started : os.Started) (H : Type) (enc : TypeId × Value → H) :
    ReturnsInHanded {} Tryd.checked os 5 .any (fun w args => (Rows.queueReleasesSpec.pre enc Tryd.prog Tryd.f5 [] false w args ∧ laidMetH Tryd.prog Rows.queueReleasesRow.laid w) ∧ sizedMet enc Tryd.prog Tryd.f5 (OpenSpec.ofChange Rows.queueReleasesSpec) false w args)
      (Rows.queueReleasesSpec.post enc Tryd.prog Tryd.f5 false true false false) := by
  refine returns_and_shaped (C := Tryd.checked) (X := fun w _ => laidMetH Tryd.prog Rows.queueReleasesRow.laid w) (fun _ _ _ hh h => h.of_heap hh) own started (by kernel_rfl) Tryd.func5
    (ChangeSpec.witness_shaped (enc := enc) (C := Tryd.checked) (os := os) (X := fun w _ => laidMetH Tryd.prog Rows.queueReleasesRow.laid w) false (World.laidAll Tryd.prog os Rows.queueReleasesRow.laid) #[.agg #[.string ByteArray.empty, .bool false, .int .i64 0, .int .i64 0, .int .i64 0, .slice none 0 0, .slice none 0 0], .int .i64 0] 8 (World.laidAll_os _ _ _)
      (World.shaped_of_ZipB (by kernel_rfl) (by kernel_rfl)) (by kernel_rfl) (by kernel_rfl) (by kernel_rfl)
      (by rw [MakeChecks.laidMetH_plain _ _ _ (by kernel_rfl)]; exact laidMet_laidAll _ (by kernel_rfl) (by kernel_rfl))) ?_
  intro W base args ds gs before hval hW hsz hL hsh
  exact releases_contract H enc W base args ds gs before hval hW hsz hL hsh

theorem releases_said : Rows.QueueReleasesSaid :=
  OpenClaim.holds_of_wide 5 Tryd.f5 rfl rfl rfl rfl rfl rfl rfl ⟨rfl, rfl, rfl, rfl, rfl⟩ rfl rfl rfl rfl rfl (by kernel_rfl) Tryd.func5 (by kernel_rfl)
    (of_decide_eq_true (by kernel_rfl)) (by unfold Func.isWrapper; first | (rw [if_pos (by decide +kernel)]; kernel_rfl) | (rw [if_neg (by decide +kernel)]; exact ⟨rfl, rfl⟩))
    (fun os started H enc _ => releases_lifted os started H enc)

theorem releases_plain (f : FuncId) (fn : Func) (hf : Tryd.pinned.checked.prog.funcNamed "trivet/trivetlaw10.QueueReleases" = some f) (hfn : Tryd.pinned.checked.prog.funcs[f]? = some fn) :
    false = Tryd.pinned.checked.prog.looks [] ∧ ∀ (j : Nat) t, fn.params[j]? = some t → Tryd.pinned.checked.prog.wantsStandIn t = false := by
  obtain rfl : f = 5 := Option.some.inj ((show Tryd.prog.funcNamed "trivet/trivetlaw10.QueueReleases" = some 5 by kernel_rfl).symm.trans hf) |>.symm
  obtain rfl : fn = Tryd.f5 := (Option.some.inj (Tryd.func5.symm.trans hfn)).symm
  refine ⟨by kernel_rfl, fun j t ht => ?_⟩
  rw [Tryd.params5] at ht
  have hm : t ∈ [25, 3] := by simpa using Array.mem_of_getElem? ht
  have hall : ([25, 3].all fun u => !Tryd.prog.wantsStandIn u) = true := by kernel_rfl
  exact (show Tryd.prog.wantsStandIn t = false by simpa using List.all_eq_true.1 hall t hm)

theorem queueReleases_card : Rows.QueueReleasesCardSaid :=
  Claim7.holds_tied_plain_at .later [] _ _ _ _ releases_said (fun _ h => by cases h) (by kernel_rfl) (fun _ h => by cases h) queueReleases_row_tie rfl ⟨rfl, rfl⟩ (by kernel_rfl) rfl releases_plain (by kernel_rfl)
#print axioms queueReleases_card
end Go.Proofs.YtlbcefocmdnlgaaDoor
