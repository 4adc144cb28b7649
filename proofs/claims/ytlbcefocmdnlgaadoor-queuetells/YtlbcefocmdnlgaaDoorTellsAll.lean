/- Whatever a depth and a list of calls, trivetlaw10.QueueTells answers true and leaves its arguments as they were, where the listed tables of the library read as the program's text lays them (tied by the card). -/
import Derived.Test.YtlbcefocmdnlgaaDoorCp
import Derived.Test.YtlbcefocmdnlgaaDoorDo
import Derived.Test.YtlbcefocmdnlgaaDoorLb
import Derived.Test.YtlbcefocmdnlgaaDoorMq
import Derived.Test.YtlbcefocmdnlgaaDoorBx
import Derived.BigQuiet
import Derived.Deep.CutBlock
import Derived.Deep.DeepCutAuto
import Derived.Test.YtlbcefocmdnlgaaDoorCards
import Derived.Test.YtlbcefocmdnlgaaDoorTie
import Derived.Test.YtlbcefocmdnlgaaDoorLa
namespace Go.Proofs.YtlbcefocmdnlgaaDoor
open Go.RowKit Go.Lib
set_option maxRecDepth 100000
set_option linter.unusedSimpArgs false

/-- A truth is answered. -/
def IsB (n : Nat) (e : Ending) : Prop := ∃ b : Bool, e = .returned (.bool b) ∧ (b = false → n ≤ 200)

set_option maxHeartbeats 4000000 in
theorem long_any (w : World) (v : Value) (q : Que) (h : RdQ w v q) (hbig : lenQ q ≤ 9223372036854775806) : Calls Tryd.prog 7 #[v] w fun e w' => IsB (lenQ q) e ∧ Below w.heap.size w w' := by
  obtain ⟨iv, hv, rfl, ⟨zi, ei, hi⟩, ⟨zh, eh, hh⟩⟩ := h
  obtain ⟨ai, ci, rfl⟩ := hi.len
  obtain ⟨ah, ch, rfl⟩ := hh.len
  obtain ⟨ni, hni⟩ : ∃ n, zi.length = n := ⟨_, rfl⟩
  obtain ⟨nh, hnh⟩ : ∃ n, zh.length = n := ⟨_, rfl⟩
  rw [hni] at hi ⊢
  rw [hnh] at hh ⊢
  have hsum : ni + nh ≤ 9223372036854775806 := by
    unfold lenQ at hbig
    rw [← ei, ← eh, List.length_map, List.length_map, hni, hnh] at hbig
    exact hbig
  have HI : Hid (RdZ 7 (ItR (RdP w)) w (.slice ai ni ci) zi) := hi
  have HH : Hid (RdZ 10 (HeR (RdP w)) w (.slice ah nh ch) zh) := hh
  have NI : Hid (zi.length = ni) := hni
  have NH : Hid (zh.length = nh) := hnh
  have HLQ : Hid (lenQ q = ni + nh) := by
    show lenQ q = ni + nh
    unfold lenQ
    rw [← ei, ← eh, List.length_map, List.length_map, hni, hnh]
  clear hi hh ei eh hni hnh hbig
  have k0 := Blk.new w #[tx q.name, .bool q.dur, .int .i64 q.depth, .int .i64 q.seq, .int .i64 q.tag, .slice ai ni ci, .slice ah nh ch] 25
  have b0 := (Below.refl w.heap.size w).alloc (Nat.le_refl _) (.cells #[tx q.name, .bool q.dur, .int .i64 q.depth, .int .i64 q.seq, .int .i64 q.tag, .slice ai ni ci, .slice ah nh ch] 25)
  unfold queV at *
  by_cases h200 : ((ni : Int) + (nh : Int)) > 200
  · obtain ⟨c0, c1, c2, c3, c4, c5, c6⟩ := k0.c7
    go_enter Tryd.func7, Tryd.ntmps7
    go_wp2
    go_ret
    exact ⟨⟨true, rfl, fun e => by cases e⟩, b0⟩
  · go_enter Tryd.func7, Tryd.ntmps7
    go_upto_region 1 with fail
    generalize w.alloc (.cells #[tx q.name, .bool q.dur, .int .i64 q.depth, .int .i64 q.seq, .int .i64 q.tag, .slice ai ni ci, .slice ah nh ch] 25) = w1 at *
    obtain ⟨c0, c1, c2, c3, c4, c5, c6⟩ := k0.c7
    have KB : Hid (Blk w1 w.heap.size #[tx q.name, .bool q.dur, .int .i64 q.depth, .int .i64 q.seq, .int .i64 q.tag, .slice ai ni ci, .slice ah nh ch] 25 ∧ Below w.heap.size w w1) := ⟨k0, b0⟩
    clear k0 b0
    go_wp2_with fail
    clear c0 c1 c2 c3 c4 c5 c6
    go_loopg [3, 5, 20] ni (fun gg s3 _ s20 wr => ∃ kk : Nat, kk ≤ ni ∧ ni - kk ≤ gg ∧ (∃ z : Int, s3 = .int .i64 z) ∧ s20 = .int .i64 kk ∧ Hid (Blk wr w.heap.size #[tx q.name, .bool q.dur, .int .i64 q.depth, .int .i64 q.seq, .int .i64 q.tag, .slice ai ni ci, .slice ah nh ch] 25 ∧ Below w.heap.size w wr))
    case atStart => exact ⟨0, Nat.zero_le _, by omega, ⟨_, rfl⟩, rfl, KB⟩
    case round =>
      obtain ⟨kk, hkk, hg, ⟨z, rfl⟩, rfl, HS⟩ := hrel
      clear KB
      by_cases hlt : kk < ni
      · have hltz : (kk : Int) < (ni : Int) := by omega
        obtain ⟨b, o, pv, rfl, hz1, hp, c0, c1, c2, c3, c4, c5, c6⟩ := itm_at HI.out HS.out.2 (i := kk) (by rw [NI.out]; exact hlt)
        generalize (zi[kk]'(by rw [NI.out]; exact hlt)).2 = x at *
        clear hz1
        obtain ⟨wr, hwr⟩ : ∃ W, W = wr := ⟨_, rfl⟩
        subst hwr
        obtain ⟨pa, pc, rfl⟩ := hp.shape
        clear hp
        generalize x.msg.props.length = np at *
        go_wp2_with (refine wpl_fresh rfl (.tmp 5) (.tmp 23) rfl _ _ rfl rfl (by kernel_rfl) rfl (by simp [Value.oneCell']) ?_)
        intro w1 k1 b1 s1
        have HS1 : Hid (Blk w1 w.heap.size #[tx q.name, .bool q.dur, .int .i64 q.depth, .int .i64 q.seq, .int .i64 q.tag, .slice (some ⟨b, o, none⟩) ni ci, .slice ah nh ch] 25 ∧ Below w.heap.size w w1) := ⟨HS.out.1.on b1, nxt HS.out.2 b1⟩
        obtain ⟨d0, d1, d2, d3, d4, d5, d6⟩ := k1.c7
        clear HS c0 c1 c2 c3 c4 c5 c6 b1
        go_wp2_with fail
        go_roundg (ni - (kk + 1))
        case measure => omega
        case rel => exact ⟨kk + 1, by omega, by omega, ⟨_, rfl⟩, by go_num, HS1⟩
      · have hltz : ¬ (kk : Int) < (ni : Int) := by omega
        obtain ⟨wr, hwr⟩ : ∃ W, W = wr := ⟨_, rfl⟩
        subst hwr
        obtain ⟨c0, c1, c2, c3, c4, c5, c6⟩ := HS.out.1.c7
        clear HI
        go_wp2_with fail
        clear c0 c1 c2 c3 c4 c5 c6
        go_loopg [3, 7, 39] nh (fun gg s3 _ s39 wy => ∃ k2 : Nat, k2 ≤ nh ∧ nh - k2 ≤ gg ∧ (∃ z : Int, s3 = .int .i64 z) ∧ s39 = .int .i64 k2 ∧ Hid (Below w.heap.size w wy))
        case atStart => exact ⟨0, Nat.zero_le _, by omega, ⟨_, rfl⟩, rfl, HS.out.2⟩
        case round =>
          obtain ⟨k2, hk2, hg2, ⟨z2, rfl⟩, rfl, HT⟩ := hrel
          clear HS
          by_cases hl2 : k2 < nh
          · have hl2z : (k2 : Int) < (nh : Int) := by omega
            obtain ⟨b, o, pv, rfl, hz1, hp, c0, c1, c2, c3, c4, c5, c6, c7, c8, c9⟩ := hld_at HH.out HT.out (i := k2) (by rw [NH.out]; exact hl2)
            generalize (zh[k2]'(by rw [NH.out]; exact hl2)).2 = x at *
            clear hz1
            obtain ⟨wt, hwt⟩ : ∃ W, W = wr := ⟨_, rfl⟩
            subst hwt
            obtain ⟨pa, pc, rfl⟩ := hp.shape
            clear hp
            generalize x.itm.msg.props.length = np at *
            go_wp2_with (refine wpl_fresh rfl (.tmp 7) (.tmp 42) rfl _ _ rfl rfl (by kernel_rfl) rfl (by simp [Value.oneCell']) ?_)
            intro w1 k1 b1 s1
            have HS1 : Hid (Below w.heap.size w w1) := nxt HT.out b1
            obtain ⟨d0, d1, d2, d3, d4, d5, d6, d7, d8, d9⟩ := k1.c10
            clear HT c0 c1 c2 c3 c4 c5 c6 c7 c8 c9 b1
            go_wp2_with fail
            go_roundg (nh - (k2 + 1))
            case measure => omega
            case rel => exact ⟨k2 + 1, by omega, by omega, ⟨_, rfl⟩, by go_num, HS1⟩
          · have hl2z : ¬ (k2 : Int) < (nh : Int) := by omega
            obtain ⟨wt, hwt⟩ : ∃ W, W = wr := ⟨_, rfl⟩
            subst hwt
            go_wp2
            go_ret
            exact ⟨⟨_, rfl, fun _ => by rw [HLQ.out]; omega⟩, HT.out⟩
end Go.Proofs.YtlbcefocmdnlgaaDoor

namespace Go.Proofs.YtlbcefocmdnlgaaDoor
open Go.RowKit Go.Lib
set_option maxRecDepth 100000
set_option linter.unusedSimpArgs false

def mx (c : UInt8) : Msg := ⟨[c], [], [], false, 0⟩
def kq : Nat → Que
  | 0 => newQ [113] true 5
  | k + 1 => pushQ (kq k) (mx (UInt8.ofNat (120 + k)))
theorem new_ok : newC [113] 5 = 0 := by decide
theorem push0 : pushC (kq 0) (mx 120) = 0 := by decide
theorem push1 : pushC (kq 1) (mx 121) = 0 := by decide
theorem push2 : pushC (kq 2) (mx 122) = 0 := by decide
theorem take0 : takeC (kq 3) 1 0 = 0 := by decide
def kt1 : Que := takeQ (kq 3) 1 0 true
theorem take1 : takeC kt1 1 0 = 0 := by decide
def kt2 : Que := takeQ kt1 1 0 true
theorem settle2 : settleC kt2 1 1 = 0 := by decide
def kt3 : Que := settleQ kt2 1 1 true
theorem kt3_len : kt3.items.length = 2 := by decide

theorem small_kq : ∀ k, k ≤ 3 → lenQ (kq k) ≤ 1000000 := fun k hk => by
  have : ∀ k, lenQ (kq k) = k := fun k => by
    induction k with
    | zero => rfl
    | succ k ih => simp only [lenQ, kq, pushQ, List.length_append, List.length_singleton] at ih ⊢; omega
  rw [this]
  omega
structure Chain (q3 q4 q5 q6 : Que) (x3 x4 y : Itm) (l : List Itm) : Prop where
  c3 : takeC q3 1 0 = 0
  t3 : takeQ q3 1 0 true = q4
  g3 : q3.tag + 1 = 1
  x3 : q3.items.headD zeroI = x3
  c4 : takeC q4 1 0 = 0
  t4 : takeQ q4 1 0 true = q5
  g4 : q4.tag + 1 = 2
  x4 : q4.items.headD zeroI = x4
  c5 : settleC q5 1 1 = 0
  t5 : settleQ q5 1 1 true = q6
  n6 : q6.items.length = 2
  i6 : q6.items = y :: l
  a6 : y.again = true
  o6 : y.msg.topic = [120]
  l3 : lenQ q3 ≤ 1000000
  l4 : lenQ q4 ≤ 1000000
  l5 : lenQ q5 ≤ 1000000
theorem chain : ∃ q3 q4 q5 q6 x3 x4 y l, kq 3 = q3 ∧ Chain q3 q4 q5 q6 x3 x4 y l :=
  ⟨kq 3, kt1, kt2, kt3, _, _, _, _, rfl, take0, rfl, rfl, rfl, take1, rfl, rfl, rfl, settle2, rfl, kt3_len, rfl, rfl, rfl, small_kq 3 (by omega), by decide, by decide⟩
theorem take_at {W : World} (hva : To.Vars W) {q q' : Que} {x : Itm} {iv hv : Value} {tg : Int} (hi : RdI W iv q.items) (hh : RdH W hv q.held) {conn sub : Int} (hc : takeC q conn sub = 0) (hq : takeQ q conn sub true = q') (ht : q.tag + 1 = tg) (hx : q.items.headD zeroI = x) (hl : lenQ q ≤ 1000000) :
    Calls Tryd.prog 17 #[.agg #[tx q.name, .bool q.dur, .int .i64 q.depth, .int .i64 q.seq, .int .i64 q.tag, iv, hv], .int .i64 conn, .int .i64 sub, .bool true] W fun e w' => ∃ v' pv', e = .returned (.tuple #[v', .int .i64 tg, .agg (itmV x pv').toArray, .int .i64 0]) ∧ OwnQ w' W.heap.size v' q' ∧ OwnP w' W.heap.size pv' x.msg.props ∧ Below W.heap.size W w' := by
  have h := take_any W hva _ q ⟨iv, hv, rfl, hi, hh⟩ conn sub true hl
  rw [hc, if_pos rfl, if_pos rfl, if_pos rfl, if_pos rfl, hq, ht, hx] at h
  exact h
theorem settle_at {W : World} (hva : To.Vars W) {q q' : Que} {iv hv : Value} (hi : RdI W iv q.items) (hh : RdH W hv q.held) {conn tag : Int} (hc : settleC q conn tag = 0) (hq : settleQ q conn tag true = q') (hl : lenQ q ≤ 1000000) :
    Calls Tryd.prog 18 #[.agg #[tx q.name, .bool q.dur, .int .i64 q.depth, .int .i64 q.seq, .int .i64 q.tag, iv, hv], .int .i64 conn, .int .i64 tag, .bool true] W fun e w' => ∃ v', e = .returned (.tuple #[v', .int .i64 0]) ∧ OwnQ w' W.heap.size v' q' ∧ Below W.heap.size W w' := by
  have h := settle_any W hva _ q ⟨iv, hv, rfl, hi, hh⟩ conn tag true hl
  rw [hc, if_pos rfl, hq] at h
  exact h
/-- The queue lies in the block g. -/
structure WkS (w W : World) (g : Nat) (q : Que) : Prop where
  q : ∃ iv hv, RdI W iv q.items ∧ RdH W hv q.held ∧ Blk W g #[tx q.name, .bool q.dur, .int .i64 q.depth, .int .i64 q.seq, .int .i64 q.tag, iv, hv] 25
  l : w.heap.size ≤ g
  b : Below w.heap.size w W

theorem WkS.on {w W W' : World} {g : Nat} {q : Que} (h : WkS w W g q) (hb : Below W.heap.size W W') : WkS w W' g q := by
  obtain ⟨⟨iv, hv, h1, h2, h3⟩, h4, h5⟩ := h
  exact ⟨⟨iv, hv, h1.on hb, h2.on hb, h3.on hb⟩, h4, nxt h5 hb⟩

theorem Kt.then_new {t : TypeId} {a b c : World} (h : Kt t a b) (hs : a.heap.size ≤ b.heap.size) (hg : b.grownBy c (some a.heap.size)) : Kt t a c := fun k cur hk => by
  have hlt := (Array.getElem?_eq_some_iff.1 hk).1
  exact (hg.block k (by omega) (fun e => by injection e with e; omega)).trans (h k cur hk)
theorem head_at {W : World} {a : Option Addr} {n c : Nat} {y : Itm} {l : List Itm} (h : RdI W (.slice a n c) (y :: l)) :
    ∃ b o, a = some ⟨b, o, none⟩ ∧ W.cell? ⟨b, o, none⟩ = some (.int .i64 y.seq) ∧ W.cell? ⟨b, o + 1, none⟩ = some (.bool y.again) ∧ W.cell? ⟨b, o + 2, none⟩ = some (tx y.msg.topic) := by
  obtain ⟨zs, e, hz⟩ := h
  cases zs with
  | nil => simp at e
  | cons z zs =>
    simp only [List.map_cons, List.cons.injEq] at e
    obtain ⟨b, o, pv, rfl, _, _, c0, c1, c2, _⟩ := itm_at hz (Below.refl _ W) (i := 0) (by simp)
    simp only [List.getElem_cons_zero, Nat.zero_mul, Nat.add_zero, e.1] at c0 c1 c2
    exact ⟨b, o, rfl, c0, c1, c2⟩
theorem rdp_nil (w : World) : RdP w (.slice none 0 0) [] := OwnP.rd (B := 0) (World.ownsRow_nil ..)

set_option maxHeartbeats 4000000 in
theorem wakes_any (w : World) (hva : To.Vars w) : Calls Tryd.prog 6 #[] w fun e w' => e = .returned (.bool true) ∧ Below w.heap.size w w' := by
  have HN : Calls Tryd.prog 10 #[tx [113], .bool true, .int .i64 5] w fun e w' => ∃ v', e = .returned (.tuple #[v', .int .i64 0]) ∧ OwnQ w' w.heap.size v' (kq 0) ∧ Below w.heap.size w w' := by
    have h := new_any w [113] true 5
    rw [new_ok, if_pos rfl] at h
    exact h
  go_enter Tryd.func6, Tryd.ntmps6
  go_upto_region 2 with (refine HN.mono ?_; rintro e w1 ⟨v1, rfl, ⟨iv1, hv1, rfl, oi1, oh1⟩, b1⟩; obtain ⟨ai1, ci1, rfl⟩ := oi1.rd.len; obtain ⟨ah1, ch1, rfl⟩ := oh1.rd.len; unfold queV)
  have S1 : WkS w (w1.alloc (.cells #[tx (kq 0).name, .bool (kq 0).dur, .int .i64 (kq 0).depth, .int .i64 (kq 0).seq, .int .i64 (kq 0).tag, .slice ai1 (kq 0).items.length ci1, .slice ah1 (kq 0).held.length ch1] 25)) w1.heap.size (kq 0) :=
    have hb := (Below.refl _ w1).alloc (Nat.le_refl _) (.cells #[tx (kq 0).name, .bool (kq 0).dur, .int .i64 (kq 0).depth, .int .i64 (kq 0).seq, .int .i64 (kq 0).tag, .slice ai1 (kq 0).items.length ci1, .slice ah1 (kq 0).held.length ch1] 25)
    ⟨⟨_, _, oi1.rd.on hb, oh1.rd.on hb, Blk.new ..⟩, b1.size, nxt b1 hb⟩
  clear oi1 oh1 b1 HN
  generalize w1.heap.size = g at *
  generalize w1.alloc (.cells #[tx (kq 0).name, .bool (kq 0).dur, .int .i64 (kq 0).depth, .int .i64 (kq 0).seq, .int .i64 (kq 0).tag, .slice ai1 (kq 0).items.length ci1, .slice ah1 (kq 0).held.length ch1] 25) = w2 at *
  go_wp2_with fail
  have S3 : Hid (WkS w (w2.alloc (.cells #[.string ⟨#[120]⟩, .string ⟨#[121]⟩, .string ⟨#[122]⟩] 9)) g (kq 0)) := S1.on ((Below.refl _ w2).alloc (Nat.le_refl _) _)
  have K3 : Hid (Blk (w2.alloc (.cells #[.string ⟨#[120]⟩, .string ⟨#[121]⟩, .string ⟨#[122]⟩] 9)) w2.heap.size #[.string ⟨#[120]⟩, .string ⟨#[121]⟩, .string ⟨#[122]⟩] 9) := Blk.new ..
  clear S1
  generalize w2.heap.size = gs at *
  generalize w2.alloc (.cells #[.string ⟨#[120]⟩, .string ⟨#[121]⟩, .string ⟨#[122]⟩] 9) = w3 at *
  go_loopg [2, 4, 18] 3 (fun gg s2 _ s18 wr => ∃ kk : Nat, kk ≤ 3 ∧ 3 - kk ≤ gg ∧ s2 = .int .i64 0 ∧ s18 = .int .i64 kk ∧ Hid (WkS w wr g (kq kk)) ∧ Hid (Blk wr gs #[.string ⟨#[120]⟩, .string ⟨#[121]⟩, .string ⟨#[122]⟩] 9))
  case atStart => exact ⟨0, Nat.zero_le _, by omega, rfl, rfl, S3, K3⟩
  case round =>
    obtain ⟨kk, hkk, hg, rfl, rfl, HS, HK⟩ := hrel
    clear S3 K3
    obtain ⟨wr, hwr⟩ : ∃ W, W = wr := ⟨_, rfl⟩
    subst hwr
    by_cases hlt : kk < 3
    · have hltz : (kk : Int) < 3 := by omega
      have cs : wr.cell? ⟨gs, kk, none⟩ = some (tx [UInt8.ofNat (120 + kk)]) := by
        rcases (by omega : kk = 0 ∨ kk = 1 ∨ kk = 2) with rfl | rfl | rfl
        · exact HK.out.cell 0
        · exact HK.out.cell 1
        · exact HK.out.cell 2
      have hpc : pushC (kq kk) (mx (UInt8.ofNat (120 + kk))) = 0 := by
        rcases (by omega : kk = 0 ∨ kk = 1 ∨ kk = 2) with rfl | rfl | rfl
        · exact push0
        · exact push1
        · exact push2
      obtain ⟨⟨iv, hv, h1, h2, h3⟩, h4, h5⟩ := HS.out
      have HP : Calls Tryd.prog 16 #[.agg #[tx (kq kk).name, .bool (kq kk).dur, .int .i64 (kq kk).depth, .int .i64 (kq kk).seq, .int .i64 (kq kk).tag, iv, hv], .agg #[tx [UInt8.ofNat (120 + kk)], .string ⟨#[]⟩, .slice none 0 0, .bool false, .int .i64 0]] wr fun e w' => ∃ v', e = .returned (.tuple #[v', .int .i64 0]) ∧ OwnQ w' wr.heap.size v' (kq (kk + 1)) ∧ Below wr.heap.size wr w' := by
        have h := push_any wr (hva.below h5) _ (kq kk) ⟨iv, hv, rfl, h1, h2⟩ (mx (UInt8.ofNat (120 + kk))) (.slice none 0 0) (rdp_nil _) (small_kq kk hkk)
        rw [hpc, if_pos rfl] at h
        exact h
      have K0 : Hid (Blk wr g #[tx (kq kk).name, .bool (kq kk).dur, .int .i64 (kq kk).depth, .int .i64 (kq kk).seq, .int .i64 (kq kk).tag, iv, hv] 25) := h3
      have B0 : Hid (Below w.heap.size w wr) := h5
      clear HS h1 h2 h3 h5 hpc
      obtain ⟨c, hc⟩ : ∃ c, UInt8.ofNat (120 + kk) = c := ⟨_, rfl⟩
      obtain ⟨q, hq⟩ : ∃ q, kq kk = q := ⟨_, rfl⟩
      obtain ⟨q', hq'⟩ : ∃ q, kq (kk + 1) = q := ⟨_, rfl⟩
      rw [hc] at cs HP
      rw [hq] at HP K0
      rw [hq'] at HP
      have HQ' : Hid (kq (kk + 1) = q') := hq'
      clear hc hq hq'
      go_wp2_with (refine wpl_load25 rfl (.tmp 1) rfl _ _ rfl K0.out rfl ?_)
      refine HP.mono ?_
      rintro e w4 ⟨v4, rfl, ⟨iv4, hv4, rfl, oi4, oh4⟩, b4⟩
      obtain ⟨ai4, ci4, rfl⟩ := oi4.rd.len
      obtain ⟨ah4, ch4, rfl⟩ := oh4.rd.len
      have K4 := K0.out.on b4
      have HK4 := HK.out.on b4
      have B4 := nxt B0.out b4
      have HL4 : Hid (gs ≠ g) := fun e => by
        subst e
        have h1 := K4.h
        rw [HK4.h] at h1
        injection h1 with e2
        injection e2 with _ e3 _
        exact absurd e3 (by decide)
      clear HP K0 B0 b4 cs HK
      unfold queV
      go_wp2_with (refine wpl_put rfl (.tmp 1) (.tmp 27) rfl _ _ rfl rfl K4 (by kernel_rfl) rfl (by simp [Value.oneCell']) ?_)
      intro w5 k5 g5 s5
      have HS5 : Hid (WkS w w5 g q') := ⟨⟨_, _, (oi4.keep (kt_grown K4 g5 (by decide)) (kt_grown K4 g5 (by decide))).rd, (oh4.keep (kt_grown K4 g5 (by decide)) (kt_grown K4 g5 (by decide))).rd, k5⟩, h4, B4.grown g5 B4.size (fun k hk => by injection hk with hk; omega)⟩
      have HK5 : Hid (Blk w5 gs #[.string ⟨#[120]⟩, .string ⟨#[121]⟩, .string ⟨#[122]⟩] 9) := HK4.grown g5 (fun e => by injection e with e; exact HL4.out e)
      clear K4 HK4 B4 HL4 oi4 oh4 k5 g5 s5
      go_wp2_with fail
      go_roundg (3 - (kk + 1))
      case measure => omega
      case rel => exact ⟨kk + 1, by omega, by omega, rfl, by go_num, by rw [HQ'.out]; exact HS5, HK5⟩
    · have hk3 : kk = 3 := by omega
      subst hk3
      clear hkk hg HK hlt
      obtain ⟨q3, q4, q5, q6, x3, x4, y, l, eq3, HC⟩ := chain
      rw [eq3] at HS
      clear eq3
      have HD : Hid (Chain q3 q4 q5 q6 x3 x4 y l) := HC
      obtain ⟨⟨iv, hv, h1, h2, h3⟩, h4, h5⟩ := HS.out
      have HP := take_at (hva.below h5) h1 h2 HC.c3 HC.t3 HC.g3 HC.x3 HC.l3
      have K0 : Hid (Blk wr g #[tx q3.name, .bool q3.dur, .int .i64 q3.depth, .int .i64 q3.seq, .int .i64 q3.tag, iv, hv] 25) := h3
      have B0 : Hid (Below w.heap.size w wr) := h5
      clear HS h1 h2 h3 h5 HC
      go_wp2_with (refine wpl_load25 rfl (.tmp 1) rfl _ _ rfl K0.out rfl ?_)
      refine HP.mono ?_
      rintro e w4 ⟨v4, pv4, rfl, ⟨iv4, hv4, rfl, oi4, oh4⟩, hp4, b4⟩
      obtain ⟨ai4, ci4, rfl⟩ := oi4.rd.len
      obtain ⟨ah4, ch4, rfl⟩ := oh4.rd.len
      obtain ⟨pa4, pc4, rfl⟩ := hp4.shape
      have K4 := K0.out.on b4
      have B4 := nxt B0.out b4
      clear HP K0 B0 b4 hp4
      unfold queV itmV
      have K4a := K4.alloc (.cells #[.int .i64 0, .bool false, .string ⟨#[]⟩, .string ⟨#[]⟩, .slice none 0 0, .bool false, .int .i64 0] 35)
      have B4a := B4.alloc B4.size (.cells #[.int .i64 0, .bool false, .string ⟨#[]⟩, .string ⟨#[]⟩, .slice none 0 0, .bool false, .int .i64 0] 35)
      go_wp2_with (refine wpl_put rfl (.tmp 1) (.tmp 35) rfl _ _ rfl rfl K4a (by kernel_rfl) rfl (by simp [Value.oneCell']) ?_)
      intro w5 k5 g5 s5
      have i5 := (Blk.new w4 #[.int .i64 0, .bool false, .string ⟨#[]⟩, .string ⟨#[]⟩, .slice none 0 0, .bool false, .int .i64 0] 35).grown g5 (fun e => by injection e with e; have := K4.lt; omega)
      have B5 := B4a.grown g5 B4a.size (fun k hk => by injection hk with hk; omega)
      have t35 : Kt 35 w4 w5 := (Kt.of_below ((Below.refl _ w4).alloc (Nat.le_refl _) _)).trans (kt_grown K4a g5 (by decide))
      have t45 : Kt 45 w4 w5 := (Kt.of_below ((Below.refl _ w4).alloc (Nat.le_refl _) _)).trans (kt_grown K4a g5 (by decide))
      have t88 : Kt 88 w4 w5 := (Kt.of_below ((Below.refl _ w4).alloc (Nat.le_refl _) _)).trans (kt_grown K4a g5 (by decide))
      have hs5 : w4.heap.size ≤ w5.heap.size := Nat.le_of_lt i5.lt
      have hg4 : g < w4.heap.size := K4.lt
      clear K4 K4a B4 B4a g5 s5
      go_wp2_with (refine wpl_put rfl (.tmp 6) (.tmp 37) rfl _ _ rfl rfl i5 (by kernel_rfl) rfl (by simp [Value.oneCell']) ?_)
      intro w6 k6 g6 s6
      have K6 : Hid (Blk w6 g #[tx q4.name, .bool q4.dur, .int .i64 q4.depth, .int .i64 q4.seq, .int .i64 q4.tag, .slice ai4 q4.items.length ci4, .slice ah4 q4.held.length ch4] 25) := k5.grown g6 (fun e => by injection e with e; omega)
      have B6 : Hid (Below w.heap.size w w6) := B5.grown g6 B5.size (fun k hk => by injection hk with hk; have := h4; omega)
      have oi6 := (oi4.keep (t35.then_new hs5 g6) (t88.then_new hs5 g6)).rd
      have oh6 := (oh4.keep (t45.then_new hs5 g6) (t88.then_new hs5 g6)).rd
      clear oi4 oh4 t35 t45 t88 hs5 hg4 i5 k5 k6 g6 s6 B5
      have HP := take_at (hva.below B6.out) oi6 oh6 HD.out.c4 HD.out.t4 HD.out.g4 HD.out.x4 HD.out.l4
      clear oi6 oh6
      go_wp2_with (refine wpl_load25 rfl (.tmp 1) rfl _ _ rfl K6.out rfl ?_)
      refine HP.mono ?_
      obtain ⟨wr, hwr⟩ : ∃ W, W = w6 := ⟨_, rfl⟩
      subst hwr
      rintro e w7 ⟨v4, pv4, rfl, ⟨iv4, hv4, rfl, oi4, oh4⟩, hp4, b4⟩
      obtain ⟨ai4, ci4, rfl⟩ := oi4.rd.len
      obtain ⟨ah4, ch4, rfl⟩ := oh4.rd.len
      obtain ⟨pa4, pc4, rfl⟩ := hp4.shape
      have K4 := K6.out.on b4
      have B4 := nxt B6.out b4
      clear HP K6 B6 b4 hp4
      unfold queV itmV
      obtain ⟨w4, hw4⟩ : ∃ W, W = w7 := ⟨_, rfl⟩
      subst hw4
      have K4a := K4.alloc (.cells #[.int .i64 0, .bool false, .string ⟨#[]⟩, .string ⟨#[]⟩, .slice none 0 0, .bool false, .int .i64 0] 35)
      have B4a := B4.alloc B4.size (.cells #[.int .i64 0, .bool false, .string ⟨#[]⟩, .string ⟨#[]⟩, .slice none 0 0, .bool false, .int .i64 0] 35)
      go_wp2_with (refine wpl_put rfl (.tmp 1) (.tmp 42) rfl _ _ rfl rfl K4a (by kernel_rfl) rfl (by simp [Value.oneCell']) ?_)
      intro w5 k5 g5 s5
      have i5 := (Blk.new w4 #[.int .i64 0, .bool false, .string ⟨#[]⟩, .string ⟨#[]⟩, .slice none 0 0, .bool false, .int .i64 0] 35).grown g5 (fun e => by injection e with e; have := K4.lt; omega)
      have B5 := B4a.grown g5 B4a.size (fun k hk => by injection hk with hk; omega)
      have t35 : Kt 35 w4 w5 := (Kt.of_below ((Below.refl _ w4).alloc (Nat.le_refl _) _)).trans (kt_grown K4a g5 (by decide))
      have t45 : Kt 45 w4 w5 := (Kt.of_below ((Below.refl _ w4).alloc (Nat.le_refl _) _)).trans (kt_grown K4a g5 (by decide))
      have t88 : Kt 88 w4 w5 := (Kt.of_below ((Below.refl _ w4).alloc (Nat.le_refl _) _)).trans (kt_grown K4a g5 (by decide))
      have hs5 : w4.heap.size ≤ w5.heap.size := Nat.le_of_lt i5.lt
      have hg4 : g < w4.heap.size := K4.lt
      clear K4 K4a B4 B4a g5 s5
      go_wp2_with (refine wpl_put rfl (.tmp 8) (.tmp 44) rfl _ _ rfl rfl i5 (by kernel_rfl) rfl (by simp [Value.oneCell']) ?_)
      intro w6 k6 g6 s6
      have K6 : Hid (Blk w6 g #[tx q5.name, .bool q5.dur, .int .i64 q5.depth, .int .i64 q5.seq, .int .i64 q5.tag, .slice ai4 q5.items.length ci4, .slice ah4 q5.held.length ch4] 25) := k5.grown g6 (fun e => by injection e with e; omega)
      have B6 : Hid (Below w.heap.size w w6) := B5.grown g6 B5.size (fun k hk => by injection hk with hk; have := h4; omega)
      have oi6 := (oi4.keep (t35.then_new hs5 g6) (t88.then_new hs5 g6)).rd
      have oh6 := (oh4.keep (t45.then_new hs5 g6) (t88.then_new hs5 g6)).rd
      clear oi4 oh4 t35 t45 t88 hs5 hg4 i5 k5 k6 g6 s6 B5
      have HP := settle_at (hva.below B6.out) oi6 oh6 HD.out.c5 HD.out.t5 HD.out.l5
      clear oi6 oh6
      go_wp2_with (refine wpl_load25 rfl (.tmp 1) rfl _ _ rfl K6.out rfl ?_)
      refine HP.mono ?_
      rintro e w7 ⟨v4, rfl, ⟨iv4, hv4, rfl, oi4, oh4⟩, b4⟩
      obtain ⟨ah4, ch4, rfl⟩ := oh4.rd.len
      obtain ⟨ai4, ci4, rfl⟩ := oi4.rd.len
      have K4 := K6.out.on b4
      have B4 := nxt B6.out b4
      clear HP K6 B6 b4 oh4
      unfold queV
      go_wp2_with (refine wpl_put rfl (.tmp 1) (.tmp 63) rfl _ _ rfl rfl K4 (by kernel_rfl) rfl (by simp [Value.oneCell']) ?_)
      intro w8 k8 g8 s8
      have B8 := B4.grown g8 B4.size (fun k hk => by injection hk with hk; have := h4; omega)
      have oi8 := (oi4.keep (kt_grown K4 g8 (by decide)) (kt_grown K4 g8 (by decide))).rd
      rw [HD.out.n6, HD.out.i6] at oi8
      rw [HD.out.n6] at k8
      obtain ⟨ai4, hai⟩ : ∃ a, a = ai4 := ⟨_, rfl⟩
      subst hai
      clear oi4 K4 B4 g8 s8
      obtain ⟨d0, d1, d2, d3, d4, d5, d6⟩ := k8.c7
      obtain ⟨bb, oo, rfl, e0, e1, e2⟩ := head_at oi8
      rw [HD.out.a6] at e1
      rw [HD.out.o6] at e2
      clear oi8 HD
      go_wp2
      go_ret
      exact ⟨ret_b (by simp), B8⟩
end Go.Proofs.YtlbcefocmdnlgaaDoor

namespace Go.Proofs.YtlbcefocmdnlgaaDoor
open Go.RowKit Go.Lib
set_option maxRecDepth 100000
set_option linter.unusedSimpArgs false

theorem does_keeps {q : Que} {o : Opn} (h : goodQ q = true) (hc : doesC q o = 0) :
    goodQ (doesQ q o) = true ∧ (doesQ q o).name = q.name ∧ (doesQ q o).depth = q.depth ∧ q.seq ≤ (doesQ q o).seq ∧ q.tag ≤ (doesQ q o).tag := by
  have hg := (goodQ_iff q).1 h
  have e : doesQ q o = doesN q o := by simp [doesQ, hc]
  rw [e]
  clear e
  unfold doesC at hc
  unfold doesN
  by_cases h0 : o.kind = 0
  · rw [if_pos h0] at hc ⊢
    exact ⟨(goodQ_iff _).2 (good_push hg hc), rfl, rfl, by show q.seq ≤ q.seq + 1; omega, Int.le_refl _⟩
  rw [if_neg h0] at hc ⊢
  by_cases h1 : o.kind = 1
  · rw [if_pos h1] at hc ⊢
    refine ⟨(goodQ_iff _).2 (good_take hg hc _), ?_, ?_, ?_, ?_⟩ <;> unfold takeQ <;> split <;> first | rfl | exact Int.le_refl _ | (show q.tag ≤ q.tag + 1; omega)
  rw [if_neg h1] at hc ⊢
  by_cases h2 : o.kind = 2
  · rw [if_pos h2] at hc ⊢
    exact ⟨(goodQ_iff _).2 (good_settle hg hc _), rfl, rfl, Int.le_refl _, Int.le_refl _⟩
  rw [if_neg h2] at hc ⊢
  by_cases h3 : o.kind = 3
  · rw [if_pos h3] at hc ⊢
    exact ⟨(goodQ_iff _).2 (good_release hg _ _), rfl, rfl, Int.le_refl _, Int.le_refl _⟩
  rw [if_neg h3] at hc ⊢
  by_cases h4 : o.kind = 4
  · rw [if_pos h4]
    exact ⟨(goodQ_iff _).2 (good_expire hg _), rfl, rfl, Int.le_refl _, Int.le_refl _⟩
  rw [if_neg h4]
  exact ⟨h, rfl, rfl, Int.le_refl _, Int.le_refl _⟩
theorem does_zero {q : Que} {o : Opn} (hc : doesC q o ≠ 0) : doesQ q o = zeroQ := by simp [doesQ, hc]
theorem op_at {w W : World} {a : Option Addr} {n c : Nat} {zs : Zs Opn} (h : RdZ 9 (OpR (RdP w)) w (.slice a n c) zs) (hb : Below w.heap.size w W) {i : Nat} (hi : i < zs.length) :
    ∃ b o pv, a = some ⟨b, o, none⟩ ∧ (zs[i]).1 = opV (zs[i]).2 pv ∧ RdP W pv (zs[i]).2.m.props ∧ W.cell? ⟨b, o + i * 9, none⟩ = some (.int .i64 (zs[i]).2.kind) ∧ W.cell? ⟨b, o + i * 9 + 1, none⟩ = some (.int .i64 (zs[i]).2.conn) ∧ W.cell? ⟨b, o + i * 9 + 2, none⟩ = some (.int .i64 (zs[i]).2.n) ∧ W.cell? ⟨b, o + i * 9 + 3, none⟩ = some (.bool (zs[i]).2.flag) ∧ W.cell? ⟨b, o + i * 9 + 4, none⟩ = some (tx (zs[i]).2.m.topic) ∧ W.cell? ⟨b, o + i * 9 + 5, none⟩ = some (tx (zs[i]).2.m.body) ∧ W.cell? ⟨b, o + i * 9 + 6, none⟩ = some pv ∧ W.cell? ⟨b, o + i * 9 + 7, none⟩ = some (.bool (zs[i]).2.m.dur) ∧ W.cell? ⟨b, o + i * 9 + 8, none⟩ = some (.int .i64 (zs[i]).2.m.til) := by
  obtain ⟨b, o, c', e, hc⟩ := h.some (by omega)
  obtain ⟨rfl, _, _⟩ : a = some ⟨b, o, none⟩ ∧ n = zs.length ∧ c = c' := by
    injection e with e1 e2 e3
    exact ⟨e1, e2, e3⟩
  obtain ⟨hk, pv, hv, hp⟩ := h.2 _ (List.getElem_mem hi)
  have h1 := h.cells hi
  have key : ∀ j (hj : j < 9), W.cell? ⟨b, o + i * 9 + j, none⟩ = (opV (zs[i]).2 pv)[j]? := fun j hj => by
    have e2 : ((zs[i]).1)[j]? = some (((zs[i]).1)[j]'(by rw [hk.1]; exact hj)) := List.getElem?_eq_getElem _
    have h2 := h1 j _ e2
    rw [hb.cell (World.block_lt_of_cell? w _ h2), h2, ← e2, hv]
  exact ⟨b, o, pv, rfl, hv, hp.on hb, key 0 (by omega), key 1 (by omega), key 2 (by omega), key 3 (by omega), key 4 (by omega), key 5 (by omega), key 6 (by omega), key 7 (by omega), key 8 (by omega)⟩
theorem wpl_load33 {ops : Array Oper} {rest : List Oper} {o : Oper} {a : Act} {w : World} {Q : Exit → Act → World → Prop} (hgd : o.guard = none) (x : Operand) (ho : o.op = .load 33 x) (g : Nat) (cs : Array Value) (hx : a.eval x = .pointer (some ⟨g, 0, none⟩)) (hg : Blk w g cs 33) (hs : cs.size = 9)
    (h : wpList Tryd.prog ops Q rest (a.put o.dst (.agg cs)) w) : wpList Tryd.prog ops Q (o :: rest) a w :=
  wpList_load_row hgd 33 x ho g hx 33 cs (0, 0) _ hg.h Tryd.underlying33 rfl (by rw [hs]; kernel_rfl) h
/-- A queue that is read whatever lies in the block g. -/
def Rob (W : World) (g : Nat) (iv hv : Value) (q : Que) : Prop := ∀ W', W.grownBy W' (some g) → RdI W' iv q.items ∧ RdH W' hv q.held
theorem grow_trans {a b c : World} {row : Option Nat} (h : a.grownBy b row) (k : b.grownBy c row) : a.grownBy c row :=
  ⟨k.os.trans h.os, k.tape.trans h.tape, k.output.trans h.output, Nat.le_trans h.size k.size, fun i hi hne => (k.block i (Nat.lt_of_lt_of_le hi h.size) hne).trans (h.block i hi hne)⟩
theorem grow_below {a b : World} (h : Below a.heap.size a b) (row : Option Nat) : a.grownBy b row := ⟨h.os, h.tape, h.output, h.size, fun k hk _ => h.block k hk⟩
theorem Rob.grown {W W' : World} {g : Nat} {iv hv : Value} {q : Que} (h : Rob W g iv hv q) (hg : W.grownBy W' (some g)) : Rob W' g iv hv q := fun W2 h2 => h W2 (grow_trans hg h2)
theorem Rob.on {W W' : World} {g : Nat} {iv hv : Value} {q : Que} (h : Rob W g iv hv q) (hb : Below W.heap.size W W') : Rob W' g iv hv q := h.grown (grow_below hb _)
theorem Rob.rd {W : World} {g : Nat} {iv hv : Value} {q : Que} (h : Rob W g iv hv q) : RdI W iv q.items ∧ RdH W hv q.held := h W (grow_below (Below.refl _ W) _)
/-- What is one's own is read whatever lies in a block of another type. -/
theorem Rob.own {W : World} {g B : Nat} {iv hv : Value} {q : Que} {cs : Array Value} (h : OwnQ W B (queV q iv hv) q) (k : Blk W g cs 25) : Rob W g iv hv q := fun W' hg => by
  obtain ⟨iv', hv', e, hi, hh⟩ := (h.keep (kt_grown k hg (by decide)) (kt_grown k hg (by decide)) (kt_grown k hg (by decide))).rd
  simp only [queV, Value.agg.injEq, Array.mk.injEq, List.cons.injEq, and_true, true_and] at e
  obtain ⟨rfl, rfl⟩ := e
  exact ⟨hi, hh⟩
/-- The queue lies in the block that the call made first. -/
structure StS (w W : World) (q : Que) : Prop where
  q : ∃ iv hv, Rob W w.heap.size iv hv q ∧ Blk W w.heap.size #[tx q.name, .bool q.dur, .int .i64 q.depth, .int .i64 q.seq, .int .i64 q.tag, iv, hv] 25
  b : Below w.heap.size w W
theorem StS.on {w W W' : World} {q : Que} (h : StS w W q) (hb : Below W.heap.size W W') : StS w W' q := by
  obtain ⟨⟨iv, hv, h1, h3⟩, h5⟩ := h
  exact ⟨⟨iv, hv, h1.on hb, h3.on hb⟩, nxt h5 hb⟩

set_option maxHeartbeats 4000000 in
theorem stays_law (w : World) (hva : To.Vars w) (v : Value) (q : Que) (h : RdQ w v q) (hbig : lenQ q ≤ 9223372036854775806) (sv : Value) (l : List Opn) (hl : RdO w sv l) :
    Calls Tryd.prog 3 #[v, sv] w fun e w' => e = .returned (.bool true) ∧ Below w.heap.size w w' := by
  have hR := h
  obtain ⟨iv, hv, rfl, hi, hh⟩ := h
  obtain ⟨ai, ci, rfl⟩ := hi.len
  obtain ⟨ah, ch, rfl⟩ := hh.len
  clear hi hh
  obtain ⟨zs, ezs, hzs⟩ := hl
  obtain ⟨asl, cap, rfl⟩ := hzs.len
  obtain ⟨ns, hns⟩ : ∃ n, zs.length = n := ⟨_, rfl⟩
  rw [hns] at hzs ⊢
  have HZ : Hid (RdZ 9 (OpR (RdP w)) w (.slice asl ns cap) zs) := hzs
  have NZ : Hid (zs.length = ns) := hns
  clear hzs hns ezs
  have HW := fun (W : World) (b : Below w.heap.size w W) => wakes_any W (hva.below b)
  have S0 : Hid (StS w (w.alloc (.cells #[tx q.name, .bool q.dur, .int .i64 q.depth, .int .i64 q.seq, .int .i64 q.tag, .slice ai q.items.length ci, .slice ah q.held.length ch] 25)) q) := by
    have hb := (Below.refl w.heap.size w).alloc (Nat.le_refl _) (.cells #[tx q.name, .bool q.dur, .int .i64 q.depth, .int .i64 q.seq, .int .i64 q.tag, .slice ai q.items.length ci, .slice ah q.held.length ch] 25)
    refine ⟨⟨_, _, fun W' hg => ?_, Blk.new ..⟩, hb⟩
    obtain ⟨iv, hv, e, hi, hh⟩ := hR.on (hb.grown hg hb.size (fun k hk => by injection hk with hk; omega))
    simp only [queV, Value.agg.injEq, Array.mk.injEq, List.cons.injEq, and_true, true_and] at e
    obtain ⟨rfl, rfl⟩ := e
    exact ⟨hi, hh⟩
  unfold queV at *
  go_enter Tryd.func3, Tryd.ntmps3
  go_upto_region 1 with fail
  generalize w.alloc (.cells #[tx q.name, .bool q.dur, .int .i64 q.depth, .int .i64 q.seq, .int .i64 q.tag, .slice ai q.items.length ci, .slice ah q.held.length ch] 25) = w1 at *
  go_wp2_with fail
  refine (HW _ S0.out.b).mono ?_
  rintro e w2 ⟨rfl, b2⟩
  have S2 := S0.out.on b2
  clear S0 b2 HW
  obtain ⟨⟨iv, hv, h1, h3⟩, h5⟩ := S2
  have HL := long_any w2 _ q ⟨iv, hv, rfl, h1.rd.1, h1.rd.2⟩ hbig
  have K2 : Hid (Blk w2 w.heap.size #[tx q.name, .bool q.dur, .int .i64 q.depth, .int .i64 q.seq, .int .i64 q.tag, iv, hv] 25) := h3
  have S2 : Hid (StS w w2 q) := ⟨⟨iv, hv, h1, h3⟩, h5⟩
  clear h1 h3 h5
  unfold queV at HL
  go_wp2_with (refine wpl_load25 rfl (.tmp 2) rfl _ _ rfl K2.out rfl ?_)
  refine HL.mono ?_
  rintro e w3 ⟨⟨bl, rfl, hbl⟩, b3⟩
  have S3 := S2.out.on b3
  have K3 : Hid (Blk w3 w.heap.size #[tx q.name, .bool q.dur, .int .i64 q.depth, .int .i64 q.seq, .int .i64 q.tag, iv, hv] 25) := K2.out.on b3
  have R3 : Hid (RdQ w3 (queV q iv hv) q) := by
    obtain ⟨⟨iv', hv', h1, h3⟩, h5⟩ := S3
    have e := K3.out.h.symm.trans h3.h
    simp only [Option.some.injEq, Obj.cells.injEq, Array.mk.injEq, List.cons.injEq, and_true, true_and] at e
    obtain ⟨rfl, rfl⟩ := e
    exact ⟨_, _, rfl, h1.rd.1, h1.rd.2⟩
  clear S2 K2 b3 HL
  cases bl with
  | true =>
    go_wp2
    go_ret
    exact ⟨rfl, S3.b⟩
  | false =>
    have hl200 := hbl rfl
    clear hbl
    by_cases hs : (ns : Int) > 200
    · go_wp2
      go_ret
      exact ⟨rfl, S3.b⟩
    · have HG := good_any w3 (hva.below S3.b) _ q R3.out (by omega)
      unfold queV at HG
      obtain ⟨c0, c1, c2, c3, c4, c5, c6⟩ := K3.out.c7
      go_wp2_with fail
      refine HG.mono ?_
      rintro e w4 ⟨rfl, b4⟩
      have S4 := S3.on b4
      clear S3 K3 R3 b4 HG c0 c1 c2 c3 c4 c5 c6
      cases hg : goodQ q with
      | false =>
        go_wp2
        go_ret
        exact ⟨rfl, S4.b⟩
      | true =>
        have H4 : Hid (StS w w4 q ∧ goodQ q = true) := ⟨S4, hg⟩
        clear S4 hg hl200
        go_wp2_with fail
        go_loopg [6, 7, 8, 9, 10, 27] ns (fun gg _ _ _ _ _ s27 wr => ∃ kk : Nat, kk ≤ ns ∧ ns - kk ≤ gg ∧ s27 = .int .i64 kk ∧ ∃ q' : Que, Hid (StS w wr q' ∧ goodQ q' = true))
        case atStart => exact ⟨0, Nat.zero_le _, by omega, rfl, _, H4⟩
        case round =>
          obtain ⟨kk, hkk, hg, rfl, q', HS⟩ := hrel
          clear H4
          obtain ⟨wr, hwr⟩ : ∃ W, W = wr := ⟨_, rfl⟩
          subst hwr
          by_cases hlt : kk < ns
          · have hltz : (kk : Int) < (ns : Int) := by omega
            obtain ⟨b, o, pv, rfl, hz1, hp, c0, c1, c2, c3, c4, c5, c6, c7, c8⟩ := op_at HZ.out HS.out.1.b (i := kk) (by rw [NZ.out]; exact hlt)
            generalize (zs[kk]'(by rw [NZ.out]; exact hlt)).2 = x at *
            clear hz1
            obtain ⟨pa, pc, rfl⟩ := hp.shape
            have HPX : Hid (RdP wr (.slice pa x.m.props.length pc) x.m.props) := hp
            clear hp
            obtain ⟨np, hnp⟩ : ∃ n, x.m.props.length = n := ⟨_, rfl⟩
            rw [hnp] at HPX c6
            go_wp2_with (refine wpl_fresh rfl (.tmp 6) (.tmp 30) rfl _ _ rfl rfl (by kernel_rfl) rfl (by simp [Value.oneCell']) ?_)
            intro w5 k5 b5 s5
            clear c0 c1 c2 c3 c4 c5 c6 c7 c8 s5
            have S5 := HS.out.1.on b5
            have HP5 : Hid (RdP w5 (.slice pa np pc) x.m.props) := HPX.out.on b5
            have HG5 : Hid (goodQ q' = true) := HS.out.2
            clear HS HPX b5
            have d6 : w5.cell? ⟨wr.heap.size, 6, none⟩ = some (.slice pa np pc) := k5.cell 6
            by_cases h1000 : (np : Int) > 1000
            · go_wp2
              go_ret
              exact ⟨rfl, S5.b⟩
            · obtain ⟨⟨iv5, hv5, h1, h3⟩, h5⟩ := S5
              have HD := does_any w5 (hva.below h5) _ q' ⟨iv5, hv5, rfl, h1.rd.1, h1.rd.2⟩ x _ HP5.out (by have := (goodQ_small HG5.out).2.1; omega)
              have K5 : Hid (Blk w5 w.heap.size #[tx q'.name, .bool q'.dur, .int .i64 q'.depth, .int .i64 q'.seq, .int .i64 q'.tag, iv5, hv5] 25) := h3
              have R5 : Hid (Rob w5 w.heap.size iv5 hv5 q' ∧ Below w.heap.size w w5) := ⟨h1, h5⟩
              have O5 : Hid (Blk w5 wr.heap.size #[.int .i64 x.kind, .int .i64 x.conn, .int .i64 x.n, .bool x.flag, tx x.m.topic, tx x.m.body, .slice pa np pc, .bool x.m.dur, .int .i64 x.m.til] 33) := k5
              clear h1 h3 h5 HP5 k5
              unfold queV opV at HD
              go_wp2_with (first | (refine wpl_load25 rfl (.tmp 2) rfl _ _ rfl K5.out rfl ?_) | (refine wpl_load33 rfl (.tmp 6) rfl _ _ rfl O5.out rfl ?_))
              refine HD.mono ?_
              rintro e w6 ⟨v6, pv6, rfl, ⟨iv6, hv6, rfl, hi6, hh6⟩, ho6, hp6, b6⟩
              obtain ⟨ai6, ci6, rfl⟩ := hi6.len
              obtain ⟨ah6, ch6, rfl⟩ := hh6.len
              obtain ⟨pa6, pc6, rfl⟩ := hp6.shape
              have RY : Hid (Rob w6 w.heap.size (.slice ai6 (doesQ q' x).items.length ci6) (.slice ah6 (doesQ q' x).held.length ch6) (doesQ q' x)) := by
                rcases ho6 with ho6 | ⟨ev, eq⟩
                · exact Rob.own ho6 (K5.out.on b6)
                · rw [eq] at ev ⊢
                  simp only [queV, Value.agg.injEq, Array.mk.injEq, List.cons.injEq, and_true, true_and] at ev
                  obtain ⟨e1, e2⟩ := ev
                  rw [e1, e2]
                  exact R5.out.1.on b6
              clear hp6 HD O5 d6 ho6
              unfold queV itmV
              have K7 := (Blk.new w6 #[.string ⟨#[]⟩, .bool false, .int .i64 0, .int .i64 0, .int .i64 0, .slice none 0 0, .slice none 0 0] 25).alloc (.cells #[.int .i64 0, .bool false, .string ⟨#[]⟩, .string ⟨#[]⟩, .slice none 0 0, .bool false, .int .i64 0] 35)
              have K9 := Blk.new (w6.alloc (.cells #[.string ⟨#[]⟩, .bool false, .int .i64 0, .int .i64 0, .int .i64 0, .slice none 0 0, .slice none 0 0] 25)) #[.int .i64 0, .bool false, .string ⟨#[]⟩, .string ⟨#[]⟩, .slice none 0 0, .bool false, .int .i64 0] 35
              rw [World.size_alloc] at K9
              have B7 := ((Below.refl w6.heap.size w6).alloc (Nat.le_refl _) (.cells #[.string ⟨#[]⟩, .bool false, .int .i64 0, .int .i64 0, .int .i64 0, .slice none 0 0, .slice none 0 0] 25)).alloc (by simp) (.cells #[.int .i64 0, .bool false, .string ⟨#[]⟩, .string ⟨#[]⟩, .slice none 0 0, .bool false, .int .i64 0] 35)
              go_wp2_with (refine wpl_put rfl (.tmp 7) (.tmp 40) rfl _ _ rfl rfl K7 (by kernel_rfl) rfl (by simp [Value.oneCell']) ?_)
              intro w7 k7 g7 s7
              have i7 := K9.grown g7 (fun e => by injection e with e; omega)
              have b7 := B7.grown g7 B7.size (fun k hk => by injection hk with hk; omega)
              clear K7 K9 B7 g7 s7
              go_wp2_with (refine wpl_put rfl (.tmp 9) (.tmp 42) rfl _ _ rfl rfl i7 (by kernel_rfl) rfl (by simp [Value.oneCell']) ?_)
              intro w8 k8 g8 s8
              have k9 := k7.grown g8 (fun e => by injection e with e; omega)
              have b8 := b7.grown g8 b7.size (fun k hk => by injection hk with hk; omega)
              have b58 := nxt b6 b8
              have K8 := K5.out.on b58
              have S8 : Hid (StS w w8 q' ∧ goodQ q' = true) := ⟨⟨⟨_, _, R5.out.1.on b58, K8⟩, nxt R5.out.2 b58⟩, HG5.out⟩
              have RY8 : Hid (Rob w8 w.heap.size (.slice ai6 (doesQ q' x).items.length ci6) (.slice ah6 (doesQ q' x).held.length ch6) (doesQ q' x)) := RY.out.on b8
              have hi8 := hi6.on b8
              have hh8 := hh6.on b8
              clear i7 b7 k7 g8 s8 k8 b6 b8 b58 K5 R5 hi6 hh6 RY
              by_cases hc : doesC q' x = 0
              · obtain ⟨f1, f2, f3, f4, f5⟩ := does_keeps HG5.out hc
                have HG := good_any w8 (hva.below S8.out.1.b) _ (doesQ q' x) ⟨_, _, rfl, hi8, hh8⟩ (Nat.le_trans (goodQ_small f1).2.1 (by decide))
                rw [f1] at HG
                have K9 : Hid (Blk w8 w6.heap.size #[tx (doesQ q' x).name, .bool (doesQ q' x).dur, .int .i64 (doesQ q' x).depth, .int .i64 (doesQ q' x).seq, .int .i64 (doesQ q' x).tag, .slice ai6 (doesQ q' x).items.length ci6, .slice ah6 (doesQ q' x).held.length ch6] 25) := k9
                have KQ : Hid (Blk w8 w.heap.size #[tx q'.name, .bool q'.dur, .int .i64 q'.depth, .int .i64 q'.seq, .int .i64 q'.tag, iv5, hv5] 25) := K8
                have RQ : Hid (Rob w8 w.heap.size (.slice ai6 (doesQ q' x).items.length ci6) (.slice ah6 (doesQ q' x).held.length ch6) (doesQ q' x) ∧ Below w.heap.size w w8 ∧ goodQ (doesQ q' x) = true) := ⟨RY8.out, S8.out.1.b, f1⟩
                have FF : Hid ((doesQ q' x).name = q'.name ∧ (doesQ q' x).depth = q'.depth ∧ q'.seq ≤ (doesQ q' x).seq ∧ q'.tag ≤ (doesQ q' x).tag) := ⟨f2, f3, f4, f5⟩
                clear hi8 hh8 K8 k9 f1 f2 f3 f4 f5 S8 RY8
                unfold queV at HG
                generalize doesQ q' x = y at *
                generalize y.items.length = ny at *
                generalize y.held.length = my at *
                go_wp2_with (refine wpl_load25 rfl (.tmp 7) rfl _ _ rfl K9.out rfl ?_)
                refine HG.mono ?_
                rintro e wA ⟨rfl, bA⟩
                have KA := K9.out.on bA
                have KB := KQ.out.on bA
                have RA : Hid (Rob wA w.heap.size (.slice ai6 ny ci6) (.slice ah6 my ch6) y ∧ Below w.heap.size w wA ∧ goodQ y = true) := ⟨RQ.out.1.on bA, nxt RQ.out.2.1 bA, RQ.out.2.2⟩
                clear K9 KQ RQ HG bA
                obtain ⟨f2, f3, f4, f5⟩ := FF.out
                rw [f2, f3] at KA
                obtain ⟨d0, d1, d2, d3, d4, d5, d6⟩ := KA.c7
                obtain ⟨c0, c1, c2, c3, c4, c5, c6⟩ := KB.c7
                have f4' : ¬ y.seq < q'.seq := by omega
                have f5' : ¬ y.tag < q'.tag := by omega
                clear f2 f3
                go_wp2_with (first | (refine wpl_load25 rfl (.tmp 7) rfl _ _ rfl KA rfl ?_) | (refine wpl_put rfl (.tmp 2) (.tmp 90) rfl _ _ rfl rfl KB (by kernel_rfl) rfl (by simp [Value.oneCell']) ?_))
                intro wB kB gB sB
                obtain ⟨f2, f3, _, _⟩ := FF.out
                rw [← f2, ← f3] at kB
                have SB : Hid (StS w wB y ∧ goodQ y = true) := ⟨⟨⟨_, _, RA.out.1.grown gB, kB⟩, RA.out.2.1.grown gB RA.out.2.1.size (fun k hk => by injection hk with hk; omega)⟩, RA.out.2.2⟩
                clear KA KB RA FF gB sB kB f2 f3 c0 c1 c2 c3 c4 c5 c6 d0 d1 d2 d3 d4 d5 d6
                go_wp2_with fail
                go_roundg (ns - (kk + 1))
                case measure => omega
                case rel => exact ⟨kk + 1, by omega, by omega, by go_num, _, SB⟩
              · have hz := does_zero hc
                rw [hz] at k9
                have d0 : w8.cell? ⟨w6.heap.size, 0, none⟩ = some (.string ⟨#[]⟩) := k9.cell 0
                have d5 : w8.cell? ⟨w6.heap.size, 5, none⟩ = some (.slice ai6 0 ci6) := k9.cell 5
                have d6 : w8.cell? ⟨w6.heap.size, 6, none⟩ = some (.slice ah6 0 ch6) := k9.cell 6
                clear hi8 hh8 K8 k9 hz RY8
                go_wp2_with fail
                go_roundg (ns - (kk + 1))
                case measure => omega
                case rel => exact ⟨kk + 1, by omega, by omega, by go_num, _, S8⟩
          · have hltz : ¬ (kk : Int) < (ns : Int) := by omega
            go_wp2
            go_ret
            exact ⟨rfl, HS.out.1.b⟩
end Go.Proofs.YtlbcefocmdnlgaaDoor

namespace Go.Proofs.YtlbcefocmdnlgaaDoor
open Go.RowKit Go.Lib

/-- A list without a number. -/
def wout (l : List Int) (n : Int) : List Int := l.filter (fun x => x != n)
theorem wout_perm {l m : List Int} {n : Int} (h : l.Perm (n :: m)) (hn : (n :: m).Nodup) : (wout l n).Perm m := by
  have h1 : (wout l n).Perm (wout (n :: m) n) := h.filter _
  have h2 : wout (n :: m) n = m := by
    have hm : ∀ x ∈ m, x ≠ n := fun x hx e => by subst e; exact (List.nodup_cons.1 hn).1 hx
    simp only [wout, List.filter_cons, bne_self_eq_false, Bool.false_eq_true, if_false]
    exact List.filter_eq_self.2 fun x hx => by simpa using hm x hx
  rw [h2] at h1
  exact h1
theorem tell_push {q : Que} {l : List Int} (h : l.Perm (seqs q)) (m : Msg) : (l ++ [(pushQ q m).seq]).Perm (seqs (pushQ q m)) := by
  have e : seqs (pushQ q m) = q.items.map (·.seq) ++ ([q.seq + 1] ++ q.held.map (·.itm.seq)) := by simp [seqs, pushQ]
  rw [e]
  refine (h.append_right _).trans ?_
  show ((q.items.map (·.seq) ++ q.held.map (·.itm.seq)) ++ [q.seq + 1]).Perm _
  rw [List.append_assoc]
  exact List.Perm.append_left _ List.perm_append_comm
theorem tell_take {q : Que} {conn sub : Int} {y : Itm} {r : List Itm} (hi : q.items = y :: r) {l : List Int} (h : l.Perm (seqs q)) : l.Perm (seqs (takeQ q conn sub true)) := by
  refine h.trans ?_
  simp only [seqs, takeQ, if_true, hi, List.drop_succ_cons, List.drop_zero, List.headD_cons, List.map_append, List.map_cons, List.map_nil, List.cons_append]
  rw [← List.append_assoc]
  exact (List.perm_append_singleton _ _).symm
theorem tell_hand {q : Que} {conn sub : Int} {y : Itm} {r : List Itm} (hi : q.items = y :: r) {l : List Int} (h : l.Perm (seqs q)) (hn : (seqs q).Nodup) : (wout l y.seq).Perm (seqs (takeQ q conn sub false)) := by
  have e : seqs q = y.seq :: seqs (takeQ q conn sub false) := by simp [seqs, takeQ, hi]
  rw [e] at h hn
  exact wout_perm h hn
theorem held_perm {q : Que} {K : Nat} (hK : K < q.held.length) : (seqs q).Perm (q.held[K].itm.seq :: (q.items.map (·.seq) ++ (q.held.eraseIdx K).map (·.itm.seq))) := by
  have h1 := (erase_perm q.held K hK).symm.map (·.itm.seq)
  exact (List.Perm.append_left _ h1).trans List.perm_middle
theorem tell_settle {q : Que} {conn tag : Int} (hK : q.held.findIdx (isH conn tag) < q.held.length) {l : List Int} (h : l.Perm (seqs q)) : l.Perm (seqs (settleQ q conn tag true)) := by
  refine (h.trans (held_perm hK)).trans ?_
  have eg : q.held.getD (q.held.findIdx (isH conn tag)) zeroH = q.held[q.held.findIdx (isH conn tag)] := by simp [List.getD, List.getElem?_eq_getElem hK]
  simp only [seqs, settleQ, if_true, eg]
  exact (putB_seqs _ _).symm.append_right _
theorem tell_done {q : Que} {conn tag : Int} (hK : q.held.findIdx (isH conn tag) < q.held.length) {l : List Int} (h : l.Perm (seqs q)) (hn : (seqs q).Nodup) : (wout l (q.held[q.held.findIdx (isH conn tag)].itm.seq)).Perm (seqs (settleQ q conn tag false)) := by
  have hp := held_perm hK
  refine wout_perm (h.trans hp) (hp.nodup_iff.1 hn)
theorem tell_release {q : Que} {conn sub : Int} (hg : GoodP q) {l : List Int} (h : l.Perm (seqs q)) : l.Perm (seqs (releaseQ q conn sub)) := by
  refine h.trans ?_
  have hp : (q.held.map (·.itm.seq)).Perm ((q.held.filter (isR conn sub)).map (·.itm.seq) ++ (q.held.filter (fun h => !isR conn sub h)).map (·.itm.seq)) := by
    rw [← List.map_append]
    exact (List.filter_append_perm (isR conn sub) q.held).symm.map _
  have hn2 : (q.items.map (·.seq) ++ (q.held.filter (isR conn sub)).map (·.itm.seq)).Nodup := by
    have h1 : (q.items.map (·.seq) ++ ((q.held.filter (isR conn sub)).map (·.itm.seq) ++ (q.held.filter (fun h => !isR conn sub h)).map (·.itm.seq))).Nodup := (List.Perm.append_left _ hp).nodup_iff.1 hg.nd
    rw [← List.append_assoc] at h1
    exact (List.nodup_append.1 h1).1
  obtain ⟨_, h2, _⟩ := backs_facts (q.held.filter (isR conn sub)) q.items hg.ri hn2
  show (q.items.map (·.seq) ++ q.held.map (·.itm.seq)).Perm ((backs q.items (q.held.filter (isR conn sub))).map (·.seq) ++ (q.held.filter (fun h => !isR conn sub h)).map (·.itm.seq))
  refine (List.Perm.append_left _ hp).trans ?_
  rw [← List.append_assoc]
  exact h2.symm.append_right _
theorem wout_all : ∀ (xs : List Itm) (p : Itm → Bool) (l : List Int), (xs.foldl (fun a y => if p y then wout a y.seq else a) l) = l.filter (fun n => !(xs.any fun y => p y && y.seq == n))
  | [], _, l => by
    exact (List.filter_eq_self.2 fun _ _ => rfl).symm
  | y :: xs, p, l => by
    rw [List.foldl_cons, wout_all xs p]
    cases hp : p y with
    | false => simp [hp]
    | true =>
      simp only [if_true, wout, List.filter_filter, List.any_cons, hp, Bool.true_and]
      congr 1
      funext n
      by_cases e : y.seq = n
      · subst e; simp
      · have e1 : (y.seq == n) = false := by simpa using e
        have e2 : (n != y.seq) = true := by simpa using fun e' => e e'.symm
        simp [e1, e2]
theorem inj_of_nodup : ∀ {l : List Itm}, (l.map (·.seq)).Nodup → ∀ {x y : Itm}, x ∈ l → y ∈ l → x.seq = y.seq → x = y
  | [], _, _, _, h, _, _ => by simp at h
  | z :: l, hn, x, y, hx, hy, e => by
    simp only [List.map_cons, List.nodup_cons] at hn
    rcases List.mem_cons.1 hx with ex | hx1 <;> rcases List.mem_cons.1 hy with ey | hy1
    · rw [ex, ey]
    · refine absurd ?_ hn.1
      rw [← ex, e]
      exact List.mem_map_of_mem hy1
    · refine absurd ?_ hn.1
      rw [← ey, ← e]
      exact List.mem_map_of_mem hx1
    · exact inj_of_nodup hn.2 hx1 hy1 e
theorem tell_expire {q : Que} {now : Int} {l : List Int} (h : l.Perm (seqs q)) (hn : (seqs q).Nodup) : (q.items.foldl (fun a y => if oldB now y then wout a y.seq else a) l).Perm (seqs (expireQ q now)) := by
  rw [wout_all]
  refine (h.filter _).trans ?_
  have e : (seqs q).filter (fun n => !(q.items.any fun y => oldB now y && y.seq == n)) = seqs (expireQ q now) := by
    simp only [seqs, expireQ, List.filter_append, List.filter_map]
    have hd := List.nodup_append.1 hn
    congr 1
    · congr 1
      refine List.filter_congr fun x hx => ?_
      simp only [Function.comp]
      congr 1
      rw [Bool.eq_iff_iff]
      simp only [List.any_eq_true, Bool.and_eq_true, beq_iff_eq]
      constructor
      · rintro ⟨y, hy, ho, e⟩
        have : y = x := by
          have hnd := hd.1
          exact inj_of_nodup hnd hy hx e
        subst this
        exact ho
      · intro ho
        exact ⟨x, hx, ho, rfl⟩
    · congr 1
      refine List.filter_eq_self.2 fun x hx => ?_
      simp only [Function.comp, Bool.not_eq_true', List.any_eq_false, Bool.and_eq_true, beq_iff_eq, not_and]
      intro y hy _ e
      exact hd.2.2 _ (List.mem_map_of_mem hy) _ (List.mem_map_of_mem hx) e
  rw [e]
end Go.Proofs.YtlbcefocmdnlgaaDoor

namespace Go.Proofs.YtlbcefocmdnlgaaDoor
open Go.RowKit Go.Lib

/-- What the law takes off its list, for one that is held, for one that waits. -/
def dropH (conn tag : Int) (l : List Int) (xs : List Hld) : List Int := xs.foldl (fun a h => if isH conn tag h then wout a h.itm.seq else a) l
def dropI (now : Int) (l : List Int) (xs : List Itm) : List Int := xs.foldl (fun a y => if oldB now y then wout a y.seq else a) l
theorem dropH_none {conn tag : Int} : ∀ {xs : List Hld} {l : List Int}, (∀ x ∈ xs, isH conn tag x = false) → dropH conn tag l xs = l
  | [], _, _ => rfl
  | x :: xs, l, h => by
    have h1 := h x (List.mem_cons_self ..)
    show dropH conn tag (if isH conn tag x then wout l x.itm.seq else l) xs = l
    rw [h1]
    exact dropH_none fun y hy => h y (List.mem_cons_of_mem _ hy)
theorem dropH_one {conn tag : Int} : ∀ {xs : List Hld}, RisesT xs → ∀ (l : List Int) (hK : xs.findIdx (isH conn tag) < xs.length), dropH conn tag l xs = wout l (xs[xs.findIdx (isH conn tag)]).itm.seq
  | [], _, _, hK => by simp at hK
  | x :: xs, hr, l, hK => by
    have hr' := List.pairwise_cons.1 hr
    by_cases hx : isH conn tag x = true
    · have e0 : (x :: xs).findIdx (isH conn tag) = 0 := by simp [List.findIdx_cons, hx]
      simp only [e0, List.getElem_cons_zero]
      show dropH conn tag (if isH conn tag x then wout l x.itm.seq else l) xs = _
      rw [hx, if_pos rfl]
      refine dropH_none fun y hy => ?_
      have h1 := hr'.1 y hy
      simp only [isH, Bool.and_eq_true, decide_eq_true_eq] at hx
      simp only [isH, Bool.and_eq_false_iff, decide_eq_false_iff_not]
      right
      omega
    · have hx' : isH conn tag x = false := by simpa using hx
      have e0 : (x :: xs).findIdx (isH conn tag) = xs.findIdx (isH conn tag) + 1 := by simp [List.findIdx_cons, hx']
      simp only [e0, List.getElem_cons_succ]
      show dropH conn tag (if isH conn tag x then wout l x.itm.seq else l) xs = _
      rw [hx', if_neg (by simp)]
      exact dropH_one hr'.2 l (by rw [e0, List.length_cons] at hK; omega)
/-- The law's list behind a call. -/
def tellL (q : Que) (o : Opn) (l : List Int) : List Int :=
  if o.kind = 0 then l ++ [(doesQ q o).seq] else if o.kind = 1 then (if o.flag then l else wout l (doesI q o).seq)
  else if o.kind = 2 then (if o.flag then l else dropH o.conn o.n l q.held) else if o.kind = 4 then dropI o.n l q.items else l
theorem tells_step {q : Que} {o : Opn} {l : List Int} (hg : GoodP q) (hc : doesC q o = 0) (h : l.Perm (seqs q)) : (tellL q o l).Perm (seqs (doesQ q o)) := by
  have e : doesQ q o = doesN q o := by simp [doesQ, hc]
  unfold tellL
  by_cases h0 : o.kind = 0
  · rw [if_pos h0, e]
    have e1 : doesN q o = pushQ q o.m := by simp [doesN, h0]
    rw [e1]
    exact tell_push h o.m
  rw [if_neg h0]
  by_cases h1 : o.kind = 1
  · rw [if_pos h1]
    have e1 : doesN q o = takeQ q o.conn o.n o.flag := by simp [doesN, h1]
    have ec : takeC q o.conn o.n = 0 := by simpa [doesC, h1] using hc
    have ei : doesI q o = q.items.headD zeroI := by simp [doesI, h1, ec]
    have hn := (takeC_zero ec).2.2.2.2
    obtain ⟨y, r, hi⟩ : ∃ y r, q.items = y :: r := by
      cases hq : q.items with
      | nil => simp [hq] at hn
      | cons y r => exact ⟨y, r, rfl⟩
    rw [e, e1, ei]
    cases hf : o.flag with
    | true => exact tell_take hi h
    | false =>
      rw [if_neg (by simp), hi]
      exact tell_hand hi h hg.nd
  rw [if_neg h1]
  by_cases h2 : o.kind = 2
  · rw [if_pos h2]
    have e1 : doesN q o = settleQ q o.conn o.n o.flag := by simp [doesN, h2]
    have ec : settleC q o.conn o.n = 0 := by simpa [doesC, h2] using hc
    have hK := (settleC_zero ec).2
    rw [e, e1]
    cases hf : o.flag with
    | true => exact tell_settle hK h
    | false =>
      rw [if_neg (by simp), dropH_one hg.rt l hK]
      exact tell_done hK h hg.nd
  rw [if_neg h2]
  by_cases h3 : o.kind = 3
  · have e1 : doesN q o = releaseQ q o.conn o.n := by simp [doesN, h3]
    rw [if_neg (by omega), e, e1]
    exact tell_release hg h
  by_cases h4 : o.kind = 4
  · have e1 : doesN q o = expireQ q o.n := by simp [doesN, h4]
    rw [if_pos h4, e, e1]
    exact tell_expire h hg.nd
  · have e1 : doesN q o = q := by simp [doesN, h0, h1, h2, h3, h4]
    rw [if_neg h4, e, e1]
    exact h
theorem count_none {n : Int} : ∀ {l : List Int}, n ∉ l → l.countP (fun x => decide (x = n)) = 0
  | [], _ => rfl
  | x :: l, h => by
    simp only [List.mem_cons, not_or] at h
    rw [List.countP_cons, count_none h.2, if_neg (by simpa using fun e => h.1 e.symm)]
theorem count_one {n : Int} : ∀ {l : List Int}, l.Nodup → n ∈ l → l.countP (fun x => decide (x = n)) = 1
  | [], _, h => by simp at h
  | x :: l, hn, h => by
    have h1 := List.nodup_cons.1 hn
    rw [List.countP_cons]
    rcases List.mem_cons.1 h with rfl | h2
    · rw [count_none h1.1]
      simp
    · rw [count_one h1.2 h2, if_neg]
      simp only [decide_eq_true_eq]
      rintro rfl
      exact h1.1 h2
def cntI (n : Int) (l : List Itm) : Nat := l.countP fun y => decide (y.seq = n)
def cntH (n : Int) (l : List Hld) : Nat := l.countP fun y => decide (y.itm.seq = n)
theorem count_all {q : Que} {l : List Int} (hn : (seqs q).Nodup) (h : l.Perm (seqs q)) {n : Int} (hm : n ∈ l) : cntI n q.items + cntH n q.held = 1 := by
  have h1 := count_one hn (h.mem_iff.1 hm)
  simp only [seqs, List.countP_append, List.countP_map] at h1
  exact h1
theorem cntI_snoc (n : Int) (l : List Itm) (x : Itm) : cntI n (l ++ [x]) = cntI n l + if x.seq = n then 1 else 0 := by
  simp [cntI, List.countP_append, List.countP_cons]
theorem cntH_snoc (n : Int) (l : List Hld) (x : Hld) : cntH n (l ++ [x]) = cntH n l + if x.itm.seq = n then 1 else 0 := by
  simp [cntH, List.countP_append, List.countP_cons]
theorem tell_len {q : Que} {l : List Int} (h : l.Perm (seqs q)) : l.length = lenQ q := by
  rw [h.length_eq]
  simp [seqs, lenQ]
theorem wout_snoc (l : List Int) (x n : Int) : wout (l ++ [x]) n = if x = n then wout l n else wout l n ++ [x] := by
  by_cases e : x = n
  · subst e; simp [wout, List.filter_append]
  · have e1 : (x != n) = true := by simpa using e
    simp [wout, List.filter_append, e, e1]
theorem dropH_snoc (conn tag : Int) (l : List Int) (xs : List Hld) (x : Hld) : dropH conn tag l (xs ++ [x]) = if isH conn tag x then wout (dropH conn tag l xs) x.itm.seq else dropH conn tag l xs := by
  simp [dropH, List.foldl_append]
theorem dropI_snoc (now : Int) (l : List Int) (xs : List Itm) (x : Itm) : dropI now l (xs ++ [x]) = if oldB now x then wout (dropI now l xs) x.seq else dropI now l xs := by
  simp [dropI, List.foldl_append]
theorem wout_le (l : List Int) (n : Int) : (wout l n).length ≤ l.length := List.length_filter_le ..
theorem dropH_le (conn tag : Int) : ∀ (xs : List Hld) (l : List Int), (dropH conn tag l xs).length ≤ l.length
  | [], _ => Nat.le_refl _
  | x :: xs, l => by
    show (dropH conn tag (if isH conn tag x then wout l x.itm.seq else l) xs).length ≤ _
    split
    · exact Nat.le_trans (dropH_le conn tag xs _) (wout_le _ _)
    · exact dropH_le conn tag xs _
theorem dropI_le (now : Int) : ∀ (xs : List Itm) (l : List Int), (dropI now l xs).length ≤ l.length
  | [], _ => Nat.le_refl _
  | x :: xs, l => by
    show (dropI now (if oldB now x then wout l x.seq else l) xs).length ≤ _
    split
    · exact Nat.le_trans (dropI_le now xs _) (wout_le _ _)
    · exact dropI_le now xs _
end Go.Proofs.YtlbcefocmdnlgaaDoor

namespace Go.Proofs.YtlbcefocmdnlgaaDoor
open Go.RowKit Go.Lib
set_option maxRecDepth 100000
set_option linter.unusedSimpArgs false

def OwnN (w : World) (B : Nat) (v : Value) (l : List Int) : Prop := w.ownsRow B 3 1 v l.length (l.map (Value.int .i64))
def RdN (w : World) (v : Value) (l : List Int) : Prop := ((∃ a c, v = .slice a 0 c) ∧ l = []) ∨ ∃ b c, v = .slice (some ⟨b, 0, none⟩) l.length c ∧ ∀ i (h : i < l.length), w.cell? ⟨b, i, none⟩ = some (.int .i64 l[i])
theorem OwnN.rd {w : World} {B : Nat} {v : Value} {l : List Int} (h : OwnN w B v l) : RdN w v l := by
  have h0 : w.ownsRow B 3 1 v l.length (l.map (Value.int .i64)) := h
  obtain ⟨hl, h1 | ⟨g, cap, cur, rfl, hb, hg, hc, hm, hs, ht⟩⟩ := h
  · exact .inl ⟨⟨_, _, h1.1⟩, List.length_eq_zero_iff.1 h1.2⟩
  · refine .inr ⟨g, cap, rfl, fun i hi => ?_⟩
    have := World.ownsRow.cells (g := g) h0 rfl i (.int .i64 l[i]) (by simp [hi])
    rwa [Addr.add_lit, Nat.zero_add] at this
theorem RdN.len {w : World} {v : Value} {l : List Int} (h : RdN w v l) : ∃ a c, v = .slice a l.length c := by
  rcases h with ⟨⟨a, c, rfl⟩, rfl⟩ | ⟨b, c, rfl, _⟩
  · exact ⟨a, c, rfl⟩
  · exact ⟨_, c, rfl⟩
theorem RdN.at {w : World} {a : Option Addr} {n c : Nat} {l : List Int} (h : RdN w (.slice a n c) l) {i : Nat} (hi : i < l.length) : ∃ b, a = some ⟨b, 0, none⟩ ∧ w.cell? ⟨b, i, none⟩ = some (.int .i64 l[i]) := by
  rcases h with ⟨_, rfl⟩ | ⟨b, c', e, h⟩
  · simp at hi
  · injection e with e1 e2 e3
    exact ⟨b, e1, h i hi⟩
theorem RdN.on {w w' : World} {v : Value} {l : List Int} (h : RdN w v l) (hb : Below w.heap.size w w') : RdN w' v l := by
  rcases h with h | ⟨b, c, e, h⟩
  · exact .inl h
  · exact .inr ⟨b, c, e, fun i hi => (hb.cell (World.block_lt_of_cell? w _ (h i hi))).trans (h i hi)⟩
theorem OwnN.keep {w w' : World} {B : Nat} {v : Value} {l : List Int} (h : OwnN w B v l) (hk : Kt 3 w w') : OwnN w' B v l := by
  obtain ⟨hl, h1 | ⟨g, cap, cur, hv, hb, hg, h1⟩⟩ := h
  · exact ⟨hl, .inl h1⟩
  · exact ⟨hl, .inr ⟨g, cap, cur, hv, hb, (hk g cur hg).trans hg, h1⟩⟩
theorem OwnN.on {w w' : World} {B : Nat} {v : Value} {l : List Int} (h : OwnN w B v l) (hb : Below w.heap.size w w') : OwnN w' B v l := h.keep (.of_below hb)
theorem OwnN.low {w : World} {B B' : Nat} {v : Value} {l : List Int} (h : OwnN w B' v l) (hB : B ≤ B') : OwnN w B v l := by
  obtain ⟨hl, h1 | ⟨g, cap, cur, hv, hb, h1⟩⟩ := h
  · exact ⟨hl, .inl h1⟩
  · exact ⟨hl, .inr ⟨g, cap, cur, hv, by omega, h1⟩⟩
theorem OwnN.nil (w : World) (B : Nat) : OwnN w B (.slice none 0 0) [] := World.ownsRow_nil ..
theorem info3 : (Tryd.prog.info? 3).map (fun i => (i.zero, i.size, i.bytes)) = some (some (.int .i64 0), 1, 8) := by kernel_rfl
/-- append of one number. -/
theorem wpl_appN {ops : Array Oper} {rest : List Oper} {o : Oper} {a : Act} {Q : Exit → Act → World → Prop} (hgd : o.guard = none) (s x : Operand)
    (ho : o.op = .call { callee := .builtin .append, args := #[s, x], argTypes := #[42, 42] }) (B : Nat) (v : Value) (l : List Int) (w : World)
    (hs : a.eval s = v) (hown : OwnN w B v l) (b c : Nat) (z : Int) (hx : a.eval x = .slice (some ⟨b, 0, none⟩) 1 c)
    (hsrc : w.cell? ⟨b, 0, none⟩ = some (.int .i64 z)) (hn : l.length ≤ 100000) (hB : B ≤ w.heap.size)
    (h : ∀ v' w', OwnN w' B v' (l ++ [z]) → w.grownBy w' v.ownBlock → wpList Tryd.prog ops Q rest (a.put o.dst v') w') : wpList Tryd.prog ops Q (o :: rest) a w := by
  obtain ⟨i0, hi, hz0, hz1, hz2⟩ := info_parts info3
  refine wpList_plain hgd fun _ hK => wp_append_own _ s x 42 ho B 3 i0 (.int .i64 0) 1 8 Tryd.underlying42 hi hz0 hz1 hz2 rfl (by decide) v l.length (l.map (Value.int .i64)) hs hown ⟨b, 0, none⟩ 1 c [.int .i64 z] hx rfl ?_ (by simp [Value.oneCell']) (by unfold maxLen; omega) (by omega) hB ?_
  · intro j u hj
    rw [Addr.add_lit, Nat.zero_add]
    cases j with
    | zero => simp at hj; rw [← hj]; exact hsrc
    | succ j => simp at hj
  · intro v' w' h1 h2 _
    refine hK _ _ (h v' w' ?_ h2)
    unfold OwnN
    rw [List.length_append, List.map_append]
    exact h1
set_option maxHeartbeats 4000000 in
theorem without_any (w : World) (v : Value) (l : List Int) (h : RdN w v l) (n : Int) (hl : l.length ≤ 1000) :
    Calls Tryd.prog 11 #[v, .int .i64 n] w fun e w' => ∃ v', e = .returned v' ∧ OwnN w' w.heap.size v' (l.filter (fun x => x != n)) ∧ Below w.heap.size w w' := by
  obtain ⟨a, c, rfl⟩ := h.len
  obtain ⟨m, hm⟩ : ∃ m, l.length = m := ⟨_, rfl⟩
  rw [hm] at h hl ⊢
  have HR : Hid (RdN w (.slice a m c) l) := h
  have HM : Hid (l.length = m) := hm
  clear h hm
  go_enter Tryd.func11, Tryd.ntmps11
  go_wp2_with fail
  go_loopg [5, 7, 10] m (fun gg s5 _ s10 wr => ∃ kk : Nat, kk ≤ m ∧ m - kk ≤ gg ∧ s10 = .int .i64 kk ∧ Hid (OwnN wr w.heap.size s5 ((l.take kk).filter (fun x => x != n)) ∧ Below w.heap.size w wr))
  case atStart => exact ⟨0, Nat.zero_le _, by omega, rfl, OwnN.nil .., Below.refl _ w⟩
  case round =>
    obtain ⟨kk, hkk, hg, rfl, HS⟩ := hrel
    obtain ⟨wr, hwr⟩ : ∃ W, W = wr := ⟨_, rfl⟩
    subst hwr
    by_cases hlt : kk < m
    · have hltz : (kk : Int) < (m : Int) := by omega
      obtain ⟨b, rfl, c0⟩ := (HR.out.on HS.out.2).at (i := kk) (by rw [HM.out]; exact hlt)
      have et : l.take (kk + 1) = l.take kk ++ [l[kk]'(by rw [HM.out]; exact hlt)] := by simp
      generalize l[kk]'(by rw [HM.out]; exact hlt) = z at *
      have ET : Hid (l.take (kk + 1) = l.take kk ++ [z]) := et
      clear et
      by_cases hz : z = n
      · subst hz
        go_wp2_with fail
        go_roundg (m - (kk + 1))
        case measure => omega
        case rel => exact ⟨kk + 1, by omega, by omega, by go_num, by rw [ET.out, List.filter_append]; simpa using HS.out.1, HS.out.2⟩
      · have hn : (z != n) = true := by simpa using hz
        have hlen : ((l.take kk).filter (fun x => x != n)).length ≤ 1000 := Nat.le_trans (List.length_filter_le _ _) (by rw [List.length_take]; omega)
        have HO := HS.out.1.on ((Below.refl _ wr).alloc (Nat.le_refl _) (.cells #[.int .i64 z] 3))
        have HB := HS.out.2.alloc HS.out.2.size (.cells #[.int .i64 z] 3)
        go_wp2_with (refine wpl_appN rfl (.tmp 17) (.tmp 19) rfl _ _ _ _ rfl HO _ _ z rfl ((Blk.new wr #[.int .i64 z] 3).cell 0) (by omega) HB.size ?_)
        intro v5 w5 o5 g5
        go_wp2_with fail
        go_roundg (m - (kk + 1))
        case measure => omega
        case rel => exact ⟨kk + 1, by omega, by omega, by go_num, by rw [ET.out, List.filter_append]; simpa [hn] using o5, HB.grown g5 HB.size (fun k hk => (HO.lt k hk).1)⟩
    · have hltz : ¬ (kk : Int) < (m : Int) := by omega
      go_wp2
      go_ret
      have ek : l.take kk = l := List.take_of_length_le (by rw [HM.out]; omega)
      rw [ek] at HS
      exact ⟨_, rfl, HS.out.1, HS.out.2⟩
end Go.Proofs.YtlbcefocmdnlgaaDoor

namespace Go.Proofs.YtlbcefocmdnlgaaDoor
open Go.RowKit Go.Lib
set_option maxRecDepth 100000
set_option linter.unusedSimpArgs false

/-- The queue lies in the block g, the numbers that should be there in a row of the law's own. -/
structure TeS (w W : World) (g : Nat) (q : Que) (v : Value) (l : List Int) : Prop where
  q : ∃ ai ci ah ch, OwnI W w.heap.size (.slice ai q.items.length ci) q.items ∧ OwnH W w.heap.size (.slice ah q.held.length ch) q.held ∧ Blk W g #[tx q.name, .bool q.dur, .int .i64 q.depth, .int .i64 q.seq, .int .i64 q.tag, .slice ai q.items.length ci, .slice ah q.held.length ch] 25
  n : OwnN W w.heap.size v l
  b : Below w.heap.size w W
structure TeG (w : World) (g : Nat) (q : Que) (l : List Int) : Prop where
  p : l.Perm (seqs q)
  d : goodQ q = true
  g : w.heap.size ≤ g
theorem TeS.on {w W W' : World} {g : Nat} {q : Que} {v : Value} {l : List Int} (h : TeS w W g q v l) (hb : Below W.heap.size W W') : TeS w W' g q v l := by
  obtain ⟨⟨ai, ci, ah, ch, h1, h2, h3⟩, h4, h5⟩ := h
  exact ⟨⟨ai, ci, ah, ch, h1.keep (.of_below hb) (.of_below hb), h2.keep (.of_below hb) (.of_below hb), h3.on hb⟩, h4.on hb, nxt h5 hb⟩
theorem TeS.put {w W W' : World} {g : Nat} {q : Que} {v v' : Value} {l l' : List Int} (h : TeS w W g q v l) (hg : W.grownBy W' v.ownBlock) (hn : OwnN W' w.heap.size v' l') : TeS w W' g q v' l' := by
  obtain ⟨⟨ai, ci, ah, ch, h1, h2, h3⟩, h4, h5⟩ := h
  exact ⟨⟨ai, ci, ah, ch, h1.keep (Kt.of_grown h4 hg (by decide)) (Kt.of_grown h4 hg (by decide)), h2.keep (Kt.of_grown h4 hg (by decide)) (Kt.of_grown h4 hg (by decide)), h3.grown hg (h3.ne_own h4 (by decide))⟩, hn, h5.grown hg h5.size (fun k hk => (h4.lt k hk).1)⟩
theorem TeS.next {w W W' : World} {g : Nat} {q : Que} {v v' : Value} {l l' : List Int} (h : TeS w W g q v l) (hb : Below W.heap.size W W') (hn : OwnN W' W.heap.size v' l') : TeS w W' g q v' l' := by
  obtain ⟨h1, _, h3⟩ := h.on hb
  exact ⟨h1, hn.low h.b.size, h3⟩
theorem same_drewN (w : World) (d : Nat) : Below w.heap.size w (w.drewN d) := below_drewN (Below.refl _ w) d
theorem Blk.ne {W : World} {g g' : Nat} {cs cs' : Array Value} {t t' : TypeId} (h : Blk W g cs t) (h' : Blk W g' cs' t') (hne : t ≠ t') : g ≠ g' := fun e => by
  subst e
  have h1 := h.h
  rw [h'.h] at h1
  injection h1 with e2
  injection e2 with _ e3 _
  exact hne e3.symm
theorem newC_zero {depth : Int} (h : newC [113] depth = 0) : depB depth = true := by
  unfold newC at h
  rw [if_neg (by decide)] at h
  cases hd : depB depth with
  | true => rfl
  | false => rw [hd] at h; simp at h
theorem good_new {depth : Int} (h : newC [113] depth = 0) : goodQ (newQ [113] true depth) = true := by
  have hd := newC_zero h
  have h1 : (0 : Int) ≤ depth := by simp only [depB, Bool.and_eq_true, decide_eq_true_eq] at hd; omega
  have hn : nameL [113] = true := by decide
  simp [goodQ, newQ, hn, hd, numB, lenQ, itmsB, hldsB, seqs, h1]

set_option maxHeartbeats 4000000 in
theorem tells_law (w : World) (hva : To.Vars w) (depth : Int) (sv : Value) (l : List Opn) (hl : RdO w sv l) :
    Calls Tryd.prog 4 #[.int .i64 depth, sv] w fun e w' => e = .returned (.bool true) ∧ Below w.heap.size w w' := by
  obtain ⟨zs, ezs, hzs⟩ := hl
  obtain ⟨asl, cap, rfl⟩ := hzs.len
  obtain ⟨ns, hns⟩ : ∃ n, zs.length = n := ⟨_, rfl⟩
  rw [hns] at hzs ⊢
  have HZ : Hid (RdZ 9 (OpR (RdP w)) w (.slice asl ns cap) zs) := hzs
  have NZ : Hid (zs.length = ns) := hns
  clear hzs hns ezs
  go_enter Tryd.func4, Tryd.ntmps4
  go_wp2_with fail
  refine (wakes_any w hva).mono ?_
  rintro e w1 ⟨rfl, b1⟩
  go_wp2_with fail
  refine (new_any w1 [113] true depth).mono ?_
  rintro e w2 ⟨v2, rfl, ho2, b2⟩
  have B2 := nxt b1 b2
  have ho3 := ho2.low b1.size
  clear b1 b2 ho2
  obtain ⟨iv2, hv2, rfl, oi2, oh2⟩ := ho3
  obtain ⟨ai2, ci2, rfl⟩ := oi2.rd.len
  obtain ⟨ah2, ch2, rfl⟩ := oh2.rd.len
  have OQ : Hid (OwnI w2 w.heap.size (.slice ai2 (if newC [113] depth = 0 then newQ [113] true depth else zeroQ).items.length ci2) (if newC [113] depth = 0 then newQ [113] true depth else zeroQ).items ∧ OwnH w2 w.heap.size (.slice ah2 (if newC [113] depth = 0 then newQ [113] true depth else zeroQ).held.length ch2) (if newC [113] depth = 0 then newQ [113] true depth else zeroQ).held) := ⟨oi2, oh2⟩
  have BQ : Hid (Below w.heap.size w w2) := B2
  have GN : Hid (newC [113] depth = 0 → goodQ (if newC [113] depth = 0 then newQ [113] true depth else zeroQ) = true ∧ seqs (if newC [113] depth = 0 then newQ [113] true depth else zeroQ) = []) := fun hc => by
    rw [if_pos hc]
    exact ⟨good_new hc, rfl⟩
  clear oi2 oh2 B2
  generalize (if newC [113] depth = 0 then newQ [113] true depth else zeroQ) = q0 at *
  generalize newC [113] depth = c0 at *
  unfold queV
  go_wp2_with (refine wpl_fresh rfl (.tmp 5) (.tmp 31) rfl _ _ rfl rfl (by kernel_rfl) rfl (by simp [Value.oneCell']) ?_)
  intro w3 k3 b3 s3
  have S3 : Hid (TeS w w3 w2.heap.size q0 (.slice none 0 0) []) := ⟨⟨_, _, _, _, OQ.out.1.keep (.of_below b3) (.of_below b3), OQ.out.2.keep (.of_below b3) (.of_below b3), k3⟩, OwnN.nil .., nxt BQ.out b3⟩
  have G3 : Hid (w.heap.size ≤ w2.heap.size) := BQ.out.size
  clear k3 b3 s3 OQ BQ
  generalize w2.heap.size = g at *
  generalize (Value.agg #[tx q0.name, .bool q0.dur, .int .i64 q0.depth, .int .i64 q0.seq, .int .i64 q0.tag, .slice ai2 q0.items.length ci2, .slice ah2 q0.held.length ch2]) = ag0
  by_cases hc : c0 = 0
  · subst hc
    have G4 : Hid (TeG w g q0 []) := ⟨by rw [(GN.out rfl).2], (GN.out rfl).1, G3.out⟩
    clear GN G3
    by_cases hs : (ns : Int) > 200
    · go_wp2
      go_ret
      exact ⟨rfl, S3.out.b⟩
    · go_wp2_with fail
      go_loopg [7, 42] ns (fun gg s7 s42 wr => ∃ kk : Nat, kk ≤ ns ∧ ns - kk ≤ gg ∧ s42 = .int .i64 kk ∧ ∃ (q' : Que) (l : List Int), Hid (TeS w wr g q' s7 l ∧ TeG w g q' l))
      case atStart => exact ⟨0, Nat.zero_le _, by omega, rfl, _, _, S3.out, G4.out⟩
      case round =>
        obtain ⟨kk, hkk, hg, rfl, q', l, HS⟩ := hrel
        clear S3 G4
        obtain ⟨wr, hwr⟩ : ∃ W, W = wr := ⟨_, rfl⟩
        subst hwr
        by_cases hlt : kk < ns
        · have hltz : (kk : Int) < (ns : Int) := by omega
          obtain ⟨b, o, pv, rfl, hz1, hp, c0, c1, c2, c3, c4, c5, c6, c7, c8⟩ := op_at HZ.out HS.out.1.b (i := kk) (by rw [NZ.out]; exact hlt)
          generalize (zs[kk]'(by rw [NZ.out]; exact hlt)).2 = x at *
          clear hz1
          obtain ⟨pa, pc, rfl⟩ := hp.shape
          have HPX : Hid (RdP wr (.slice pa x.m.props.length pc) x.m.props) := hp
          clear hp
          obtain ⟨np, hnp⟩ : ∃ n, x.m.props.length = n := ⟨_, rfl⟩
          rw [hnp] at HPX c6
          clear hnp
          go_wp2_with (refine wpl_fresh rfl (.tmp 9) (.tmp 45) rfl _ _ rfl rfl (by kernel_rfl) rfl (by simp [Value.oneCell']) ?_)
          intro w5 k5 b5 s5
          clear c0 c1 c2 c3 c4 c5 c6 c7 c8 s5
          have S5 := HS.out.1.on b5
          have HP5 : Hid (RdP w5 (.slice pa np pc) x.m.props) := HPX.out.on b5
          have HG5 : Hid (TeG w g q' l) := HS.out.2
          clear HS HPX b5
          have d6 : w5.cell? ⟨wr.heap.size, 6, none⟩ = some (.slice pa np pc) := k5.cell 6
          generalize wr.heap.size = go at *
          by_cases h1000 : (np : Int) > 1000
          · go_wp2
            go_ret
            exact ⟨rfl, S5.b⟩
          · obtain ⟨⟨ai5, ci5, ah5, ch5, h1, h2, h3⟩, h4, h5⟩ := S5
            obtain ⟨ni5, hni5⟩ : ∃ n, q'.items.length = n := ⟨_, rfl⟩
            obtain ⟨nh5, hnh5⟩ : ∃ n, q'.held.length = n := ⟨_, rfl⟩
            rw [hni5] at h1 h3
            rw [hnh5] at h2 h3
            have N5 : Hid (q'.items.length = ni5 ∧ q'.held.length = nh5) := ⟨hni5, hnh5⟩
            have K5 : Hid (Blk w5 g #[tx q'.name, .bool q'.dur, .int .i64 q'.depth, .int .i64 q'.seq, .int .i64 q'.tag, .slice ai5 ni5 ci5, .slice ah5 nh5 ch5] 25) := h3
            have O5 : Hid (Blk w5 go #[.int .i64 x.kind, .int .i64 x.conn, .int .i64 x.n, .bool x.flag, tx x.m.topic, tx x.m.body, .slice pa np pc, .bool x.m.dur, .int .i64 x.m.til] 33) := k5
            have R5 : Hid (OwnI w5 w.heap.size (.slice ai5 ni5 ci5) q'.items ∧ OwnH w5 w.heap.size (.slice ah5 nh5 ch5) q'.held ∧ OwnN w5 w.heap.size u7 l ∧ Below w.heap.size w w5) := ⟨h1, h2, h4, h5⟩
            clear h1 h2 h3 h4 h5 k5 hni5 hnh5
            go_wp2_with (first | (refine wpl_load25 rfl (.tmp 5) rfl _ _ rfl K5.out rfl ?_) | (refine wpl_fresh rfl (.tmp 10) (.tmp 51) rfl _ _ rfl rfl (by kernel_rfl) rfl (by simp [Value.oneCell']) ?_))
            intro w6 k6 b6 s6
            have Q6 : Hid (Blk w6 g #[tx q'.name, .bool q'.dur, .int .i64 q'.depth, .int .i64 q'.seq, .int .i64 q'.tag, .slice ai5 ni5 ci5, .slice ah5 nh5 ch5] 25) := K5.out.on b6
            have O6 : Hid (Blk w6 go #[.int .i64 x.kind, .int .i64 x.conn, .int .i64 x.n, .bool x.flag, tx x.m.topic, tx x.m.body, .slice pa np pc, .bool x.m.dur, .int .i64 x.m.til] 33) := O5.out.on b6
            have L6 : Hid (g < w5.heap.size ∧ go < w5.heap.size) := ⟨K5.out.lt, O5.out.lt⟩
            have W6 : Hid (Blk w6 w5.heap.size #[tx q'.name, .bool q'.dur, .int .i64 q'.depth, .int .i64 q'.seq, .int .i64 q'.tag, .slice ai5 ni5 ci5, .slice ah5 nh5 ch5] 25) := k6
            have R6 : Hid (OwnI w6 w.heap.size (.slice ai5 ni5 ci5) q'.items ∧ OwnH w6 w.heap.size (.slice ah5 nh5 ch5) q'.held ∧ OwnN w6 w.heap.size u7 l ∧ Below w.heap.size w w6) := ⟨R5.out.1.keep (.of_below b6) (.of_below b6), R5.out.2.1.keep (.of_below b6) (.of_below b6), R5.out.2.2.1.on b6, nxt R5.out.2.2.2 b6⟩
            have HD := does_any w6 (hva.below R6.out.2.2.2) _ q' ⟨_, _, rfl, R6.out.1.rd, R6.out.2.1.rd⟩ x _ (HP5.out.on b6) (by have := (goodQ_small HG5.out.d).2.1; omega)
            clear k6 b6 s6 K5 O5 R5 HP5 d6
            generalize w5.heap.size = gw at *
            unfold queV opV at HD
            go_wp2_with (first | (refine wpl_load25 rfl (.tmp 5) rfl _ _ rfl Q6.out rfl ?_) | (refine wpl_load33 rfl (.tmp 9) rfl _ _ rfl O6.out rfl ?_))
            refine HD.mono ?_
            rintro e w7 ⟨v7, pv7, rfl, _, ho7, hp7, b7⟩
            have OY : ∃ ai ci ah ch, v7 = queV (doesQ q' x) (.slice ai (doesQ q' x).items.length ci) (.slice ah (doesQ q' x).held.length ch) ∧ OwnI w7 w.heap.size (.slice ai (doesQ q' x).items.length ci) (doesQ q' x).items ∧ OwnH w7 w.heap.size (.slice ah (doesQ q' x).held.length ch) (doesQ q' x).held := by
              rcases ho7 with ho7 | ⟨ev, eq⟩
              · obtain ⟨iv, hv, rfl, oi, oh⟩ := ho7
                obtain ⟨ai, ci, rfl⟩ := oi.rd.len
                obtain ⟨ah, ch, rfl⟩ := oh.rd.len
                exact ⟨ai, ci, ah, ch, rfl, oi.low R6.out.2.2.2.size, oh.low R6.out.2.2.2.size⟩
              · rw [eq, ev]
                refine ⟨ai5, ci5, ah5, ch5, by rw [N5.out.1, N5.out.2]; rfl, ?_, ?_⟩
                · rw [N5.out.1]
                  exact R6.out.1.keep (.of_below b7) (.of_below b7)
                · rw [N5.out.2]
                  exact R6.out.2.1.keep (.of_below b7) (.of_below b7)
            obtain ⟨ai7, ci7, ah7, ch7, rfl, oi7, oh7⟩ := OY
            obtain ⟨pa7, pc7, rfl⟩ := hp7.shape
            have Q7 : Hid (Blk w7 g #[tx q'.name, .bool q'.dur, .int .i64 q'.depth, .int .i64 q'.seq, .int .i64 q'.tag, .slice ai5 ni5 ci5, .slice ah5 nh5 ch5] 25) := Q6.out.on b7
            have O7 : Hid (Blk w7 go #[.int .i64 x.kind, .int .i64 x.conn, .int .i64 x.n, .bool x.flag, tx x.m.topic, tx x.m.body, .slice pa np pc, .bool x.m.dur, .int .i64 x.m.til] 33) := O6.out.on b7
            have W7 : Hid (Blk w7 gw #[tx q'.name, .bool q'.dur, .int .i64 q'.depth, .int .i64 q'.seq, .int .i64 q'.tag, .slice ai5 ni5 ci5, .slice ah5 nh5 ch5] 25) := W6.out.on b7
            have R7 : Hid (OwnI w7 w.heap.size (.slice ai5 ni5 ci5) q'.items ∧ OwnH w7 w.heap.size (.slice ah5 nh5 ch5) q'.held ∧ OwnN w7 w.heap.size u7 l ∧ Below w.heap.size w w7) := ⟨R6.out.1.keep (.of_below b7) (.of_below b7), R6.out.2.1.keep (.of_below b7) (.of_below b7), R6.out.2.2.1.on b7, nxt R6.out.2.2.2 b7⟩
            have Y7 : Hid (OwnI w7 w.heap.size (.slice ai7 (doesQ q' x).items.length ci7) (doesQ q' x).items ∧ OwnH w7 w.heap.size (.slice ah7 (doesQ q' x).held.length ch7) (doesQ q' x).held) := ⟨oi7, oh7⟩
            clear Q6 O6 W6 R6 oi7 oh7 hp7 ho7 HD b7
            have FX : Hid (∃ cc ii tt, doesC q' x = cc ∧ doesI q' x = ii ∧ doesT q' x = tt) := ⟨_, _, _, rfl, rfl, rfl⟩
            unfold queV itmV
            generalize hyy : doesQ q' x = y at *
            generalize hii : doesI q' x = ii at *
            generalize htt : doesT q' x = tt at *
            generalize hcc : doesC q' x = cc at *
            have FY : Hid (doesQ q' x = y ∧ doesI q' x = ii ∧ doesT q' x = tt ∧ doesC q' x = cc) := ⟨hyy, hii, htt, hcc⟩
            clear hyy hii htt hcc FX
            have K8 := (Blk.new w7 #[.string ⟨#[]⟩, .bool false, .int .i64 0, .int .i64 0, .int .i64 0, .slice none 0 0, .slice none 0 0] 25).alloc (.cells #[.int .i64 0, .bool false, .string ⟨#[]⟩, .string ⟨#[]⟩, .slice none 0 0, .bool false, .int .i64 0] 35)
            have I8 := Blk.new (w7.alloc (.cells #[.string ⟨#[]⟩, .bool false, .int .i64 0, .int .i64 0, .int .i64 0, .slice none 0 0, .slice none 0 0] 25)) #[.int .i64 0, .bool false, .string ⟨#[]⟩, .string ⟨#[]⟩, .slice none 0 0, .bool false, .int .i64 0] 35
            rw [World.size_alloc] at I8
            have B8 := ((Below.refl w7.heap.size w7).alloc (Nat.le_refl _) (.cells #[.string ⟨#[]⟩, .bool false, .int .i64 0, .int .i64 0, .int .i64 0, .slice none 0 0, .slice none 0 0] 25)).alloc (by simp) (.cells #[.int .i64 0, .bool false, .string ⟨#[]⟩, .string ⟨#[]⟩, .slice none 0 0, .bool false, .int .i64 0] 35)
            go_wp2_with (refine wpl_put rfl (.tmp 11) (.tmp 56) rfl _ _ rfl rfl K8 (by kernel_rfl) rfl (by simp [Value.oneCell']) ?_)
            intro w8 k8 g8 s8
            have i8 := I8.grown g8 (fun e => by injection e with e; omega)
            have b8 := B8.grown g8 B8.size (fun k hk => by injection hk with hk; omega)
            clear K8 I8 B8 g8 s8
            go_wp2_with (refine wpl_put rfl (.tmp 13) (.tmp 58) rfl _ _ rfl rfl i8 (by kernel_rfl) rfl (by simp [Value.oneCell']) ?_)
            intro w9 k9 g9 s9
            have X9 : Hid (Blk w9 w7.heap.size #[tx y.name, .bool y.dur, .int .i64 y.depth, .int .i64 y.seq, .int .i64 y.tag, .slice ai7 y.items.length ci7, .slice ah7 y.held.length ch7] 25) := k8.grown g9 (fun e => by injection e with e; omega)
            have I9 : Hid (Blk w9 (w7.heap.size + 1) #[.int .i64 ii.seq, .bool ii.again, tx ii.msg.topic, tx ii.msg.body, .slice pa7 ii.msg.props.length pc7, .bool ii.msg.dur, .int .i64 ii.msg.til] 35) := k9
            have b9 := b8.grown g9 b8.size (fun k hk => by injection hk with hk; omega)
            have Q9 : Hid (Blk w9 g #[tx q'.name, .bool q'.dur, .int .i64 q'.depth, .int .i64 q'.seq, .int .i64 q'.tag, .slice ai5 ni5 ci5, .slice ah5 nh5 ch5] 25) := Q7.out.on b9
            have O9 : Hid (Blk w9 go #[.int .i64 x.kind, .int .i64 x.conn, .int .i64 x.n, .bool x.flag, tx x.m.topic, tx x.m.body, .slice pa np pc, .bool x.m.dur, .int .i64 x.m.til] 33) := O7.out.on b9
            have W9 : Hid (Blk w9 gw #[tx q'.name, .bool q'.dur, .int .i64 q'.depth, .int .i64 q'.seq, .int .i64 q'.tag, .slice ai5 ni5 ci5, .slice ah5 nh5 ch5] 25) := W7.out.on b9
            have R9 : Hid (OwnI w9 w.heap.size (.slice ai5 ni5 ci5) q'.items ∧ OwnH w9 w.heap.size (.slice ah5 nh5 ch5) q'.held ∧ OwnN w9 w.heap.size u7 l ∧ Below w.heap.size w w9) := ⟨R7.out.1.keep (.of_below b9) (.of_below b9), R7.out.2.1.keep (.of_below b9) (.of_below b9), R7.out.2.2.1.on b9, nxt R7.out.2.2.2 b9⟩
            have Y9 : Hid (OwnI w9 w.heap.size (.slice ai7 y.items.length ci7) y.items ∧ OwnH w9 w.heap.size (.slice ah7 y.held.length ch7) y.held) := ⟨Y7.out.1.keep (.of_below b9) (.of_below b9), Y7.out.2.keep (.of_below b9) (.of_below b9)⟩
            have LG : Hid (g < w7.heap.size ∧ gw < w7.heap.size) := ⟨Q7.out.lt, W7.out.lt⟩
            clear i8 b8 k8 g9 s9 k9 b9 Q7 O7 W7 R7 Y7
            generalize w7.heap.size = gx at *
            by_cases hc : cc = 0
            · subst hc
              go_wp2_with (first | (refine wpl_load25 rfl (.tmp 11) rfl _ _ rfl X9.out rfl ?_) | (refine wpl_put rfl (.tmp 5) (.tmp 62) rfl _ _ rfl rfl Q9.out (by kernel_rfl) rfl (by simp [Value.oneCell']) ?_))
              intro wA kA gA sA
              have OA : Hid (Blk wA go #[.int .i64 x.kind, .int .i64 x.conn, .int .i64 x.n, .bool x.flag, tx x.m.topic, tx x.m.body, .slice pa np pc, .bool x.m.dur, .int .i64 x.m.til] 33) := O9.out.grown gA (fun e => by injection e with e; exact O9.out.ne Q9.out (by decide) e)
              have WA : Hid (Blk wA gw #[tx q'.name, .bool q'.dur, .int .i64 q'.depth, .int .i64 q'.seq, .int .i64 q'.tag, .slice ai5 ni5 ci5, .slice ah5 nh5 ch5] 25) := W9.out.grown gA (fun e => by injection e with e; have := L6.out.1; omega)
              have IA : Hid (Blk wA (gx + 1) #[.int .i64 ii.seq, .bool ii.again, tx ii.msg.topic, tx ii.msg.body, .slice pa7 ii.msg.props.length pc7, .bool ii.msg.dur, .int .i64 ii.msg.til] 35) := I9.out.grown gA (fun e => by injection e with e; exact I9.out.ne Q9.out (by decide) e)
              have RA : Hid (OwnI wA w.heap.size (.slice ai5 ni5 ci5) q'.items ∧ OwnH wA w.heap.size (.slice ah5 nh5 ch5) q'.held) := ⟨R9.out.1.keep (kt_grown Q9.out gA (by decide)) (kt_grown Q9.out gA (by decide)), R9.out.2.1.keep (kt_grown Q9.out gA (by decide)) (kt_grown Q9.out gA (by decide))⟩
              have SA : Hid (TeS w wA g y u7 l) := ⟨⟨_, _, _, _, Y9.out.1.keep (kt_grown Q9.out gA (by decide)) (kt_grown Q9.out gA (by decide)), Y9.out.2.keep (kt_grown Q9.out gA (by decide)) (kt_grown Q9.out gA (by decide)), kA⟩, R9.out.2.2.1.keep (kt_grown Q9.out gA (by decide)), R9.out.2.2.2.grown gA R9.out.2.2.2.size (fun k hk => by injection hk with hk; have := HG5.out.g; omega)⟩
              have KA : Hid (Blk wA g #[tx y.name, .bool y.dur, .int .i64 y.depth, .int .i64 y.seq, .int .i64 y.tag, .slice ai7 y.items.length ci7, .slice ah7 y.held.length ch7] 25) := kA
              clear X9 Q9 O9 W9 I9 R9 Y9 kA gA sA
              have HL : Hid (l.length ≤ 64) := by
                have h1 := tell_len HG5.out.p
                have h2 := (goodQ_small HG5.out.d).2.1
                exact (by omega : l.length ≤ 64)
              have hn64 : ni5 ≤ 64 := by
                have h2 := (goodQ_small HG5.out.d).2.1
                rw [← N5.out.1]
                exact Nat.le_trans (Nat.le_add_right _ _) h2
              have hh64 : nh5 ≤ 64 := by
                have h2 := (goodQ_small HG5.out.d).2.1
                rw [← N5.out.2]
                exact Nat.le_trans (Nat.le_add_left _ _) h2
              obtain ⟨kd, hkd⟩ : ∃ k, x.kind = k := ⟨_, rfl⟩
              have KD : Hid (x.kind = kd) := hkd
              rw [hkd] at OA
              clear hkd
              obtain ⟨c0, c1, c2, c3⟩ : wA.cell? ⟨go, 0, none⟩ = some (.int .i64 kd) ∧ wA.cell? ⟨go, 1, none⟩ = some (.int .i64 x.conn) ∧ wA.cell? ⟨go, 2, none⟩ = some (.int .i64 x.n) ∧ wA.cell? ⟨go, 3, none⟩ = some (.bool x.flag) := ⟨OA.out.cell 0, OA.out.cell 1, OA.out.cell 2, OA.out.cell 3⟩
              go_upto_block 2 with fail
              go_cut [7] (fun s7 wq => Hid (TeS w wq g y s7 (tellL q' x l)))
              case first =>
                by_cases h0 : kd = 0
                · subst h0
                  have e7 : Hid (tellL q' x l = l ++ [y.seq]) := by
                    show tellL q' x l = _
                    rw [tellL, if_pos KD.out, FY.out.1]
                  have d3 : wA.cell? ⟨g, 3, none⟩ = some (.int .i64 y.seq) := KA.out.cell 3
                  have HB := (Below.refl _ wA).alloc (Nat.le_refl _) (.cells #[.int .i64 y.seq] 3)
                  have SB := SA.out.on HB
                  have NB := (Blk.new wA #[.int .i64 y.seq] 3).cell 0
                  clear OA WA IA RA KA
                  go_wp2_with (refine wpl_appN rfl (.tmp 67) (.tmp 70) rfl _ _ _ _ rfl SB.n _ _ y.seq rfl NB (by have := HL.out; omega) SB.b.size ?_)
                  intro v5 w5 o5 g5
                  go_wp2_with fail
                  go_meet
                  rw [e7.out]
                  exact SB.put g5 o5
                by_cases h1 : kd = 1
                · subst h1
                  have h1 := KD.out
                  have hcc : takeC q' x.conn x.n = 0 := by have := FY.out.2.2.2; simpa [doesC, h1] using this
                  have e7 : Hid (tellL q' x l = if x.flag then l else l.filter (fun z => z != ii.seq)) := by
                    show tellL q' x l = _
                    rw [tellL, if_neg (by omega), if_pos h1, FY.out.2.1]
                    rfl
                  have hi0 : ii = q'.items.headD zeroI := by rw [← FY.out.2.1]; simp [doesI, h1, hcc]
                  have ht0 : tt = if x.flag then q'.tag + 1 else 0 := by rw [← FY.out.2.2.1]; simp [doesT, h1, hcc]
                  have hn0 := (takeC_zero hcc).2.2.2.2
                  have htg := (goodQ_small HG5.out.d).2.2.2.2.1
                  obtain ⟨hd, tl, hit⟩ : ∃ hd tl, q'.items = hd :: tl := by
                    cases hq : q'.items with
                    | nil => simp [hq] at hn0
                    | cons y r => exact ⟨y, r, rfl⟩
                  rw [hit] at hi0
                  have hRd := RA.out.1.rd
                  rw [hit] at hRd
                  obtain ⟨bh, oh, rfl, a0, _, _⟩ := head_at hRd
                  simp only [List.headD_cons] at hi0
                  have a1 : wA.cell? ⟨bh, oh, none⟩ = some (.int .i64 ii.seq) := by rw [hi0]; exact a0
                  have hn5 : ni5 ≠ 0 := by rw [← N5.out.1]; exact hn0
                  have hnz : ¬ (ni5 : Int) = 0 := by omega
                  have hnlt : 0 < ni5 := by omega
                  have f1 : ∀ d, (wA.drewN d).cell? ⟨bh, oh, none⟩ = some (.int .i64 ii.seq) := fun d => a1
                  have f2 : ∀ d, (wA.drewN d).cell? ⟨gw, 5, none⟩ = some (.slice (some ⟨bh, oh, none⟩) ni5 ci5) := fun d => WA.out.cell 5
                  have f3 : ∀ d, (wA.drewN d).cell? ⟨gx + 1, 0, none⟩ = some (.int .i64 ii.seq) := fun d => IA.out.cell 0
                  have HW := fun d => without_any (wA.drewN d) u7 l (SA.out.on (same_drewN wA d)).n.rd ii.seq (by have := HL.out; omega)
                  clear h1 hRd a0 a1 hi0 hit hcc hn0 OA WA IA RA KA hn5 c0 c1 c2
                  cases hf : x.flag with
                  | true =>
                    have htz : (tt > 0) := by rw [ht0, hf]; simp; omega
                    clear ht0 htg
                    rw [hf] at c3
                    have f4 : ∀ d, (wA.drewN d).cell? ⟨go, 3, none⟩ = some (.bool true) := fun d => c3
                    clear c3 HW
                    go_upto_region 20 with fail
                    have hb1 : decide ((0 : Int) < tt) = true := by simpa using htz
                    have hb0 : ((ni5 : Int) == 0) = false := by simpa using hnz
                    have hb2 : decide ((ni5 : Int) = 0) = false := by simpa using hnz
                    have hb3 : decide (ni5 = 0) = false := by simp; omega
                    have hb4 : (ni5 == 0) = false := by simp; omega
                    go_quiet (fail)
                    go_wp2_with fail
                    go_meet
                    rw [e7.out, hf]
                    exact SA.out.on (same_drewN wA _)
                  | false =>
                    rw [hf] at ht0 c3
                    have htz : tt = 0 := by simpa using ht0
                    subst htz
                    clear ht0 htg
                    have f4 : ∀ d, (wA.drewN d).cell? ⟨go, 3, none⟩ = some (.bool false) := fun d => c3
                    clear c3
                    go_upto_region 20 with fail
                    have hb0 : ((ni5 : Int) == 0) = false := by simpa using hnz
                    have hb2 : decide ((ni5 : Int) = 0) = false := by simpa using hnz
                    have hb3 : decide (ni5 = 0) = false := by simp; omega
                    have hb4 : (ni5 == 0) = false := by simp; omega
                    go_quiet (fail)
                    go_wp2_with (refine (HW _).mono ?_)
                    rintro e wB ⟨vB, rfl, oB, bB⟩
                    go_wp2_with fail
                    go_meet
                    rw [e7.out, hf]
                    exact (SA.out.on (same_drewN wA _)).next bB oB
                by_cases h2 : kd = 2
                · subst h2
                  have e7 : Hid (tellL q' x l = if x.flag then l else dropH x.conn x.n l q'.held) := by
                    show tellL q' x l = _
                    have := KD.out
                    rw [tellL, if_neg (by omega), if_neg (by omega), if_pos this]
                  clear c0 IA KA
                  cases hf : x.flag with
                  | true =>
                    rw [hf] at c3
                    clear c1 c2 OA WA RA
                    go_wp2_with fail
                    go_meet
                    rw [e7.out, hf]
                    exact SA.out
                  | false =>
                    rw [hf] at c3 OA
                    obtain ⟨zh, eh, hh⟩ := RA.out.2.rd
                    have NH : Hid (zh.length = nh5) := by
                      show zh.length = nh5
                      rw [← N5.out.2, ← eh, List.length_map]
                    have HH : Hid (RdZ 10 (HeR (RdP wA)) wA (.slice ah5 nh5 ch5) zh ∧ zh.map (·.2) = q'.held) := ⟨hh, eh⟩
                    clear hh eh RA
                    have f6 : wA.cell? ⟨gw, 6, none⟩ = some (.slice ah5 nh5 ch5) := WA.out.cell 6
                    clear WA
                    go_wp2_with fail
                    go_loopg [7, 110] nh5 (fun gg s7 s110 wy => ∃ k2 : Nat, k2 ≤ nh5 ∧ nh5 - k2 ≤ gg ∧ s110 = .int .i64 k2 ∧ Hid (Below wA.heap.size wA wy ∧ TeS w wy g y s7 (dropH x.conn x.n l (q'.held.take k2))))
                    case atStart => exact ⟨0, Nat.zero_le _, by omega, rfl, Below.refl _ wA, SA.out⟩
                    case round =>
                      obtain ⟨k2, hk2, hg2, rfl, HT⟩ := hrel
                      clear SA f6 c1 c2 c3
                      obtain ⟨wy, hwy⟩ : ∃ W, W = wr := ⟨_, rfl⟩
                      subst hwy
                      by_cases hl2 : k2 < nh5
                      · have hl2z : (k2 : Int) < (nh5 : Int) := by omega
                        obtain ⟨b2, o2, pv2, rfl, hz2, hp2, e0, e1, e2, e3, e4, e5, e6, e7', e8, e9⟩ := hld_at HH.out.1 HT.out.1 (i := k2) (by rw [NH.out]; exact hl2)
                        have ET : Hid (q'.held.take (k2 + 1) = q'.held.take k2 ++ [(zh[k2]'(by rw [NH.out]; exact hl2)).2]) := by
                          show q'.held.take (k2 + 1) = _
                          rw [List.take_succ_eq_append_getElem (by rw [N5.out.2]; exact hl2)]
                          congr 2
                          simp only [← HH.out.2, List.getElem_map]
                        generalize (zh[k2]'(by rw [NH.out]; exact hl2)).2 = z at *
                        clear hz2
                        obtain ⟨pa2, pc2, rfl⟩ := hp2.shape
                        clear hp2
                        generalize z.itm.msg.props.length = np2 at *
                        go_wp2_with (refine wpl_fresh rfl (.tmp 16) (.tmp 113) rfl _ _ rfl rfl (by kernel_rfl) rfl (by simp [Value.oneCell']) ?_)
                        intro wz kz bz sz
                        have HT1 : Hid (Below wA.heap.size wA wz ∧ TeS w wz g y u7 (dropH x.conn x.n l (q'.held.take k2))) := ⟨nxt HT.out.1 bz, HT.out.2.on bz⟩
                        obtain ⟨d0, d1, d2, d3, d4, d5, d6, d7, d8, d9⟩ := kz.c10
                        have OZ := OA.out.on HT1.out.1
                        obtain ⟨c1, c2⟩ : wz.cell? ⟨go, 1, none⟩ = some (.int .i64 x.conn) ∧ wz.cell? ⟨go, 2, none⟩ = some (.int .i64 x.n) := ⟨OZ.cell 1, OZ.cell 2⟩
                        clear HT e0 e1 e2 e3 e4 e5 e6 e7' e8 e9 bz kz sz OZ
                        have HN := without_any wz u7 (dropH x.conn x.n l (q'.held.take k2)) HT1.out.2.n.rd z.itm.seq (by exact Nat.le_trans (dropH_le x.conn x.n (q'.held.take k2) l) (Nat.le_trans HL.out (by decide)))
                        by_cases ht : z.tag = x.n
                        · by_cases hc2 : z.conn = x.conn
                          · have ei : Hid (isH x.conn x.n z = true) := by
                              show isH x.conn x.n z = true
                              simp [isH, ht, hc2]
                            go_wp2_with (refine HN.mono ?_)
                            rintro e wB ⟨vB, rfl, oB, bB⟩
                            go_wp2_with fail
                            go_roundg (nh5 - (k2 + 1))
                            case measure => omega
                            case rel => exact ⟨k2 + 1, by omega, by omega, by go_num, nxt HT1.out.1 bB, by rw [ET.out, dropH_snoc, if_pos ei.out]; exact HT1.out.2.next bB oB⟩
                          · have ei : Hid (isH x.conn x.n z = false) := by
                              show isH x.conn x.n z = false
                              simp [isH, hc2]
                            clear HN
                            go_wp2_with fail
                            go_roundg (nh5 - (k2 + 1))
                            case measure => omega
                            case rel => exact ⟨k2 + 1, by omega, by omega, by go_num, HT1.out.1, by rw [ET.out, dropH_snoc, if_neg (by rw [ei.out]; simp)]; exact HT1.out.2⟩
                        · have ei : Hid (isH x.conn x.n z = false) := by
                            show isH x.conn x.n z = false
                            simp [isH, ht]
                          clear HN
                          go_wp2_with fail
                          go_roundg (nh5 - (k2 + 1))
                          case measure => omega
                          case rel => exact ⟨k2 + 1, by omega, by omega, by go_num, HT1.out.1, by rw [ET.out, dropH_snoc, if_neg (by rw [ei.out]; simp)]; exact HT1.out.2⟩
                      · have hl2z : ¬ (k2 : Int) < (nh5 : Int) := by omega
                        go_wp2_with fail
                        go_meet
                        have et : q'.held.take k2 = q'.held := List.take_of_length_le (by rw [N5.out.2]; omega)
                        rw [e7.out, hf, ← et]
                        exact HT.out.2
                by_cases h3 : kd = 4
                · subst h3
                  have e7 : Hid (tellL q' x l = dropI x.n l q'.items) := by
                    show tellL q' x l = _
                    have := KD.out
                    rw [tellL, if_neg (by omega), if_neg (by omega), if_neg (by omega), if_pos this]
                  clear c0 c1 c3 IA KA
                  obtain ⟨zh, eh, hh⟩ := RA.out.1.rd
                  have NH : Hid (zh.length = ni5) := by
                    show zh.length = ni5
                    rw [← N5.out.1, ← eh, List.length_map]
                  have HH : Hid (RdZ 7 (ItR (RdP wA)) wA (.slice ai5 ni5 ci5) zh ∧ zh.map (·.2) = q'.items) := ⟨hh, eh⟩
                  clear hh eh RA
                  have f6 : wA.cell? ⟨gw, 5, none⟩ = some (.slice ai5 ni5 ci5) := WA.out.cell 5
                  clear WA
                  go_wp2_with fail
                  go_loopg [7, 137] ni5 (fun gg s7 s137 wy => ∃ k2 : Nat, k2 ≤ ni5 ∧ ni5 - k2 ≤ gg ∧ s137 = .int .i64 k2 ∧ Hid (Below wA.heap.size wA wy ∧ TeS w wy g y s7 (dropI x.n l (q'.items.take k2))))
                  case atStart => exact ⟨0, Nat.zero_le _, by omega, rfl, Below.refl _ wA, SA.out⟩
                  case round =>
                    obtain ⟨k2, hk2, hg2, rfl, HT⟩ := hrel
                    clear SA f6 c2
                    obtain ⟨wy, hwy⟩ : ∃ W, W = wr := ⟨_, rfl⟩
                    subst hwy
                    by_cases hl2 : k2 < ni5
                    · have hl2z : (k2 : Int) < (ni5 : Int) := by omega
                      obtain ⟨b2, o2, pv2, rfl, hz2, hp2, e0, e1, e2, e3, e4, e5, e6⟩ := itm_at HH.out.1 HT.out.1 (i := k2) (by rw [NH.out]; exact hl2)
                      have ET : Hid (q'.items.take (k2 + 1) = q'.items.take k2 ++ [(zh[k2]'(by rw [NH.out]; exact hl2)).2]) := by
                        show q'.items.take (k2 + 1) = _
                        rw [List.take_succ_eq_append_getElem (by rw [N5.out.1]; exact hl2)]
                        congr 2
                        simp only [← HH.out.2, List.getElem_map]
                      generalize (zh[k2]'(by rw [NH.out]; exact hl2)).2 = z at *
                      clear hz2
                      obtain ⟨pa2, pc2, rfl⟩ := hp2.shape
                      clear hp2
                      generalize z.msg.props.length = np2 at *
                      go_wp2_with (refine wpl_fresh rfl (.tmp 18) (.tmp 140) rfl _ _ rfl rfl (by kernel_rfl) rfl (by simp [Value.oneCell']) ?_)
                      intro wz kz bz sz
                      have HT1 : Hid (Below wA.heap.size wA wz ∧ TeS w wz g y u7 (dropI x.n l (q'.items.take k2))) := ⟨nxt HT.out.1 bz, HT.out.2.on bz⟩
                      obtain ⟨d0, d1, d2, d3, d4, d5, d6⟩ := kz.c7
                      have OZ := OA.out.on HT1.out.1
                      have c2 : wz.cell? ⟨go, 2, none⟩ = some (.int .i64 x.n) := OZ.cell 2
                      clear HT e0 e1 e2 e3 e4 e5 e6 bz kz sz OZ
                      have HN := without_any wz u7 (dropI x.n l (q'.items.take k2)) HT1.out.2.n.rd z.seq (Nat.le_trans (dropI_le x.n (q'.items.take k2) l) (Nat.le_trans HL.out (by decide)))
                      by_cases ht : z.msg.til > 0
                      · by_cases hc2 : z.msg.til ≤ x.n
                        · have ei : Hid (oldB x.n z = true) := by
                            show oldB x.n z = true
                            simp [oldB, hc2]; omega
                          go_wp2_with (refine HN.mono ?_)
                          rintro e wB ⟨vB, rfl, oB, bB⟩
                          go_wp2_with fail
                          go_roundg (ni5 - (k2 + 1))
                          case measure => omega
                          case rel => exact ⟨k2 + 1, by omega, by omega, by go_num, nxt HT1.out.1 bB, by rw [ET.out, dropI_snoc, if_pos ei.out]; exact HT1.out.2.next bB oB⟩
                        · have ei : Hid (oldB x.n z = false) := by
                            show oldB x.n z = false
                            simp [oldB, hc2]
                          clear HN
                          go_wp2_with fail
                          go_roundg (ni5 - (k2 + 1))
                          case measure => omega
                          case rel => exact ⟨k2 + 1, by omega, by omega, by go_num, HT1.out.1, by rw [ET.out, dropI_snoc, if_neg (by rw [ei.out]; simp)]; exact HT1.out.2⟩
                      · have ei : Hid (oldB x.n z = false) := by
                          show oldB x.n z = false
                          simp [oldB]; omega
                        clear HN
                        go_wp2_with fail
                        go_roundg (ni5 - (k2 + 1))
                        case measure => omega
                        case rel => exact ⟨k2 + 1, by omega, by omega, by go_num, HT1.out.1, by rw [ET.out, dropI_snoc, if_neg (by rw [ei.out]; simp)]; exact HT1.out.2⟩
                    · have hl2z : ¬ (k2 : Int) < (ni5 : Int) := by omega
                      go_wp2_with fail
                      go_meet
                      have et : q'.items.take k2 = q'.items := List.take_of_length_le (by rw [N5.out.1]; omega)
                      rw [e7.out, ← et]
                      exact HT.out.2
                · have e7 : Hid (tellL q' x l = l) := by
                    show tellL q' x l = _
                    have := KD.out
                    rw [tellL, if_neg (by omega), if_neg (by omega), if_neg (by omega), if_neg (by omega)]
                  clear OA WA IA RA KA c0 c1 c2 c3
                  go_wp2_with fail
                  go_meet
                  rw [e7.out]
                  exact SA.out
              case rest =>
                have HS := hcut.out
                have HY : Hid (goodQ y = true) := by
                  have h := (does_keeps HG5.out.d FY.out.2.2.2).1
                  rw [FY.out.1] at h
                  exact h
                have HP : Hid ((tellL q' x l).Perm (seqs y)) := by
                  have h := tells_step ((goodQ_iff _).1 HG5.out.d) FY.out.2.2.2 HG5.out.p
                  rw [FY.out.1] at h
                  exact h
                have GG : Hid (w.heap.size ≤ g) := HG5.out.g
                clear hcut KD FY HG5 OA WA IA RA KA SA HL N5 L6 LG c0 c1 c2 c3 hn64 hh64
                generalize tellL q' x l = l2 at *
                obtain ⟨⟨ai, ci, ah, ch, h1, h2, h3⟩, h4, h5⟩ := HS
                obtain ⟨an, cn, rfl⟩ := h4.rd.len
                have em : l2.length = lenQ y := tell_len HP.out
                have hy64 : lenQ y ≤ 64 := (goodQ_small HY.out).2.1
                have HLN := len_any wc _ y ⟨_, _, rfl, h1.rd, h2.rd⟩ (by omega)
                rw [← em] at HLN hy64
                obtain ⟨m, hm⟩ : ∃ m, l2.length = m := ⟨_, rfl⟩
                rw [hm] at HLN h4 hy64 ⊢
                obtain ⟨ni, hni⟩ : ∃ n, y.items.length = n := ⟨_, rfl⟩
                obtain ⟨nh, hnh⟩ : ∃ n, y.held.length = n := ⟨_, rfl⟩
                have hlim : ni + nh ≤ 64 := by
                  have : ni + nh = lenQ y := by rw [← hni, ← hnh]; rfl
                  omega
                rw [hni, hnh] at h3 HLN
                rw [hni] at h1
                rw [hnh] at h2
                have MM : Hid (l2.length = m ∧ y.items.length = ni ∧ y.held.length = nh) := ⟨hm, hni, hnh⟩
                have HC : Hid (OwnI wc w.heap.size (.slice ai ni ci) y.items ∧ OwnH wc w.heap.size (.slice ah nh ch) y.held ∧ OwnN wc w.heap.size (.slice an m cn) l2 ∧ Below w.heap.size w wc) := ⟨h1, h2, h4, h5⟩
                have KC : Hid (Blk wc g #[tx y.name, .bool y.dur, .int .i64 y.depth, .int .i64 y.seq, .int .i64 y.tag, .slice ai ni ci, .slice ah nh ch] 25) := h3
                clear h1 h2 h3 h4 h5 em hm hni hnh
                unfold queV at HLN
                go_wp2_with (refine wpl_load25 rfl (.tmp 5) rfl _ _ rfl KC.out rfl ?_)
                refine HLN.mono ?_
                rintro e wD ⟨rfl, bD⟩
                have KD : Hid (Blk wD g #[tx y.name, .bool y.dur, .int .i64 y.depth, .int .i64 y.seq, .int .i64 y.tag, .slice ai ni ci, .slice ah nh ch] 25) := KC.out.on bD
                have HD : Hid (OwnI wD w.heap.size (.slice ai ni ci) y.items ∧ OwnH wD w.heap.size (.slice ah nh ch) y.held ∧ OwnN wD w.heap.size (.slice an m cn) l2 ∧ Below w.heap.size w wD) := ⟨HC.out.1.keep (.of_below bD) (.of_below bD), HC.out.2.1.keep (.of_below bD) (.of_below bD), HC.out.2.2.1.on bD, nxt HC.out.2.2.2 bD⟩
                clear KC HC HLN bD
                obtain ⟨zi, ei, hi⟩ := HD.out.1.rd
                obtain ⟨zh, eh, hh⟩ := HD.out.2.1.rd
                have HI : Hid (RdZ 7 (ItR (RdP wD)) wD (.slice ai ni ci) zi ∧ zi.map (·.2) = y.items) := ⟨hi, ei⟩
                have HH : Hid (RdZ 10 (HeR (RdP wD)) wD (.slice ah nh ch) zh ∧ zh.map (·.2) = y.held) := ⟨hh, eh⟩
                have NI : Hid (zi.length = ni ∧ zh.length = nh) := by
                  refine (⟨?_, ?_⟩ : zi.length = ni ∧ zh.length = nh)
                  · rw [← MM.out.2.1, ← ei, List.length_map]
                  · rw [← MM.out.2.2, ← eh, List.length_map]
                clear hi ei hh eh
                go_wp2_with fail
                go_loopg [165] m (fun gg s165 wy => ∃ k : Nat, k ≤ m ∧ m - k ≤ gg ∧ s165 = .int .i64 k ∧ Hid (Below wD.heap.size wD wy))
                case atStart => exact ⟨0, Nat.zero_le _, by omega, rfl, Below.refl _ wD⟩
                case round =>
                  obtain ⟨k, hk, hgk, rfl, HB⟩ := hrel
                  obtain ⟨wy, hwy⟩ : ∃ W, W = wr := ⟨_, rfl⟩
                  subst hwy
                  by_cases hlk : k < m
                  · have hlkz : (k : Int) < (m : Int) := by omega
                    obtain ⟨bn, rfl, cN⟩ := (HD.out.2.2.1.rd.on HB.out).at (i := k) (by rw [MM.out.1]; exact hlk)
                    have HCN : Hid (cntI (l2[k]'(by rw [MM.out.1]; exact hlk)) y.items + cntH (l2[k]'(by rw [MM.out.1]; exact hlk)) y.held = 1) := count_all ((goodQ_iff _).1 HY.out).nd HP.out (List.getElem_mem _)
                    generalize l2[k]'(by rw [MM.out.1]; exact hlk) = n at *
                    have KY := KD.out.on HB.out
                    have c5 : wy.cell? ⟨g, 5, none⟩ = some (.slice ai ni ci) := KY.cell 5
                    clear KY
                    go_wp2_with fail
                    go_loopg [21, 172] ni (fun gg s21 s172 wz => ∃ j c : Nat, j ≤ ni ∧ ni - j ≤ gg ∧ s172 = .int .i64 j ∧ s21 = .int .i64 c ∧ c ≤ j ∧ Hid (c = cntI n (y.items.take j)) ∧ Hid (Below wD.heap.size wD wz))
                    case atStart => exact ⟨0, 0, Nat.zero_le _, by omega, rfl, rfl, Nat.le_refl _, rfl, HB⟩
                    case round =>
                      obtain ⟨j, c, hj, hgj, rfl, rfl, hcj, HCI, HBz⟩ := hrel
                      clear HB cN c5
                      obtain ⟨wz, hwz⟩ : ∃ W, W = wr := ⟨_, rfl⟩
                      subst hwz
                      by_cases hlj : j < ni
                      · have hljz : (j : Int) < (ni : Int) := by omega
                        obtain ⟨b2, o2, pv2, rfl, hz2, hp2, e0, e1, e2, e3, e4, e5, e6⟩ := itm_at HI.out.1 HBz.out (i := j) (by rw [NI.out.1]; exact hlj)
                        have ET : Hid (y.items.take (j + 1) = y.items.take j ++ [(zi[j]'(by rw [NI.out.1]; exact hlj)).2]) := by
                          show y.items.take (j + 1) = _
                          rw [List.take_succ_eq_append_getElem (by rw [MM.out.2.1]; exact hlj)]
                          congr 2
                          simp only [← HI.out.2, List.getElem_map]
                        generalize (zi[j]'(by rw [NI.out.1]; exact hlj)).2 = z at *
                        clear hz2
                        obtain ⟨pa2, pc2, rfl⟩ := hp2.shape
                        clear hp2
                        generalize z.msg.props.length = np2 at *
                        go_wp2_with (refine wpl_fresh rfl (.tmp 23) (.tmp 175) rfl _ _ rfl rfl (by kernel_rfl) rfl (by simp [Value.oneCell']) ?_)
                        intro wq kz bz sz
                        have HB1 : Hid (Below wD.heap.size wD wq) := nxt HBz.out bz
                        have d0 : wq.cell? ⟨wz.heap.size, 0, none⟩ = some (.int .i64 z.seq) := kz.cell 0
                        clear HBz e0 e1 e2 e3 e4 e5 e6 bz kz sz
                        by_cases hz : z.seq = n
                        · have HC1 : Hid (c + 1 = cntI n (y.items.take (j + 1))) := by
                            show c + 1 = _
                            rw [ET.out, cntI_snoc, if_pos hz, ← HCI.out]
                          rw [hz] at d0
                          clear hz
                          go_wp2_with fail
                          go_roundg (ni - (j + 1))
                          case measure => omega
                          case rel => exact ⟨j + 1, c + 1, by omega, by omega, by go_num, by go_num, by omega, HC1, HB1⟩
                        · have HC1 : Hid (c = cntI n (y.items.take (j + 1))) := by
                            show c = _
                            rw [ET.out, cntI_snoc, if_neg hz, ← HCI.out]
                            rfl
                          go_wp2_with fail
                          go_roundg (ni - (j + 1))
                          case measure => omega
                          case rel => exact ⟨j + 1, c, by omega, by omega, by go_num, rfl, by omega, HC1, HB1⟩
                      · have hljz : ¬ (j : Int) < (ni : Int) := by omega
                        have HC0 : Hid (c = cntI n y.items) := by
                          have et : y.items.take j = y.items := List.take_of_length_le (by rw [MM.out.2.1]; omega)
                          have := HCI.out
                          rw [et] at this
                          exact this
                        have hcn : c ≤ ni := by omega
                        have KY := KD.out.on HBz.out
                        have c6 : wz.cell? ⟨g, 6, none⟩ = some (.slice ah nh ch) := KY.cell 6
                        clear KY HI HCI
                        go_wp2_with fail
                        go_loopg [21, 186] nh (fun gg s21 s186 wx => ∃ i d : Nat, i ≤ nh ∧ nh - i ≤ gg ∧ s186 = .int .i64 i ∧ s21 = .int .i64 d ∧ d ≤ ni + i ∧ Hid (d = cntI n y.items + cntH n (y.held.take i)) ∧ Hid (Below wD.heap.size wD wx))
                        case atStart => exact ⟨0, c, Nat.zero_le _, by omega, rfl, rfl, by omega, HC0.out, HBz⟩
                        case round =>
                          obtain ⟨i, d, hi, hgi, rfl, rfl, hdi, HDI, HBx⟩ := hrel
                          clear HBz c6 HC0
                          obtain ⟨wx, hwx⟩ : ∃ W, W = wr := ⟨_, rfl⟩
                          subst hwx
                          by_cases hli : i < nh
                          · have hliz : (i : Int) < (nh : Int) := by omega
                            obtain ⟨b2, o2, pv2, rfl, hz2, hp2, e0, e1, e2, e3, e4, e5, e6, e7, e8, e9⟩ := hld_at HH.out.1 HBx.out (i := i) (by rw [NI.out.2]; exact hli)
                            have ET : Hid (y.held.take (i + 1) = y.held.take i ++ [(zh[i]'(by rw [NI.out.2]; exact hli)).2]) := by
                              show y.held.take (i + 1) = _
                              rw [List.take_succ_eq_append_getElem (by rw [MM.out.2.2]; exact hli)]
                              congr 2
                              simp only [← HH.out.2, List.getElem_map]
                            generalize (zh[i]'(by rw [NI.out.2]; exact hli)).2 = z at *
                            clear hz2
                            obtain ⟨pa2, pc2, rfl⟩ := hp2.shape
                            clear hp2
                            generalize z.itm.msg.props.length = np2 at *
                            go_wp2_with (refine wpl_fresh rfl (.tmp 25) (.tmp 189) rfl _ _ rfl rfl (by kernel_rfl) rfl (by simp [Value.oneCell']) ?_)
                            intro wq kz bz sz
                            have HB1 : Hid (Below wD.heap.size wD wq) := nxt HBx.out bz
                            have d0 : wq.cell? ⟨wx.heap.size, 3, none⟩ = some (.int .i64 z.itm.seq) := kz.cell 3
                            clear HBx e0 e1 e2 e3 e4 e5 e6 e7 e8 e9 bz kz sz
                            by_cases hz : z.itm.seq = n
                            · have HC1 : Hid (d + 1 = cntI n y.items + cntH n (y.held.take (i + 1))) := by
                                show d + 1 = _
                                rw [ET.out, cntH_snoc, if_pos hz, ← Nat.add_assoc, ← HDI.out]
                              rw [hz] at d0
                              clear hz
                              go_wp2_with fail
                              go_roundg (nh - (i + 1))
                              case measure => omega
                              case rel => exact ⟨i + 1, d + 1, by omega, by omega, by go_num, by go_num, by omega, HC1, HB1⟩
                            · have HC1 : Hid (d = cntI n y.items + cntH n (y.held.take (i + 1))) := by
                                show d = _
                                rw [ET.out, cntH_snoc, if_neg hz, Nat.add_zero, ← HDI.out]
                              go_wp2_with fail
                              go_roundg (nh - (i + 1))
                              case measure => omega
                              case rel => exact ⟨i + 1, d, by omega, by omega, by go_num, rfl, by omega, HC1, HB1⟩
                          · have hliz : ¬ (i : Int) < (nh : Int) := by omega
                            have hd1 : d = 1 := by
                              have et : y.held.take i = y.held := List.take_of_length_le (by rw [MM.out.2.2]; omega)
                              have := HDI.out
                              rw [et, HCN.out] at this
                              exact this
                            subst hd1
                            clear HDI HH
                            go_wp2_with fail
                            go_roundg (m - (k + 1))
                            case measure => omega
                            case rel => exact ⟨k + 1, by omega, by omega, by go_num, HBx⟩
                  · have hlkz : ¬ (k : Int) < (m : Int) := by omega
                    have HF : Hid (TeS w wy g y (.slice an m cn) l2 ∧ TeG w g y l2) := by
                      refine (⟨⟨⟨ai, ci, ah, ch, ?_, ?_, ?_⟩, HD.out.2.2.1.on HB.out, nxt HD.out.2.2.2 HB.out⟩, HP.out, HY.out, GG.out⟩ : TeS w wy g y (.slice an m cn) l2 ∧ TeG w g y l2)
                      · rw [MM.out.2.1]
                        exact HD.out.1.keep (.of_below HB.out) (.of_below HB.out)
                      · rw [MM.out.2.2]
                        exact HD.out.2.1.keep (.of_below HB.out) (.of_below HB.out)
                      · rw [MM.out.2.1, MM.out.2.2]
                        exact KD.out.on HB.out
                    clear HD KD HI HH HB
                    go_wp2_with fail
                    go_roundg (ns - (kk + 1))
                    case measure => omega
                    case rel => exact ⟨kk + 1, by omega, by omega, by go_num, y, l2, HF⟩
            · go_wp2_with fail
              go_roundg (ns - (kk + 1))
              case measure => omega
              case rel => exact ⟨kk + 1, by omega, by omega, by go_num, q', l, ⟨⟨_, _, _, _, by rw [N5.out.1]; exact R9.out.1, by rw [N5.out.2]; exact R9.out.2.1, by rw [N5.out.1, N5.out.2]; exact Q9.out⟩, R9.out.2.2.1, R9.out.2.2.2⟩, HG5.out⟩
        · have hltz : ¬ (kk : Int) < (ns : Int) := by omega
          go_wp2
          go_ret
          exact ⟨rfl, HS.out.1.b⟩
  · go_wp2
    go_ret
    exact ⟨rfl, S3.out.b⟩
end Go.Proofs.YtlbcefocmdnlgaaDoor

set_option maxRecDepth 100000
namespace Go.Proofs.YtlbcefocmdnlgaaDoor
open Go.ChangeShapes Go.WideShapes Go.ChangeAt Go.RowKit Go.Lib
open Go.ChangeMaps (open_string shut_string)

theorem tells_contract (H : Type) (enc : TypeId × Value → H) (W : World) (base : Nat) (args : Array Value) (ds gs : List (DataW H)) (before : List MemPlace)
    (hval : ∀ (j : Nat) t v, Tryd.f4.params[j]? = some t → args[j]? = some v → Value.okWide Tryd.prog W .any base t v)
    (hW : DataW.Whole enc Tryd.prog Tryd.f4.params.toList Rows.queueTellsSpec.vars false W args.toList ds gs before)
    (hsz0 : (DataW.weightsEach Tryd.prog (Tryd.f4.params.toList ++ Rows.queueTellsSpec.plain.varTypes Tryd.prog) (ds ++ gs)).all (· ≤ reachBytes) = true)
    (_hL : laidMetH Tryd.prog Rows.queueTellsRow.laid W) (hsh : W.ShapedOpen Tryd.prog) :
    Calls Tryd.prog 4 args W fun e W' => ∃ v, e = .returned v ∧ Rows.queueTellsSpec.post enc Tryd.prog Tryd.f4 false true false false W args v W' := by
  have hv : To.Vars W := by
    exact vars_of_shape hsh
  have hW' := hW
  obtain ⟨p, q, hA0, hV, rfl, hfz, hnd⟩ := hW
  have hA : DataW.TrodAll enc Tryd.prog W 0 (fun _ => true) true Tryd.f4.params.toList args.toList ds p := hA0
  have hsz := hsz0
  rw [Tryd.params4] at hA hval hsz
  obtain ⟨v0, vs0, d0, ds0, p0, q0, hargs, rfl, rfl, h0, r0⟩ := trodAll_cons hA
  obtain ⟨v1, vs1, d1, ds1, p1, q1, rfl, rfl, rfl, h1, r1⟩ := trodAll_cons r0
  obtain ⟨rfl, rfl, rfl⟩ := trodAll_nil r1
  obtain rfl : args = #[v0, v1] := by cases args; simp_all
  obtain ⟨rfl, rfl⟩ := trodVars_none hV
  have lt0 : ∀ x ∈ p0, x.block < W.heap.size := by obtain ⟨m, hm⟩ := h0; exact DataW.trod_lt m _ _ _ hm
  obtain ⟨x0, rfl, _, _, wx0⟩ := open_int Tryd.underlying3 (hval 0 3 v0 rfl rfl) h0
  have lt1 : ∀ x ∈ p1, x.block < W.heap.size := by obtain ⟨m, hm⟩ := h1; exact DataW.trod_lt m _ _ _ hm
  obtain ⟨a1, len1, cap1, rfl⟩ := okWide_slice Tryd.underlying26 (hval 1 26 v1 rfl rfl)
  obtain ⟨x1, hx1⟩ := rd_ops rfl h1
  refine (tells_law W hv x0 _ x1 hx1).mono fun e W' ⟨he, bel⟩ => ?_
  subst he
  exact ⟨_, rfl, _, _, _, [], _, [], hW', trodAll_mk1 (shut_bool Tryd.underlying4 _), (trodAll_cons_mk (Below.trod laidOut (by kernel_rfl) (of_decide_eq_true (by kernel_rfl)) h0 bel lt0) (trodAll_cons_mk (Below.trod laidOut (by kernel_rfl) (of_decide_eq_true (by kernel_rfl)) h1 bel lt1) trodAll_mk0)), rfl, bel.frame _, fun h => by cases h⟩

theorem tells_lifted (os : Os) (started : os.Started) (H : Type) (enc : TypeId × Value → H) :
    ReturnsInHanded {} Tryd.checked os 4 .any (fun w args => (Rows.queueTellsSpec.pre enc Tryd.prog Tryd.f4 [] false w args ∧ laidMetH Tryd.prog Rows.queueTellsRow.laid w) ∧ sizedMet enc Tryd.prog Tryd.f4 (OpenSpec.ofChange Rows.queueTellsSpec) false w args)
      (Rows.queueTellsSpec.post enc Tryd.prog Tryd.f4 false true false false) := by
  refine returns_and_shaped (C := Tryd.checked) (X := fun w _ => laidMetH Tryd.prog Rows.queueTellsRow.laid w) (fun _ _ _ hh h => h.of_heap hh) own started (by kernel_rfl) Tryd.func4
    (ChangeSpec.witness_shaped (enc := enc) (C := Tryd.checked) (os := os) (X := fun w _ => laidMetH Tryd.prog Rows.queueTellsRow.laid w) false (World.laidAll Tryd.prog os Rows.queueTellsRow.laid) #[.int .i64 0, .slice none 0 0] 8 (World.laidAll_os _ _ _)
      (World.shaped_of_ZipB (by kernel_rfl) (by kernel_rfl)) (by kernel_rfl) (by kernel_rfl) (by kernel_rfl)
      (by rw [MakeChecks.laidMetH_plain _ _ _ (by kernel_rfl)]; exact laidMet_laidAll _ (by kernel_rfl) (by kernel_rfl))) ?_
  intro W base args ds gs before hval hW hsz hL hsh
  exact tells_contract H enc W base args ds gs before hval hW hsz hL hsh

theorem tells_said : Rows.QueueTellsSaid :=
  OpenClaim.holds_of_wide 4 Tryd.f4 rfl rfl rfl rfl rfl rfl rfl ⟨rfl, rfl, rfl, rfl, rfl⟩ rfl rfl rfl rfl rfl (by kernel_rfl) Tryd.func4 (by kernel_rfl)
    (of_decide_eq_true (by kernel_rfl)) (by unfold Func.isWrapper; first | (rw [if_pos (by decide +kernel)]; kernel_rfl) | (rw [if_neg (by decide +kernel)]; exact ⟨rfl, rfl⟩))
    (fun os started H enc _ => tells_lifted os started H enc)

theorem tells_plain (f : FuncId) (fn : Func) (hf : Tryd.pinned.checked.prog.funcNamed "trivet/trivetlaw10.QueueTells" = some f) (hfn : Tryd.pinned.checked.prog.funcs[f]? = some fn) :
    false = Tryd.pinned.checked.prog.looks [] ∧ ∀ (j : Nat) t, fn.params[j]? = some t → Tryd.pinned.checked.prog.wantsStandIn t = false := by
  obtain rfl : f = 4 := Option.some.inj ((show Tryd.prog.funcNamed "trivet/trivetlaw10.QueueTells" = some 4 by kernel_rfl).symm.trans hf) |>.symm
  obtain rfl : fn = Tryd.f4 := (Option.some.inj (Tryd.func4.symm.trans hfn)).symm
  refine ⟨by kernel_rfl, fun j t ht => ?_⟩
  rw [Tryd.params4] at ht
  have hm : t ∈ [3, 26] := by simpa using Array.mem_of_getElem? ht
  have hall : ([3, 26].all fun u => !Tryd.prog.wantsStandIn u) = true := by kernel_rfl
  exact (show Tryd.prog.wantsStandIn t = false by simpa using List.all_eq_true.1 hall t hm)

theorem queueTells_card : Rows.QueueTellsCardSaid :=
  Claim7.holds_tied_plain_at .later [] _ _ _ _ tells_said (fun _ h => by cases h) (by kernel_rfl) (fun _ h => by cases h) queueTells_row_tie rfl ⟨rfl, rfl⟩ (by kernel_rfl) rfl tells_plain (by kernel_rfl)
#print axioms queueTells_card
end Go.Proofs.YtlbcefocmdnlgaaDoor
