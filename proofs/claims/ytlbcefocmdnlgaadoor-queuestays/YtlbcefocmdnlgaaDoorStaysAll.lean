/- Whatever a queue and a list of calls, trivetlaw10.QueueStays answers true and leaves its arguments as they were, where the listed tables of the library read as the program's text lays them (tied by the card). -/
import Derived.Test.YtlbcefocmdnlgaaDoorCp
import Derived.Test.YtlbcefocmdnlgaaDoorDo
import Derived.Test.YtlbcefocmdnlgaaDoorLb
import Derived.Test.YtlbcefocmdnlgaaDoorCards
import Derived.Test.YtlbcefocmdnlgaaDoorTie
import Derived.Test.YtlbcefocmdnlgaaDoorLa
namespace Go.Proofs.YtlbcefocmdnlgaaDoor
open Go.RowKit Go.Lib
set_option maxRecDepth 100000
set_option linter.unusedSimpArgs false

/-- A truth is answered. -/
def IsB (n : Nat) (e : Ending) : Prop := ∃ b : Bool, e = .returned (.bool b) ∧ (b = false → n ≤ 200)

set_option maxHeartbeats 4000000 in
theorem long_any (w : World) (v : Value) (q : Que) (h : RdQ w v q) (hbig : lenQ q ≤ 9223372036854775806) : Calls Tryd.prog 7 #[v] w fun e w' => IsB (lenQ q) e ∧ Below w.heap.size w w' := by
  obtain ⟨iv, hv, rfl, ⟨zi, ei, hi⟩, ⟨zh, eh, hh⟩⟩ := h
  obtain ⟨ai, ci, rfl⟩ := hi.len
  obtain ⟨ah, ch, rfl⟩ := hh.len
  obtain ⟨ni, hni⟩ : ∃ n, zi.length = n := ⟨_, rfl⟩
  obtain ⟨nh, hnh⟩ : ∃ n, zh.length = n := ⟨_, rfl⟩
  rw [hni] at hi ⊢
  rw [hnh] at hh ⊢
  have hsum : ni + nh ≤ 9223372036854775806 := by
    unfold lenQ at hbig
    rw [← ei, ← eh, List.length_map, List.length_map, hni, hnh] at hbig
    exact hbig
  have HI : Hid (RdZ 7 (ItR (RdP w)) w (.slice ai ni ci) zi) := hi
  have HH : Hid (RdZ 10 (HeR (RdP w)) w (.slice ah nh ch) zh) := hh
  have NI : Hid (zi.length = ni) := hni
  have NH : Hid (zh.length = nh) := hnh
  have HLQ : Hid (lenQ q = ni + nh) := by
    show lenQ q = ni + nh
    unfold lenQ
    rw [← ei, ← eh, List.length_map, List.length_map, hni, hnh]
  clear hi hh ei eh hni hnh hbig
  have k0 := Blk.new w #[tx q.name, .bool q.dur, .int .i64 q.depth, .int .i64 q.seq, .int .i64 q.tag, .slice ai ni ci, .slice ah nh ch] 25
  have b0 := (Below.refl w.heap.size w).alloc (Nat.le_refl _) (.cells #[tx q.name, .bool q.dur, .int .i64 q.depth, .int .i64 q.seq, .int .i64 q.tag, .slice ai ni ci, .slice ah nh ch] 25)
  unfold queV at *
  by_cases h200 : ((ni : Int) + (nh : Int)) > 200
  · obtain ⟨c0, c1, c2, c3, c4, c5, c6⟩ := k0.c7
    go_enter Tryd.func7, Tryd.ntmps7
    go_wp2
    go_ret
    exact ⟨⟨true, rfl, fun e => by cases e⟩, b0⟩
  · go_enter Tryd.func7, Tryd.ntmps7
    go_upto_region 1 with fail
    generalize w.alloc (.cells #[tx q.name, .bool q.dur, .int .i64 q.depth, .int .i64 q.seq, .int .i64 q.tag, .slice ai ni ci, .slice ah nh ch] 25) = w1 at *
    obtain ⟨c0, c1, c2, c3, c4, c5, c6⟩ := k0.c7
    have KB : Hid (Blk w1 w.heap.size #[tx q.name, .bool q.dur, .int .i64 q.depth, .int .i64 q.seq, .int .i64 q.tag, .slice ai ni ci, .slice ah nh ch] 25 ∧ Below w.heap.size w w1) := ⟨k0, b0⟩
    clear k0 b0
    go_wp2_with fail
    clear c0 c1 c2 c3 c4 c5 c6
    go_loopg [3, 5, 20] ni (fun gg s3 _ s20 wr => ∃ kk : Nat, kk ≤ ni ∧ ni - kk ≤ gg ∧ (∃ z : Int, s3 = .int .i64 z) ∧ s20 = .int .i64 kk ∧ Hid (Blk wr w.heap.size #[tx q.name, .bool q.dur, .int .i64 q.depth, .int .i64 q.seq, .int .i64 q.tag, .slice ai ni ci, .slice ah nh ch] 25 ∧ Below w.heap.size w wr))
    case atStart => exact ⟨0, Nat.zero_le _, by omega, ⟨_, rfl⟩, rfl, KB⟩
    case round =>
      obtain ⟨kk, hkk, hg, ⟨z, rfl⟩, rfl, HS⟩ := hrel
      clear KB
      by_cases hlt : kk < ni
      · have hltz : (kk : Int) < (ni : Int) := by omega
        obtain ⟨b, o, pv, rfl, hz1, hp, c0, c1, c2, c3, c4, c5, c6⟩ := itm_at HI.out HS.out.2 (i := kk) (by rw [NI.out]; exact hlt)
        generalize (zi[kk]'(by rw [NI.out]; exact hlt)).2 = x at *
        clear hz1
        obtain ⟨wr, hwr⟩ : ∃ W, W = wr := ⟨_, rfl⟩
        subst hwr
        obtain ⟨pa, pc, rfl⟩ := hp.shape
        clear hp
        generalize x.msg.props.length = np at *
        go_wp2_with (refine wpl_fresh rfl (.tmp 5) (.tmp 23) rfl _ _ rfl rfl (by kernel_rfl) rfl (by simp [Value.oneCell']) ?_)
        intro w1 k1 b1 s1
        have HS1 : Hid (Blk w1 w.heap.size #[tx q.name, .bool q.dur, .int .i64 q.depth, .int .i64 q.seq, .int .i64 q.tag, .slice (some ⟨b, o, none⟩) ni ci, .slice ah nh ch] 25 ∧ Below w.heap.size w w1) := ⟨HS.out.1.on b1, nxt HS.out.2 b1⟩
        obtain ⟨d0, d1, d2, d3, d4, d5, d6⟩ := k1.c7
        clear HS c0 c1 c2 c3 c4 c5 c6 b1
        go_wp2_with fail
        go_roundg (ni - (kk + 1))
        case measure => omega
        case rel => exact ⟨kk + 1, by omega, by omega, ⟨_, rfl⟩, by go_num, HS1⟩
      · have hltz : ¬ (kk : Int) < (ni : Int) := by omega
        obtain ⟨wr, hwr⟩ : ∃ W, W = wr := ⟨_, rfl⟩
        subst hwr
        obtain ⟨c0, c1, c2, c3, c4, c5, c6⟩ := HS.out.1.c7
        clear HI
        go_wp2_with fail
        clear c0 c1 c2 c3 c4 c5 c6
        go_loopg [3, 7, 39] nh (fun gg s3 _ s39 wy => ∃ k2 : Nat, k2 ≤ nh ∧ nh - k2 ≤ gg ∧ (∃ z : Int, s3 = .int .i64 z) ∧ s39 = .int .i64 k2 ∧ Hid (Below w.heap.size w wy))
        case atStart => exact ⟨0, Nat.zero_le _, by omega, ⟨_, rfl⟩, rfl, HS.out.2⟩
        case round =>
          obtain ⟨k2, hk2, hg2, ⟨z2, rfl⟩, rfl, HT⟩ := hrel
          clear HS
          by_cases hl2 : k2 < nh
          · have hl2z : (k2 : Int) < (nh : Int) := by omega
            obtain ⟨b, o, pv, rfl, hz1, hp, c0, c1, c2, c3, c4, c5, c6, c7, c8, c9⟩ := hld_at HH.out HT.out (i := k2) (by rw [NH.out]; exact hl2)
            generalize (zh[k2]'(by rw [NH.out]; exact hl2)).2 = x at *
            clear hz1
            obtain ⟨wt, hwt⟩ : ∃ W, W = wr := ⟨_, rfl⟩
            subst hwt
            obtain ⟨pa, pc, rfl⟩ := hp.shape
            clear hp
            generalize x.itm.msg.props.length = np at *
            go_wp2_with (refine wpl_fresh rfl (.tmp 7) (.tmp 42) rfl _ _ rfl rfl (by kernel_rfl) rfl (by simp [Value.oneCell']) ?_)
            intro w1 k1 b1 s1
            have HS1 : Hid (Below w.heap.size w w1) := nxt HT.out b1
            obtain ⟨d0, d1, d2, d3, d4, d5, d6, d7, d8, d9⟩ := k1.c10
            clear HT c0 c1 c2 c3 c4 c5 c6 c7 c8 c9 b1
            go_wp2_with fail
            go_roundg (nh - (k2 + 1))
            case measure => omega
            case rel => exact ⟨k2 + 1, by omega, by omega, ⟨_, rfl⟩, by go_num, HS1⟩
          · have hl2z : ¬ (k2 : Int) < (nh : Int) := by omega
            obtain ⟨wt, hwt⟩ : ∃ W, W = wr := ⟨_, rfl⟩
            subst hwt
            go_wp2
            go_ret
            exact ⟨⟨_, rfl, fun _ => by rw [HLQ.out]; omega⟩, HT.out⟩
end Go.Proofs.YtlbcefocmdnlgaaDoor

namespace Go.Proofs.YtlbcefocmdnlgaaDoor
open Go.RowKit Go.Lib
set_option maxRecDepth 100000
set_option linter.unusedSimpArgs false

def mx (c : UInt8) : Msg := ⟨[c], [], [], false, 0⟩
def kq : Nat → Que
  | 0 => newQ [113] true 5
  | k + 1 => pushQ (kq k) (mx (UInt8.ofNat (120 + k)))
theorem new_ok : newC [113] 5 = 0 := by decide
theorem push0 : pushC (kq 0) (mx 120) = 0 := by decide
theorem push1 : pushC (kq 1) (mx 121) = 0 := by decide
theorem push2 : pushC (kq 2) (mx 122) = 0 := by decide
theorem take0 : takeC (kq 3) 1 0 = 0 := by decide
def kt1 : Que := takeQ (kq 3) 1 0 true
theorem take1 : takeC kt1 1 0 = 0 := by decide
def kt2 : Que := takeQ kt1 1 0 true
theorem settle2 : settleC kt2 1 1 = 0 := by decide
def kt3 : Que := settleQ kt2 1 1 true
theorem kt3_len : kt3.items.length = 2 := by decide

theorem small_kq : ∀ k, k ≤ 3 → lenQ (kq k) ≤ 1000000 := fun k hk => by
  have : ∀ k, lenQ (kq k) = k := fun k => by
    induction k with
    | zero => rfl
    | succ k ih => simp only [lenQ, kq, pushQ, List.length_append, List.length_singleton] at ih ⊢; omega
  rw [this]
  omega
structure Chain (q3 q4 q5 q6 : Que) (x3 x4 y : Itm) (l : List Itm) : Prop where
  c3 : takeC q3 1 0 = 0
  t3 : takeQ q3 1 0 true = q4
  g3 : q3.tag + 1 = 1
  x3 : q3.items.headD zeroI = x3
  c4 : takeC q4 1 0 = 0
  t4 : takeQ q4 1 0 true = q5
  g4 : q4.tag + 1 = 2
  x4 : q4.items.headD zeroI = x4
  c5 : settleC q5 1 1 = 0
  t5 : settleQ q5 1 1 true = q6
  n6 : q6.items.length = 2
  i6 : q6.items = y :: l
  a6 : y.again = true
  o6 : y.msg.topic = [120]
  l3 : lenQ q3 ≤ 1000000
  l4 : lenQ q4 ≤ 1000000
  l5 : lenQ q5 ≤ 1000000
theorem chain : ∃ q3 q4 q5 q6 x3 x4 y l, kq 3 = q3 ∧ Chain q3 q4 q5 q6 x3 x4 y l :=
  ⟨kq 3, kt1, kt2, kt3, _, _, _, _, rfl, take0, rfl, rfl, rfl, take1, rfl, rfl, rfl, settle2, rfl, kt3_len, rfl, rfl, rfl, small_kq 3 (by omega), by decide, by decide⟩
theorem take_at {W : World} (hva : To.Vars W) {q q' : Que} {x : Itm} {iv hv : Value} {tg : Int} (hi : RdI W iv q.items) (hh : RdH W hv q.held) {conn sub : Int} (hc : takeC q conn sub = 0) (hq : takeQ q conn sub true = q') (ht : q.tag + 1 = tg) (hx : q.items.headD zeroI = x) (hl : lenQ q ≤ 1000000) :
    Calls Tryd.prog 17 #[.agg #[tx q.name, .bool q.dur, .int .i64 q.depth, .int .i64 q.seq, .int .i64 q.tag, iv, hv], .int .i64 conn, .int .i64 sub, .bool true] W fun e w' => ∃ v' pv', e = .returned (.tuple #[v', .int .i64 tg, .agg (itmV x pv').toArray, .int .i64 0]) ∧ OwnQ w' W.heap.size v' q' ∧ OwnP w' W.heap.size pv' x.msg.props ∧ Below W.heap.size W w' := by
  have h := take_any W hva _ q ⟨iv, hv, rfl, hi, hh⟩ conn sub true hl
  rw [hc, if_pos rfl, if_pos rfl, if_pos rfl, if_pos rfl, hq, ht, hx] at h
  exact h
theorem settle_at {W : World} (hva : To.Vars W) {q q' : Que} {iv hv : Value} (hi : RdI W iv q.items) (hh : RdH W hv q.held) {conn tag : Int} (hc : settleC q conn tag = 0) (hq : settleQ q conn tag true = q') (hl : lenQ q ≤ 1000000) :
    Calls Tryd.prog 18 #[.agg #[tx q.name, .bool q.dur, .int .i64 q.depth, .int .i64 q.seq, .int .i64 q.tag, iv, hv], .int .i64 conn, .int .i64 tag, .bool true] W fun e w' => ∃ v', e = .returned (.tuple #[v', .int .i64 0]) ∧ OwnQ w' W.heap.size v' q' ∧ Below W.heap.size W w' := by
  have h := settle_any W hva _ q ⟨iv, hv, rfl, hi, hh⟩ conn tag true hl
  rw [hc, if_pos rfl, hq] at h
  exact h
/-- The queue lies in the block g. -/
structure WkS (w W : World) (g : Nat) (q : Que) : Prop where
  q : ∃ iv hv, RdI W iv q.items ∧ RdH W hv q.held ∧ Blk W g #[tx q.name, .bool q.dur, .int .i64 q.depth, .int .i64 q.seq, .int .i64 q.tag, iv, hv] 25
  l : w.heap.size ≤ g
  b : Below w.heap.size w W

theorem WkS.on {w W W' : World} {g : Nat} {q : Que} (h : WkS w W g q) (hb : Below W.heap.size W W') : WkS w W' g q := by
  obtain ⟨⟨iv, hv, h1, h2, h3⟩, h4, h5⟩ := h
  exact ⟨⟨iv, hv, h1.on hb, h2.on hb, h3.on hb⟩, h4, nxt h5 hb⟩

theorem Kt.then_new {t : TypeId} {a b c : World} (h : Kt t a b) (hs : a.heap.size ≤ b.heap.size) (hg : b.grownBy c (some a.heap.size)) : Kt t a c := fun k cur hk => by
  have hlt := (Array.getElem?_eq_some_iff.1 hk).1
  exact (hg.block k (by omega) (fun e => by injection e with e; omega)).trans (h k cur hk)
theorem head_at {W : World} {a : Option Addr} {n c : Nat} {y : Itm} {l : List Itm} (h : RdI W (.slice a n c) (y :: l)) :
    ∃ b o, a = some ⟨b, o, none⟩ ∧ W.cell? ⟨b, o, none⟩ = some (.int .i64 y.seq) ∧ W.cell? ⟨b, o + 1, none⟩ = some (.bool y.again) ∧ W.cell? ⟨b, o + 2, none⟩ = some (tx y.msg.topic) := by
  obtain ⟨zs, e, hz⟩ := h
  cases zs with
  | nil => simp at e
  | cons z zs =>
    simp only [List.map_cons, List.cons.injEq] at e
    obtain ⟨b, o, pv, rfl, _, _, c0, c1, c2, _⟩ := itm_at hz (Below.refl _ W) (i := 0) (by simp)
    simp only [List.getElem_cons_zero, Nat.zero_mul, Nat.add_zero, e.1] at c0 c1 c2
    exact ⟨b, o, rfl, c0, c1, c2⟩
theorem rdp_nil (w : World) : RdP w (.slice none 0 0) [] := OwnP.rd (B := 0) (World.ownsRow_nil ..)

set_option maxHeartbeats 4000000 in
theorem wakes_any (w : World) (hva : To.Vars w) : Calls Tryd.prog 6 #[] w fun e w' => e = .returned (.bool true) ∧ Below w.heap.size w w' := by
  have HN : Calls Tryd.prog 10 #[tx [113], .bool true, .int .i64 5] w fun e w' => ∃ v', e = .returned (.tuple #[v', .int .i64 0]) ∧ OwnQ w' w.heap.size v' (kq 0) ∧ Below w.heap.size w w' := by
    have h := new_any w [113] true 5
    rw [new_ok, if_pos rfl] at h
    exact h
  go_enter Tryd.func6, Tryd.ntmps6
  go_upto_region 2 with (refine HN.mono ?_; rintro e w1 ⟨v1, rfl, ⟨iv1, hv1, rfl, oi1, oh1⟩, b1⟩; obtain ⟨ai1, ci1, rfl⟩ := oi1.rd.len; obtain ⟨ah1, ch1, rfl⟩ := oh1.rd.len; unfold queV)
  have S1 : WkS w (w1.alloc (.cells #[tx (kq 0).name, .bool (kq 0).dur, .int .i64 (kq 0).depth, .int .i64 (kq 0).seq, .int .i64 (kq 0).tag, .slice ai1 (kq 0).items.length ci1, .slice ah1 (kq 0).held.length ch1] 25)) w1.heap.size (kq 0) :=
    have hb := (Below.refl _ w1).alloc (Nat.le_refl _) (.cells #[tx (kq 0).name, .bool (kq 0).dur, .int .i64 (kq 0).depth, .int .i64 (kq 0).seq, .int .i64 (kq 0).tag, .slice ai1 (kq 0).items.length ci1, .slice ah1 (kq 0).held.length ch1] 25)
    ⟨⟨_, _, oi1.rd.on hb, oh1.rd.on hb, Blk.new ..⟩, b1.size, nxt b1 hb⟩
  clear oi1 oh1 b1 HN
  generalize w1.heap.size = g at *
  generalize w1.alloc (.cells #[tx (kq 0).name, .bool (kq 0).dur, .int .i64 (kq 0).depth, .int .i64 (kq 0).seq, .int .i64 (kq 0).tag, .slice ai1 (kq 0).items.length ci1, .slice ah1 (kq 0).held.length ch1] 25) = w2 at *
  go_wp2_with fail
  have S3 : Hid (WkS w (w2.alloc (.cells #[.string ⟨#[120]⟩, .string ⟨#[121]⟩, .string ⟨#[122]⟩] 9)) g (kq 0)) := S1.on ((Below.refl _ w2).alloc (Nat.le_refl _) _)
  have K3 : Hid (Blk (w2.alloc (.cells #[.string ⟨#[120]⟩, .string ⟨#[121]⟩, .string ⟨#[122]⟩] 9)) w2.heap.size #[.string ⟨#[120]⟩, .string ⟨#[121]⟩, .string ⟨#[122]⟩] 9) := Blk.new ..
  clear S1
  generalize w2.heap.size = gs at *
  generalize w2.alloc (.cells #[.string ⟨#[120]⟩, .string ⟨#[121]⟩, .string ⟨#[122]⟩] 9) = w3 at *
  go_loopg [2, 4, 18] 3 (fun gg s2 _ s18 wr => ∃ kk : Nat, kk ≤ 3 ∧ 3 - kk ≤ gg ∧ s2 = .int .i64 0 ∧ s18 = .int .i64 kk ∧ Hid (WkS w wr g (kq kk)) ∧ Hid (Blk wr gs #[.string ⟨#[120]⟩, .string ⟨#[121]⟩, .string ⟨#[122]⟩] 9))
  case atStart => exact ⟨0, Nat.zero_le _, by omega, rfl, rfl, S3, K3⟩
  case round =>
    obtain ⟨kk, hkk, hg, rfl, rfl, HS, HK⟩ := hrel
    clear S3 K3
    obtain ⟨wr, hwr⟩ : ∃ W, W = wr := ⟨_, rfl⟩
    subst hwr
    by_cases hlt : kk < 3
    · have hltz : (kk : Int) < 3 := by omega
      have cs : wr.cell? ⟨gs, kk, none⟩ = some (tx [UInt8.ofNat (120 + kk)]) := by
        rcases (by omega : kk = 0 ∨ kk = 1 ∨ kk = 2) with rfl | rfl | rfl
        · exact HK.out.cell 0
        · exact HK.out.cell 1
        · exact HK.out.cell 2
      have hpc : pushC (kq kk) (mx (UInt8.ofNat (120 + kk))) = 0 := by
        rcases (by omega : kk = 0 ∨ kk = 1 ∨ kk = 2) with rfl | rfl | rfl
        · exact push0
        · exact push1
        · exact push2
      obtain ⟨⟨iv, hv, h1, h2, h3⟩, h4, h5⟩ := HS.out
      have HP : Calls Tryd.prog 16 #[.agg #[tx (kq kk).name, .bool (kq kk).dur, .int .i64 (kq kk).depth, .int .i64 (kq kk).seq, .int .i64 (kq kk).tag, iv, hv], .agg #[tx [UInt8.ofNat (120 + kk)], .string ⟨#[]⟩, .slice none 0 0, .bool false, .int .i64 0]] wr fun e w' => ∃ v', e = .returned (.tuple #[v', .int .i64 0]) ∧ OwnQ w' wr.heap.size v' (kq (kk + 1)) ∧ Below wr.heap.size wr w' := by
        have h := push_any wr (hva.below h5) _ (kq kk) ⟨iv, hv, rfl, h1, h2⟩ (mx (UInt8.ofNat (120 + kk))) (.slice none 0 0) (rdp_nil _) (small_kq kk hkk)
        rw [hpc, if_pos rfl] at h
        exact h
      have K0 : Hid (Blk wr g #[tx (kq kk).name, .bool (kq kk).dur, .int .i64 (kq kk).depth, .int .i64 (kq kk).seq, .int .i64 (kq kk).tag, iv, hv] 25) := h3
      have B0 : Hid (Below w.heap.size w wr) := h5
      clear HS h1 h2 h3 h5 hpc
      obtain ⟨c, hc⟩ : ∃ c, UInt8.ofNat (120 + kk) = c := ⟨_, rfl⟩
      obtain ⟨q, hq⟩ : ∃ q, kq kk = q := ⟨_, rfl⟩
      obtain ⟨q', hq'⟩ : ∃ q, kq (kk + 1) = q := ⟨_, rfl⟩
      rw [hc] at cs HP
      rw [hq] at HP K0
      rw [hq'] at HP
      have HQ' : Hid (kq (kk + 1) = q') := hq'
      clear hc hq hq'
      go_wp2_with (refine wpl_load25 rfl (.tmp 1) rfl _ _ rfl K0.out rfl ?_)
      refine HP.mono ?_
      rintro e w4 ⟨v4, rfl, ⟨iv4, hv4, rfl, oi4, oh4⟩, b4⟩
      obtain ⟨ai4, ci4, rfl⟩ := oi4.rd.len
      obtain ⟨ah4, ch4, rfl⟩ := oh4.rd.len
      have K4 := K0.out.on b4
      have HK4 := HK.out.on b4
      have B4 := nxt B0.out b4
      have HL4 : Hid (gs ≠ g) := fun e => by
        subst e
        have h1 := K4.h
        rw [HK4.h] at h1
        injection h1 with e2
        injection e2 with _ e3 _
        exact absurd e3 (by decide)
      clear HP K0 B0 b4 cs HK
      unfold queV
      go_wp2_with (refine wpl_put rfl (.tmp 1) (.tmp 27) rfl _ _ rfl rfl K4 (by kernel_rfl) rfl (by simp [Value.oneCell']) ?_)
      intro w5 k5 g5 s5
      have HS5 : Hid (WkS w w5 g q') := ⟨⟨_, _, (oi4.keep (kt_grown K4 g5 (by decide)) (kt_grown K4 g5 (by decide))).rd, (oh4.keep (kt_grown K4 g5 (by decide)) (kt_grown K4 g5 (by decide))).rd, k5⟩, h4, B4.grown g5 B4.size (fun k hk => by injection hk with hk; omega)⟩
      have HK5 : Hid (Blk w5 gs #[.string ⟨#[120]⟩, .string ⟨#[121]⟩, .string ⟨#[122]⟩] 9) := HK4.grown g5 (fun e => by injection e with e; exact HL4.out e)
      clear K4 HK4 B4 HL4 oi4 oh4 k5 g5 s5
      go_wp2_with fail
      go_roundg (3 - (kk + 1))
      case measure => omega
      case rel => exact ⟨kk + 1, by omega, by omega, rfl, by go_num, by rw [HQ'.out]; exact HS5, HK5⟩
    · have hk3 : kk = 3 := by omega
      subst hk3
      clear hkk hg HK hlt
      obtain ⟨q3, q4, q5, q6, x3, x4, y, l, eq3, HC⟩ := chain
      rw [eq3] at HS
      clear eq3
      have HD : Hid (Chain q3 q4 q5 q6 x3 x4 y l) := HC
      obtain ⟨⟨iv, hv, h1, h2, h3⟩, h4, h5⟩ := HS.out
      have HP := take_at (hva.below h5) h1 h2 HC.c3 HC.t3 HC.g3 HC.x3 HC.l3
      have K0 : Hid (Blk wr g #[tx q3.name, .bool q3.dur, .int .i64 q3.depth, .int .i64 q3.seq, .int .i64 q3.tag, iv, hv] 25) := h3
      have B0 : Hid (Below w.heap.size w wr) := h5
      clear HS h1 h2 h3 h5 HC
      go_wp2_with (refine wpl_load25 rfl (.tmp 1) rfl _ _ rfl K0.out rfl ?_)
      refine HP.mono ?_
      rintro e w4 ⟨v4, pv4, rfl, ⟨iv4, hv4, rfl, oi4, oh4⟩, hp4, b4⟩
      obtain ⟨ai4, ci4, rfl⟩ := oi4.rd.len
      obtain ⟨ah4, ch4, rfl⟩ := oh4.rd.len
      obtain ⟨pa4, pc4, rfl⟩ := hp4.shape
      have K4 := K0.out.on b4
      have B4 := nxt B0.out b4
      clear HP K0 B0 b4 hp4
      unfold queV itmV
      have K4a := K4.alloc (.cells #[.int .i64 0, .bool false, .string ⟨#[]⟩, .string ⟨#[]⟩, .slice none 0 0, .bool false, .int .i64 0] 35)
      have B4a := B4.alloc B4.size (.cells #[.int .i64 0, .bool false, .string ⟨#[]⟩, .string ⟨#[]⟩, .slice none 0 0, .bool false, .int .i64 0] 35)
      go_wp2_with (refine wpl_put rfl (.tmp 1) (.tmp 35) rfl _ _ rfl rfl K4a (by kernel_rfl) rfl (by simp [Value.oneCell']) ?_)
      intro w5 k5 g5 s5
      have i5 := (Blk.new w4 #[.int .i64 0, .bool false, .string ⟨#[]⟩, .string ⟨#[]⟩, .slice none 0 0, .bool false, .int .i64 0] 35).grown g5 (fun e => by injection e with e; have := K4.lt; omega)
      have B5 := B4a.grown g5 B4a.size (fun k hk => by injection hk with hk; omega)
      have t35 : Kt 35 w4 w5 := (Kt.of_below ((Below.refl _ w4).alloc (Nat.le_refl _) _)).trans (kt_grown K4a g5 (by decide))
      have t45 : Kt 45 w4 w5 := (Kt.of_below ((Below.refl _ w4).alloc (Nat.le_refl _) _)).trans (kt_grown K4a g5 (by decide))
      have t88 : Kt 88 w4 w5 := (Kt.of_below ((Below.refl _ w4).alloc (Nat.le_refl _) _)).trans (kt_grown K4a g5 (by decide))
      have hs5 : w4.heap.size ≤ w5.heap.size := Nat.le_of_lt i5.lt
      have hg4 : g < w4.heap.size := K4.lt
      clear K4 K4a B4 B4a g5 s5
      go_wp2_with (refine wpl_put rfl (.tmp 6) (.tmp 37) rfl _ _ rfl rfl i5 (by kernel_rfl) rfl (by simp [Value.oneCell']) ?_)
      intro w6 k6 g6 s6
      have K6 : Hid (Blk w6 g #[tx q4.name, .bool q4.dur, .int .i64 q4.depth, .int .i64 q4.seq, .int .i64 q4.tag, .slice ai4 q4.items.length ci4, .slice ah4 q4.held.length ch4] 25) := k5.grown g6 (fun e => by injection e with e; omega)
      have B6 : Hid (Below w.heap.size w w6) := B5.grown g6 B5.size (fun k hk => by injection hk with hk; have := h4; omega)
      have oi6 := (oi4.keep (t35.then_new hs5 g6) (t88.then_new hs5 g6)).rd
      have oh6 := (oh4.keep (t45.then_new hs5 g6) (t88.then_new hs5 g6)).rd
      clear oi4 oh4 t35 t45 t88 hs5 hg4 i5 k5 k6 g6 s6 B5
      have HP := take_at (hva.below B6.out) oi6 oh6 HD.out.c4 HD.out.t4 HD.out.g4 HD.out.x4 HD.out.l4
      clear oi6 oh6
      go_wp2_with (refine wpl_load25 rfl (.tmp 1) rfl _ _ rfl K6.out rfl ?_)
      refine HP.mono ?_
      obtain ⟨wr, hwr⟩ : ∃ W, W = w6 := ⟨_, rfl⟩
      subst hwr
      rintro e w7 ⟨v4, pv4, rfl, ⟨iv4, hv4, rfl, oi4, oh4⟩, hp4, b4⟩
      obtain ⟨ai4, ci4, rfl⟩ := oi4.rd.len
      obtain ⟨ah4, ch4, rfl⟩ := oh4.rd.len
      obtain ⟨pa4, pc4, rfl⟩ := hp4.shape
      have K4 := K6.out.on b4
      have B4 := nxt B6.out b4
      clear HP K6 B6 b4 hp4
      unfold queV itmV
      obtain ⟨w4, hw4⟩ : ∃ W, W = w7 := ⟨_, rfl⟩
      subst hw4
      have K4a := K4.alloc (.cells #[.int .i64 0, .bool false, .string ⟨#[]⟩, .string ⟨#[]⟩, .slice none 0 0, .bool false, .int .i64 0] 35)
      have B4a := B4.alloc B4.size (.cells #[.int .i64 0, .bool false, .string ⟨#[]⟩, .string ⟨#[]⟩, .slice none 0 0, .bool false, .int .i64 0] 35)
      go_wp2_with (refine wpl_put rfl (.tmp 1) (.tmp 42) rfl _ _ rfl rfl K4a (by kernel_rfl) rfl (by simp [Value.oneCell']) ?_)
      intro w5 k5 g5 s5
      have i5 := (Blk.new w4 #[.int .i64 0, .bool false, .string ⟨#[]⟩, .string ⟨#[]⟩, .slice none 0 0, .bool false, .int .i64 0] 35).grown g5 (fun e => by injection e with e; have := K4.lt; omega)
      have B5 := B4a.grown g5 B4a.size (fun k hk => by injection hk with hk; omega)
      have t35 : Kt 35 w4 w5 := (Kt.of_below ((Below.refl _ w4).alloc (Nat.le_refl _) _)).trans (kt_grown K4a g5 (by decide))
      have t45 : Kt 45 w4 w5 := (Kt.of_below ((Below.refl _ w4).alloc (Nat.le_refl _) _)).trans (kt_grown K4a g5 (by decide))
      have t88 : Kt 88 w4 w5 := (Kt.of_below ((Below.refl _ w4).alloc (Nat.le_refl _) _)).trans (kt_grown K4a g5 (by decide))
      have hs5 : w4.heap.size ≤ w5.heap.size := Nat.le_of_lt i5.lt
      have hg4 : g < w4.heap.size := K4.lt
      clear K4 K4a B4 B4a g5 s5
      go_wp2_with (refine wpl_put rfl (.tmp 8) (.tmp 44) rfl _ _ rfl rfl i5 (by kernel_rfl) rfl (by simp [Value.oneCell']) ?_)
      intro w6 k6 g6 s6
      have K6 : Hid (Blk w6 g #[tx q5.name, .bool q5.dur, .int .i64 q5.depth, .int .i64 q5.seq, .int .i64 q5.tag, .slice ai4 q5.items.length ci4, .slice ah4 q5.held.length ch4] 25) := k5.grown g6 (fun e => by injection e with e; omega)
      have B6 : Hid (Below w.heap.size w w6) := B5.grown g6 B5.size (fun k hk => by injection hk with hk; have := h4; omega)
      have oi6 := (oi4.keep (t35.then_new hs5 g6) (t88.then_new hs5 g6)).rd
      have oh6 := (oh4.keep (t45.then_new hs5 g6) (t88.then_new hs5 g6)).rd
      clear oi4 oh4 t35 t45 t88 hs5 hg4 i5 k5 k6 g6 s6 B5
      have HP := settle_at (hva.below B6.out) oi6 oh6 HD.out.c5 HD.out.t5 HD.out.l5
      clear oi6 oh6
      go_wp2_with (refine wpl_load25 rfl (.tmp 1) rfl _ _ rfl K6.out rfl ?_)
      refine HP.mono ?_
      rintro e w7 ⟨v4, rfl, ⟨iv4, hv4, rfl, oi4, oh4⟩, b4⟩
      obtain ⟨ah4, ch4, rfl⟩ := oh4.rd.len
      obtain ⟨ai4, ci4, rfl⟩ := oi4.rd.len
      have K4 := K6.out.on b4
      have B4 := nxt B6.out b4
      clear HP K6 B6 b4 oh4
      unfold queV
      go_wp2_with (refine wpl_put rfl (.tmp 1) (.tmp 63) rfl _ _ rfl rfl K4 (by kernel_rfl) rfl (by simp [Value.oneCell']) ?_)
      intro w8 k8 g8 s8
      have B8 := B4.grown g8 B4.size (fun k hk => by injection hk with hk; have := h4; omega)
      have oi8 := (oi4.keep (kt_grown K4 g8 (by decide)) (kt_grown K4 g8 (by decide))).rd
      rw [HD.out.n6, HD.out.i6] at oi8
      rw [HD.out.n6] at k8
      obtain ⟨ai4, hai⟩ : ∃ a, a = ai4 := ⟨_, rfl⟩
      subst hai
      clear oi4 K4 B4 g8 s8
      obtain ⟨d0, d1, d2, d3, d4, d5, d6⟩ := k8.c7
      obtain ⟨bb, oo, rfl, e0, e1, e2⟩ := head_at oi8
      rw [HD.out.a6] at e1
      rw [HD.out.o6] at e2
      clear oi8 HD
      go_wp2
      go_ret
      exact ⟨ret_b (by simp), B8⟩
end Go.Proofs.YtlbcefocmdnlgaaDoor

namespace Go.Proofs.YtlbcefocmdnlgaaDoor
open Go.RowKit Go.Lib
set_option maxRecDepth 100000
set_option linter.unusedSimpArgs false

theorem does_keeps {q : Que} {o : Opn} (h : goodQ q = true) (hc : doesC q o = 0) :
    goodQ (doesQ q o) = true ∧ (doesQ q o).name = q.name ∧ (doesQ q o).depth = q.depth ∧ q.seq ≤ (doesQ q o).seq ∧ q.tag ≤ (doesQ q o).tag := by
  have hg := (goodQ_iff q).1 h
  have e : doesQ q o = doesN q o := by simp [doesQ, hc]
  rw [e]
  clear e
  unfold doesC at hc
  unfold doesN
  by_cases h0 : o.kind = 0
  · rw [if_pos h0] at hc ⊢
    exact ⟨(goodQ_iff _).2 (good_push hg hc), rfl, rfl, by show q.seq ≤ q.seq + 1; omega, Int.le_refl _⟩
  rw [if_neg h0] at hc ⊢
  by_cases h1 : o.kind = 1
  · rw [if_pos h1] at hc ⊢
    refine ⟨(goodQ_iff _).2 (good_take hg hc _), ?_, ?_, ?_, ?_⟩ <;> unfold takeQ <;> split <;> first | rfl | exact Int.le_refl _ | (show q.tag ≤ q.tag + 1; omega)
  rw [if_neg h1] at hc ⊢
  by_cases h2 : o.kind = 2
  · rw [if_pos h2] at hc ⊢
    exact ⟨(goodQ_iff _).2 (good_settle hg hc _), rfl, rfl, Int.le_refl _, Int.le_refl _⟩
  rw [if_neg h2] at hc ⊢
  by_cases h3 : o.kind = 3
  · rw [if_pos h3] at hc ⊢
    exact ⟨(goodQ_iff _).2 (good_release hg _ _), rfl, rfl, Int.le_refl _, Int.le_refl _⟩
  rw [if_neg h3] at hc ⊢
  by_cases h4 : o.kind = 4
  · rw [if_pos h4]
    exact ⟨(goodQ_iff _).2 (good_expire hg _), rfl, rfl, Int.le_refl _, Int.le_refl _⟩
  rw [if_neg h4]
  exact ⟨h, rfl, rfl, Int.le_refl _, Int.le_refl _⟩
theorem does_zero {q : Que} {o : Opn} (hc : doesC q o ≠ 0) : doesQ q o = zeroQ := by simp [doesQ, hc]
theorem op_at {w W : World} {a : Option Addr} {n c : Nat} {zs : Zs Opn} (h : RdZ 9 (OpR (RdP w)) w (.slice a n c) zs) (hb : Below w.heap.size w W) {i : Nat} (hi : i < zs.length) :
    ∃ b o pv, a = some ⟨b, o, none⟩ ∧ (zs[i]).1 = opV (zs[i]).2 pv ∧ RdP W pv (zs[i]).2.m.props ∧ W.cell? ⟨b, o + i * 9, none⟩ = some (.int .i64 (zs[i]).2.kind) ∧ W.cell? ⟨b, o + i * 9 + 1, none⟩ = some (.int .i64 (zs[i]).2.conn) ∧ W.cell? ⟨b, o + i * 9 + 2, none⟩ = some (.int .i64 (zs[i]).2.n) ∧ W.cell? ⟨b, o + i * 9 + 3, none⟩ = some (.bool (zs[i]).2.flag) ∧ W.cell? ⟨b, o + i * 9 + 4, none⟩ = some (tx (zs[i]).2.m.topic) ∧ W.cell? ⟨b, o + i * 9 + 5, none⟩ = some (tx (zs[i]).2.m.body) ∧ W.cell? ⟨b, o + i * 9 + 6, none⟩ = some pv ∧ W.cell? ⟨b, o + i * 9 + 7, none⟩ = some (.bool (zs[i]).2.m.dur) ∧ W.cell? ⟨b, o + i * 9 + 8, none⟩ = some (.int .i64 (zs[i]).2.m.til) := by
  obtain ⟨b, o, c', e, hc⟩ := h.some (by omega)
  obtain ⟨rfl, _, _⟩ : a = some ⟨b, o, none⟩ ∧ n = zs.length ∧ c = c' := by
    injection e with e1 e2 e3
    exact ⟨e1, e2, e3⟩
  obtain ⟨hk, pv, hv, hp⟩ := h.2 _ (List.getElem_mem hi)
  have h1 := h.cells hi
  have key : ∀ j (hj : j < 9), W.cell? ⟨b, o + i * 9 + j, none⟩ = (opV (zs[i]).2 pv)[j]? := fun j hj => by
    have e2 : ((zs[i]).1)[j]? = some (((zs[i]).1)[j]'(by rw [hk.1]; exact hj)) := List.getElem?_eq_getElem _
    have h2 := h1 j _ e2
    rw [hb.cell (World.block_lt_of_cell? w _ h2), h2, ← e2, hv]
  exact ⟨b, o, pv, rfl, hv, hp.on hb, key 0 (by omega), key 1 (by omega), key 2 (by omega), key 3 (by omega), key 4 (by omega), key 5 (by omega), key 6 (by omega), key 7 (by omega), key 8 (by omega)⟩
theorem wpl_load33 {ops : Array Oper} {rest : List Oper} {o : Oper} {a : Act} {w : World} {Q : Exit → Act → World → Prop} (hgd : o.guard = none) (x : Operand) (ho : o.op = .load 33 x) (g : Nat) (cs : Array Value) (hx : a.eval x = .pointer (some ⟨g, 0, none⟩)) (hg : Blk w g cs 33) (hs : cs.size = 9)
    (h : wpList Tryd.prog ops Q rest (a.put o.dst (.agg cs)) w) : wpList Tryd.prog ops Q (o :: rest) a w :=
  wpList_load_row hgd 33 x ho g hx 33 cs (0, 0) _ hg.h Tryd.underlying33 rfl (by rw [hs]; kernel_rfl) h
/-- A queue that is read whatever lies in the block g. -/
def Rob (W : World) (g : Nat) (iv hv : Value) (q : Que) : Prop := ∀ W', W.grownBy W' (some g) → RdI W' iv q.items ∧ RdH W' hv q.held
theorem grow_trans {a b c : World} {row : Option Nat} (h : a.grownBy b row) (k : b.grownBy c row) : a.grownBy c row :=
  ⟨k.os.trans h.os, k.tape.trans h.tape, k.output.trans h.output, Nat.le_trans h.size k.size, fun i hi hne => (k.block i (Nat.lt_of_lt_of_le hi h.size) hne).trans (h.block i hi hne)⟩
theorem grow_below {a b : World} (h : Below a.heap.size a b) (row : Option Nat) : a.grownBy b row := ⟨h.os, h.tape, h.output, h.size, fun k hk _ => h.block k hk⟩
theorem Rob.grown {W W' : World} {g : Nat} {iv hv : Value} {q : Que} (h : Rob W g iv hv q) (hg : W.grownBy W' (some g)) : Rob W' g iv hv q := fun W2 h2 => h W2 (grow_trans hg h2)
theorem Rob.on {W W' : World} {g : Nat} {iv hv : Value} {q : Que} (h : Rob W g iv hv q) (hb : Below W.heap.size W W') : Rob W' g iv hv q := h.grown (grow_below hb _)
theorem Rob.rd {W : World} {g : Nat} {iv hv : Value} {q : Que} (h : Rob W g iv hv q) : RdI W iv q.items ∧ RdH W hv q.held := h W (grow_below (Below.refl _ W) _)
/-- What is one's own is read whatever lies in a block of another type. -/
theorem Rob.own {W : World} {g B : Nat} {iv hv : Value} {q : Que} {cs : Array Value} (h : OwnQ W B (queV q iv hv) q) (k : Blk W g cs 25) : Rob W g iv hv q := fun W' hg => by
  obtain ⟨iv', hv', e, hi, hh⟩ := (h.keep (kt_grown k hg (by decide)) (kt_grown k hg (by decide)) (kt_grown k hg (by decide))).rd
  simp only [queV, Value.agg.injEq, Array.mk.injEq, List.cons.injEq, and_true, true_and] at e
  obtain ⟨rfl, rfl⟩ := e
  exact ⟨hi, hh⟩
/-- The queue lies in the block that the call made first. -/
structure StS (w W : World) (q : Que) : Prop where
  q : ∃ iv hv, Rob W w.heap.size iv hv q ∧ Blk W w.heap.size #[tx q.name, .bool q.dur, .int .i64 q.depth, .int .i64 q.seq, .int .i64 q.tag, iv, hv] 25
  b : Below w.heap.size w W
theorem StS.on {w W W' : World} {q : Que} (h : StS w W q) (hb : Below W.heap.size W W') : StS w W' q := by
  obtain ⟨⟨iv, hv, h1, h3⟩, h5⟩ := h
  exact ⟨⟨iv, hv, h1.on hb, h3.on hb⟩, nxt h5 hb⟩

set_option maxHeartbeats 4000000 in
theorem stays_law (w : World) (hva : To.Vars w) (v : Value) (q : Que) (h : RdQ w v q) (hbig : lenQ q ≤ 9223372036854775806) (sv : Value) (l : List Opn) (hl : RdO w sv l) :
    Calls Tryd.prog 3 #[v, sv] w fun e w' => e = .returned (.bool true) ∧ Below w.heap.size w w' := by
  have hR := h
  obtain ⟨iv, hv, rfl, hi, hh⟩ := h
  obtain ⟨ai, ci, rfl⟩ := hi.len
  obtain ⟨ah, ch, rfl⟩ := hh.len
  clear hi hh
  obtain ⟨zs, ezs, hzs⟩ := hl
  obtain ⟨asl, cap, rfl⟩ := hzs.len
  obtain ⟨ns, hns⟩ : ∃ n, zs.length = n := ⟨_, rfl⟩
  rw [hns] at hzs ⊢
  have HZ : Hid (RdZ 9 (OpR (RdP w)) w (.slice asl ns cap) zs) := hzs
  have NZ : Hid (zs.length = ns) := hns
  clear hzs hns ezs
  have HW := fun (W : World) (b : Below w.heap.size w W) => wakes_any W (hva.below b)
  have S0 : Hid (StS w (w.alloc (.cells #[tx q.name, .bool q.dur, .int .i64 q.depth, .int .i64 q.seq, .int .i64 q.tag, .slice ai q.items.length ci, .slice ah q.held.length ch] 25)) q) := by
    have hb := (Below.refl w.heap.size w).alloc (Nat.le_refl _) (.cells #[tx q.name, .bool q.dur, .int .i64 q.depth, .int .i64 q.seq, .int .i64 q.tag, .slice ai q.items.length ci, .slice ah q.held.length ch] 25)
    refine ⟨⟨_, _, fun W' hg => ?_, Blk.new ..⟩, hb⟩
    obtain ⟨iv, hv, e, hi, hh⟩ := hR.on (hb.grown hg hb.size (fun k hk => by injection hk with hk; omega))
    simp only [queV, Value.agg.injEq, Array.mk.injEq, List.cons.injEq, and_true, true_and] at e
    obtain ⟨rfl, rfl⟩ := e
    exact ⟨hi, hh⟩
  unfold queV at *
  go_enter Tryd.func3, Tryd.ntmps3
  go_upto_region 1 with fail
  generalize w.alloc (.cells #[tx q.name, .bool q.dur, .int .i64 q.depth, .int .i64 q.seq, .int .i64 q.tag, .slice ai q.items.length ci, .slice ah q.held.length ch] 25) = w1 at *
  go_wp2_with fail
  refine (HW _ S0.out.b).mono ?_
  rintro e w2 ⟨rfl, b2⟩
  have S2 := S0.out.on b2
  clear S0 b2 HW
  obtain ⟨⟨iv, hv, h1, h3⟩, h5⟩ := S2
  have HL := long_any w2 _ q ⟨iv, hv, rfl, h1.rd.1, h1.rd.2⟩ hbig
  have K2 : Hid (Blk w2 w.heap.size #[tx q.name, .bool q.dur, .int .i64 q.depth, .int .i64 q.seq, .int .i64 q.tag, iv, hv] 25) := h3
  have S2 : Hid (StS w w2 q) := ⟨⟨iv, hv, h1, h3⟩, h5⟩
  clear h1 h3 h5
  unfold queV at HL
  go_wp2_with (refine wpl_load25 rfl (.tmp 2) rfl _ _ rfl K2.out rfl ?_)
  refine HL.mono ?_
  rintro e w3 ⟨⟨bl, rfl, hbl⟩, b3⟩
  have S3 := S2.out.on b3
  have K3 : Hid (Blk w3 w.heap.size #[tx q.name, .bool q.dur, .int .i64 q.depth, .int .i64 q.seq, .int .i64 q.tag, iv, hv] 25) := K2.out.on b3
  have R3 : Hid (RdQ w3 (queV q iv hv) q) := by
    obtain ⟨⟨iv', hv', h1, h3⟩, h5⟩ := S3
    have e := K3.out.h.symm.trans h3.h
    simp only [Option.some.injEq, Obj.cells.injEq, Array.mk.injEq, List.cons.injEq, and_true, true_and] at e
    obtain ⟨rfl, rfl⟩ := e
    exact ⟨_, _, rfl, h1.rd.1, h1.rd.2⟩
  clear S2 K2 b3 HL
  cases bl with
  | true =>
    go_wp2
    go_ret
    exact ⟨rfl, S3.b⟩
  | false =>
    have hl200 := hbl rfl
    clear hbl
    by_cases hs : (ns : Int) > 200
    · go_wp2
      go_ret
      exact ⟨rfl, S3.b⟩
    · have HG := good_any w3 (hva.below S3.b) _ q R3.out (by omega)
      unfold queV at HG
      obtain ⟨c0, c1, c2, c3, c4, c5, c6⟩ := K3.out.c7
      go_wp2_with fail
      refine HG.mono ?_
      rintro e w4 ⟨rfl, b4⟩
      have S4 := S3.on b4
      clear S3 K3 R3 b4 HG c0 c1 c2 c3 c4 c5 c6
      cases hg : goodQ q with
      | false =>
        go_wp2
        go_ret
        exact ⟨rfl, S4.b⟩
      | true =>
        have H4 : Hid (StS w w4 q ∧ goodQ q = true) := ⟨S4, hg⟩
        clear S4 hg hl200
        go_wp2_with fail
        go_loopg [6, 7, 8, 9, 10, 27] ns (fun gg _ _ _ _ _ s27 wr => ∃ kk : Nat, kk ≤ ns ∧ ns - kk ≤ gg ∧ s27 = .int .i64 kk ∧ ∃ q' : Que, Hid (StS w wr q' ∧ goodQ q' = true))
        case atStart => exact ⟨0, Nat.zero_le _, by omega, rfl, _, H4⟩
        case round =>
          obtain ⟨kk, hkk, hg, rfl, q', HS⟩ := hrel
          clear H4
          obtain ⟨wr, hwr⟩ : ∃ W, W = wr := ⟨_, rfl⟩
          subst hwr
          by_cases hlt : kk < ns
          · have hltz : (kk : Int) < (ns : Int) := by omega
            obtain ⟨b, o, pv, rfl, hz1, hp, c0, c1, c2, c3, c4, c5, c6, c7, c8⟩ := op_at HZ.out HS.out.1.b (i := kk) (by rw [NZ.out]; exact hlt)
            generalize (zs[kk]'(by rw [NZ.out]; exact hlt)).2 = x at *
            clear hz1
            obtain ⟨pa, pc, rfl⟩ := hp.shape
            have HPX : Hid (RdP wr (.slice pa x.m.props.length pc) x.m.props) := hp
            clear hp
            obtain ⟨np, hnp⟩ : ∃ n, x.m.props.length = n := ⟨_, rfl⟩
            rw [hnp] at HPX c6
            go_wp2_with (refine wpl_fresh rfl (.tmp 6) (.tmp 30) rfl _ _ rfl rfl (by kernel_rfl) rfl (by simp [Value.oneCell']) ?_)
            intro w5 k5 b5 s5
            clear c0 c1 c2 c3 c4 c5 c6 c7 c8 s5
            have S5 := HS.out.1.on b5
            have HP5 : Hid (RdP w5 (.slice pa np pc) x.m.props) := HPX.out.on b5
            have HG5 : Hid (goodQ q' = true) := HS.out.2
            clear HS HPX b5
            have d6 : w5.cell? ⟨wr.heap.size, 6, none⟩ = some (.slice pa np pc) := k5.cell 6
            by_cases h1000 : (np : Int) > 1000
            · go_wp2
              go_ret
              exact ⟨rfl, S5.b⟩
            · obtain ⟨⟨iv5, hv5, h1, h3⟩, h5⟩ := S5
              have HD := does_any w5 (hva.below h5) _ q' ⟨iv5, hv5, rfl, h1.rd.1, h1.rd.2⟩ x _ HP5.out (by have := (goodQ_small HG5.out).2.1; omega)
              have K5 : Hid (Blk w5 w.heap.size #[tx q'.name, .bool q'.dur, .int .i64 q'.depth, .int .i64 q'.seq, .int .i64 q'.tag, iv5, hv5] 25) := h3
              have R5 : Hid (Rob w5 w.heap.size iv5 hv5 q' ∧ Below w.heap.size w w5) := ⟨h1, h5⟩
              have O5 : Hid (Blk w5 wr.heap.size #[.int .i64 x.kind, .int .i64 x.conn, .int .i64 x.n, .bool x.flag, tx x.m.topic, tx x.m.body, .slice pa np pc, .bool x.m.dur, .int .i64 x.m.til] 33) := k5
              clear h1 h3 h5 HP5 k5
              unfold queV opV at HD
              go_wp2_with (first | (refine wpl_load25 rfl (.tmp 2) rfl _ _ rfl K5.out rfl ?_) | (refine wpl_load33 rfl (.tmp 6) rfl _ _ rfl O5.out rfl ?_))
              refine HD.mono ?_
              rintro e w6 ⟨v6, pv6, rfl, ⟨iv6, hv6, rfl, hi6, hh6⟩, ho6, hp6, b6⟩
              obtain ⟨ai6, ci6, rfl⟩ := hi6.len
              obtain ⟨ah6, ch6, rfl⟩ := hh6.len
              obtain ⟨pa6, pc6, rfl⟩ := hp6.shape
              have RY : Hid (Rob w6 w.heap.size (.slice ai6 (doesQ q' x).items.length ci6) (.slice ah6 (doesQ q' x).held.length ch6) (doesQ q' x)) := by
                rcases ho6 with ho6 | ⟨ev, eq⟩
                · exact Rob.own ho6 (K5.out.on b6)
                · rw [eq] at ev ⊢
                  simp only [queV, Value.agg.injEq, Array.mk.injEq, List.cons.injEq, and_true, true_and] at ev
                  obtain ⟨e1, e2⟩ := ev
                  rw [e1, e2]
                  exact R5.out.1.on b6
              clear hp6 HD O5 d6 ho6
              unfold queV itmV
              have K7 := (Blk.new w6 #[.string ⟨#[]⟩, .bool false, .int .i64 0, .int .i64 0, .int .i64 0, .slice none 0 0, .slice none 0 0] 25).alloc (.cells #[.int .i64 0, .bool false, .string ⟨#[]⟩, .string ⟨#[]⟩, .slice none 0 0, .bool false, .int .i64 0] 35)
              have K9 := Blk.new (w6.alloc (.cells #[.string ⟨#[]⟩, .bool false, .int .i64 0, .int .i64 0, .int .i64 0, .slice none 0 0, .slice none 0 0] 25)) #[.int .i64 0, .bool false, .string ⟨#[]⟩, .string ⟨#[]⟩, .slice none 0 0, .bool false, .int .i64 0] 35
              rw [World.size_alloc] at K9
              have B7 := ((Below.refl w6.heap.size w6).alloc (Nat.le_refl _) (.cells #[.string ⟨#[]⟩, .bool false, .int .i64 0, .int .i64 0, .int .i64 0, .slice none 0 0, .slice none 0 0] 25)).alloc (by simp) (.cells #[.int .i64 0, .bool false, .string ⟨#[]⟩, .string ⟨#[]⟩, .slice none 0 0, .bool false, .int .i64 0] 35)
              go_wp2_with (refine wpl_put rfl (.tmp 7) (.tmp 40) rfl _ _ rfl rfl K7 (by kernel_rfl) rfl (by simp [Value.oneCell']) ?_)
              intro w7 k7 g7 s7
              have i7 := K9.grown g7 (fun e => by injection e with e; omega)
              have b7 := B7.grown g7 B7.size (fun k hk => by injection hk with hk; omega)
              clear K7 K9 B7 g7 s7
              go_wp2_with (refine wpl_put rfl (.tmp 9) (.tmp 42) rfl _ _ rfl rfl i7 (by kernel_rfl) rfl (by simp [Value.oneCell']) ?_)
              intro w8 k8 g8 s8
              have k9 := k7.grown g8 (fun e => by injection e with e; omega)
              have b8 := b7.grown g8 b7.size (fun k hk => by injection hk with hk; omega)
              have b58 := nxt b6 b8
              have K8 := K5.out.on b58
              have S8 : Hid (StS w w8 q' ∧ goodQ q' = true) := ⟨⟨⟨_, _, R5.out.1.on b58, K8⟩, nxt R5.out.2 b58⟩, HG5.out⟩
              have RY8 : Hid (Rob w8 w.heap.size (.slice ai6 (doesQ q' x).items.length ci6) (.slice ah6 (doesQ q' x).held.length ch6) (doesQ q' x)) := RY.out.on b8
              have hi8 := hi6.on b8
              have hh8 := hh6.on b8
              clear i7 b7 k7 g8 s8 k8 b6 b8 b58 K5 R5 hi6 hh6 RY
              by_cases hc : doesC q' x = 0
              · obtain ⟨f1, f2, f3, f4, f5⟩ := does_keeps HG5.out hc
                have HG := good_any w8 (hva.below S8.out.1.b) _ (doesQ q' x) ⟨_, _, rfl, hi8, hh8⟩ (Nat.le_trans (goodQ_small f1).2.1 (by decide))
                rw [f1] at HG
                have K9 : Hid (Blk w8 w6.heap.size #[tx (doesQ q' x).name, .bool (doesQ q' x).dur, .int .i64 (doesQ q' x).depth, .int .i64 (doesQ q' x).seq, .int .i64 (doesQ q' x).tag, .slice ai6 (doesQ q' x).items.length ci6, .slice ah6 (doesQ q' x).held.length ch6] 25) := k9
                have KQ : Hid (Blk w8 w.heap.size #[tx q'.name, .bool q'.dur, .int .i64 q'.depth, .int .i64 q'.seq, .int .i64 q'.tag, iv5, hv5] 25) := K8
                have RQ : Hid (Rob w8 w.heap.size (.slice ai6 (doesQ q' x).items.length ci6) (.slice ah6 (doesQ q' x).held.length ch6) (doesQ q' x) ∧ Below w.heap.size w w8 ∧ goodQ (doesQ q' x) = true) := ⟨RY8.out, S8.out.1.b, f1⟩
                have FF : Hid ((doesQ q' x).name = q'.name ∧ (doesQ q' x).depth = q'.depth ∧ q'.seq ≤ (doesQ q' x).seq ∧ q'.tag ≤ (doesQ q' x).tag) := ⟨f2, f3, f4, f5⟩
                clear hi8 hh8 K8 k9 f1 f2 f3 f4 f5 S8 RY8
                unfold queV at HG
                generalize doesQ q' x = y at *
                generalize y.items.length = ny at *
                generalize y.held.length = my at *
                go_wp2_with (refine wpl_load25 rfl (.tmp 7) rfl _ _ rfl K9.out rfl ?_)
                refine HG.mono ?_
                rintro e wA ⟨rfl, bA⟩
                have KA := K9.out.on bA
                have KB := KQ.out.on bA
                have RA : Hid (Rob wA w.heap.size (.slice ai6 ny ci6) (.slice ah6 my ch6) y ∧ Below w.heap.size w wA ∧ goodQ y = true) := ⟨RQ.out.1.on bA, nxt RQ.out.2.1 bA, RQ.out.2.2⟩
                clear K9 KQ RQ HG bA
                obtain ⟨f2, f3, f4, f5⟩ := FF.out
                rw [f2, f3] at KA
                obtain ⟨d0, d1, d2, d3, d4, d5, d6⟩ := KA.c7
                obtain ⟨c0, c1, c2, c3, c4, c5, c6⟩ := KB.c7
                have f4' : ¬ y.seq < q'.seq := by omega
                have f5' : ¬ y.tag < q'.tag := by omega
                clear f2 f3
                go_wp2_with (first | (refine wpl_load25 rfl (.tmp 7) rfl _ _ rfl KA rfl ?_) | (refine wpl_put rfl (.tmp 2) (.tmp 90) rfl _ _ rfl rfl KB (by kernel_rfl) rfl (by simp [Value.oneCell']) ?_))
                intro wB kB gB sB
                obtain ⟨f2, f3, _, _⟩ := FF.out
                rw [← f2, ← f3] at kB
                have SB : Hid (StS w wB y ∧ goodQ y = true) := ⟨⟨⟨_, _, RA.out.1.grown gB, kB⟩, RA.out.2.1.grown gB RA.out.2.1.size (fun k hk => by injection hk with hk; omega)⟩, RA.out.2.2⟩
                clear KA KB RA FF gB sB kB f2 f3 c0 c1 c2 c3 c4 c5 c6 d0 d1 d2 d3 d4 d5 d6
                go_wp2_with fail
                go_roundg (ns - (kk + 1))
                case measure => omega
                case rel => exact ⟨kk + 1, by omega, by omega, by go_num, _, SB⟩
              · have hz := does_zero hc
                rw [hz] at k9
                have d0 : w8.cell? ⟨w6.heap.size, 0, none⟩ = some (.string ⟨#[]⟩) := k9.cell 0
                have d5 : w8.cell? ⟨w6.heap.size, 5, none⟩ = some (.slice ai6 0 ci6) := k9.cell 5
                have d6 : w8.cell? ⟨w6.heap.size, 6, none⟩ = some (.slice ah6 0 ch6) := k9.cell 6
                clear hi8 hh8 K8 k9 hz RY8
                go_wp2_with fail
                go_roundg (ns - (kk + 1))
                case measure => omega
                case rel => exact ⟨kk + 1, by omega, by omega, by go_num, _, S8⟩
          · have hltz : ¬ (kk : Int) < (ns : Int) := by omega
            go_wp2
            go_ret
            exact ⟨rfl, HS.out.1.b⟩
end Go.Proofs.YtlbcefocmdnlgaaDoor

set_option maxRecDepth 100000
namespace Go.Proofs.YtlbcefocmdnlgaaDoor
open Go.ChangeShapes Go.WideShapes Go.ChangeAt Go.RowKit Go.Lib
open Go.ChangeMaps (open_string shut_string)

theorem stays_contract (H : Type) (enc : TypeId × Value → H) (W : World) (base : Nat) (args : Array Value) (ds gs : List (DataW H)) (before : List MemPlace)
    (hval : ∀ (j : Nat) t v, Tryd.f3.params[j]? = some t → args[j]? = some v → Value.okWide Tryd.prog W .any base t v)
    (hW : DataW.Whole enc Tryd.prog Tryd.f3.params.toList Rows.queueStaysSpec.vars false W args.toList ds gs before)
    (hsz0 : (DataW.weightsEach Tryd.prog (Tryd.f3.params.toList ++ Rows.queueStaysSpec.plain.varTypes Tryd.prog) (ds ++ gs)).all (· ≤ reachBytes) = true)
    (_hL : laidMetH Tryd.prog Rows.queueStaysRow.laid W) (hsh : W.ShapedOpen Tryd.prog) :
    Calls Tryd.prog 3 args W fun e W' => ∃ v, e = .returned v ∧ Rows.queueStaysSpec.post enc Tryd.prog Tryd.f3 false true false false W args v W' := by
  have hv : To.Vars W := by
    exact vars_of_shape hsh
  have hW' := hW
  obtain ⟨p, q, hA0, hV, rfl, hfz, hnd⟩ := hW
  have hA : DataW.TrodAll enc Tryd.prog W 0 (fun _ => true) true Tryd.f3.params.toList args.toList ds p := hA0
  have hsz := hsz0
  rw [Tryd.params3] at hA hval hsz
  obtain ⟨v0, vs0, d0, ds0, p0, q0, hargs, rfl, rfl, h0, r0⟩ := trodAll_cons hA
  obtain ⟨v1, vs1, d1, ds1, p1, q1, rfl, rfl, rfl, h1, r1⟩ := trodAll_cons r0
  obtain ⟨rfl, rfl, rfl⟩ := trodAll_nil r1
  obtain rfl : args = #[v0, v1] := by cases args; simp_all
  obtain ⟨rfl, rfl⟩ := trodVars_none hV
  have lt0 : ∀ x ∈ p0, x.block < W.heap.size := by obtain ⟨m, hm⟩ := h0; exact DataW.trod_lt m _ _ _ hm
  obtain ⟨x0, hx0, bx0⟩ := open_que h0 (fun n hn => by have := List.all_eq_true.1 hsz n (DataW.weights_mem_each (j := 0) rfl rfl n hn); simpa using this)
  have lt1 : ∀ x ∈ p1, x.block < W.heap.size := by obtain ⟨m, hm⟩ := h1; exact DataW.trod_lt m _ _ _ hm
  obtain ⟨a1, len1, cap1, rfl⟩ := okWide_slice Tryd.underlying26 (hval 1 26 v1 rfl rfl)
  obtain ⟨x1, hx1⟩ := rd_ops rfl h1
  refine (stays_law W hv _ x0 hx0 bx0 _ x1 hx1).mono fun e W' ⟨he, bel⟩ => ?_
  subst he
  exact ⟨_, rfl, _, _, _, [], _, [], hW', trodAll_mk1 (shut_bool Tryd.underlying4 _), (trodAll_cons_mk (Below.trod laidOut (by kernel_rfl) (of_decide_eq_true (by kernel_rfl)) h0 bel lt0) (trodAll_cons_mk (Below.trod laidOut (by kernel_rfl) (of_decide_eq_true (by kernel_rfl)) h1 bel lt1) trodAll_mk0)), rfl, bel.frame _, fun h => by cases h⟩

theorem stays_lifted (os : Os) (started : os.Started) (H : Type) (enc : TypeId × Value → H) :
    ReturnsInHanded {} Tryd.checked os 3 .any (fun w args => (Rows.queueStaysSpec.pre enc Tryd.prog Tryd.f3 [] false w args ∧ laidMetH Tryd.prog Rows.queueStaysRow.laid w) ∧ sizedMet enc Tryd.prog Tryd.f3 (OpenSpec.ofChange Rows.queueStaysSpec) false w args)
      (Rows.queueStaysSpec.post enc Tryd.prog Tryd.f3 false true false false) := by
  refine returns_and_shaped (C := Tryd.checked) (X := fun w _ => laidMetH Tryd.prog Rows.queueStaysRow.laid w) (fun _ _ _ hh h => h.of_heap hh) own started (by kernel_rfl) Tryd.func3
    (ChangeSpec.witness_shaped (enc := enc) (C := Tryd.checked) (os := os) (X := fun w _ => laidMetH Tryd.prog Rows.queueStaysRow.laid w) false (World.laidAll Tryd.prog os Rows.queueStaysRow.laid) #[.agg #[.string ByteArray.empty, .bool false, .int .i64 0, .int .i64 0, .int .i64 0, .slice none 0 0, .slice none 0 0], .slice none 0 0] 8 (World.laidAll_os _ _ _)
      (World.shaped_of_ZipB (by kernel_rfl) (by kernel_rfl)) (by kernel_rfl) (by kernel_rfl) (by kernel_rfl)
      (by rw [MakeChecks.laidMetH_plain _ _ _ (by kernel_rfl)]; exact laidMet_laidAll _ (by kernel_rfl) (by kernel_rfl))) ?_
  intro W base args ds gs before hval hW hsz hL hsh
  exact stays_contract H enc W base args ds gs before hval hW hsz hL hsh

theorem stays_said : Rows.QueueStaysSaid :=
  OpenClaim.holds_of_wide 3 Tryd.f3 rfl rfl rfl rfl rfl rfl rfl ⟨rfl, rfl, rfl, rfl, rfl⟩ rfl rfl rfl rfl rfl (by kernel_rfl) Tryd.func3 (by kernel_rfl)
    (of_decide_eq_true (by kernel_rfl)) (by unfold Func.isWrapper; first | (rw [if_pos (by decide +kernel)]; kernel_rfl) | (rw [if_neg (by decide +kernel)]; exact ⟨rfl, rfl⟩))
    (fun os started H enc _ => stays_lifted os started H enc)

theorem stays_plain (f : FuncId) (fn : Func) (hf : Tryd.pinned.checked.prog.funcNamed "trivet/trivetlaw10.QueueStays" = some f) (hfn : Tryd.pinned.checked.prog.funcs[f]? = some fn) :
    false = Tryd.pinned.checked.prog.looks [] ∧ ∀ (j : Nat) t, fn.params[j]? = some t → Tryd.pinned.checked.prog.wantsStandIn t = false := by
  obtain rfl : f = 3 := Option.some.inj ((show Tryd.prog.funcNamed "trivet/trivetlaw10.QueueStays" = some 3 by kernel_rfl).symm.trans hf) |>.symm
  obtain rfl : fn = Tryd.f3 := (Option.some.inj (Tryd.func3.symm.trans hfn)).symm
  refine ⟨by kernel_rfl, fun j t ht => ?_⟩
  rw [Tryd.params3] at ht
  have hm : t ∈ [25, 26] := by simpa using Array.mem_of_getElem? ht
  have hall : ([25, 26].all fun u => !Tryd.prog.wantsStandIn u) = true := by kernel_rfl
  exact (show Tryd.prog.wantsStandIn t = false by simpa using List.all_eq_true.1 hall t hm)

theorem queueStays_card : Rows.QueueStaysCardSaid :=
  Claim7.holds_tied_plain_at .later [] _ _ _ _ stays_said (fun _ h => by cases h) (by kernel_rfl) (fun _ h => by cases h) queueStays_row_tie rfl ⟨rfl, rfl⟩ (by kernel_rfl) rfl stays_plain (by kernel_rfl)
#print axioms queueStays_card
end Go.Proofs.YtlbcefocmdnlgaaDoor
