
/- What the law's wakes answers: true. Conditions: To.Vars, what the library's variables hold. -/
import Derived.Test.YtlbcefocmdnlgaaGreatDoorSe
import Derived.Test.YtlbcefocmdnlgaaGreatDoorTk
import Derived.Test.YtlbcefocmdnlgaaGreatDoorNw
namespace Go.Proofs.YtlbcefocmdnlgaaGreatDoor
open Go.RowKit Go.Lib
set_option maxRecDepth 100000
set_option linter.unusedSimpArgs false

def mx (c : UInt8) : Msg := ⟨[c], [], [], false, 0⟩
def kq : Nat → Que
  | 0 => newQ [113] true 5
  | k + 1 => pushQ (kq k) (mx (UInt8.ofNat (120 + k)))
theorem new_ok : newC [113] 5 = 0 := by decide
theorem push0 : pushC (kq 0) (mx 120) = 0 := by decide
theorem push1 : pushC (kq 1) (mx 121) = 0 := by decide
theorem push2 : pushC (kq 2) (mx 122) = 0 := by decide
theorem take0 : takeC (kq 3) 1 0 = 0 := by decide
def kt1 : Que := takeQ (kq 3) 1 0 true
theorem take1 : takeC kt1 1 0 = 0 := by decide
def kt2 : Que := takeQ kt1 1 0 true
theorem settle2 : settleC kt2 1 1 = 0 := by decide
def kt3 : Que := settleQ kt2 1 1 true
theorem kt3_len : kt3.items.length = 2 := by decide

theorem small_kq : ∀ k, k ≤ 3 → lenQ (kq k) ≤ 1000000 := fun k hk => by
  have : ∀ k, lenQ (kq k) = k := fun k => by
    induction k with
    | zero => rfl
    | succ k ih => simp only [lenQ, kq, pushQ, List.length_append, List.length_singleton] at ih ⊢; omega
  rw [this]
  omega
structure Chain (q3 q4 q5 q6 : Que) (x3 x4 y : Itm) (l : List Itm) : Prop where
  c3 : takeC q3 1 0 = 0
  t3 : takeQ q3 1 0 true = q4
  g3 : q3.tag + 1 = 1
  x3 : q3.items.headD zeroI = x3
  c4 : takeC q4 1 0 = 0
  t4 : takeQ q4 1 0 true = q5
  g4 : q4.tag + 1 = 2
  x4 : q4.items.headD zeroI = x4
  c5 : settleC q5 1 1 = 0
  t5 : settleQ q5 1 1 true = q6
  n6 : q6.items.length = 2
  i6 : q6.items = y :: l
  a6 : y.again = true
  o6 : y.msg.topic = [120]
  l3 : lenQ q3 ≤ 1000000
  l4 : lenQ q4 ≤ 1000000
  l5 : lenQ q5 ≤ 1000000
theorem chain : ∃ q3 q4 q5 q6 x3 x4 y l, kq 3 = q3 ∧ Chain q3 q4 q5 q6 x3 x4 y l :=
  ⟨kq 3, kt1, kt2, kt3, _, _, _, _, rfl, take0, rfl, rfl, rfl, take1, rfl, rfl, rfl, settle2, rfl, kt3_len, rfl, rfl, rfl, small_kq 3 (by omega), by decide, by decide⟩
theorem take_at {W : World} (hva : To.Vars W) {q q' : Que} {x : Itm} {iv hv : Value} {tg : Int} (hi : RdI W iv q.items) (hh : RdH W hv q.held) {conn sub : Int} (hc : takeC q conn sub = 0) (hq : takeQ q conn sub true = q') (ht : q.tag + 1 = tg) (hx : q.items.headD zeroI = x) (hl : lenQ q ≤ 1000000) :
    Calls Tryz.prog 27 #[.agg #[tx q.name, .bool q.dur, .int .i64 q.depth, .int .i64 q.seq, .int .i64 q.tag, iv, hv], .int .i64 conn, .int .i64 sub, .bool true] W fun e w' => ∃ v' pv', e = .returned (.tuple #[v', .int .i64 tg, .agg (itmV x pv').toArray, .int .i64 0]) ∧ OwnQ w' W.heap.size v' q' ∧ OwnP w' W.heap.size pv' x.msg.props ∧ Below W.heap.size W w' := by
  have h := take_any W hva _ q ⟨iv, hv, rfl, hi, hh⟩ conn sub true hl
  rw [hc, if_pos rfl, if_pos rfl, if_pos rfl, if_pos rfl, hq, ht, hx] at h
  exact h
theorem settle_at {W : World} (hva : To.Vars W) {q q' : Que} {iv hv : Value} (hi : RdI W iv q.items) (hh : RdH W hv q.held) {conn tag : Int} (hc : settleC q conn tag = 0) (hq : settleQ q conn tag true = q') (hl : lenQ q ≤ 1000000) :
    Calls Tryz.prog 28 #[.agg #[tx q.name, .bool q.dur, .int .i64 q.depth, .int .i64 q.seq, .int .i64 q.tag, iv, hv], .int .i64 conn, .int .i64 tag, .bool true] W fun e w' => ∃ v', e = .returned (.tuple #[v', .int .i64 0]) ∧ OwnQ w' W.heap.size v' q' ∧ Below W.heap.size W w' := by
  have h := settle_any W hva _ q ⟨iv, hv, rfl, hi, hh⟩ conn tag true hl
  rw [hc, if_pos rfl, hq] at h
  exact h
/-- The queue lies in the block g. -/
structure WkS (w W : World) (g : Nat) (q : Que) : Prop where
  q : ∃ iv hv, RdI W iv q.items ∧ RdH W hv q.held ∧ Blk W g #[tx q.name, .bool q.dur, .int .i64 q.depth, .int .i64 q.seq, .int .i64 q.tag, iv, hv] 25
  l : w.heap.size ≤ g
  b : Below w.heap.size w W

theorem WkS.on {w W W' : World} {g : Nat} {q : Que} (h : WkS w W g q) (hb : Below W.heap.size W W') : WkS w W' g q := by
  obtain ⟨⟨iv, hv, h1, h2, h3⟩, h4, h5⟩ := h
  exact ⟨⟨iv, hv, h1.on hb, h2.on hb, h3.on hb⟩, h4, nxt h5 hb⟩

theorem Kt.then_new {t : TypeId} {a b c : World} (h : Kt t a b) (hs : a.heap.size ≤ b.heap.size) (hg : b.grownBy c (some a.heap.size)) : Kt t a c := fun k cur hk => by
  have hlt := (Array.getElem?_eq_some_iff.1 hk).1
  exact (hg.block k (by omega) (fun e => by injection e with e; omega)).trans (h k cur hk)
theorem head_at {W : World} {a : Option Addr} {n c : Nat} {y : Itm} {l : List Itm} (h : RdI W (.slice a n c) (y :: l)) :
    ∃ b o, a = some ⟨b, o, none⟩ ∧ W.cell? ⟨b, o, none⟩ = some (.int .i64 y.seq) ∧ W.cell? ⟨b, o + 1, none⟩ = some (.bool y.again) ∧ W.cell? ⟨b, o + 2, none⟩ = some (tx y.msg.topic) := by
  obtain ⟨zs, e, hz⟩ := h
  cases zs with
  | nil => simp at e
  | cons z zs =>
    simp only [List.map_cons, List.cons.injEq] at e
    obtain ⟨b, o, pv, rfl, _, _, c0, c1, c2, _⟩ := itm_at hz (Below.refl _ W) (i := 0) (by simp)
    simp only [List.getElem_cons_zero, Nat.zero_mul, Nat.add_zero, e.1] at c0 c1 c2
    exact ⟨b, o, rfl, c0, c1, c2⟩
theorem rdp_nil (w : World) : RdP w (.slice none 0 0) [] := OwnP.rd (B := 0) (World.ownsRow_nil ..)

set_option maxHeartbeats 4000000 in
theorem wakes_any (w : World) (hva : To.Vars w) : Calls Tryz.prog 6 #[] w fun e w' => e = .returned (.bool true) ∧ Below w.heap.size w w' := by
  have HN : Calls Tryz.prog 8 #[tx [113], .bool true, .int .i64 5] w fun e w' => ∃ v', e = .returned (.tuple #[v', .int .i64 0]) ∧ OwnQ w' w.heap.size v' (kq 0) ∧ Below w.heap.size w w' := by
    have h := new_any w [113] true 5
    rw [new_ok, if_pos rfl] at h
    exact h
  go_enter Tryz.func6, Tryz.ntmps6
  go_upto_region 2 with (refine HN.mono ?_; rintro e w1 ⟨v1, rfl, ⟨iv1, hv1, rfl, oi1, oh1⟩, b1⟩; obtain ⟨ai1, ci1, rfl⟩ := oi1.rd.len; obtain ⟨ah1, ch1, rfl⟩ := oh1.rd.len; unfold queV)
  have S1 : WkS w (w1.alloc (.cells #[tx (kq 0).name, .bool (kq 0).dur, .int .i64 (kq 0).depth, .int .i64 (kq 0).seq, .int .i64 (kq 0).tag, .slice ai1 (kq 0).items.length ci1, .slice ah1 (kq 0).held.length ch1] 25)) w1.heap.size (kq 0) :=
    have hb := (Below.refl _ w1).alloc (Nat.le_refl _) (.cells #[tx (kq 0).name, .bool (kq 0).dur, .int .i64 (kq 0).depth, .int .i64 (kq 0).seq, .int .i64 (kq 0).tag, .slice ai1 (kq 0).items.length ci1, .slice ah1 (kq 0).held.length ch1] 25)
    ⟨⟨_, _, oi1.rd.on hb, oh1.rd.on hb, Blk.new ..⟩, b1.size, nxt b1 hb⟩
  clear oi1 oh1 b1 HN
  generalize w1.heap.size = g at *
  generalize w1.alloc (.cells #[tx (kq 0).name, .bool (kq 0).dur, .int .i64 (kq 0).depth, .int .i64 (kq 0).seq, .int .i64 (kq 0).tag, .slice ai1 (kq 0).items.length ci1, .slice ah1 (kq 0).held.length ch1] 25) = w2 at *
  go_wp2_with fail
  have S3 : Hid (WkS w (w2.alloc (.cells #[.string ⟨#[120]⟩, .string ⟨#[121]⟩, .string ⟨#[122]⟩] 9)) g (kq 0)) := S1.on ((Below.refl _ w2).alloc (Nat.le_refl _) _)
  have K3 : Hid (Blk (w2.alloc (.cells #[.string ⟨#[120]⟩, .string ⟨#[121]⟩, .string ⟨#[122]⟩] 9)) w2.heap.size #[.string ⟨#[120]⟩, .string ⟨#[121]⟩, .string ⟨#[122]⟩] 9) := Blk.new ..
  clear S1
  generalize w2.heap.size = gs at *
  generalize w2.alloc (.cells #[.string ⟨#[120]⟩, .string ⟨#[121]⟩, .string ⟨#[122]⟩] 9) = w3 at *
  go_loopg [2, 4, 18] 3 (fun gg s2 _ s18 wr => ∃ kk : Nat, kk ≤ 3 ∧ 3 - kk ≤ gg ∧ s2 = .int .i64 0 ∧ s18 = .int .i64 kk ∧ Hid (WkS w wr g (kq kk)) ∧ Hid (Blk wr gs #[.string ⟨#[120]⟩, .string ⟨#[121]⟩, .string ⟨#[122]⟩] 9))
  case atStart => exact ⟨0, Nat.zero_le _, by omega, rfl, rfl, S3, K3⟩
  case round =>
    obtain ⟨kk, hkk, hg, rfl, rfl, HS, HK⟩ := hrel
    clear S3 K3
    obtain ⟨wr, hwr⟩ : ∃ W, W = wr := ⟨_, rfl⟩
    subst hwr
    by_cases hlt : kk < 3
    · have hltz : (kk : Int) < 3 := by omega
      have cs : wr.cell? ⟨gs, kk, none⟩ = some (tx [UInt8.ofNat (120 + kk)]) := by
        rcases (by omega : kk = 0 ∨ kk = 1 ∨ kk = 2) with rfl | rfl | rfl
        · exact HK.out.cell 0
        · exact HK.out.cell 1
        · exact HK.out.cell 2
      have hpc : pushC (kq kk) (mx (UInt8.ofNat (120 + kk))) = 0 := by
        rcases (by omega : kk = 0 ∨ kk = 1 ∨ kk = 2) with rfl | rfl | rfl
        · exact push0
        · exact push1
        · exact push2
      obtain ⟨⟨iv, hv, h1, h2, h3⟩, h4, h5⟩ := HS.out
      have HP : Calls Tryz.prog 26 #[.agg #[tx (kq kk).name, .bool (kq kk).dur, .int .i64 (kq kk).depth, .int .i64 (kq kk).seq, .int .i64 (kq kk).tag, iv, hv], .agg #[tx [UInt8.ofNat (120 + kk)], .string ⟨#[]⟩, .slice none 0 0, .bool false, .int .i64 0]] wr fun e w' => ∃ v', e = .returned (.tuple #[v', .int .i64 0]) ∧ OwnQ w' wr.heap.size v' (kq (kk + 1)) ∧ Below wr.heap.size wr w' := by
        have h := push_any wr (hva.below h5) _ (kq kk) ⟨iv, hv, rfl, h1, h2⟩ (mx (UInt8.ofNat (120 + kk))) (.slice none 0 0) (rdp_nil _) (small_kq kk hkk)
        rw [hpc, if_pos rfl] at h
        exact h
      have K0 : Hid (Blk wr g #[tx (kq kk).name, .bool (kq kk).dur, .int .i64 (kq kk).depth, .int .i64 (kq kk).seq, .int .i64 (kq kk).tag, iv, hv] 25) := h3
      have B0 : Hid (Below w.heap.size w wr) := h5
      clear HS h1 h2 h3 h5 hpc
      obtain ⟨c, hc⟩ : ∃ c, UInt8.ofNat (120 + kk) = c := ⟨_, rfl⟩
      obtain ⟨q, hq⟩ : ∃ q, kq kk = q := ⟨_, rfl⟩
      obtain ⟨q', hq'⟩ : ∃ q, kq (kk + 1) = q := ⟨_, rfl⟩
      rw [hc] at cs HP
      rw [hq] at HP K0
      rw [hq'] at HP
      have HQ' : Hid (kq (kk + 1) = q') := hq'
      clear hc hq hq'
      go_wp2_with (refine wpl_load25 rfl (.tmp 1) rfl _ _ rfl K0.out rfl ?_)
      refine HP.mono ?_
      rintro e w4 ⟨v4, rfl, ⟨iv4, hv4, rfl, oi4, oh4⟩, b4⟩
      obtain ⟨ai4, ci4, rfl⟩ := oi4.rd.len
      obtain ⟨ah4, ch4, rfl⟩ := oh4.rd.len
      have K4 := K0.out.on b4
      have HK4 := HK.out.on b4
      have B4 := nxt B0.out b4
      have HL4 : Hid (gs ≠ g) := fun e => by
        subst e
        have h1 := K4.h
        rw [HK4.h] at h1
        injection h1 with e2
        injection e2 with _ e3 _
        exact absurd e3 (by decide)
      clear HP K0 B0 b4 cs HK
      unfold queV
      go_wp2_with (refine wpl_put rfl (.tmp 1) (.tmp 27) rfl _ _ rfl rfl K4 (by kernel_rfl) rfl (by simp [Value.oneCell']) ?_)
      intro w5 k5 g5 s5
      have HS5 : Hid (WkS w w5 g q') := ⟨⟨_, _, (oi4.keep (kt_grown K4 g5 (by decide)) (kt_grown K4 g5 (by decide))).rd, (oh4.keep (kt_grown K4 g5 (by decide)) (kt_grown K4 g5 (by decide))).rd, k5⟩, h4, B4.grown g5 B4.size (fun k hk => by injection hk with hk; omega)⟩
      have HK5 : Hid (Blk w5 gs #[.string ⟨#[120]⟩, .string ⟨#[121]⟩, .string ⟨#[122]⟩] 9) := HK4.grown g5 (fun e => by injection e with e; exact HL4.out e)
      clear K4 HK4 B4 HL4 oi4 oh4 k5 g5 s5
      go_wp2_with fail
      go_roundg (3 - (kk + 1))
      case measure => omega
      case rel => exact ⟨kk + 1, by omega, by omega, rfl, by go_num, by rw [HQ'.out]; exact HS5, HK5⟩
    · have hk3 : kk = 3 := by omega
      subst hk3
      clear hkk hg HK hlt
      obtain ⟨q3, q4, q5, q6, x3, x4, y, l, eq3, HC⟩ := chain
      rw [eq3] at HS
      clear eq3
      have HD : Hid (Chain q3 q4 q5 q6 x3 x4 y l) := HC
      obtain ⟨⟨iv, hv, h1, h2, h3⟩, h4, h5⟩ := HS.out
      have HP := take_at (hva.below h5) h1 h2 HC.c3 HC.t3 HC.g3 HC.x3 HC.l3
      have K0 : Hid (Blk wr g #[tx q3.name, .bool q3.dur, .int .i64 q3.depth, .int .i64 q3.seq, .int .i64 q3.tag, iv, hv] 25) := h3
      have B0 : Hid (Below w.heap.size w wr) := h5
      clear HS h1 h2 h3 h5 HC
      go_wp2_with (refine wpl_load25 rfl (.tmp 1) rfl _ _ rfl K0.out rfl ?_)
      refine HP.mono ?_
      rintro e w4 ⟨v4, pv4, rfl, ⟨iv4, hv4, rfl, oi4, oh4⟩, hp4, b4⟩
      obtain ⟨ai4, ci4, rfl⟩ := oi4.rd.len
      obtain ⟨ah4, ch4, rfl⟩ := oh4.rd.len
      obtain ⟨pa4, pc4, rfl⟩ := hp4.shape
      have K4 := K0.out.on b4
      have B4 := nxt B0.out b4
      clear HP K0 B0 b4 hp4
      unfold queV itmV
      have K4a := K4.alloc (.cells #[.int .i64 0, .bool false, .string ⟨#[]⟩, .string ⟨#[]⟩, .slice none 0 0, .bool false, .int .i64 0] 43)
      have B4a := B4.alloc B4.size (.cells #[.int .i64 0, .bool false, .string ⟨#[]⟩, .string ⟨#[]⟩, .slice none 0 0, .bool false, .int .i64 0] 43)
      go_wp2_with (refine wpl_put rfl (.tmp 1) (.tmp 35) rfl _ _ rfl rfl K4a (by kernel_rfl) rfl (by simp [Value.oneCell']) ?_)
      intro w5 k5 g5 s5
      have i5 := (Blk.new w4 #[.int .i64 0, .bool false, .string ⟨#[]⟩, .string ⟨#[]⟩, .slice none 0 0, .bool false, .int .i64 0] 43).grown g5 (fun e => by injection e with e; have := K4.lt; omega)
      have B5 := B4a.grown g5 B4a.size (fun k hk => by injection hk with hk; omega)
      have t35 : Kt 43 w4 w5 := (Kt.of_below ((Below.refl _ w4).alloc (Nat.le_refl _) _)).trans (kt_grown K4a g5 (by decide))
      have t45 : Kt 61 w4 w5 := (Kt.of_below ((Below.refl _ w4).alloc (Nat.le_refl _) _)).trans (kt_grown K4a g5 (by decide))
      have t88 : Kt 54 w4 w5 := (Kt.of_below ((Below.refl _ w4).alloc (Nat.le_refl _) _)).trans (kt_grown K4a g5 (by decide))
      have hs5 : w4.heap.size ≤ w5.heap.size := Nat.le_of_lt i5.lt
      have hg4 : g < w4.heap.size := K4.lt
      clear K4 K4a B4 B4a g5 s5
      go_wp2_with (refine wpl_put rfl (.tmp 6) (.tmp 37) rfl _ _ rfl rfl i5 (by kernel_rfl) rfl (by simp [Value.oneCell']) ?_)
      intro w6 k6 g6 s6
      have K6 : Hid (Blk w6 g #[tx q4.name, .bool q4.dur, .int .i64 q4.depth, .int .i64 q4.seq, .int .i64 q4.tag, .slice ai4 q4.items.length ci4, .slice ah4 q4.held.length ch4] 25) := k5.grown g6 (fun e => by injection e with e; omega)
      have B6 : Hid (Below w.heap.size w w6) := B5.grown g6 B5.size (fun k hk => by injection hk with hk; have := h4; omega)
      have oi6 := (oi4.keep (t35.then_new hs5 g6) (t88.then_new hs5 g6)).rd
      have oh6 := (oh4.keep (t45.then_new hs5 g6) (t88.then_new hs5 g6)).rd
      clear oi4 oh4 t35 t45 t88 hs5 hg4 i5 k5 k6 g6 s6 B5
      have HP := take_at (hva.below B6.out) oi6 oh6 HD.out.c4 HD.out.t4 HD.out.g4 HD.out.x4 HD.out.l4
      clear oi6 oh6
      go_wp2_with (refine wpl_load25 rfl (.tmp 1) rfl _ _ rfl K6.out rfl ?_)
      refine HP.mono ?_
      obtain ⟨wr, hwr⟩ : ∃ W, W = w6 := ⟨_, rfl⟩
      subst hwr
      rintro e w7 ⟨v4, pv4, rfl, ⟨iv4, hv4, rfl, oi4, oh4⟩, hp4, b4⟩
      obtain ⟨ai4, ci4, rfl⟩ := oi4.rd.len
      obtain ⟨ah4, ch4, rfl⟩ := oh4.rd.len
      obtain ⟨pa4, pc4, rfl⟩ := hp4.shape
      have K4 := K6.out.on b4
      have B4 := nxt B6.out b4
      clear HP K6 B6 b4 hp4
      unfold queV itmV
      obtain ⟨w4, hw4⟩ : ∃ W, W = w7 := ⟨_, rfl⟩
      subst hw4
      have K4a := K4.alloc (.cells #[.int .i64 0, .bool false, .string ⟨#[]⟩, .string ⟨#[]⟩, .slice none 0 0, .bool false, .int .i64 0] 43)
      have B4a := B4.alloc B4.size (.cells #[.int .i64 0, .bool false, .string ⟨#[]⟩, .string ⟨#[]⟩, .slice none 0 0, .bool false, .int .i64 0] 43)
      go_wp2_with (refine wpl_put rfl (.tmp 1) (.tmp 42) rfl _ _ rfl rfl K4a (by kernel_rfl) rfl (by simp [Value.oneCell']) ?_)
      intro w5 k5 g5 s5
      have i5 := (Blk.new w4 #[.int .i64 0, .bool false, .string ⟨#[]⟩, .string ⟨#[]⟩, .slice none 0 0, .bool false, .int .i64 0] 43).grown g5 (fun e => by injection e with e; have := K4.lt; omega)
      have B5 := B4a.grown g5 B4a.size (fun k hk => by injection hk with hk; omega)
      have t35 : Kt 43 w4 w5 := (Kt.of_below ((Below.refl _ w4).alloc (Nat.le_refl _) _)).trans (kt_grown K4a g5 (by decide))
      have t45 : Kt 61 w4 w5 := (Kt.of_below ((Below.refl _ w4).alloc (Nat.le_refl _) _)).trans (kt_grown K4a g5 (by decide))
      have t88 : Kt 54 w4 w5 := (Kt.of_below ((Below.refl _ w4).alloc (Nat.le_refl _) _)).trans (kt_grown K4a g5 (by decide))
      have hs5 : w4.heap.size ≤ w5.heap.size := Nat.le_of_lt i5.lt
      have hg4 : g < w4.heap.size := K4.lt
      clear K4 K4a B4 B4a g5 s5
      go_wp2_with (refine wpl_put rfl (.tmp 8) (.tmp 44) rfl _ _ rfl rfl i5 (by kernel_rfl) rfl (by simp [Value.oneCell']) ?_)
      intro w6 k6 g6 s6
      have K6 : Hid (Blk w6 g #[tx q5.name, .bool q5.dur, .int .i64 q5.depth, .int .i64 q5.seq, .int .i64 q5.tag, .slice ai4 q5.items.length ci4, .slice ah4 q5.held.length ch4] 25) := k5.grown g6 (fun e => by injection e with e; omega)
      have B6 : Hid (Below w.heap.size w w6) := B5.grown g6 B5.size (fun k hk => by injection hk with hk; have := h4; omega)
      have oi6 := (oi4.keep (t35.then_new hs5 g6) (t88.then_new hs5 g6)).rd
      have oh6 := (oh4.keep (t45.then_new hs5 g6) (t88.then_new hs5 g6)).rd
      clear oi4 oh4 t35 t45 t88 hs5 hg4 i5 k5 k6 g6 s6 B5
      have HP := settle_at (hva.below B6.out) oi6 oh6 HD.out.c5 HD.out.t5 HD.out.l5
      clear oi6 oh6
      go_wp2_with (refine wpl_load25 rfl (.tmp 1) rfl _ _ rfl K6.out rfl ?_)
      refine HP.mono ?_
      rintro e w7 ⟨v4, rfl, ⟨iv4, hv4, rfl, oi4, oh4⟩, b4⟩
      obtain ⟨ah4, ch4, rfl⟩ := oh4.rd.len
      obtain ⟨ai4, ci4, rfl⟩ := oi4.rd.len
      have K4 := K6.out.on b4
      have B4 := nxt B6.out b4
      clear HP K6 B6 b4 oh4
      unfold queV
      go_wp2_with (refine wpl_put rfl (.tmp 1) (.tmp 63) rfl _ _ rfl rfl K4 (by kernel_rfl) rfl (by simp [Value.oneCell']) ?_)
      intro w8 k8 g8 s8
      have B8 := B4.grown g8 B4.size (fun k hk => by injection hk with hk; have := h4; omega)
      have oi8 := (oi4.keep (kt_grown K4 g8 (by decide)) (kt_grown K4 g8 (by decide))).rd
      rw [HD.out.n6, HD.out.i6] at oi8
      rw [HD.out.n6] at k8
      obtain ⟨ai4, hai⟩ : ∃ a, a = ai4 := ⟨_, rfl⟩
      subst hai
      clear oi4 K4 B4 g8 s8
      obtain ⟨d0, d1, d2, d3, d4, d5, d6⟩ := k8.c7
      obtain ⟨bb, oo, rfl, e0, e1, e2⟩ := head_at oi8
      rw [HD.out.a6] at e1
      rw [HD.out.o6] at e2
      clear oi8 HD
      go_wp2
      go_ret
      exact ⟨ret_b (by simp), B8⟩
end Go.Proofs.YtlbcefocmdnlgaaGreatDoor
