/- What goodHeld answers of any queue. Condition: To.Vars, what the library's variables hold. -/
import Derived.Test.YtlbcefocmdnlgaaGreatDoorGi
namespace Go.Proofs.YtlbcefocmdnlgaaGreatDoor
open Go.RowKit Go.Lib
set_option maxRecDepth 100000
set_option linter.unusedSimpArgs false

theorem e65 : ∀ args w, (callFunc 65 args).run Tryz.prog w = .ok (.enter 65 args) w := fun args w => by go_simp
set_option maxHeartbeats 2000000 in
theorem clos65 (W : World) (hv : To.Vars W) (q : Que) (iv hv' : Value) (g1 g2 : Nat) (a : Int) (x : Hld) (pv : Value) (k1 : Blk W g1 #[.int .i64 a] 3) (k2 : Blk W g2 (queV q iv hv').cells 25) (hg : g1 ≠ 1) (hP : ∀ W2, W.grownBy W2 (some g1) → RdP W2 pv x.itm.msg.props) :
    Calls Tryz.prog 65 #[.agg (hldV x pv).toArray, .pointer (some ⟨g1, 0, none⟩), .pointer (some ⟨g2, 0, none⟩)] W fun e W' => e = .returned (.bool (!(decide (a < x.tag) && hldB q.seq q.tag x))) ∧ Blk W' g1 #[.int .i64 x.tag] 3 ∧ W.grownBy W' (some g1) := by
  unfold hldV queV hldB at *
  have hne : g1 ≠ g2 := fun e => by
    subst e
    have h1 := k1.h
    rw [k2.h] at h1
    injection h1 with h1
    injection h1 with _ h1 _
    exact absurd h1 (by decide)
  have b1 : Below W.heap.size W (W.alloc (.cells #[.int .i64 x.tag, .int .i64 x.conn, .int .i64 x.sub, .int .i64 x.itm.seq, .bool x.itm.again, tx x.itm.msg.topic, tx x.itm.msg.body, pv, .bool x.itm.msg.dur, .int .i64 x.itm.msg.til] 61)) := (Below.refl _ W).alloc (Nat.le_refl _) _
  have kx := Blk.new W #[.int .i64 x.tag, .int .i64 x.conn, .int .i64 x.sub, .int .i64 x.itm.seq, .bool x.itm.again, tx x.itm.msg.topic, tx x.itm.msg.body, pv, .bool x.itm.msg.dur, .int .i64 x.itm.msg.til] 61
  have k1' := k1.on b1
  have k2' := k2.on b1
  have hgx : g1 ≠ W.heap.size := fun e => by have := k1.lt; omega
  go_enter Tryz.func65, Tryz.ntmps65
  go_upto_region 1 with fail
  generalize W.alloc (.cells #[.int .i64 x.tag, .int .i64 x.conn, .int .i64 x.sub, .int .i64 x.itm.seq, .bool x.itm.again, tx x.itm.msg.topic, tx x.itm.msg.body, pv, .bool x.itm.msg.dur, .int .i64 x.itm.msg.til] 61) = W1 at *
  obtain ⟨m, hm⟩ : ∃ m, W.heap.size = m := ⟨_, rfl⟩
  have HM : Hid (W.heap.size = m) := hm
  rw [hm] at kx hgx ⊢
  clear hm
  have c0 := kx.cell 0
  have d0 := k1'.cell 0
  simp only [List.getElem?_toArray, List.getElem?_cons_zero] at c0 d0
  go_wp2_with (refine wpl_set rfl (.tmp 1) (.tmp 11) rfl g1 0 _ rfl rfl k1' (by kernel_rfl) rfl rfl (by simp) ?_)
  intro W2 k12 g12 s12
  have k1x : Blk W2 g1 #[.int .i64 x.tag] 3 := k12
  have k2x : Blk W2 g2 #[tx q.name, .bool q.dur, .int .i64 q.depth, .int .i64 q.seq, .int .i64 q.tag, iv, hv'] 25 := k2'.grown g12 (fun e => hne (by injection e with e; exact e.symm))
  have kxx := kx.grown g12 (fun e => hgx (by injection e with e; exact e.symm))
  have b02 : W.grownBy W2 (some g1) := gb_trans (gb_below b1 _) g12
  have hgi := goodItem_any W2 (vars_gb hv b02 hg) q iv hv' x.itm pv (hP W2 b02)
  have hn1 := giv_any W2 x.tag q.tag
  have hn2 := con_any W2 x.conn
  have hn3 := num_any W2 x.sub
  unfold itmV queV at hgi
  clear hP kx k1 k2 k1' k2' b1 g12 s12 c0 d0 k12
  obtain ⟨e0, e1, e2, e3, e4, e5, e6⟩ := k2x.c7
  obtain ⟨f0, f1, f2, f3, f4, f5, f6, f7, f8, f9⟩ := kxx.c10
  by_cases hlt : a < x.tag
  · go_wp2_with fail
    refine hn1.mono ?_
    rintro e W3 ⟨rfl, rfl⟩
    cases h1 : givB x.tag q.tag with
    | false =>
      go_wp2
      go_ret
      exact ⟨ret_b (by simp [hlt, h1]), k1x, b02⟩
    | true =>
      go_wp2_with fail
      refine hn2.mono ?_
      rintro e W4 ⟨rfl, rfl⟩
      cases h2 : conB x.conn with
      | false =>
        go_wp2
        go_ret
        exact ⟨ret_b (by simp [hlt, h1, h2]), k1x, b02⟩
      | true =>
        go_wp2_with fail
        refine hn3.mono ?_
        rintro e W5 ⟨rfl, rfl⟩
        cases h3 : numB x.sub with
        | false =>
          go_wp2
          go_ret
          exact ⟨ret_b (by simp [hlt, h1, h2, h3]), k1x, b02⟩
        | true =>
          go_wp2_with fail
          refine hgi.mono ?_
          rintro e W6 ⟨rfl, b3⟩
          have k13 := k1x.on b3
          have b03 := gb_trans b02 (gb_below b3 _)
          clear e0 e1 e2 e3 e4 e5 e6 f0 f1 f2 f3 f4 f5 f6 f7 f8 f9 k2x kxx k1x b02 hgi hn1 hn2 hn3
          go_wp2
          go_ret
          exact ⟨ret_b (by simp [hlt, h1, h2, h3]), k13, b03⟩
  · go_wp2
    go_ret
    exact ⟨ret_b (by simp [hlt]), k1x, b02⟩

/-- The number ahead of the item at a place. -/
def aheadH (l : List Hld) (i : Nat) : Int := if i = 0 then 0 else (l.getD (i - 1) zeroH).tag
theorem hldsB_iff (s t : Int) : ∀ (l : List Hld) (a : Int), hldsB s t a l = true ↔ ∀ i (h : i < l.length), (if i = 0 then a else (l.getD (i - 1) zeroH).tag) < l[i].tag ∧ hldB s t l[i] = true
  | [], a => by simp [hldsB]
  | x :: l, a => by
    have ih := hldsB_iff s t l x.tag
    simp only [hldsB, Bool.and_eq_true, decide_eq_true_eq]
    rw [ih]
    constructor
    · rintro ⟨⟨h1, h2⟩, h3⟩ i hi
      cases i with
      | zero => exact ⟨h1, h2⟩
      | succ i =>
        have := h3 i (by simpa using hi)
        cases i with
        | zero => simpa using this
        | succ i => simpa using this
    · intro h
      refine ⟨h 0 (by simp), fun i hi => ?_⟩
      have := h (i + 1) (by simpa using hi)
      cases i with
      | zero => simpa using this
      | succ i => simpa using this
theorem hldsB_not (q : Que) (n : Nat) (hn : n = q.held.length) : (!hldsB q.seq q.tag 0 q.held) = true ↔ ∃ k, k < n ∧ (!(decide (aheadH q.held k < (q.held.getD k zeroH).tag) && hldB q.seq q.tag (q.held.getD k zeroH))) = true := by
  subst hn
  have key := hldsB_iff q.seq q.tag q.held 0
  rw [Bool.not_eq_true', ← Bool.not_eq_true, key]
  constructor
  · intro hne
    simp only [Classical.not_forall] at hne
    obtain ⟨i, hi1, hi2⟩ := hne
    refine ⟨i, hi1, ?_⟩
    rw [getD_at hi1]
    cases e : (decide (aheadH q.held i < q.held[i].tag) && hldB q.seq q.tag q.held[i]) with
    | false => rfl
    | true =>
      simp only [Bool.and_eq_true, decide_eq_true_eq] at e
      exact absurd e hi2
  · rintro ⟨k, hk, hp⟩ hall
    have h1 := hall k hk
    rw [getD_at hk] at hp
    have e : (decide (aheadH q.held k < q.held[k].tag) && hldB q.seq q.tag q.held[k]) = true := by
      simp only [Bool.and_eq_true, decide_eq_true_eq]
      exact h1
    rw [e] at hp
    cases hp

set_option maxHeartbeats 1000000 in
theorem goodHeld_any (w : World) (hv : To.Vars w) (v : Value) (q : Que) (h : RdQ w v q) (hs : q.held.length ≤ 1000000) :
    Calls Tryz.prog 38 #[v] w fun e w' => e = .returned (.bool (hldsB q.seq q.tag 0 q.held)) ∧ Below w.heap.size w w' := by
  obtain ⟨hv', iv, rfl, hh, hi⟩ := h
  obtain ⟨zi, ei, hi⟩ := hi
  obtain ⟨ai, ci, rfl⟩ := hi.len
  have hnz : zi.length = q.held.length := by rw [← ei, List.length_map]
  clear hh
  have hlt1 : 1 < w.heap.size := by
    obtain ⟨m, hm⟩ := hv.max
    exact World.block_lt_of_cell? w _ hm
  have hC : ∀ W2, Blk W2 (w.heap.size + 1) #[.int .i64 0] 3 → Blk W2 w.heap.size (queV q hv' (.slice ai zi.length ci)).cells 25 → Below w.heap.size w W2 → Calls Tryz.prog 64 #[.slice ai zi.length ci, .func (.func 65) #[] #[.pointer (some ⟨w.heap.size + 1, 0, none⟩), .pointer (some ⟨w.heap.size, 0, none⟩)]] W2 fun e w' => e = .returned (.bool (!hldsB q.seq q.tag 0 q.held)) ∧ Below w.heap.size w w' := fun W2 kA kQ bA => containsH_any w W2 ai zi.length ci zi hi rfl (by omega) 65 #[.pointer (some ⟨w.heap.size + 1, 0, none⟩), .pointer (some ⟨w.heap.size, 0, none⟩)] e65
    (fun i => !(decide (aheadH q.held i < (q.held.getD i zeroH).tag) && hldB q.seq q.tag (q.held.getD i zeroH)))
    (fun i W => Blk W (w.heap.size + 1) #[.int .i64 (aheadH q.held i)] 3 ∧ Blk W w.heap.size (queV q hv' (.slice ai zi.length ci)).cells 25 ∧ Below w.heap.size w W)
    (fun i W h => h.2.2) ⟨kA, kQ, bA⟩
    (fun i hi' pv W ⟨h1, h2, h3⟩ hp => by
      have hx : q.held.getD i zeroH = (zi[i]).2 := by
        rw [← ei, getD_at (by rw [List.length_map]; exact hi'), List.getElem_map]
      refine (clos65 W (hv.below h3) q _ _ (w.heap.size + 1) w.heap.size _ (zi[i]).2 pv h1 h2 (by omega) (fun W2 hg => ?_)).mono ?_
      · exact hp.on (h3.grown hg h3.size (fun k hk => by injection hk with hk; omega))
      · rintro e W' ⟨rfl, k1, hg⟩
        refine ⟨by simp only [hx], ?_, h2.grown hg (fun e => by injection e with e; omega), h3.grown hg h3.size (fun k hk => by injection hk with hk; omega)⟩
        have e1 : aheadH q.held (i + 1) = (zi[i]).2.tag := by rw [← hx]; simp [aheadH]
        rw [e1]
        exact k1)
    (!hldsB q.seq q.tag 0 q.held) (hldsB_not q zi.length hnz)
  obtain ⟨n, hn⟩ : ∃ n, zi.length = n := ⟨_, rfl⟩
  have b2 : Below w.heap.size w ((w.alloc (.cells (queV q hv' (.slice ai zi.length ci)).cells 25)).alloc (.cells #[.int .i64 0] 3)) := ((Below.refl _ w).alloc (Nat.le_refl _) _).alloc (by simp) _
  have kq := (Blk.new w (queV q hv' (.slice ai zi.length ci)).cells 25).alloc (.cells #[.int .i64 0] 3)
  have ka := Blk.new (w.alloc (.cells (queV q hv' (.slice ai zi.length ci)).cells 25)) #[.int .i64 0] 3
  rw [World.size_alloc] at ka
  rw [hn] at hC b2 kq ka ⊢
  clear hi ei hnz hn
  unfold queV at *
  go_enter Tryz.func38, Tryz.ntmps38
  go_wp2_with fail
  refine (hC _ ?_ ?_ ?_).mono ?_
  · exact ka
  · exact kq
  · exact b2
  rintro e w1 ⟨rfl, b1⟩
  clear hC ka kq b2
  go_wp2
  go_ret
  exact ⟨ret_b (by simp), b1⟩
end Go.Proofs.YtlbcefocmdnlgaaGreatDoor
