/- What goodItems answers of any queue. Condition: To.Vars, what the library's variables hold. -/
import Derived.Test.YtlbcefocmdnlgaaGreatDoorZe
namespace Go.Proofs.YtlbcefocmdnlgaaGreatDoor
open Go.RowKit Go.Lib
set_option maxRecDepth 100000
set_option linter.unusedSimpArgs false

theorem gb_below {w w' : World} (h : Below w.heap.size w w') (row : Option Nat) : w.grownBy w' row := ⟨h.os, h.tape, h.output, h.size, fun k hk _ => h.block k hk⟩
theorem gb_trans {a b c : World} {row : Option Nat} (h : a.grownBy b row) (k : b.grownBy c row) : a.grownBy c row :=
  ⟨k.os.trans h.os, k.tape.trans h.tape, k.output.trans h.output, Nat.le_trans h.size k.size, fun i hi hne => (k.block i (Nat.lt_of_lt_of_le hi h.size) hne).trans (h.block i hi hne)⟩
theorem gb_setCell (w : World) (g j : Nat) (u : Value) : w.grownBy (w.setCell ⟨g, j, none⟩ u) (some g) :=
  ⟨rfl, rfl, rfl, by simp [World.setCell], fun k _ hne => Below.heap_setCell w ⟨g, j, none⟩ u k (fun e => hne (by rw [e]))⟩
theorem vars_gb {w w' : World} {g : Nat} (hv : To.Vars w) (h : w.grownBy w' (some g)) (hg : g ≠ 1) : To.Vars w' := by
  obtain ⟨m, hm⟩ := hv.max
  exact ⟨⟨m, by rw [World.cell?_of_block (h.block 1 (World.block_lt_of_cell? w _ hm) (fun e => hg (by injection e with e; exact e.symm)))]; exact hm⟩⟩

theorem containsI_any (w0 w : World) (a : Option Addr) (n c : Nat) (zs : Zs Itm) (h : RdZ 7 (ItR (RdP w0)) w0 (.slice a n c) zs) (hn : zs.length = n) (hbig : n ≤ 1000000) (g : Nat) (lb : Array Value) (eg : ∀ args w, (callFunc g args).run Tryz.prog w = .ok (.enter g args) w)
    (p : Nat → Bool) (Inv : Nat → World → Prop) (hI : ∀ i W, Inv i W → Below w0.heap.size w0 W) (h0 : Inv 0 w)
    (hcall : ∀ i (hi : i < zs.length) pv W, Inv i W → RdP w0 pv (zs[i]).2.msg.props → Calls Tryz.prog g (#[.agg (itmV (zs[i]).2 pv).toArray] ++ lb) W fun e W' => e = .returned (.bool (p i)) ∧ Inv (i + 1) W') (r : Bool) (hr : r = true ↔ ∃ k, k < n ∧ p k = true) :
    Calls Tryz.prog 61 #[.slice a n c, .func (.func g) #[] lb] w fun e w' => e = .returned (.bool r) ∧ Below w0.heap.size w0 w' := by
  have hx := indexI_any w0 w a n c zs h hn hbig g lb eg p Inv hI h0 hcall
  clear h hcall eg
  go_enter Tryz.func61, Tryz.ntmps61
  go_wp2_with fail
  refine hx.mono ?_
  rintro e w1 (⟨k, hk, rfl, hp, _, hi⟩ | ⟨rfl, hp, hi⟩)
  · have hz : (0 : Int) ≤ (k : Int) := by omega
    go_wp2
    go_ret
    exact ⟨ret_b (hr.2 ⟨k, hk, hp⟩).symm, hI _ _ hi⟩
  · go_wp2
    go_ret
    refine ⟨ret_b ?_, hI _ _ hi⟩
    cases r with
    | false => rfl
    | true =>
      obtain ⟨k, hk, h1⟩ := hr.1 rfl
      rw [hp k hk] at h1
      cases h1
theorem containsH_any (w0 w : World) (a : Option Addr) (n c : Nat) (zs : Zs Hld) (h : RdZ 10 (HeR (RdP w0)) w0 (.slice a n c) zs) (hn : zs.length = n) (hbig : n ≤ 1000000) (g : Nat) (lb : Array Value) (eg : ∀ args w, (callFunc g args).run Tryz.prog w = .ok (.enter g args) w)
    (p : Nat → Bool) (Inv : Nat → World → Prop) (hI : ∀ i W, Inv i W → Below w0.heap.size w0 W) (h0 : Inv 0 w)
    (hcall : ∀ i (hi : i < zs.length) pv W, Inv i W → RdP w0 pv (zs[i]).2.itm.msg.props → Calls Tryz.prog g (#[.agg (hldV (zs[i]).2 pv).toArray] ++ lb) W fun e W' => e = .returned (.bool (p i)) ∧ Inv (i + 1) W') (r : Bool) (hr : r = true ↔ ∃ k, k < n ∧ p k = true) :
    Calls Tryz.prog 64 #[.slice a n c, .func (.func g) #[] lb] w fun e w' => e = .returned (.bool r) ∧ Below w0.heap.size w0 w' := by
  have hx := indexH_any w0 w a n c zs h hn hbig g lb eg p Inv hI h0 hcall
  clear h hcall eg
  go_enter Tryz.func64, Tryz.ntmps64
  go_wp2_with fail
  refine hx.mono ?_
  rintro e w1 (⟨k, hk, rfl, hp, _, hi⟩ | ⟨rfl, hp, hi⟩)
  · have hz : (0 : Int) ≤ (k : Int) := by omega
    go_wp2
    go_ret
    exact ⟨ret_b (hr.2 ⟨k, hk, hp⟩).symm, hI _ _ hi⟩
  · go_wp2
    go_ret
    refine ⟨ret_b ?_, hI _ _ hi⟩
    cases r with
    | false => rfl
    | true =>
      obtain ⟨k, hk, h1⟩ := hr.1 rfl
      rw [hp k hk] at h1
      cases h1

theorem e62 : ∀ args w, (callFunc 62 args).run Tryz.prog w = .ok (.enter 62 args) w := fun args w => by go_simp
set_option maxHeartbeats 1000000 in
theorem clos62 (W : World) (hv : To.Vars W) (q : Que) (iv hv' : Value) (g1 g2 : Nat) (a : Int) (x : Itm) (pv : Value) (k1 : Blk W g1 #[.int .i64 a] 3) (k2 : Blk W g2 (queV q iv hv').cells 25) (hg : g1 ≠ 1) (hP : ∀ W2, W.grownBy W2 (some g1) → RdP W2 pv x.msg.props) :
    Calls Tryz.prog 62 #[.agg (itmV x pv).toArray, .pointer (some ⟨g1, 0, none⟩), .pointer (some ⟨g2, 0, none⟩)] W fun e W' => e = .returned (.bool (!(decide (a < x.seq) && itmB q.seq x))) ∧ Blk W' g1 #[.int .i64 x.seq] 3 ∧ W.grownBy W' (some g1) := by
  unfold itmV queV at *
  have hne : g1 ≠ g2 := fun e => by
    subst e
    have h1 := k1.h
    rw [k2.h] at h1
    injection h1 with h1
    injection h1 with _ h1 _
    exact absurd h1 (by decide)
  have b1 : Below W.heap.size W (W.alloc (.cells #[.int .i64 x.seq, .bool x.again, tx x.msg.topic, tx x.msg.body, pv, .bool x.msg.dur, .int .i64 x.msg.til] 43)) := (Below.refl _ W).alloc (Nat.le_refl _) _
  have kx := Blk.new W #[.int .i64 x.seq, .bool x.again, tx x.msg.topic, tx x.msg.body, pv, .bool x.msg.dur, .int .i64 x.msg.til] 43
  have k1' := k1.on b1
  have k2' := k2.on b1
  have hgx : g1 ≠ W.heap.size := fun e => by have := k1.lt; omega
  go_enter Tryz.func62, Tryz.ntmps62
  go_upto_region 1 with fail
  generalize W.alloc (.cells #[.int .i64 x.seq, .bool x.again, tx x.msg.topic, tx x.msg.body, pv, .bool x.msg.dur, .int .i64 x.msg.til] 43) = W1 at *
  obtain ⟨m, hm⟩ : ∃ m, W.heap.size = m := ⟨_, rfl⟩
  have HM : Hid (W.heap.size = m) := hm
  rw [hm] at kx hgx ⊢
  clear hm
  have c0 := kx.cell 0
  have d0 := k1'.cell 0
  simp only [List.getElem?_toArray, List.getElem?_cons_zero] at c0 d0
  go_wp2_with (refine wpl_set rfl (.tmp 1) (.tmp 11) rfl g1 0 _ rfl rfl k1' (by kernel_rfl) rfl rfl (by simp) ?_)
  intro W2 k12 g12 s12
  have k1x : Blk W2 g1 #[.int .i64 x.seq] 3 := k12
  have k2x : Blk W2 g2 #[tx q.name, .bool q.dur, .int .i64 q.depth, .int .i64 q.seq, .int .i64 q.tag, iv, hv'] 25 := k2'.grown g12 (fun e => hne (by injection e with e; exact e.symm))
  have kxx := kx.grown g12 (fun e => hgx (by injection e with e; exact e.symm))
  have b02 : W.grownBy W2 (some g1) := gb_trans (gb_below b1 _) g12
  have hgi := goodItem_any W2 (vars_gb hv b02 hg) q iv hv' x pv (hP W2 b02)
  unfold itmV queV at hgi
  clear hP kx k1 k2 k1' k2' b1 g12 s12 c0 d0 k12
  by_cases hlt : a < x.seq
  · obtain ⟨e0, e1, e2, e3, e4, e5, e6⟩ := k2x.c7
    obtain ⟨f0, f1, f2, f3, f4, f5, f6⟩ := kxx.c7
    go_wp2_with fail
    refine hgi.mono ?_
    rintro e W3 ⟨rfl, b3⟩
    have k13 := k1x.on b3
    have b03 := gb_trans b02 (gb_below b3 _)
    clear e0 e1 e2 e3 e4 e5 e6 f0 f1 f2 f3 f4 f5 f6 k2x kxx k1x b02 hgi
    go_wp2
    go_ret
    exact ⟨ret_b (by simp [hlt]), k13, b03⟩
  · go_wp2
    go_ret
    exact ⟨ret_b (by simp [hlt]), k1x, b02⟩

theorem getD_at {α : Type} {l : List α} {i : Nat} {d : α} (h : i < l.length) : l.getD i d = l[i] := by simp [List.getD, h]
/-- The number ahead of the item at a place. -/
def aheadI (l : List Itm) (i : Nat) : Int := if i = 0 then 0 else (l.getD (i - 1) zeroI).seq
theorem itmsB_iff (s : Int) : ∀ (l : List Itm) (a : Int), itmsB s a l = true ↔ ∀ i (h : i < l.length), (if i = 0 then a else (l.getD (i - 1) zeroI).seq) < l[i].seq ∧ itmB s l[i] = true
  | [], a => by simp [itmsB]
  | x :: l, a => by
    have ih := itmsB_iff s l x.seq
    simp only [itmsB, Bool.and_eq_true, decide_eq_true_eq]
    rw [ih]
    constructor
    · rintro ⟨⟨h1, h2⟩, h3⟩ i hi
      cases i with
      | zero => exact ⟨h1, h2⟩
      | succ i =>
        have := h3 i (by simpa using hi)
        cases i with
        | zero => simpa using this
        | succ i => simpa using this
    · intro h
      refine ⟨h 0 (by simp), fun i hi => ?_⟩
      have := h (i + 1) (by simpa using hi)
      cases i with
      | zero => simpa using this
      | succ i => simpa using this
theorem itmsB_not (q : Que) (n : Nat) (hn : n = q.items.length) : (!itmsB q.seq 0 q.items) = true ↔ ∃ k, k < n ∧ (!(decide (aheadI q.items k < (q.items.getD k zeroI).seq) && itmB q.seq (q.items.getD k zeroI))) = true := by
  subst hn
  have key := itmsB_iff q.seq q.items 0
  rw [Bool.not_eq_true', ← Bool.not_eq_true, key]
  constructor
  · intro hne
    simp only [Classical.not_forall] at hne
    obtain ⟨i, hi1, hi2⟩ := hne
    refine ⟨i, hi1, ?_⟩
    rw [getD_at hi1]
    cases e : (decide (aheadI q.items i < q.items[i].seq) && itmB q.seq q.items[i]) with
    | false => rfl
    | true =>
      simp only [Bool.and_eq_true, decide_eq_true_eq] at e
      exact absurd e hi2
  · rintro ⟨k, hk, hp⟩ hall
    have h1 := hall k hk
    rw [getD_at hk] at hp
    have e : (decide (aheadI q.items k < q.items[k].seq) && itmB q.seq q.items[k]) = true := by
      simp only [Bool.and_eq_true, decide_eq_true_eq]
      exact h1
    rw [e] at hp
    cases hp

set_option maxHeartbeats 1000000 in
theorem goodItems_any (w : World) (hv : To.Vars w) (v : Value) (q : Que) (h : RdQ w v q) (hs : q.items.length ≤ 1000000) :
    Calls Tryz.prog 37 #[v] w fun e w' => e = .returned (.bool (itmsB q.seq 0 q.items)) ∧ Below w.heap.size w w' := by
  obtain ⟨iv, hv', rfl, hi, hh⟩ := h
  obtain ⟨zi, ei, hi⟩ := hi
  obtain ⟨ai, ci, rfl⟩ := hi.len
  have hnz : zi.length = q.items.length := by rw [← ei, List.length_map]
  clear hh
  have hlt1 : 1 < w.heap.size := by
    obtain ⟨m, hm⟩ := hv.max
    exact World.block_lt_of_cell? w _ hm
  have hC : ∀ W2, Blk W2 (w.heap.size + 1) #[.int .i64 0] 3 → Blk W2 w.heap.size (queV q (.slice ai zi.length ci) hv').cells 25 → Below w.heap.size w W2 → Calls Tryz.prog 61 #[.slice ai zi.length ci, .func (.func 62) #[] #[.pointer (some ⟨w.heap.size + 1, 0, none⟩), .pointer (some ⟨w.heap.size, 0, none⟩)]] W2 fun e w' => e = .returned (.bool (!itmsB q.seq 0 q.items)) ∧ Below w.heap.size w w' := fun W2 kA kQ bA => containsI_any w W2 ai zi.length ci zi hi rfl (by omega) 62 #[.pointer (some ⟨w.heap.size + 1, 0, none⟩), .pointer (some ⟨w.heap.size, 0, none⟩)] e62
    (fun i => !(decide (aheadI q.items i < (q.items.getD i zeroI).seq) && itmB q.seq (q.items.getD i zeroI)))
    (fun i W => Blk W (w.heap.size + 1) #[.int .i64 (aheadI q.items i)] 3 ∧ Blk W w.heap.size (queV q (.slice ai zi.length ci) hv').cells 25 ∧ Below w.heap.size w W)
    (fun i W h => h.2.2) ⟨kA, kQ, bA⟩
    (fun i hi' pv W ⟨h1, h2, h3⟩ hp => by
      have hx : q.items.getD i zeroI = (zi[i]).2 := by
        rw [← ei, getD_at (by rw [List.length_map]; exact hi'), List.getElem_map]
      refine (clos62 W (hv.below h3) q _ _ (w.heap.size + 1) w.heap.size _ (zi[i]).2 pv h1 h2 (by omega) (fun W2 hg => ?_)).mono ?_
      · exact hp.on (h3.grown hg h3.size (fun k hk => by injection hk with hk; omega))
      · rintro e W' ⟨rfl, k1, hg⟩
        refine ⟨by simp only [hx], ?_, h2.grown hg (fun e => by injection e with e; omega), h3.grown hg h3.size (fun k hk => by injection hk with hk; omega)⟩
        have e1 : aheadI q.items (i + 1) = (zi[i]).2.seq := by rw [← hx]; simp [aheadI]
        rw [e1]
        exact k1)
    (!itmsB q.seq 0 q.items) (itmsB_not q zi.length hnz)
  obtain ⟨n, hn⟩ : ∃ n, zi.length = n := ⟨_, rfl⟩
  have b2 : Below w.heap.size w ((w.alloc (.cells (queV q (.slice ai zi.length ci) hv').cells 25)).alloc (.cells #[.int .i64 0] 3)) := ((Below.refl _ w).alloc (Nat.le_refl _) _).alloc (by simp) _
  have kq := (Blk.new w (queV q (.slice ai zi.length ci) hv').cells 25).alloc (.cells #[.int .i64 0] 3)
  have ka := Blk.new (w.alloc (.cells (queV q (.slice ai zi.length ci) hv').cells 25)) #[.int .i64 0] 3
  rw [World.size_alloc] at ka
  rw [hn] at hC b2 kq ka ⊢
  clear hi ei hnz hn
  unfold queV at *
  go_enter Tryz.func37, Tryz.ntmps37
  go_wp2_with fail
  refine (hC _ ?_ ?_ ?_).mono ?_
  · exact ka
  · exact kq
  · exact b2
  rintro e w1 ⟨rfl, b1⟩
  clear hC ka kq b2
  go_wp2
  go_ret
  exact ⟨ret_b (by simp), b1⟩
end Go.Proofs.YtlbcefocmdnlgaaGreatDoor
