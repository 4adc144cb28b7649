/- QueueKeeps: frames, and what stands behind the copies. Conditions: those that each row states. -/
import Derived.Test.YtlbcefocmdnlgaaGreatDoorDp
import Derived.Test.YtlbcefocmdnlgaaGreatDoorVt
import Derived.Test.YtlbcefocmdnlgaaGreatDoorVr
namespace Go.Proofs.YtlbcefocmdnlgaaGreatDoor
open Go.RowKit Go.Lib
set_option maxRecDepth 100000
set_option linter.unusedSimpArgs false

theorem wpAnyH_two {P : Program} {md : Region.Mode} {ops : Array Oper} {Q : Exit → Act → World → Prop} {S : World → Prop} {i j : Nat} {o o' : Oper} {fuel : Nat} {listed : Array Bool} {a : Act} {w : World} (hr : Region.ready md ops listed = [i, j]) (ho : ops[i]? = some o) (ho' : ops[j]? = some o') (hw : Region.wanted o (yielded ops a.tmps) = true) (hw' : Region.wanted o' (yielded ops a.tmps) = true)
    (h : ∀ K : Act → World → Prop, (∀ a' w', S w' → wpAnyH P md ops Q S fuel (listed.setIfInBounds i true) a' w' → K a' w') → o.wp P a w K Q)
    (h' : ∀ K : Act → World → Prop, (∀ a' w', S w' → wpAnyH P md ops Q S fuel (listed.setIfInBounds j true) a' w' → K a' w') → o'.wp P a w K Q) : wpAnyH P md ops Q S (fuel + 1) listed a w :=
  wpAnyH_all hr (by simp) (fun k hk => by
    simp only [List.mem_cons, List.not_mem_nil, or_false] at hk
    rcases hk with rfl | rfl
    · unfold wpOp
      simp only [ho]
      rw [if_pos hw]
      exact .inl (h _ (fun _ _ h1 h2 => ⟨h1, h2⟩))
    · unfold wpOp
      simp only [ho']
      rw [if_pos hw']
      exact .inl (h' _ (fun _ _ h1 h2 => ⟨h1, h2⟩)))
theorem wpAnyH_three {P : Program} {md : Region.Mode} {ops : Array Oper} {Q : Exit → Act → World → Prop} {S : World → Prop} {i j l : Nat} {o o' o2 : Oper} {fuel : Nat} {listed : Array Bool} {a : Act} {w : World} (hr : Region.ready md ops listed = [i, j, l]) (ho : ops[i]? = some o) (ho' : ops[j]? = some o') (ho2 : ops[l]? = some o2) (hw : Region.wanted o (yielded ops a.tmps) = true) (hw' : Region.wanted o' (yielded ops a.tmps) = true) (hw2 : Region.wanted o2 (yielded ops a.tmps) = true)
    (h : ∀ K : Act → World → Prop, (∀ a' w', S w' → wpAnyH P md ops Q S fuel (listed.setIfInBounds i true) a' w' → K a' w') → o.wp P a w K Q)
    (h' : ∀ K : Act → World → Prop, (∀ a' w', S w' → wpAnyH P md ops Q S fuel (listed.setIfInBounds j true) a' w' → K a' w') → o'.wp P a w K Q)
    (h2 : ∀ K : Act → World → Prop, (∀ a' w', S w' → wpAnyH P md ops Q S fuel (listed.setIfInBounds l true) a' w' → K a' w') → o2.wp P a w K Q) : wpAnyH P md ops Q S (fuel + 1) listed a w :=
  wpAnyH_all hr (by simp) (fun k hk => by
    simp only [List.mem_cons, List.not_mem_nil, or_false] at hk
    rcases hk with rfl | rfl | rfl
    · unfold wpOp
      simp only [ho]
      rw [if_pos hw]
      exact .inl (h _ (fun _ _ h1 h2 => ⟨h1, h2⟩))
    · unfold wpOp
      simp only [ho']
      rw [if_pos hw']
      exact .inl (h' _ (fun _ _ h1 h2 => ⟨h1, h2⟩))
    · unfold wpOp
      simp only [ho2]
      rw [if_pos hw2]
      exact .inl (h2 _ (fun _ _ h1 h2 => ⟨h1, h2⟩)))
theorem shp_below {B S : Nat} {W W' : World} (h : Below W.heap.size W W') : Shp B S W W' := ⟨fun _ cs _ _ k => ⟨cs, k.on h, rfl⟩, fun _ _ _ _ _ _ k => k.on h⟩
theorem shp_grown {B S g : Nat} {W W' : World} (h : W.grownBy W' (some g)) (hg : g < B ∨ S ≤ g) : Shp B S W W' := ⟨fun g' cs h1 h2 k => ⟨cs, k.grown h (fun e => by injection e with e; omega), rfl⟩, fun g' cs t h1 h2 _ k => k.grown h (fun e => by injection e with e; omega)⟩
theorem shp_rng {B S B' S' : Nat} {W W' : World} (h : Rng B' S' W W') (hd : S ≤ B' ∨ S' ≤ B) : Shp B S W W' := ⟨fun g cs h1 h2 k => ⟨cs, h.blk k (by omega), rfl⟩, fun g cs t h1 h2 _ k => h.blk k (by omega)⟩
theorem Shp.trans {B S : Nat} {a b c : World} (h : Shp B S a b) (k : Shp B S b c) : Shp B S a c := ⟨fun g cs h1 h2 kb => by
    obtain ⟨cs', k1, e1⟩ := h.p g cs h1 h2 kb
    obtain ⟨cs2, k2, e2⟩ := k.p g cs' h1 h2 k1
    exact ⟨cs2, k2, e2.trans e1⟩, fun g cs t h1 h2 ht kb => k.r g cs t h1 h2 ht (h.r g cs t h1 h2 ht kb)⟩
theorem ownsRow_rng {W W' : World} {B S B' e k n : Nat} {v : Value} {xs : List Value} (h : W.ownsRow B' e k v n xs) (hr : Rng B S W W') (hS : S ≤ B') : W'.ownsRow B' e k v n xs := by
  obtain ⟨hl, h1 | ⟨g, cap, cur, hv, hb, hg, h1⟩⟩ := h
  · exact ⟨hl, .inl h1⟩
  · exact ⟨hl, .inr ⟨g, cap, cur, hv, hb, (hr.block g (Array.getElem?_eq_some_iff.1 hg).1 (.inr (by omega))).trans hg, h1⟩⟩
theorem OwnP.rng {W W' : World} {B S B' : Nat} {v : Value} {l : List Pr} (h : OwnP W B' v l) (hr : Rng B S W W') (hS : S ≤ B') : OwnP W' B' v l := ownsRow_rng h hr hS
theorem OwnQ.rng {W W' : World} {B S B' : Nat} {v : Value} {q : Que} (h : OwnQ W B' v q) (hr : Rng B S W W') (hS : S ≤ B') : OwnQ W' B' v q := by
  obtain ⟨iv, hv, rfl, ⟨zi, e1, o1⟩, ⟨zh, e2, o2⟩⟩ := h
  refine ⟨iv, hv, rfl, ⟨zi, e1, ownsRow_rng o1.1 hr hS, fun z hz => ⟨(o1.2 z hz).1, ?_⟩⟩, ⟨zh, e2, ownsRow_rng o2.1 hr hS, fun z hz => ⟨(o2.2 z hz).1, ?_⟩⟩⟩
  · obtain ⟨pv, e, o⟩ := (o1.2 z hz).2
    exact ⟨pv, e, o.rng hr hS⟩
  · obtain ⟨pv, e, o⟩ := (o2.2 z hz).2
    exact ⟨pv, e, o.rng hr hS⟩
/-- A list of properties ahead is written over. -/
theorem OQs.rng54 {W W' : World} {B S B' s : Nat} {v : Value} {q : Que} (h : OQs W B' s v q) (hr : Rng B S W W') (hS : S ≤ s) (hk : ∀ t, t ≠ 54 → Kt t W W') : OQs W' B' s v q := by
  obtain ⟨iv, hv, rfl, ⟨zi, e1, o1⟩, ⟨zh, e2, o2⟩⟩ := h
  refine ⟨iv, hv, rfl, ⟨zi, e1, (o1.keep (hk 43 (by decide))).1, fun z hz => ⟨(o1.2 z hz).1, ?_⟩⟩, ⟨zh, e2, (o2.keep (hk 61 (by decide))).1, fun z hz => ⟨(o2.2 z hz).1, ?_⟩⟩⟩
  · obtain ⟨pv, e, o⟩ := (o1.2 z hz).2
    exact ⟨pv, e, o.rng hr hS⟩
  · obtain ⟨pv, e, o⟩ := (o2.2 z hz).2
    exact ⟨pv, e, o.rng hr hS⟩
theorem alloc28 (w : World) : Blk (w.alloc (.cells #[.string ⟨#[]⟩, .string ⟨#[]⟩, .slice none 0 0, .bool false, .int .i64 0] 28)) w.heap.size #[.string ⟨#[]⟩, .string ⟨#[]⟩, .slice none 0 0, .bool false, .int .i64 0] 28 := Blk.new w #[.string ⟨#[]⟩, .string ⟨#[]⟩, .slice none 0 0, .bool false, .int .i64 0] 28
/-- Behind the copies. -/
structure KpA (w W : World) (q : Que) (l : List Pr) (Q O M X : Array Value) (ga gb bm sm bx sx : Nat) (mv pv : Value) : Prop where
  z : Qx2 w W Q O
  a : Blk W ga M 25
  b : Blk W gb X 28
  oq : OwnQ W bm mv q
  op : OwnP W bx pv l
  sq : SpQ W bm sm mv q
  sp : PvOk W bx sx pv
  ra : (ga < bm ∨ sm ≤ ga) ∧ (ga < bx ∨ sx ≤ ga)
  rb : (gb < bm ∨ sm ≤ gb) ∧ (gb < bx ∨ sx ≤ gb)
  bl : w.heap.size + 1 < bm ∧ w.heap.size + 1 < bx ∧ w.heap.size + 1 < ga ∧ w.heap.size + 1 < gb
  tp : sm ≤ W.heap.size ∧ sx ≤ W.heap.size
  mx : sm ≤ bx
theorem KpA.on {w W W' : World} {q : Que} {l : List Pr} {Q O M X : Array Value} {ga gb bm sm bx sx : Nat} {mv pv : Value} (h : KpA w W q l Q O M X ga gb bm sm bx sx mv pv) (hb : Below W.heap.size W W') : KpA w W' q l Q O M X ga gb bm sm bx sx mv pv :=
  ⟨h.z.on hb, h.a.on hb, h.b.on hb, h.oq.on hb, h.op.keep (.of_below hb), h.sq.shp (shp_below hb), h.sp.shp (shp_below hb).p, h.ra, h.rb, h.bl, ⟨Nat.le_trans h.tp.1 hb.size, Nat.le_trans h.tp.2 hb.size⟩, h.mx⟩
/-- Both boxes are filled. -/
theorem kp_made {w W : World} {q : Que} {l : List Pr} {Q O Y Z : Array Value} {ga gb bm sm bx sx : Nat} {mv pv : Value} (hS : Qx2 w W Q O) (kA : Blk W ga Y 25) (kB : Blk W gb Z 28) (oq : OwnQ W bm mv q) (op : OwnP W bx pv l) (sq : SpQ W bm sm mv q) (sp : PvOk W bx sx pv)
    (ra : (ga < bm ∨ sm ≤ ga) ∧ (ga < bx ∨ sx ≤ ga)) (rb : (gb < bm ∨ sm ≤ gb) ∧ (gb < bx ∨ sx ≤ gb)) (bl : w.heap.size + 1 < bm ∧ w.heap.size + 1 < bx ∧ w.heap.size + 1 < ga ∧ w.heap.size + 1 < gb) (tp : sm ≤ W.heap.size ∧ sx ≤ W.heap.size) (mx : sm ≤ bx) (M X : Array Value) :
    Qx2 w (W.setRow ga M) Q O ∧ Blk (W.setRow ga M) gb Z 28 ∧ Qx2 w ((W.setRow ga M).setRow gb X) Q O ∧ Hid (KpA w ((W.setRow ga M).setRow gb X) q l Q O M X ga gb bm sm bx sx mv pv) := by
  have hne : gb ≠ ga := fun e => by
    have h1 := kA.h
    have h2 := kB.h
    rw [e, h1] at h2
    injection h2 with h2
    injection h2 with _ h2
    exact absurd h2 (by decide)
  have gA := grown_setRow W ga M
  have kA2 := kA.row M
  have kB2 := kB.rowO hne M
  have z2 : Qx2 w (W.setRow ga M) Q O := ⟨hS.q.grown gA (fun e => by injection e with e; omega), hS.o.grown gA (fun e => by injection e with e; omega), hS.l.grown gA hS.l.size (fun k hk => by injection hk with hk; omega)⟩
  have oq2 := oq.keep (kt_grown kA gA (by decide)) (kt_grown kA gA (by decide)) (kt_grown kA gA (by decide))
  have op2 := op.keep (kt_grown kA gA (by decide))
  have sq2 := sq.shp (shp_grown gA ra.1)
  have sp2 := sp.shp (shp_grown gA ra.2).p
  generalize W.setRow ga M = V at *
  have gB := grown_setRow V gb X
  have z3 : Qx2 w (V.setRow gb X) Q O := ⟨z2.q.grown gB (fun e => by injection e with e; omega), z2.o.grown gB (fun e => by injection e with e; omega), z2.l.grown gB z2.l.size (fun k hk => by injection hk with hk; omega)⟩
  exact ⟨z2, kB2, z3, z3, kA2.rowO (Ne.symm hne) X, kB2.row X, oq2.keep (kt_grown kB2 gB (by decide)) (kt_grown kB2 gB (by decide)) (kt_grown kB2 gB (by decide)), op2.keep (kt_grown kB2 gB (by decide)), sq2.shp (shp_grown gB rb.1), sp2.shp (shp_grown gB rb.2).p, ra, rb, bl, ⟨Nat.le_trans tp.1 (Nat.le_trans gA.size gB.size), Nat.le_trans tp.2 (Nat.le_trans gA.size gB.size)⟩, mx⟩
theorem KpA.but {w W W' : World} {q : Que} {l : List Pr} {Q O M X : Array Value} {ga gb bm sm bx sx g : Nat} {mv pv : Value} {cs : Array Value} {t : TypeId} (h : KpA w W q l Q O M X ga gb bm sm bx sx mv pv) (k : Blk W g cs t) (ht : 43 ≠ t ∧ 54 ≠ t ∧ 61 ≠ t) (hg : W.grownBy W' (some g)) (h1 : g < bm ∨ sm ≤ g) (h2 : g < bx ∨ sx ≤ g) (h3 : g ≠ ga) (h4 : g ≠ gb) (h5 : w.heap.size + 1 < g) : KpA w W' q l Q O M X ga gb bm sm bx sx mv pv :=
  ⟨⟨h.z.q.grown hg (fun e => by injection e with e; omega), h.z.o.grown hg (fun e => by injection e with e; omega), h.z.l.grown hg h.z.l.size (fun k hk => by injection hk with hk; omega)⟩, h.a.grown hg (fun e => by injection e with e; omega), h.b.grown hg (fun e => by injection e with e; omega), h.oq.keep (kt_grown k hg ht.1) (kt_grown k hg ht.2.1) (kt_grown k hg ht.2.2), h.op.keep (kt_grown k hg ht.2.1), h.sq.shp (shp_grown hg h1), h.sp.shp (shp_grown hg h2).p, h.ra, h.rb, h.bl, ⟨Nat.le_trans h.tp.1 hg.size, Nat.le_trans h.tp.2 hg.size⟩, h.mx⟩
/-- What a call answered, in its two boxes. -/
structure KpB (W : World) (B g : Nat) (dq : Que) (di : Itm) (bv yp : Value) (A X : Array Value) : Prop where
  ka : Blk W g A 25
  kx : Blk W (g + 1) X 43
  oq : OwnQ W B bv dq
  op : OwnP W B yp di.msg.props
  lt : B ≤ g
theorem KpB.on {W W' : World} {B g : Nat} {dq : Que} {di : Itm} {bv yp : Value} {A X : Array Value} (h : KpB W B g dq di bv yp A X) (hb : Below W.heap.size W W') : KpB W' B g dq di bv yp A X :=
  ⟨h.ka.on hb, h.kx.on hb, h.oq.on hb, h.op.keep (.of_below hb), h.lt⟩
theorem KpB.rng {W W' : World} {B g B' S' : Nat} {dq : Que} {di : Itm} {bv yp : Value} {A X : Array Value} (h : KpB W B g dq di bv yp A X) (hr : Rng B' S' W W') (hS : S' ≤ B) : KpB W' B g dq di bv yp A X := by
  have hl := h.lt
  exact ⟨hr.blk h.ka (.inr (by omega)), hr.blk h.kx (.inr (by omega)), h.oq.rng hr hS, h.op.rng hr hS, h.lt⟩
/-- The first call's answer, told apart. -/
structure KpC (W : World) (B S sp g : Nat) (dq : Que) (av xp : Value) (A X : Array Value) : Prop where
  ka : Blk W g A 25
  kx : Blk W (g + 1) X 43
  oq : OQs W B sp av dq
  px : PvOk W B (min sp S) xp
  sq : SpQ W B S av dq
  lt : B ≤ sp ∧ S ≤ g ∧ B ≤ S
theorem KpC.on {W W' : World} {B S sp g : Nat} {dq : Que} {av xp : Value} {A X : Array Value} (h : KpC W B S sp g dq av xp A X) (hb : Below W.heap.size W W') : KpC W' B S sp g dq av xp A X := by
  refine ⟨h.ka.on hb, h.kx.on hb, ?_, h.px.shp (shp_below hb).p, h.sq.shp (shp_below hb), h.lt⟩
  obtain ⟨iv, hv, e, o1, o2⟩ := h.oq
  exact ⟨iv, hv, e, o1.keep (.of_below hb) (.of_below hb), o2.keep (.of_below hb) (.of_below hb)⟩
/-- One of the first item's properties is written over. -/
structure KpX (B U : Nat) (W W' : World) : Prop where
  r : Rng B U W W'
  t : ∀ t, t ≠ 54 → Kt t W W'
  p : ∀ g cs, Blk W g cs 54 → ∃ cs', Blk W' g cs' 54 ∧ cs'.size = cs.size
theorem KpX.refl (B U : Nat) (W : World) : KpX B U W W := ⟨.refl _ _ _, fun _ _ => .refl _ _, fun _ cs k => ⟨cs, k, rfl⟩⟩
theorem KpX.step {B U g : Nat} {W W1 W2 : World} {cs cs' : Array Value} (h : KpX B U W W1) (k : Blk W1 g cs 54) (k' : Blk W2 g cs' 54) (hc : cs'.size = cs.size) (hg : W1.grownBy W2 (some g)) (h1 : B ≤ g) (h2 : g < U) : KpX B U W W2 := by
  refine ⟨h.r.trans (.of_grown hg h1 h2), fun t ht => (h.t t ht).trans (kt_grown k hg ht), fun g' cs2 k2 => ?_⟩
  obtain ⟨cs3, k3, e3⟩ := h.p g' cs2 k2
  by_cases e : g' = g
  · subst e
    have := k.h
    rw [k3.h] at this
    injection this with this
    injection this with this
    subst this
    exact ⟨cs', k', hc.trans e3⟩
  · exact ⟨cs3, k3.grown hg (fun e2 => e (by injection e2)), e3⟩
theorem KpC.wrote {W W' : World} {B S sp g : Nat} {dq : Que} {av xp : Value} {A X : Array Value} (h : KpC W B S sp g dq av xp A X) (k : KpX B (min sp S) W W') : KpC W' B S sp g dq av xp A X :=
  ⟨h.ka.kt (k.t 25 (by decide)), h.kx.kt (k.t 43 (by decide)), h.oq.rng54 k.r (Nat.min_le_left _ _) k.t, h.px.shp (fun g cs _ _ kb => k.p g cs kb), h.sq.shp ⟨fun g cs _ _ kb => k.p g cs kb, fun g cs t _ _ ht kb => kb.kt (k.t t ht)⟩, h.lt⟩
/-- What is still wanted of the copies. -/
structure KpE (w W : World) (q : Que) (Q O M X : Array Value) (ga gb bm sm bx sx : Nat) (mv pv : Value) : Prop where
  z : Qx2 w W Q O
  a : Blk W ga M 25
  b : Blk W gb X 28
  sq : SpQ W bm sm mv q
  sp : PvOk W bx sx pv
theorem KpE.on {w W W' : World} {q : Que} {Q O M X : Array Value} {ga gb bm sm bx sx : Nat} {mv pv : Value} (h : KpE w W q Q O M X ga gb bm sm bx sx mv pv) (hb : Below W.heap.size W W') : KpE w W' q Q O M X ga gb bm sm bx sx mv pv :=
  ⟨h.z.on hb, h.a.on hb, h.b.on hb, h.sq.shp (shp_below hb), h.sp.shp (shp_below hb).p⟩
theorem KpE.rng {w W W' : World} {q : Que} {Q O M X : Array Value} {ga gb bm sm bx sx B S : Nat} {mv pv : Value} (h : KpE w W q Q O M X ga gb bm sm bx sx mv pv) (hr : Rng B S W W') (h1 : sm ≤ B) (h2 : sx ≤ B) (h3 : ga < B) (h4 : gb < B) (h5 : w.heap.size + 1 < B) : KpE w W' q Q O M X ga gb bm sm bx sx mv pv :=
  ⟨⟨hr.blk h.z.q (.inl (by omega)), hr.blk h.z.o (.inl (by omega)), hr.below h.z.l (by omega) h.z.l.size⟩, hr.blk h.a (.inl h3), hr.blk h.b (.inl h4), h.sq.shp (shp_rng hr (.inl h1)), h.sp.shp (shp_rng hr (.inl h2)).p⟩

end Go.Proofs.YtlbcefocmdnlgaaGreatDoor
