/- A turn in memory: the core under way and what was handed out; the frames of what is done to it. -/
import Derived.Test.YtnpikgakpmkipabGreatDoorZ04
import Derived.Test.YtnpikgakpmkipabGreatDoorZ18
import Derived.Test.YtnpikgakpmkipabGreatDoorZ15
import Derived.Test.YtnpikgakpmkipabGreatDoorZ10
namespace Go.Proofs.YtnpikgakpmkipabGreatDoor
open Go.RowKit Go.Lib
set_option maxRecDepth 100000
set_option linter.unusedVariables false
set_option linter.unusedSimpArgs false
structure KX (e : TypeId) (w w' : World) : Prop where
 kt : ∀ t, t ≠ e → Kt t w w'
 size : w.heap.size ≤ w'.heap.size
theorem KX.of_below {e : TypeId} {w w' : World} (h : Bw w w') : KX e w w' := ⟨fun t _ => .of_below h, h.size⟩
theorem KX.of_grown {e : TypeId} {w w' : World} {B k n : Nat} {v : Value} {xs : List Value} (h : w.ownsRow B e k v n xs) (hg : w.grownBy w' v.ownBlock) : KX e w w' := ⟨fun t ht => .of_grown h hg ht, hg.size⟩
theorem KX.cell {w : World} {g j : Nat} {cs : Array Value} {e : TypeId} (h : Blk w g cs e) (u : Value) : KX e w (w.setCell ⟨g, j, none⟩ u) := ⟨fun t ht => kt_setCell h ht u, by simp⟩
theorem KX.put {w w' : World} {g : Nat} {cs : Array Value} {e : TypeId} (h : Blk w g cs e) (hg : w.grownBy w' (some g)) : KX e w w' := ⟨fun t ht => kt_grown h hg ht, hg.size⟩
theorem KX.drew {e : TypeId} {w : World} : KX e w w.drew := ⟨fun t _ k cur h => rfl, Nat.le_refl _⟩
def otV (x : Ot) (pv : Value) : List Value := [.int .i64 x.conn, .int .i64 x.sub, .int .i64 x.tag, tx x.queue, .bool x.again, .bool x.kept, tx x.msg.topic, tx x.msg.body, pv, .bool x.msg.dur, .int .i64 x.msg.til]
def OtR (p : Value → List Pr → Prop) (vs : List Value) (x : Ot) : Prop := ∃ pv, vs = otV x pv ∧ p pv x.msg.props
def OOc (w : World) (B : Nat) (v : Value) (l : List Ot) : Prop := OwnL 61 11 (OtR (OwnP w B)) w B v l
theorem OQc.kx {e : TypeId} {w w' : World} {B : Nat} {v : Value} {l : List Que} (h : OQc w B v l) (k : KX e w w') (he : (82 ≠ e ∧ 131 ≠ e) ∧ (133 ≠ e ∧ 66 ≠ e)) : OQc w' B v l := by
 obtain ⟨zs, h1, h2⟩ := h
 exact ⟨zs, h1, (h2.keep (k.kt _ he.1.1)).imp fun ys x h => OwnQ.keep h (k.kt _ he.1.2) (k.kt _ he.2.1) (k.kt _ he.2.2)⟩
theorem OBc.kx {e : TypeId} {w w' : World} {B : Nat} {v : Value} {l : List Bnd} (h : OBc w B v l) (k : KX e w w') (he : 43 ≠ e) : OBc w' B v l := by
 obtain ⟨zs, h1, h2⟩ := h
 exact ⟨zs, h1, h2.keep (k.kt _ he)⟩
theorem OSc.kx {e : TypeId} {w w' : World} {B : Nat} {v : Value} {l : List Sbs} (h : OSc w B v l) (k : KX e w w') (he : 85 ≠ e) : OSc w' B v l := by
 obtain ⟨zs, h1, h2⟩ := h
 exact ⟨zs, h1, h2.keep (k.kt _ he)⟩
theorem OKc.kx {e : TypeId} {w w' : World} {B : Nat} {v : Value} {l : List Msg} (h : OKc w B v l) (k : KX e w w') (he : 33 ≠ e ∧ 66 ≠ e) : OKc w' B v l := by
 obtain ⟨zs, h1, h2⟩ := h
 refine ⟨zs, h1, (h2.keep (k.kt _ he.1)).imp ?_⟩
 rintro ys x ⟨pv, h3, h4⟩
 exact ⟨pv, h3, h4.keep (k.kt _ he.2)⟩
def OCw (w : World) (B : Nat) (v : Value) (l : List Cli) : Prop := OwnL 88 2 (ClR (OwnNu w B)) w B v l
theorem OCw.kx {e : TypeId} {w w' : World} {B : Nat} {v : Value} {l : List Cli} (h : OCw w B v l) (k : KX e w w') (he : 88 ≠ e ∧ 3 ≠ e) : OCw w' B v l := by
 obtain ⟨zs, h1, h2⟩ := h
 refine ⟨zs, h1, (h2.keep (k.kt _ he.1)).imp ?_⟩
 rintro ys x ⟨pv, h3, h4⟩
 exact ⟨pv, h3, h4.keep (k.kt _ he.2)⟩
theorem OOc.kx {e : TypeId} {w w' : World} {B : Nat} {v : Value} {l : List Ot} (h : OOc w B v l) (k : KX e w w') (he : 61 ≠ e ∧ 66 ≠ e) : OOc w' B v l := by
 obtain ⟨zs, h1, h2⟩ := h
 refine ⟨zs, h1, (h2.keep (k.kt _ he.1)).imp ?_⟩
 rintro ys x ⟨pv, h3, h4⟩
 exact ⟨pv, h3, h4.keep (k.kt _ he.2)⟩
def tyT (t : TypeId) : Bool := t == 77 || t == 82 || t == 43 || t == 85 || t == 33 || t == 88 || t == 61 || t == 3
structure FrT (B : Nat) (w w' : World) : Prop where
 below : Below B w w'
 kt : ∀ t, tyT t = false → Kt t w w'
theorem FrT.refl (B : Nat) (w : World) : FrT B w w := ⟨.refl _ _, fun t _ => .refl t w⟩
theorem FrT.trans {B : Nat} {a b c : World} (h : FrT B a b) (h' : FrT B b c) : FrT B a c := ⟨h.below.trans h'.below, fun t ht => (h.kt t ht).trans (h'.kt t ht)⟩
theorem FrT.of_below {B : Nat} {w w' : World} (h : Bw w w') (hB : B ≤ w.heap.size) : FrT B w w' := ⟨h.mono hB, fun t _ => .of_below h⟩
theorem below_grown {B : Nat} {w w' : World} {row : Option Nat} (hg : w.grownBy w' row) (h : ∀ g, row = some g → B ≤ g) (hB : B ≤ w.heap.size) : Below B w w' := ⟨hg.os, hg.tape, hg.output, hg.size, fun k hk => hg.block k (Nat.lt_of_lt_of_le hk hB) (fun e => by have := h k e.symm; omega)⟩
theorem FrT.of_grown {B : Nat} {w w' : World} {e k n : Nat} {v : Value} {xs : List Value} (h : w.ownsRow B e k v n xs) (hg : w.grownBy w' v.ownBlock) (he : tyT e = true) (hB : B ≤ w.heap.size) : FrT B w w' :=
 ⟨below_grown hg (fun g e => (World.ownsRow.lt h g e).1) hB, fun t ht => .of_grown h hg (fun e => by rw [e, he] at ht; cases ht)⟩
theorem FrT.cell {B : Nat} {w : World} {g j : Nat} {cs : Array Value} (h : Blk w g cs 77) (hB : B ≤ g) (u : Value) : FrT B w (w.setCell ⟨g, j, none⟩ u) :=
 ⟨(Below.refl B w).setCell (p := ⟨g, j, none⟩) hB u, fun t ht => kt_setCell h (fun e => by rw [e] at ht; cases ht) u⟩
theorem FrT.drew {B : Nat} {w w' : World} (h : FrT B w w') : FrT B w w'.drew := ⟨h.below.drew, h.kt⟩
structure Tv (w : World) (B g : Nat) (c : Cor) (os : List Ot) (qv bv sv kv cv ov : Value) : Prop where
 blk : Blk w g #[.int .i64 c.now, qv, bv, sv, kv, cv, ov] 77
 low : B ≤ g
 q : OQc w B qv c.queues
 b : OBc w B bv c.binds
 s : OSc w B sv c.subs
 k : OKc w B kv c.kept
 c : OCw w B cv c.clients
 o : OOc w B ov os
theorem Tv.lt {w : World} {B g : Nat} {c : Cor} {os : List Ot} {qv bv sv kv cv ov : Value} (h : Tv w B g c os qv bv sv kv cv ov) : B ≤ w.heap.size := Nat.le_trans h.low (Nat.le_of_lt h.blk.lt)
theorem Tv.kx {e : TypeId} {w w' : World} {B g : Nat} {c : Cor} {os : List Ot} {qv bv sv kv cv ov : Value} (h : Tv w B g c os qv bv sv kv cv ov) (k : KX e w w') (he : (tyT e = false ∧ 131 ≠ e) ∧ (133 ≠ e ∧ 66 ≠ e)) : Tv w' B g c os qv bv sv kv cv ov := by
 have hne : ∀ t, tyT t = true → t ≠ e := fun t ht e1 => by rw [e1, he.1.1] at ht; cases ht
 exact ⟨h.blk.kt (k.kt _ (hne _ rfl)), h.low, h.q.kx k ⟨⟨hne _ rfl, he.1.2⟩, he.2⟩, h.b.kx k (hne _ rfl), h.s.kx k (hne _ rfl), h.k.kx k ⟨hne _ rfl, he.2.2⟩, h.c.kx k ⟨hne _ rfl, hne _ rfl⟩, h.o.kx k ⟨hne _ rfl, he.2.2⟩⟩
theorem Tv.on {w w' : World} {B g : Nat} {c : Cor} {os : List Ot} {qv bv sv kv cv ov : Value} (h : Tv w B g c os qv bv sv kv cv ov) (hb : Bw w w') : Tv w' B g c os qv bv sv kv cv ov := h.kx (e := 0) (.of_below hb) (by decide)
theorem Tv.drew {w : World} {B g : Nat} {c : Cor} {os : List Ot} {qv bv sv kv cv ov : Value} (h : Tv w B g c os qv bv sv kv cv ov) : Tv w.drew B g c os qv bv sv kv cv ov := h.kx (e := 0) .drew (by decide)
def T (w : World) (B g : Nat) (c : Cor) (os : List Ot) : Prop := ∃ qv bv sv kv cv ov, Tv w B g c os qv bv sv kv cv ov
theorem T.on {w w' : World} {B g : Nat} {c : Cor} {os : List Ot} (h : T w B g c os) (hb : Bw w w') : T w' B g c os := by
 obtain ⟨qv, bv, sv, kv, cv, ov, h⟩ := h
 exact ⟨qv, bv, sv, kv, cv, ov, h.on hb⟩
theorem Tv.row_q {w w' : World} {B g : Nat} {c : Cor} {os : List Ot} {qv bv sv kv cv ov v' : Value} {l : List Que} (h : Tv w B g c os qv bv sv kv cv ov) (hg : w.grownBy w' qv.ownBlock) (hq : OQc w' B v' l) :
  Tv (w'.setCell ⟨g, 1, none⟩ v') B g { c with queues := l } os v' bv sv kv cv ov ∧ FrT B w (w'.setCell ⟨g, 1, none⟩ v') ∧ Blk w' g #[.int .i64 c.now, qv, bv, sv, kv, cv, ov] 77 := by
 obtain ⟨zs, _, hz⟩ := h.q
 have k : KX 82 w w' := .of_grown hz.1 hg
 have kb := h.blk.kt (k.kt 77 (by decide))
 have k2 : KX 77 w' (w'.setCell ⟨g, 1, none⟩ v') := .cell kb v'
 refine ⟨⟨by simpa using kb.set 1 v', h.low, hq.kx k2 (by decide), (h.b.kx k (by decide)).kx k2 (by decide), (h.s.kx k (by decide)).kx k2 (by decide), (h.k.kx k (by decide)).kx k2 (by decide), (h.c.kx k (by decide)).kx k2 (by decide), (h.o.kx k (by decide)).kx k2 (by decide)⟩, (FrT.of_grown hz.1 hg rfl h.lt).trans (.cell kb h.low v'), kb⟩
theorem Tv.row_b {w w' : World} {B g : Nat} {c : Cor} {os : List Ot} {qv bv sv kv cv ov v' : Value} {l : List Bnd} (h : Tv w B g c os qv bv sv kv cv ov) (hg : w.grownBy w' bv.ownBlock) (hq : OBc w' B v' l) :
  Tv (w'.setCell ⟨g, 2, none⟩ v') B g { c with binds := l } os qv v' sv kv cv ov ∧ FrT B w (w'.setCell ⟨g, 2, none⟩ v') ∧ Blk w' g #[.int .i64 c.now, qv, bv, sv, kv, cv, ov] 77 := by
 obtain ⟨zs, _, hz⟩ := h.b
 have k : KX 43 w w' := .of_grown hz.1 hg
 have kb := h.blk.kt (k.kt 77 (by decide))
 have k2 : KX 77 w' (w'.setCell ⟨g, 2, none⟩ v') := .cell kb v'
 refine ⟨⟨by simpa using kb.set 2 v', h.low, (h.q.kx k (by decide)).kx k2 (by decide), hq.kx k2 (by decide), (h.s.kx k (by decide)).kx k2 (by decide), (h.k.kx k (by decide)).kx k2 (by decide), (h.c.kx k (by decide)).kx k2 (by decide), (h.o.kx k (by decide)).kx k2 (by decide)⟩, (FrT.of_grown hz.1 hg rfl h.lt).trans (.cell kb h.low v'), kb⟩
theorem Tv.row_s {w w' : World} {B g : Nat} {c : Cor} {os : List Ot} {qv bv sv kv cv ov v' : Value} {l : List Sbs} (h : Tv w B g c os qv bv sv kv cv ov) (hg : w.grownBy w' sv.ownBlock) (hq : OSc w' B v' l) :
  Tv (w'.setCell ⟨g, 3, none⟩ v') B g { c with subs := l } os qv bv v' kv cv ov ∧ FrT B w (w'.setCell ⟨g, 3, none⟩ v') ∧ Blk w' g #[.int .i64 c.now, qv, bv, sv, kv, cv, ov] 77 := by
 obtain ⟨zs, _, hz⟩ := h.s
 have k : KX 85 w w' := .of_grown hz.1 hg
 have kb := h.blk.kt (k.kt 77 (by decide))
 have k2 : KX 77 w' (w'.setCell ⟨g, 3, none⟩ v') := .cell kb v'
 refine ⟨⟨by simpa using kb.set 3 v', h.low, (h.q.kx k (by decide)).kx k2 (by decide), (h.b.kx k (by decide)).kx k2 (by decide), hq.kx k2 (by decide), (h.k.kx k (by decide)).kx k2 (by decide), (h.c.kx k (by decide)).kx k2 (by decide), (h.o.kx k (by decide)).kx k2 (by decide)⟩, (FrT.of_grown hz.1 hg rfl h.lt).trans (.cell kb h.low v'), kb⟩
theorem Tv.row_k {w w' : World} {B g : Nat} {c : Cor} {os : List Ot} {qv bv sv kv cv ov v' : Value} {l : List Msg} (h : Tv w B g c os qv bv sv kv cv ov) (hg : w.grownBy w' kv.ownBlock) (hq : OKc w' B v' l) :
  Tv (w'.setCell ⟨g, 4, none⟩ v') B g { c with kept := l } os qv bv sv v' cv ov ∧ FrT B w (w'.setCell ⟨g, 4, none⟩ v') ∧ Blk w' g #[.int .i64 c.now, qv, bv, sv, kv, cv, ov] 77 := by
 obtain ⟨zs, _, hz⟩ := h.k
 have k : KX 33 w w' := .of_grown hz.1 hg
 have kb := h.blk.kt (k.kt 77 (by decide))
 have k2 : KX 77 w' (w'.setCell ⟨g, 4, none⟩ v') := .cell kb v'
 refine ⟨⟨by simpa using kb.set 4 v', h.low, (h.q.kx k (by decide)).kx k2 (by decide), (h.b.kx k (by decide)).kx k2 (by decide), (h.s.kx k (by decide)).kx k2 (by decide), hq.kx k2 (by decide), (h.c.kx k (by decide)).kx k2 (by decide), (h.o.kx k (by decide)).kx k2 (by decide)⟩, (FrT.of_grown hz.1 hg rfl h.lt).trans (.cell kb h.low v'), kb⟩
theorem Tv.row_c {w w' : World} {B g : Nat} {c : Cor} {os : List Ot} {qv bv sv kv cv ov v' : Value} {l : List Cli} (h : Tv w B g c os qv bv sv kv cv ov) (hg : w.grownBy w' cv.ownBlock) (hq : OCw w' B v' l) :
  Tv (w'.setCell ⟨g, 5, none⟩ v') B g { c with clients := l } os qv bv sv kv v' ov ∧ FrT B w (w'.setCell ⟨g, 5, none⟩ v') ∧ Blk w' g #[.int .i64 c.now, qv, bv, sv, kv, cv, ov] 77 := by
 obtain ⟨zs, _, hz⟩ := h.c
 have k : KX 88 w w' := .of_grown hz.1 hg
 have kb := h.blk.kt (k.kt 77 (by decide))
 have k2 : KX 77 w' (w'.setCell ⟨g, 5, none⟩ v') := .cell kb v'
 refine ⟨⟨by simpa using kb.set 5 v', h.low, (h.q.kx k (by decide)).kx k2 (by decide), (h.b.kx k (by decide)).kx k2 (by decide), (h.s.kx k (by decide)).kx k2 (by decide), (h.k.kx k (by decide)).kx k2 (by decide), hq.kx k2 (by decide), (h.o.kx k (by decide)).kx k2 (by decide)⟩, (FrT.of_grown hz.1 hg rfl h.lt).trans (.cell kb h.low v'), kb⟩
theorem Tv.row_o {w w' : World} {B g : Nat} {c : Cor} {os : List Ot} {qv bv sv kv cv ov v' : Value} {l : List Ot} (h : Tv w B g c os qv bv sv kv cv ov) (hg : w.grownBy w' ov.ownBlock) (hq : OOc w' B v' l) :
  Tv (w'.setCell ⟨g, 6, none⟩ v') B g c l qv bv sv kv cv v' ∧ FrT B w (w'.setCell ⟨g, 6, none⟩ v') ∧ Blk w' g #[.int .i64 c.now, qv, bv, sv, kv, cv, ov] 77 := by
 obtain ⟨zs, _, hz⟩ := h.o
 have k : KX 61 w w' := .of_grown hz.1 hg
 have kb := h.blk.kt (k.kt 77 (by decide))
 have k2 : KX 77 w' (w'.setCell ⟨g, 6, none⟩ v') := .cell kb v'
 refine ⟨⟨by simpa using kb.set 6 v', h.low, (h.q.kx k (by decide)).kx k2 (by decide), (h.b.kx k (by decide)).kx k2 (by decide), (h.s.kx k (by decide)).kx k2 (by decide), (h.k.kx k (by decide)).kx k2 (by decide), (h.c.kx k (by decide)).kx k2 (by decide), hq.kx k2 (by decide)⟩, (FrT.of_grown hz.1 hg rfl h.lt).trans (.cell kb h.low v'), kb⟩
def Led (w : World) (B g : Nat) (os : List Ot) (res : Except Int (Cor × List Ot)) (e : Ending) (w' : World) : Prop :=
 (∃ r, res = .ok r ∧ e = .returned (.tuple #[]) ∧ T w' B g r.1 (os ++ r.2) ∧ FrT B w w') ∨ (∃ n, res = .error n ∧ e = .panicked (gup n) ∧ FrT B w w')
theorem led_ok {w w' : World} {B g : Nat} {os : List Ot} {res : Except Int Cor} {c : Cor} (h : res = .ok c) (ht : T w' B g c os) (hf : FrT B w w') : Led w B g os (noO res) (.returned (.tuple #[])) w' := .inl ⟨(c, []), by rw [h]; rfl, rfl, by simpa using ht, hf⟩
theorem led_no {w w' : World} {B g : Nat} {os : List Ot} {res : Except Int Cor} {n : Int} (h : res = .error n) (hf : FrT B w w') : Led w B g os (noO res) (.panicked (gup n)) w' := .inr ⟨n, by rw [h]; rfl, rfl, hf⟩
theorem take_name (q : Que) (conn sub : Int) (hold : Bool) : (takeQ q conn sub hold).name = q.name := by cases hold <;> rfl
theorem handQ_ok {q : Que} {conn sub : Int} {hold : Bool} {r : Que × Ot} (h : handQ q conn sub hold = .ok r) : takeC q conn sub = 0 ∧ r.1 = takeQ q conn sub hold := by
 unfold handQ at h
 rw [sureE_ok] at h
 exact ⟨h.1, by rw [← h.2]⟩
theorem relC_ok {q : Que} (h : goodQ q = true) : relC q = 0 := by simp [relC, h]
theorem GoodC.named {c : Cor} (h : GoodC c) {n : List UInt8} {q : Que} (hq : namedC c n = .ok q) {q' : Que} (hn : q'.name = q.name) (hg : goodQ q' = true) : GoodC (setQ c q') := by
 obtain ⟨h1, h2⟩ := namedC_ok hq
 exact h.atQ (by rw [hn]; exact List.mem_map_of_mem h1) hg
theorem good_declare {c c' : Cor} {o : Opr} (h : GoodC c) (hd : declareC c o = .ok c') : GoodC c' := by
 unfold declareC at hd
 split at hd
 ·rw [ins_ok] at hd
  have := hd.2
  injection this with e
  rw [← e]
  exact h
 ·rename_i hn
  obtain ⟨q, h1, h2⟩ := bnd_ok.1 hd
  obtain ⟨l, h3, h4⟩ := bnd_ok.1 h2
  injection h4 with h4
  obtain ⟨h5, rfl⟩ := sureE_ok.1 h1
  obtain ⟨h6, rfl⟩ := enE_ok h3
  subst h4
  have hm : ∀ n, hasNm c.queues n = true → hasNm (enL oQ (newQ o.queue o.dur o.n) c.queues) n = true := fun n hn' => by
   rw [hasNm_iff] at hn' ⊢
   obtain ⟨q, hq, e⟩ := List.mem_map.1 hn'
   refine List.mem_map.2 ⟨q, mem_enL.2 (.inr ⟨hq, fun e2 => ?_⟩), e⟩
   have e3 : q.name = o.queue := oQ_zero.1 e2
   have := List.find?_eq_none.1 hn q hq
   simp [e3] at this
  refine ⟨h.now, en_len linQ h.qi h.ql h6, fun q hq => ?_, inc_enL linQ h.qi, h.bl, fun b hb => ?_, h.bi, h.sl, fun s hs => ?_, h.si, h.kl, h.kg, h.ki, h.cl, h.cg, h.ci⟩
  ·rcases mem_enL.1 hq with rfl | ⟨hq, _⟩
   ·exact zero_good h5
   ·exact h.qg q hq
  ·have := h.bg b hb
   simp only [bndB, Bool.and_eq_true] at this ⊢
   exact ⟨hm _ this.1, this.2⟩
  ·have := h.sg s hs
   simp only [sbsB, Bool.and_eq_true] at this ⊢
   exact ⟨⟨this.1.1, hm _ this.1.2⟩, this.2⟩
theorem good_remove {c c' : Cor} {o : Opr} (h : GoodC c) (hd : removeC c o = .ok c') : GoodC c' := by
 unfold removeC at hd
 rw [ins_ok] at hd
 have e := hd.2
 injection e with e
 subst e
 have hm : ∀ n, n ≠ o.queue → hasNm c.queues n = true → hasNm (leL oQ (newQ o.queue false 0) c.queues) n = true := fun n hne hn' => by
  rw [hasNm_iff] at hn' ⊢
  obtain ⟨q, hq, e⟩ := List.mem_map.1 hn'
  refine List.mem_map.2 ⟨q, mem_leL.2 ⟨hq, fun e2 => hne ?_⟩, e⟩
  rw [← e]
  exact oQ_zero.1 e2
 refine ⟨h.now, len_le _ _ h.ql, fun q hq => h.qg q (mem_leL.1 hq).1, inc_leL h.qi, len_le _ _ h.bl, fun b hb => ?_, h.bi.sublist List.filter_sublist, len_le _ _ h.sl, fun s hs => ?_, h.si.sublist List.filter_sublist, h.kl, h.kg, h.ki, h.cl, h.cg, h.ci⟩
 ·obtain ⟨h1, h2⟩ := List.mem_filter.1 hb
  have := h.bg b h1
  simp only [bndB, Bool.and_eq_true] at this ⊢
  exact ⟨hm _ (by simpa using h2) this.1, this.2⟩
 ·obtain ⟨h1, h2⟩ := List.mem_filter.1 hs
  have := h.sg s h1
  simp only [sbsB, Bool.and_eq_true] at this ⊢
  exact ⟨⟨this.1.1, hm _ (by simpa using h2) this.1.2⟩, this.2⟩
theorem good_bind {c c' : Cor} {os : List Ot} {o : Opr} (h : GoodC c) (hd : bindC c o = .ok (c', os)) : GoodC c' := by
 unfold bindC at hd
 rw [ins_ok, ins_ok] at hd
 obtain ⟨h1, h2, h3⟩ := hd
 obtain ⟨l, h4, h5⟩ := bnd_ok.1 h3
 obtain ⟨h6, rfl⟩ := enE_ok h4
 have e : c' = { c with binds := enL oB ⟨o.queue, o.text⟩ c.binds } := by
  split at h5
  ·rw [ins_ok] at h5
   have := h5.2
   injection this with this
   injection this with this
   exact this.symm
  ·injection h5 with this
   injection this with this
   exact this.symm
 subst e
 refine ⟨h.now, h.ql, h.qg, h.qi, en_len linB h.bi h.bl h6, fun b hb => ?_, inc_enL linB h.bi, h.sl, h.sg, h.si, h.kl, h.kg, h.ki, h.cl, h.cg, h.ci⟩
 rcases mem_enL.1 hb with rfl | ⟨hb, _⟩
 ·simp [bndB, h1, h2]
 ·exact h.bg b hb
theorem good_unbind {c c' : Cor} {o : Opr} (h : GoodC c) (hd : unbindC c o = .ok c') : GoodC c' := by
 unfold unbindC at hd
 rw [ins_ok] at hd
 have e := hd.2
 injection e with e
 subst e
 exact ⟨h.now, h.ql, h.qg, h.qi, len_le _ _ h.bl, fun b hb => h.bg b (mem_leL.1 hb).1, inc_leL h.bi, h.sl, h.sg, h.si, h.kl, h.kg, h.ki, h.cl, h.cg, h.ci⟩
theorem GoodC.clients {c : Cor} (h : GoodC c) {l : List Cli} (h1 : (l.length : Int) ≤ 16) (h2 : ∀ m ∈ l, cliB m = true) (h3 : Inc oC l) : GoodC { c with clients := l } := ⟨h.now, h.ql, h.qg, h.qi, h.bl, h.bg, h.bi, h.sl, h.sg, h.si, h.kl, h.kg, h.ki, h1, h2, h3⟩
theorem GoodC.keepL {c : Cor} (h : GoodC c) {l : List Msg} (h1 : (l.length : Int) ≤ 16) (h2 : ∀ m ∈ l, kepB m = true) (h3 : Inc oM l) : GoodC { c with kept := l } := ⟨h.now, h.ql, h.qg, h.qi, h.bl, h.bg, h.bi, h.sl, h.sg, h.si, h1, h2, h3, h.cl, h.cg, h.ci⟩
theorem GoodC.subsL {c : Cor} (h : GoodC c) {l : List Sbs} (h1 : (l.length : Int) ≤ 32) (h2 : ∀ m ∈ l, sbsB c.queues m = true) (h3 : Inc oS l) : GoodC { c with subs := l } := ⟨h.now, h.ql, h.qg, h.qi, h.bl, h.bg, h.bi, h1, h2, h3, h.kl, h.kg, h.ki, h.cl, h.cg, h.ci⟩
theorem cliP_of {c : Cor} {n : List UInt8} : cliP c n = [] ∨ ∃ k ∈ c.clients, k.name = n ∧ cliP c n = k.packets := by
 unfold cliP
 cases e : c.clients.find? (fun k => decide (k.name = n)) with
 | none => exact .inl rfl
 | some k => exact .inr ⟨k, List.mem_of_find?_eq_some e, by have := List.find?_some e; simpa using this, rfl⟩
theorem cliB_parts {k : Cli} : cliB k = true ↔ nameL k.name = true ∧ 0 < k.packets.length ∧ ((k.packets.length : Int) ≤ 32 ∧ (∀ p ∈ k.packets, pktB p = true) ∧ Inc cmpZ k.packets) := by
 simp only [cliB, canL, Bool.and_eq_true, decide_eq_true_eq, List.all_eq_true, risB_inc linZ]
 exact ⟨fun ⟨⟨h1, h2⟩, ⟨h3, h4⟩, h5⟩ => ⟨h1, h2, h3, h4, h5⟩, fun ⟨h1, h2, h3, h4, h5⟩ => ⟨⟨h1, h2⟩, ⟨h3, h4⟩, h5⟩⟩
theorem cliP_good {c : Cor} (h : GoodC c) (n : List UInt8) : ((cliP c n).length : Int) ≤ 32 ∧ (∀ p ∈ cliP c n, pktB p = true) ∧ Inc cmpZ (cliP c n) := by
 rcases cliP_of (c := c) (n := n) with e | ⟨k, hk, _, e⟩
 ·rw [e]
  exact ⟨by simp, fun p hp => (by cases hp), List.Pairwise.nil⟩
 ·rw [e]
  exact (cliB_parts.1 (h.cg k hk)).2.2
theorem good_new {c c' : Cor} {n : List UInt8} {pk : Int} {b : Bool} (h : GoodC c) (hd : isNewC c n pk = .ok (b, c')) : GoodC c' ∧ c'.queues = c.queues ∧ c'.binds = c.binds ∧ c'.now = c.now := by
 unfold isNewC at hd
 rw [ins_ok, ins_ok] at hd
 obtain ⟨h1, h2, h3⟩ := hd
 split at h3
 ·injection h3 with h3
  injection h3 with _ h3
  subst h3
  exact ⟨h, rfl, rfl, rfl⟩
 ·obtain ⟨ps, h4, h5⟩ := bnd_ok.1 h3
  obtain ⟨l, h6, h7⟩ := bnd_ok.1 h5
  injection h7 with h7
  injection h7 with _ h7
  obtain ⟨h8, rfl⟩ := enE_ok h4
  obtain ⟨h9, rfl⟩ := enE_ok h6
  subst h7
  obtain ⟨p1, p2, p3⟩ := cliP_good h n
  refine ⟨h.clients (en_len linC h.ci h.cl h9) (fun m hm => ?_) (inc_enL linC h.ci), rfl, rfl, rfl⟩
  rcases mem_enL.1 hm with rfl | ⟨hm, _⟩
  ·refine cliB_parts.2 ⟨h1, ?_, en_len linZ p3 p1 h8, fun p hp => ?_, inc_enL linZ p3⟩
   ·show 0 < (enL cmpZ pk (cliP c n)).length
    simp [enL]
    omega
   ·rcases mem_enL.1 hp with rfl | ⟨hp, _⟩
    ·exact h2
    ·exact p2 p hp
  ·exact h.cg m hm
theorem push_name {p : Que → Bool} {m : Msg} {q q' : Que} (h : pushE p m q = .ok q') : q'.name = q.name := by
 unfold pushE at h
 split at h
 ·rw [← (sureE_ok.1 h).2]
  rfl
 ·injection h with h
  rw [h]
theorem good_pushAll {c c' : Cor} {p : Que → Bool} {m : Msg} (h : GoodC c) (hd : pushAll c p m = .ok c') : GoodC c' ∧ c'.kept = c.kept := by
 unfold pushAll at hd
 split at hd
 ·injection hd with hd
  subst hd
  exact ⟨h, rfl⟩
 ·obtain ⟨l, h1, h2⟩ := bnd_ok.1 hd
  injection h2 with h2
  subst h2
  obtain ⟨h3, h4⟩ := mapE_ok h1 fun q q' => push_name
  refine ⟨h.names h3 fun q' hq' => ?_, rfl⟩
  obtain ⟨q, hq, e⟩ := h4 q' hq'
  unfold pushE at e
  split at e
  ·obtain ⟨e1, rfl⟩ := sureE_ok.1 e
   exact (goodQ_iff _).2 (good_push ((goodQ_iff _).1 (h.qg q hq)) e1)
  ·injection e with e
   rw [← e]
   exact h.qg q hq
theorem good_retain {c c' : Cor} {m : Msg} (h : GoodC c) (hm : msgB m = true) (hd : retainC c m = .ok c') : GoodC c' := by
 unfold retainC at hd
 split at hd
 ·injection hd with hd
  subst hd
  exact h.keepL (len_le _ _ h.kl) (fun k hk => h.kg k (mem_leL.1 hk).1) (inc_leL h.ki)
 ·rename_i hne
  obtain ⟨l, h1, h2⟩ := bnd_ok.1 hd
  injection h2 with h2
  obtain ⟨h3, rfl⟩ := enE_ok h1
  subst h2
  refine h.keepL (en_len linM h.ki h.kl h3) (fun k hk => ?_) (inc_enL linM h.ki)
  rcases mem_enL.1 hk with rfl | ⟨hk, _⟩
  ·simp [kepB, hm, hne]
  ·exact h.kg k hk
theorem good_publish2 {c c' : Cor} {o : Opr} (h : GoodC c) (hm : msgB o.msg = true) (hd : publish2 c o = .ok c') : GoodC c' := by
 unfold publish2 at hd
 rw [ins_ok] at hd
 obtain ⟨c2, h1, h2⟩ := bnd_ok.1 hd.2
 obtain ⟨g2, _⟩ := good_pushAll h h1
 split at h2
 ·exact good_retain g2 hm h2
 ·injection h2 with h2
  rw [← h2]
  exact g2
theorem good_publish {c c' : Cor} {o : Opr} (h : GoodC c) (hd : publishC c o = .ok c') : GoodC c' := by
 unfold publishC at hd
 rw [ins_ok] at hd
 obtain ⟨h1, h2⟩ := hd
 split at h2
 ·exact good_publish2 h h1 h2
 ·obtain ⟨⟨b, c2⟩, h3, h4⟩ := bnd_ok.1 h2
  have g2 := (good_new h h3).1
  cases b
  ·injection h4 with h4
   rw [← h4]
   exact g2
  ·exact good_publish2 g2 h1 h4
theorem good_forget {c c' : Cor} {o : Opr} (h : GoodC c) (hd : forgetC c o = .ok c') : GoodC c' := by
 unfold forgetC at hd
 rw [ins_ok] at hd
 have e := hd.2
 injection e with e
 subst e
 exact h.clients (len_le _ _ h.cl) (fun k hk => h.cg k (mem_leL.1 hk).1) (inc_leL h.ci)
theorem good_releaseC {c c' : Cor} {o : Opr} (h : GoodC c) (hd : releaseC c o = .ok c') : GoodC c' := by
 unfold releaseC at hd
 rw [ins_ok] at hd
 obtain ⟨h1, h2⟩ := hd
 split at h2
 ·injection h2 with h2
  rw [← h2]
  exact h
 ·rename_i k hk
  have hm := List.mem_of_find?_eq_some hk
  obtain ⟨k1, k2, k3, k4, k5⟩ := cliB_parts.1 (h.cg k hm)
  split at h2
  ·exact good_forget h h2
  ·rename_i hne
   injection h2 with h2
   subst h2
   refine h.clients (en_len linC h.ci h.cl (.inl ?_)) (fun m hm' => ?_) (inc_enL linC h.ci)
   ·simp only [hasL, List.any_eq_true, decide_eq_true_eq]
    exact ⟨k, hm, linC.refl k⟩
   ·rcases mem_enL.1 hm' with rfl | ⟨hm', _⟩
    ·exact cliB_parts.2 ⟨k1, List.length_pos_iff.2 hne, len_le _ _ k3, fun p hp => k4 p (mem_leL.1 hp).1, inc_leL k5⟩
    ·exact h.cg m hm'
theorem good_subscribe {c c' : Cor} {o : Opr} (h : GoodC c) (hd : subscribeC c o = .ok c') : GoodC c' := by
 unfold subscribeC at hd
 rw [ins_ok, ins_ok, ins_ok] at hd
 obtain ⟨h1, h2, h3, h4⟩ := hd
 obtain ⟨l, h5, h6⟩ := bnd_ok.1 h4
 injection h6 with h6
 obtain ⟨h7, rfl⟩ := enE_ok h5
 subst h6
 simp only [Bool.and_eq_true] at h1
 refine h.subsL (en_len linS h.si h.sl h7) (fun m hm => ?_) (inc_enL linS h.si)
 rcases mem_enL.1 hm with rfl | ⟨hm, _⟩
 ·simp [sbsB, h1.1, h1.2, h2]
 ·exact h.sg m hm
theorem good_unsubscribe {c c' : Cor} {o : Opr} (h : GoodC c) (hd : unsubscribeC c o = .ok c') : GoodC c' := by
 unfold unsubscribeC at hd
 split at hd
 ·cases hd
 ·obtain ⟨q, h1, h2⟩ := bnd_ok.1 hd
  obtain ⟨q', h3, h4⟩ := bnd_ok.1 h2
  obtain ⟨_, rfl⟩ := sureE_ok.1 h3
  injection h4 with h4
  subst h4
  obtain ⟨h5, h6⟩ := namedC_ok h1
  have g := h.named h1 (q' := releaseQ q o.conn o.sub) rfl ((goodQ_iff _).2 (good_release ((goodQ_iff _).1 (h.qg q h5)) _ _))
  exact g.subsL (len_le _ _ h.sl) (fun m hm => g.sg m (mem_leL.1 hm).1) (inc_leL h.si)
theorem good_get {c c' : Cor} {os : List Ot} {o : Opr} (h : GoodC c) (hd : getC c o = .ok (c', os)) : GoodC c' := by
 unfold getC at hd
 rw [ins_ok] at hd
 obtain ⟨q, h1, h2⟩ := bnd_ok.1 hd.2
 obtain ⟨q1, h3, h4⟩ := bnd_ok.1 h2
 obtain ⟨r, h5, h6⟩ := bnd_ok.1 h4
 obtain ⟨_, rfl⟩ := sureE_ok.1 h3
 injection h6 with h6
 injection h6 with h6 _
 subst h6
 obtain ⟨h7, h8⟩ := handQ_ok h5
 obtain ⟨h9, _⟩ := namedC_ok h1
 rw [h8]
 exact h.named h1 (q' := takeQ (expireQ q c.now) o.conn o.sub (!o.auto)) (take_name ..) ((goodQ_iff _).2 (good_take (good_expire ((goodQ_iff _).1 (h.qg q h9)) _) h7 _))
theorem good_settleK {c c' : Cor} {o : Opr} {again : Bool} (h : GoodC c) (hd : settleK c o again = .ok c') : GoodC c' := by
 unfold settleK at hd
 obtain ⟨q, h1, h2⟩ := bnd_ok.1 hd
 obtain ⟨q1, h3, h4⟩ := bnd_ok.1 h2
 obtain ⟨h5, rfl⟩ := sureE_ok.1 h3
 injection h4 with h4
 subst h4
 obtain ⟨h9, _⟩ := namedC_ok h1
 exact h.named h1 (q' := settleQ q o.conn o.n again) rfl ((goodQ_iff _).2 (good_settle ((goodQ_iff _).1 (h.qg q h9)) h5 _))
theorem rel_all {l : List Que} (h : ∀ q ∈ l, goodQ q = true) (conn : Int) : mapE (relE conn) l = .ok (l.map fun q => releaseQ q conn (-1)) := by
 induction l with
 | nil => rfl
 | cons q l ih =>
  have h1 := ih fun x hx => h x (by simp [hx])
  simp only [mapE, relE, relC_ok (h q (by simp)), sureE, if_true, bnd] at h1 ⊢
  rw [h1]
  rfl
theorem good_detach {c c' : Cor} {o : Opr} (h : GoodC c) (hd : detachC c o = .ok c') : GoodC c' := by
 unfold detachC at hd
 rw [ins_ok] at hd
 obtain ⟨l, h1, h2⟩ := bnd_ok.1 hd.2
 rw [rel_all h.qg] at h1
 injection h1 with h1
 injection h2 with h2
 subst h1 h2
 have g := h.names (l := c.queues.map fun q => releaseQ q o.conn (-1)) (by rw [List.map_map]; rfl) fun q' hq' => by
  obtain ⟨q, hq, rfl⟩ := List.mem_map.1 hq'
  exact (goodQ_iff _).2 (good_release ((goodQ_iff _).1 (h.qg q hq)) _ _)
 exact g.subsL (len_le _ _ h.sl) (fun m hm => g.sg m (List.mem_filter.1 hm).1) (h.si.sublist List.filter_sublist)
theorem good_tick {c c' : Cor} {o : Opr} (h : GoodC c) (hd : tickC c o = .ok c') : GoodC c' := by
 unfold tickC at hd
 rw [ins_ok] at hd
 obtain ⟨h1, h2⟩ := hd
 injection h2 with h2
 subst h2
 simp only [Bool.and_eq_true, decide_eq_true_eq] at h1
 have := h.now
 simp only [numB, Bool.and_eq_true, decide_eq_true_eq] at this
 refine ⟨?_, h.ql, h.qg, h.qi, h.bl, h.bg, h.bi, h.sl, h.sg, h.si, h.kl, h.kg, h.ki, h.cl, h.cg, h.ci⟩
 show numB (c.now + o.n) = true
 simp only [numB, Bool.and_eq_true, decide_eq_true_eq]
 omega
theorem noO_ok {x : Except Int Cor} {c : Cor} {os : List Ot} : noO x = .ok (c, os) ↔ x = .ok c ∧ os = [] := by
 unfold noO
 rw [bnd_ok]
 constructor
 ·rintro ⟨a, h1, h2⟩
  injection h2 with h2
  injection h2 with h2 h3
  subst h2 h3
  exact ⟨h1, rfl⟩
 ·rintro ⟨h1, rfl⟩
  exact ⟨c, h1, rfl⟩
theorem good_act {c c' : Cor} {os : List Ot} {o : Opr} (h : GoodC c) (hd : actC c o = .ok (c', os)) : GoodC c' := by
 unfold actC at hd
 by_cases h1 : o.kind = 1
 ·rw [if_pos h1] at hd
  exact good_declare h (noO_ok.1 hd).1
 rw [if_neg h1] at hd
 by_cases h2 : o.kind = 2
 ·rw [if_pos h2] at hd
  exact good_remove h (noO_ok.1 hd).1
 rw [if_neg h2] at hd
 by_cases h3 : o.kind = 3
 ·rw [if_pos h3] at hd
  exact good_bind h hd
 rw [if_neg h3] at hd
 by_cases h4 : o.kind = 4
 ·rw [if_pos h4] at hd
  exact good_unbind h (noO_ok.1 hd).1
 rw [if_neg h4] at hd
 by_cases h5 : o.kind = 5
 ·rw [if_pos h5] at hd
  exact good_publish h (noO_ok.1 hd).1
 rw [if_neg h5] at hd
 by_cases h6 : o.kind = 6
 ·rw [if_pos h6] at hd
  exact good_releaseC h (noO_ok.1 hd).1
 rw [if_neg h6] at hd
 by_cases h7 : o.kind = 7
 ·rw [if_pos h7] at hd
  exact good_forget h (noO_ok.1 hd).1
 rw [if_neg h7] at hd
 by_cases h8 : o.kind = 8
 ·rw [if_pos h8] at hd
  exact good_subscribe h (noO_ok.1 hd).1
 rw [if_neg h8] at hd
 by_cases h9 : o.kind = 9
 ·rw [if_pos h9] at hd
  exact good_unsubscribe h (noO_ok.1 hd).1
 rw [if_neg h9] at hd
 by_cases h10 : o.kind = 10
 ·rw [if_pos h10] at hd
  exact good_get h hd
 rw [if_neg h10] at hd
 by_cases h11 : o.kind = 11
 ·rw [if_pos h11] at hd
  exact good_settleK h (noO_ok.1 hd).1
 rw [if_neg h11] at hd
 by_cases h12 : o.kind = 12
 ·rw [if_pos h12] at hd
  exact good_settleK h (noO_ok.1 hd).1
 rw [if_neg h12] at hd
 by_cases h13 : o.kind = 13
 ·rw [if_pos h13] at hd
  exact good_detach h (noO_ok.1 hd).1
 rw [if_neg h13] at hd
 exact good_tick h (noO_ok.1 hd).1
def PumpedQ (subs : List Sbs) (now : Int) (q : Que) : Prop := (∀ x ∈ q.items, oldB now x = false) ∧ (q.items ≠ [] → ∀ s ∈ subs, mayB q s = false)
theorem take_items (q : Que) (conn sub : Int) (hold : Bool) : (takeQ q conn sub hold).items = q.items.drop 1 := by cases hold <;> rfl
theorem pumpQ_ok {subs : List Sbs} {now : Int} : ∀ {n : Nat} {q : Que} {r : Que × List Ot}, pumpQ subs n q = .ok r → goodQ q = true → q.items.length ≤ n → (∀ x ∈ q.items, oldB now x = false) → r.1.name = q.name ∧ goodQ r.1 = true ∧ PumpedQ subs now r.1
 | 0, q, r, h, hg, hn, ho => by
  injection h with h
  subst h
  exact ⟨rfl, hg, ho, fun hne => absurd (List.length_eq_zero_iff.1 (Nat.le_zero.1 hn)) hne⟩
 | n + 1, q, r, h, hg, hn, ho => by
  unfold pumpQ at h
  split at h
  ·rename_i he
   injection h with h
   subst h
   exact ⟨rfl, hg, ho, fun hne => absurd he hne⟩
  ·rename_i hne
   split at h
   ·rename_i hf
    injection h with h
    subst h
    exact ⟨rfl, hg, ho, fun _ s hs => by have := List.find?_eq_none.1 hf s hs; simpa using this⟩
   ·rename_i s hf
    obtain ⟨r1, h1, h2⟩ := bnd_ok.1 h
    obtain ⟨r2, h3, h4⟩ := bnd_ok.1 h2
    injection h4 with h4
    subst h4
    obtain ⟨h5, h6⟩ := handQ_ok h1
    have hit : r1.1.items = q.items.drop 1 := by rw [h6, take_items]
    have hpos := List.length_pos_iff.2 hne
    obtain ⟨i1, i2, i3⟩ := pumpQ_ok h3 (by rw [h6]; exact (goodQ_iff _).2 (good_take ((goodQ_iff _).1 hg) h5 _)) (by rw [hit, List.length_drop]; omega) (fun x hx => ho x (by rw [hit] at hx; exact List.mem_of_mem_drop hx))
    exact ⟨by rw [i1, h6, take_name], i2, i3⟩
theorem pumpE_ok {subs : List Sbs} {now : Int} {q : Que} {r : Que × List Ot} (h : pumpE subs now q = .ok r) (hg : goodQ q = true) : r.1.name = q.name ∧ goodQ r.1 = true ∧ PumpedQ subs now r.1 := by
 unfold pumpE at h
 obtain ⟨q1, h1, h2⟩ := bnd_ok.1 h
 obtain ⟨_, rfl⟩ := sureE_ok.1 h1
 obtain ⟨i1, i2, i3⟩ := pumpQ_ok (now := now) h2 ((goodQ_iff _).2 (good_expire ((goodQ_iff _).1 hg) _)) (Nat.le_refl _) (fun x hx => by have := (List.mem_filter.1 hx).2; simpa using this)
 exact ⟨i1, i2, i3⟩
theorem pumpL_ok {subs : List Sbs} {now : Int} : ∀ {l : List Que} {r : List Que × List Ot}, pumpL subs now l = .ok r → (∀ q ∈ l, goodQ q = true) → r.1.map Que.name = l.map Que.name ∧ (∀ q ∈ r.1, goodQ q = true) ∧ ∀ q ∈ r.1, PumpedQ subs now q
 | [], r, h, _ => by
  injection h with h
  subst h
  simp
 | q :: l, r, h, hg => by
  unfold pumpL at h
  obtain ⟨r1, h1, h2⟩ := bnd_ok.1 h
  obtain ⟨r2, h3, h4⟩ := bnd_ok.1 h2
  injection h4 with h4
  subst h4
  obtain ⟨i1, i2, i3⟩ := pumpE_ok h1 (hg q (by simp))
  obtain ⟨j1, j2, j3⟩ := pumpL_ok h3 fun x hx => hg x (by simp [hx])
  refine ⟨by simp [i1, j1], fun x hx => ?_, fun x hx => ?_⟩
  ·rcases List.mem_cons.1 hx with rfl | hx
   ·exact i2
   ·exact j2 x hx
  ·rcases List.mem_cons.1 hx with rfl | hx
   ·exact i3
   ·exact j3 x hx
def Pumped (c : Cor) : Prop := ∀ q ∈ c.queues, PumpedQ c.subs c.now q
theorem pumpC_ok {c : Cor} {r : Cor × List Ot} (h : pumpC c = .ok r) (hg : GoodC c) : GoodC r.1 ∧ Pumped r.1 ∧ r.1.now = c.now ∧ r.1.binds = c.binds ∧ r.1.subs = c.subs ∧ r.1.kept = c.kept ∧ r.1.clients = c.clients := by
 unfold pumpC at h
 obtain ⟨r1, h1, h2⟩ := bnd_ok.1 h
 injection h2 with h2
 subst h2
 obtain ⟨i1, i2, i3⟩ := pumpL_ok h1 hg.qg
 exact ⟨hg.names i1 i2, i3, rfl, rfl, rfl, rfl, rfl⟩
theorem doC_ok {c : Cor} {o : Opr} {r : Cor × List Ot} (h : doC c o = .ok r) : GoodC c ∧ GoodC r.1 ∧ Pumped r.1 ∧ ∃ r1, actC c o = .ok r1 ∧ GoodC r1.1 ∧ ∃ r2, pumpC r1.1 = .ok r2 ∧ r.1 = r2.1 ∧ r.2 = r1.2 ++ r2.2 := by
 unfold doC at h
 rw [ins_ok] at h
 obtain ⟨h1, h2⟩ := h
 simp only [Bool.and_eq_true] at h1
 have hg := (goodC_iff c).1 h1.2
 obtain ⟨r1, h3, h4⟩ := bnd_ok.1 h2
 obtain ⟨r2, h5, h6⟩ := bnd_ok.1 h4
 injection h6 with h6
 subst h6
 have g1 := good_act hg (c' := r1.1) (os := r1.2) h3
 obtain ⟨i1, i2, _⟩ := pumpC_ok h5 g1
 exact ⟨hg, i1, i2, r1, h3, g1, r2, h5, rfl, rfl⟩
theorem pump_still {c : Cor} (hg : GoodC c) (hp : ∀ q ∈ c.queues, q.items ≠ [] → ∀ s ∈ c.subs, mayB q s = false) : pumpC c = .ok ({ c with queues := c.queues.map fun q => expireQ q c.now }, []) := by
 have key : ∀ l : List Que, (∀ q ∈ l, goodQ q = true ∧ (q.items ≠ [] → ∀ s ∈ c.subs, mayB q s = false)) → pumpL c.subs c.now l = .ok (l.map fun q => expireQ q c.now, []) := fun l => by
  induction l with
  | nil => intro _; rfl
  | cons q l ih =>
   intro h
   have h1 := ih fun x hx => h x (by simp [hx])
   obtain ⟨h2, h3⟩ := h q (by simp)
   have h4 : pumpE c.subs c.now q = .ok (expireQ q c.now, []) := by
    unfold pumpE
    rw [relC_ok h2]
    show pumpQ c.subs (expireQ q c.now).items.length (expireQ q c.now) = _
    cases hn : (expireQ q c.now).items.length with
    | zero => rfl
    | succ n =>
     unfold pumpQ
     split
     ·rfl
     ·rename_i hne
      have h5 : q.items ≠ [] := fun e => hne (by simp [expireQ, e])
      have h6 : c.subs.find? (mayB (expireQ q c.now)) = none := List.find?_eq_none.2 fun s hs => by
       have := h3 h5 s hs
       rw [show mayB (expireQ q c.now) s = mayB q s from rfl, this]
       simp
      rw [h6]
   unfold pumpL
   rw [h4, h1]
   rfl
 unfold pumpC
 rw [key c.queues fun q hq => ⟨hg.qg q hq, hp q hq⟩]
 rfl
theorem expire_id {q : Que} {now : Int} (h : ∀ x ∈ q.items, oldB now x = false) : expireQ q now = q := by
 unfold expireQ
 rw [List.filter_eq_self.2 fun x hx => by simp [h x hx]]
theorem pump_id {c : Cor} (hg : GoodC c) (hp : Pumped c) : pumpC c = .ok (c, []) := by
 rw [pump_still hg fun q hq => (hp q hq).2]
 have : (c.queues.map fun q => expireQ q c.now) = c.queues := by
  conv => rhs; rw [← List.map_id c.queues]
  exact List.map_congr_left fun q hq => expire_id (hp q hq).1
 rw [this]
def zeroC : Cor := ⟨0, [], [], [], [], []⟩
def op0 (k n : Int) (q t : List UInt8) : Opr := ⟨k, 0, 0, n, q, t, false, false, false, zeroM⟩
theorem good_zero : GoodC zeroC := ⟨rfl, by decide, fun q h => (by cases h), .nil, by decide, fun q h => (by cases h), .nil, by decide, fun q h => (by cases h), .nil, by decide, fun q h => (by cases h), .nil, by decide, fun q h => (by cases h), .nil⟩
theorem pumped_zero : Pumped zeroC := fun q h => by cases h
theorem doC_act {c : Cor} {o : Opr} (hg : GoodC c) (h1 : 1 ≤ o.kind) (h2 : o.kind ≤ 14) : doC c o = bnd (actC c o) fun r => bnd (pumpC r.1) fun r2 => .ok (r2.1, r.2 ++ r2.2) := by
 unfold doC
 rw [(goodC_iff c).2 hg]
 simp [ins, h1, h2]
def tickK (c : Cor) (a : Int) : Cor := { c with now := c.now + a, queues := c.queues.map fun q => expireQ q (c.now + a) }
theorem tick_do {c : Cor} (hg : GoodC c) (hp : Pumped c) {a : Int} (h0 : 0 ≤ a) (h1 : a ≤ 1099511627776 - c.now) : doC c (op0 14 a [] []) = .ok (tickK c a, []) := by
 rw [doC_act hg (by simp [op0]) (by simp [op0])]
 have e1 : actC c (op0 14 a [] []) = .ok ({ c with now := c.now + a }, []) := by
  show noO (tickC c (op0 14 a [] [])) = _
  simp [tickC, op0, ins, h0, h1, noO, bnd]
 have g1 : GoodC { c with now := c.now + a } := good_act hg e1
 rw [e1]
 show bnd (pumpC { c with now := c.now + a }) _ = _
 rw [pump_still g1 fun q hq => (hp q hq).2]
 rfl
theorem expire_two (q : Que) {a b : Int} (h : a ≤ b) : expireQ (expireQ q a) b = expireQ q b := by
 unfold expireQ
 simp only [List.filter_filter]
 congr 1
 refine List.filter_congr fun x _ => ?_
 simp only [oldB]
 by_cases h1 : 0 < x.msg.til <;> by_cases h2 : x.msg.til ≤ b <;> by_cases h3 : x.msg.til ≤ a <;> simp [h1, h2, h3]
 omega
theorem tick_two (c : Cor) {a b : Int} (hb : 0 ≤ b) : tickK (tickK c a) b = tickK c (a + b) := by
 unfold tickK
 simp only [List.map_map, Int.add_assoc]
 congr 1
 exact List.map_congr_left fun q _ => expire_two q (by omega)
theorem tickK_good {c : Cor} (hg : GoodC c) (hp : Pumped c) {a : Int} (h0 : 0 ≤ a) (h1 : a ≤ 1099511627776 - c.now) : GoodC (tickK c a) ∧ Pumped (tickK c a) := by
 have h := doC_ok (tick_do hg hp h0 h1)
 exact ⟨h.2.1, h.2.2.1⟩
theorem act_now {c : Cor} {o : Opr} {r : Cor × List Ot} (h : actC c o = .ok r) (hk : 1 ≤ o.kind ∧ o.kind ≤ 14) : r.1.now = c.now ∨ (o.kind = 14 ∧ 0 ≤ o.n ∧ r.1.now = c.now + o.n) := by
 obtain ⟨c', os⟩ := r
 unfold actC at h
 by_cases h1 : o.kind = 1
 ·rw [if_pos h1] at h
  have hd := (noO_ok.1 h).1
  refine .inl ?_
  unfold declareC at hd
  split at hd
  ·have := (ins_ok.1 hd).2
   injection this with e
   rw [← e]
  ·obtain ⟨q, h1, h2⟩ := bnd_ok.1 hd
   obtain ⟨l, h3, h4⟩ := bnd_ok.1 h2
   injection h4 with h4
   rw [← h4]
 rw [if_neg h1] at h
 by_cases h2 : o.kind = 2
 ·rw [if_pos h2] at h
  have hd := (ins_ok.1 (noO_ok.1 h).1).2
  injection hd with e
  exact .inl (by rw [← e])
 rw [if_neg h2] at h
 by_cases h3 : o.kind = 3
 ·rw [if_pos h3] at h
  unfold bindC at h
  rw [ins_ok, ins_ok] at h
  obtain ⟨l, h4, h5⟩ := bnd_ok.1 h.2.2
  refine .inl ?_
  split at h5
  ·have := (ins_ok.1 h5).2
   injection this with this
   injection this with this
   rw [← this]
  ·injection h5 with this
   injection this with this
   rw [← this]
 rw [if_neg h3] at h
 by_cases h4 : o.kind = 4
 ·rw [if_pos h4] at h
  have hd := (ins_ok.1 (noO_ok.1 h).1).2
  injection hd with e
  exact .inl (by rw [← e])
 rw [if_neg h4] at h
 by_cases h5 : o.kind = 5
 ·rw [if_pos h5] at h
  have hd := (ins_ok.1 (noO_ok.1 h).1).2
  have hp : ∀ c2 c3, publish2 c2 o = .ok c3 → c3.now = c2.now := fun c2 c3 h6 => by
   unfold publish2 at h6
   obtain ⟨c4, h7, h8⟩ := bnd_ok.1 (ins_ok.1 h6).2
   have e1 : c4.now = c2.now := by
    unfold pushAll at h7
    split at h7
    ·injection h7 with h7
     rw [h7]
    ·obtain ⟨l, _, h9⟩ := bnd_ok.1 h7
     injection h9 with h9
     rw [← h9]
   rw [← e1]
   split at h8
   ·unfold retainC at h8
    split at h8
    ·injection h8 with h8
     rw [← h8]
    ·obtain ⟨l, _, h9⟩ := bnd_ok.1 h8
     injection h9 with h9
     rw [← h9]
   ·injection h8 with h8
    rw [h8]
  refine .inl ?_
  split at hd
  ·exact hp _ _ hd
  ·obtain ⟨⟨b, c2⟩, h6, h7⟩ := bnd_ok.1 hd
   have e1 : c2.now = c.now := by
    unfold isNewC at h6
    rw [ins_ok, ins_ok] at h6
    have h8 := h6.2.2
    split at h8
    ·injection h8 with h8
     injection h8 with _ h8
     rw [h8]
    ·obtain ⟨ps, h4, h5⟩ := bnd_ok.1 h8
     obtain ⟨l, h6, h7⟩ := bnd_ok.1 h5
     injection h7 with h7
     injection h7 with _ h7
     rw [← h7]
   cases b
   ·injection h7 with h7
    rw [← h7]
    exact e1
   ·rw [← e1]
    exact hp _ _ h7
 rw [if_neg h5] at h
 by_cases h6 : o.kind = 6
 ·rw [if_pos h6] at h
  have hd := (ins_ok.1 (noO_ok.1 h).1).2
  refine .inl ?_
  split at hd
  ·injection hd with hd
   rw [hd]
  ·split at hd
   ·have := (ins_ok.1 hd).2
    injection this with this
    rw [← this]
   ·injection hd with hd
    rw [← hd]
 rw [if_neg h6] at h
 by_cases h7 : o.kind = 7
 ·rw [if_pos h7] at h
  have hd := (ins_ok.1 (noO_ok.1 h).1).2
  injection hd with e
  exact .inl (by rw [← e])
 rw [if_neg h7] at h
 by_cases h8 : o.kind = 8
 ·rw [if_pos h8] at h
  have hd := (noO_ok.1 h).1
  unfold subscribeC at hd
  rw [ins_ok, ins_ok, ins_ok] at hd
  obtain ⟨l, _, h9⟩ := bnd_ok.1 hd.2.2.2
  injection h9 with h9
  exact .inl (by rw [← h9])
 rw [if_neg h8] at h
 by_cases h9 : o.kind = 9
 ·rw [if_pos h9] at h
  have hd := (noO_ok.1 h).1
  unfold unsubscribeC at hd
  split at hd
  ·cases hd
  ·obtain ⟨q, h1, h2⟩ := bnd_ok.1 hd
   obtain ⟨q', h3, h4⟩ := bnd_ok.1 h2
   injection h4 with h4
   exact .inl (by rw [← h4]; rfl)
 rw [if_neg h9] at h
 by_cases h10 : o.kind = 10
 ·rw [if_pos h10] at h
  unfold getC at h
  rw [ins_ok] at h
  obtain ⟨q, h1, h2⟩ := bnd_ok.1 h.2
  obtain ⟨q1, h3, h4⟩ := bnd_ok.1 h2
  obtain ⟨r, h5, h6⟩ := bnd_ok.1 h4
  injection h6 with h6
  injection h6 with h6 _
  exact .inl (by rw [← h6]; rfl)
 rw [if_neg h10] at h
 have hs : ∀ again, settleK c o again = .ok c' → c'.now = c.now := fun again hd => by
  unfold settleK at hd
  obtain ⟨q, h1, h2⟩ := bnd_ok.1 hd
  obtain ⟨q', h3, h4⟩ := bnd_ok.1 h2
  injection h4 with h4
  rw [← h4]
  rfl
 by_cases h11 : o.kind = 11
 ·rw [if_pos h11] at h
  exact .inl (hs _ (noO_ok.1 h).1)
 rw [if_neg h11] at h
 by_cases h12 : o.kind = 12
 ·rw [if_pos h12] at h
  exact .inl (hs _ (noO_ok.1 h).1)
 rw [if_neg h12] at h
 by_cases h13 : o.kind = 13
 ·rw [if_pos h13] at h
  have hd := (noO_ok.1 h).1
  unfold detachC at hd
  obtain ⟨l, _, h9⟩ := bnd_ok.1 (ins_ok.1 hd).2
  injection h9 with h9
  exact .inl (by rw [← h9])
 rw [if_neg h13] at h
 have hd := (noO_ok.1 h).1
 unfold tickC at hd
 obtain ⟨i1, i2⟩ := ins_ok.1 hd
 simp only [Bool.and_eq_true, decide_eq_true_eq] at i1
 injection i2 with i2
 exact .inr ⟨by omega, i1.1, by rw [← i2]⟩
theorem do_now {c : Cor} {o : Opr} {r : Cor × List Ot} (h : doC c o = .ok r) (ho : o.kind = 14 → o.n ≤ 1048576) : c.now ≤ r.1.now ∧ r.1.now ≤ c.now + 1048576 := by
 have hk : 1 ≤ o.kind ∧ o.kind ≤ 14 := by
  unfold doC at h
  have := (ins_ok.1 h).1
  simp only [Bool.and_eq_true, decide_eq_true_eq] at this
  exact this.1
 obtain ⟨_, _, _, r1, h1, g1, r2, h2, e1, _⟩ := doC_ok h
 have e2 := (pumpC_ok h2 g1).2.2.1
 rw [e1, e2]
 rcases act_now h1 hk with h3 | ⟨h3, h4, h5⟩
 ·omega
 ·have := ho h3
  omega
theorem has_none {l : List Que} {n : List UInt8} {q : Que} (hq : q.name = n) (h : hasNm l n = false) : hasL oQ q l = false := by
 simp only [hasL, List.any_eq_false, decide_eq_true_eq]
 intro y hy e
 have : hasNm l n = true := hasNm_iff.2 (List.mem_map.2 ⟨y, hy, by rw [← hq]; exact oQ_zero.1 e⟩)
 rw [h] at this
 cases this
theorem find_none {l : List Que} {n : List UInt8} (h : hasNm l n = false) : l.find? (fun q => decide (q.name = n)) = none := by
 refine List.find?_eq_none.2 fun q hq => ?_
 intro e
 have : hasNm l n = true := hasNm_iff.2 (List.mem_map.2 ⟨q, hq, by simpa using e⟩)
 rw [h] at this
 cases this
def decK (c : Cor) (n : List UInt8) : Cor := { c with queues := enL oQ (newQ n false 3) c.queues }
theorem declare_do {c : Cor} (hg : GoodC c) (hp : Pumped c) {n : List UInt8} (hn : hasNm c.queues n = false) :
  doC c (op0 1 3 n []) = if nameL n = true then (if (c.queues.length : Int) < 16 then .ok (decK c n, []) else .error 34) else .error 31 := by
 rw [doC_act hg (by simp [op0]) (by simp [op0])]
 have e0 : actC c (op0 1 3 n []) = noO (declareC c (op0 1 3 n [])) := rfl
 rw [e0]
 unfold declareC
 have e1 : c.queues.find? (fun q => decide (q.name = (op0 1 3 n []).queue)) = none := find_none hn
 rw [e1]
 show bnd (noO (bnd (sureE (newC n 3) (newQ n false 3)) fun q => bnd (enE oQ 16 q c.queues) fun l => .ok { c with queues := l })) _ = _
 by_cases h1 : nameL n = true
 ·have e2 : newC n 3 = 0 := by simp [newC, h1, depB]
  rw [if_pos h1, e2]
  by_cases h2 : (c.queues.length : Int) < 16
  ·rw [if_pos h2]
   have e3 : enE oQ 16 (newQ n false 3) c.queues = .ok (enL oQ (newQ n false 3) c.queues) := by simp [enE, ins, h2]
   have e4 : declareC c (op0 1 3 n []) = .ok (decK c n) := by
    unfold declareC
    rw [e1]
    show bnd (sureE (newC n 3) (newQ n false 3)) _ = _
    rw [e2]
    show bnd (enE oQ 16 (newQ n false 3) c.queues) _ = _
    rw [e3]
    rfl
   have g1 := good_declare hg e4
   have p1 : Pumped (decK c n) := fun q hq => by
    rcases mem_enL.1 hq with rfl | ⟨hq, _⟩
    ·exact ⟨fun x hx => (by cases hx), fun h => absurd rfl h⟩
    ·exact hp q hq
   show bnd (noO (bnd (enE oQ 16 (newQ n false 3) c.queues) fun l => .ok { c with queues := l })) _ = _
   rw [e3]
   show bnd (pumpC (decK c n)) _ = _
   rw [pump_id g1 p1]
   rfl
  ·rw [if_neg h2]
   have e3 : enE oQ 16 (newQ n false 3) c.queues = .error 34 := by simp [enE, ins, h2, has_none (q := newQ n false 3) rfl hn]
   show bnd (noO (bnd (enE oQ 16 (newQ n false 3) c.queues) fun l => .ok { c with queues := l })) _ = _
   rw [e3]
   rfl
 ·rw [if_neg h1]
  have e2 : newC n 3 = 31 := by simp [newC, h1]
  rw [e2]
  rfl
theorem remove_do {c : Cor} (hg : GoodC c) (hp : Pumped c) {n : List UInt8} (hn : hasNm c.queues n = false) (h1 : nameL n = true) (h2 : (c.queues.length : Int) < 16) : doC (decK c n) (op0 2 0 n []) = .ok (c, []) := by
 have hd := declare_do hg hp hn
 rw [if_pos h1, if_pos h2] at hd
 have g1 := (doC_ok hd).2.1
 rw [doC_act g1 (by simp [op0]) (by simp [op0])]
 have e1 : removeC (decK c n) (op0 2 0 n []) = .ok c := by
  unfold removeC
  have hh : hasNm (decK c n).queues n = true := hasNm_iff.2 (List.mem_map.2 ⟨newQ n false 3, mem_enL.2 (.inl rfl), rfl⟩)
  have e2 : leL oQ (newQ n false 0) (decK c n).queues = c.queues := by
   have e3 : ∀ l, leL oQ (newQ n false 0) l = leL oQ (newQ n false 3) l := fun l => rfl
   rw [e3]
   exact le_en linQ hg.qi (has_none rfl hn)
  have e4 : c.binds.filter (fun b => !decide (b.queue = n)) = c.binds := List.filter_eq_self.2 fun b hb => by
   have := hg.bg b hb
   simp only [bndB, Bool.and_eq_true] at this
   by_cases e : b.queue = n
   ·rw [e, hn] at this
    cases this.1
   ·simp [e]
  have e5 : c.subs.filter (fun b => !decide (b.queue = n)) = c.subs := List.filter_eq_self.2 fun b hb => by
   have := hg.sg b hb
   simp only [sbsB, Bool.and_eq_true] at this
   by_cases e : b.queue = n
   ·rw [e, hn] at this
    cases this.1.2
   ·simp [e]
  show ins (hasNm (decK c n).queues n) 33 (.ok { decK c n with queues := leL oQ (newQ n false 0) (decK c n).queues, binds := c.binds.filter (fun b => !decide (b.queue = n)), subs := c.subs.filter (fun b => !decide (b.queue = n)) }) = _
  rw [hh, e2, e4, e5]
  rfl
 have e0 : actC (decK c n) (op0 2 0 n []) = noO (removeC (decK c n) (op0 2 0 n [])) := rfl
 rw [e0, e1]
 show bnd (pumpC c) _ = _
 rw [pump_id hg hp]
 rfl
def bndK (c : Cor) (n p : List UInt8) : Cor := { c with binds := enL oB ⟨n, p⟩ c.binds }
theorem bind_do {c : Cor} (hg : GoodC c) (hp : Pumped c) {n p : List UInt8} (hn : hasNm c.queues n = true) (hb : hasL oB ⟨n, p⟩ c.binds = false) :
  doC c (op0 3 0 n p) = if pat p = true then (if (c.binds.length : Int) < 64 then .ok (bndK c n p, []) else .error 34) else .error 30 := by
 rw [doC_act hg (by simp [op0]) (by simp [op0])]
 have e0 : actC c (op0 3 0 n p) = ins (hasNm c.queues n) 33 (ins (pat p) 30 (bnd (enE oB 64 ⟨n, p⟩ c.binds) fun l => .ok ({ c with binds := l }, []))) := rfl
 by_cases h1 : pat p = true
 ·rw [if_pos h1]
  by_cases h2 : (c.binds.length : Int) < 64
  ·rw [if_pos h2]
   have e3 : enE oB 64 ⟨n, p⟩ c.binds = .ok (enL oB ⟨n, p⟩ c.binds) := by simp [enE, ins, h2]
   have e4 : actC c (op0 3 0 n p) = .ok (bndK c n p, []) := by
    rw [e0, hn, h1, e3]
    rfl
   have g1 := good_act hg e4
   rw [e4]
   show bnd (pumpC (bndK c n p)) _ = _
   rw [pump_id g1 hp]
   rfl
  ·rw [if_neg h2]
   have e3 : enE oB 64 ⟨n, p⟩ c.binds = .error 34 := by simp [enE, ins, h2, hb]
   rw [e0, hn, h1, e3]
   rfl
 ·rw [if_neg h1]
  have h1 : pat p = false := by simpa using h1
  rw [e0, hn, h1]
  rfl
theorem unbind_do {c : Cor} (hg : GoodC c) (hp : Pumped c) {n p : List UInt8} (hn : hasNm c.queues n = true) (hb : hasL oB ⟨n, p⟩ c.binds = false) (h1 : pat p = true) (h2 : (c.binds.length : Int) < 64) : doC (bndK c n p) (op0 4 0 n p) = .ok (c, []) := by
 have hd := bind_do hg hp hn hb
 rw [if_pos h1, if_pos h2] at hd
 have g1 := (doC_ok hd).2.1
 rw [doC_act g1 (by simp [op0]) (by simp [op0])]
 have e1 : actC (bndK c n p) (op0 4 0 n p) = .ok (c, []) := by
  show noO (ins (hasL oB ⟨n, p⟩ (enL oB ⟨n, p⟩ c.binds)) 33 (.ok { c with binds := leL oB ⟨n, p⟩ (enL oB ⟨n, p⟩ c.binds) })) = _
  have hh : hasL oB (⟨n, p⟩ : Bnd) (enL oB ⟨n, p⟩ c.binds) = true := by
   simp only [hasL, List.any_eq_true, decide_eq_true_eq]
   exact ⟨⟨n, p⟩, mem_enL.2 (.inl rfl), linB.refl _⟩
  rw [hh, le_en linB hg.bi hb]
  rfl
 rw [e1]
 show bnd (pumpC c) _ = _
 rw [pump_id hg hp]
 rfl
def behindC (c : Cor) : List Opr → Cor
 | [] => c
 | o :: l => match doC c o with
  | .ok r => behindC r.1 l
  | .error _ => behindC c l
def runC (c : Cor) : List Opr → Except Int (Cor × List Ot)
 | [] => .ok (c, [])
 | o :: l => bnd (doC c o) fun r => bnd (runC r.1 l) fun r2 => .ok (r2.1, r.2 ++ r2.2)
theorem runC_app (c : Cor) (a b : List Opr) : runC c (a ++ b) = bnd (runC c a) fun r => bnd (runC r.1 b) fun r2 => .ok (r2.1, r.2 ++ r2.2) := by
 induction a generalizing c with
 | nil =>
  show runC c b = bnd (runC c b) fun r2 => .ok (r2.1, [] ++ r2.2)
  cases runC c b <;> simp [bnd]
 | cons o a ih =>
  show bnd (doC c o) _ = bnd (bnd (doC c o) _) _
  cases h : doC c o with
  | error n => rfl
  | ok r =>
   show bnd (runC r.1 (a ++ b)) _ = bnd (bnd (runC r.1 a) _) _
   rw [ih]
   cases h2 : runC r.1 a with
   | error n => rfl
   | ok r2 =>
    show bnd (bnd (runC r2.1 b) _) _ = bnd (runC r2.1 b) _
    cases h3 : runC r2.1 b with
    | error n => rfl
    | ok r3 => simp [bnd, List.append_assoc]
end Go.Proofs.YtnpikgakpmkipabGreatDoor
