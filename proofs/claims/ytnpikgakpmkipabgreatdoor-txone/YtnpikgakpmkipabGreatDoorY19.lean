/- A turn in memory: the core under way and what was handed out; the frames of what is done to it. -/
import Derived.Test.YtnpikgakpmkipabGreatDoorY04
import Derived.Test.YtnpikgakpmkipabGreatDoorY18
import Derived.Test.YtnpikgakpmkipabGreatDoorY15
import Derived.Test.YtnpikgakpmkipabGreatDoorY10
import Derived.Test.YtnpikgakpmkipabGreatDoorY03
namespace Go.Proofs.YtnpikgakpmkipabGreatDoor
open Go.RowKit Go.Lib
set_option maxRecDepth 100000
set_option linter.unusedVariables false
set_option linter.unusedSimpArgs false
structure KX (e : TypeId) (w w' : World) : Prop where
 kt : ∀ t, t ≠ e → Kt t w w'
 size : w.heap.size ≤ w'.heap.size
theorem KX.of_below {e : TypeId} {w w' : World} (h : Bw w w') : KX e w w' := ⟨fun t _ => .of_below h, h.size⟩
theorem KX.of_grown {e : TypeId} {w w' : World} {B k n : Nat} {v : Value} {xs : List Value} (h : w.ownsRow B e k v n xs) (hg : w.grownBy w' v.ownBlock) : KX e w w' := ⟨fun t ht => .of_grown h hg ht, hg.size⟩
theorem KX.cell {w : World} {g j : Nat} {cs : Array Value} {e : TypeId} (h : Blk w g cs e) (u : Value) : KX e w (w.setCell ⟨g, j, none⟩ u) := ⟨fun t ht => kt_setCell h ht u, by simp⟩
theorem KX.put {w w' : World} {g : Nat} {cs : Array Value} {e : TypeId} (h : Blk w g cs e) (hg : w.grownBy w' (some g)) : KX e w w' := ⟨fun t ht => kt_grown h hg ht, hg.size⟩
theorem KX.drew {e : TypeId} {w : World} : KX e w w.drew := ⟨fun t _ k cur h => rfl, Nat.le_refl _⟩
def otV (x : Ot) (pv : Value) : List Value := [.int .i64 x.conn, .int .i64 x.sub, .int .i64 x.tag, tx x.queue, .bool x.again, .bool x.kept, tx x.msg.topic, tx x.msg.body, pv, .bool x.msg.dur, .int .i64 x.msg.til]
def OtR (p : Value → List Pr → Prop) (vs : List Value) (x : Ot) : Prop := ∃ pv, vs = otV x pv ∧ p pv x.msg.props
def OOc (w : World) (B : Nat) (v : Value) (l : List Ot) : Prop := OwnL 61 11 (OtR (OwnP w B)) w B v l
theorem OQc.kx {e : TypeId} {w w' : World} {B : Nat} {v : Value} {l : List Que} (h : OQc w B v l) (k : KX e w w') (he : (82 ≠ e ∧ 131 ≠ e) ∧ (133 ≠ e ∧ 66 ≠ e)) : OQc w' B v l := by
 obtain ⟨zs, h1, h2⟩ := h
 exact ⟨zs, h1, (h2.keep (k.kt _ he.1.1)).imp fun ys x h => OwnQ.keep h (k.kt _ he.1.2) (k.kt _ he.2.1) (k.kt _ he.2.2)⟩
theorem OBc.kx {e : TypeId} {w w' : World} {B : Nat} {v : Value} {l : List Bnd} (h : OBc w B v l) (k : KX e w w') (he : 43 ≠ e) : OBc w' B v l := by
 obtain ⟨zs, h1, h2⟩ := h
 exact ⟨zs, h1, h2.keep (k.kt _ he)⟩
theorem OSc.kx {e : TypeId} {w w' : World} {B : Nat} {v : Value} {l : List Sbs} (h : OSc w B v l) (k : KX e w w') (he : 85 ≠ e) : OSc w' B v l := by
 obtain ⟨zs, h1, h2⟩ := h
 exact ⟨zs, h1, h2.keep (k.kt _ he)⟩
theorem OKc.kx {e : TypeId} {w w' : World} {B : Nat} {v : Value} {l : List Msg} (h : OKc w B v l) (k : KX e w w') (he : 33 ≠ e ∧ 66 ≠ e) : OKc w' B v l := by
 obtain ⟨zs, h1, h2⟩ := h
 refine ⟨zs, h1, (h2.keep (k.kt _ he.1)).imp ?_⟩
 rintro ys x ⟨pv, h3, h4⟩
 exact ⟨pv, h3, h4.keep (k.kt _ he.2)⟩
def OCw (w : World) (B : Nat) (v : Value) (l : List Cli) : Prop := OwnL 88 2 (ClR (OwnNu w B)) w B v l
theorem OCw.kx {e : TypeId} {w w' : World} {B : Nat} {v : Value} {l : List Cli} (h : OCw w B v l) (k : KX e w w') (he : 88 ≠ e ∧ 3 ≠ e) : OCw w' B v l := by
 obtain ⟨zs, h1, h2⟩ := h
 refine ⟨zs, h1, (h2.keep (k.kt _ he.1)).imp ?_⟩
 rintro ys x ⟨pv, h3, h4⟩
 exact ⟨pv, h3, h4.keep (k.kt _ he.2)⟩
theorem OOc.kx {e : TypeId} {w w' : World} {B : Nat} {v : Value} {l : List Ot} (h : OOc w B v l) (k : KX e w w') (he : 61 ≠ e ∧ 66 ≠ e) : OOc w' B v l := by
 obtain ⟨zs, h1, h2⟩ := h
 refine ⟨zs, h1, (h2.keep (k.kt _ he.1)).imp ?_⟩
 rintro ys x ⟨pv, h3, h4⟩
 exact ⟨pv, h3, h4.keep (k.kt _ he.2)⟩
def tyT (t : TypeId) : Bool := t == 77 || t == 82 || t == 43 || t == 85 || t == 33 || t == 88 || t == 61 || t == 3
structure FrT (B : Nat) (w w' : World) : Prop where
 below : Below B w w'
 kt : ∀ t, tyT t = false → Kt t w w'
theorem FrT.refl (B : Nat) (w : World) : FrT B w w := ⟨.refl _ _, fun t _ => .refl t w⟩
theorem FrT.trans {B : Nat} {a b c : World} (h : FrT B a b) (h' : FrT B b c) : FrT B a c := ⟨h.below.trans h'.below, fun t ht => (h.kt t ht).trans (h'.kt t ht)⟩
theorem FrT.of_below {B : Nat} {w w' : World} (h : Bw w w') (hB : B ≤ w.heap.size) : FrT B w w' := ⟨h.mono hB, fun t _ => .of_below h⟩
theorem below_grown {B : Nat} {w w' : World} {row : Option Nat} (hg : w.grownBy w' row) (h : ∀ g, row = some g → B ≤ g) (hB : B ≤ w.heap.size) : Below B w w' := ⟨hg.os, hg.tape, hg.output, hg.size, fun k hk => hg.block k (Nat.lt_of_lt_of_le hk hB) (fun e => by have := h k e.symm; omega)⟩
theorem FrT.of_grown {B : Nat} {w w' : World} {e k n : Nat} {v : Value} {xs : List Value} (h : w.ownsRow B e k v n xs) (hg : w.grownBy w' v.ownBlock) (he : tyT e = true) (hB : B ≤ w.heap.size) : FrT B w w' :=
 ⟨below_grown hg (fun g e => (World.ownsRow.lt h g e).1) hB, fun t ht => .of_grown h hg (fun e => by rw [e, he] at ht; cases ht)⟩
theorem FrT.cell {B : Nat} {w : World} {g j : Nat} {cs : Array Value} (h : Blk w g cs 77) (hB : B ≤ g) (u : Value) : FrT B w (w.setCell ⟨g, j, none⟩ u) :=
 ⟨(Below.refl B w).setCell (p := ⟨g, j, none⟩) hB u, fun t ht => kt_setCell h (fun e => by rw [e] at ht; cases ht) u⟩
theorem FrT.drew {B : Nat} {w w' : World} (h : FrT B w w') : FrT B w w'.drew := ⟨h.below.drew, h.kt⟩
structure Tv (w : World) (B g : Nat) (c : Cor) (os : List Ot) (qv bv sv kv cv ov : Value) : Prop where
 blk : Blk w g #[.int .i64 c.now, qv, bv, sv, kv, cv, ov] 77
 low : B ≤ g
 q : OQc w B qv c.queues
 b : OBc w B bv c.binds
 s : OSc w B sv c.subs
 k : OKc w B kv c.kept
 c : OCw w B cv c.clients
 o : OOc w B ov os
theorem Tv.lt {w : World} {B g : Nat} {c : Cor} {os : List Ot} {qv bv sv kv cv ov : Value} (h : Tv w B g c os qv bv sv kv cv ov) : B ≤ w.heap.size := Nat.le_trans h.low (Nat.le_of_lt h.blk.lt)
theorem Tv.kx {e : TypeId} {w w' : World} {B g : Nat} {c : Cor} {os : List Ot} {qv bv sv kv cv ov : Value} (h : Tv w B g c os qv bv sv kv cv ov) (k : KX e w w') (he : (tyT e = false ∧ 131 ≠ e) ∧ (133 ≠ e ∧ 66 ≠ e)) : Tv w' B g c os qv bv sv kv cv ov := by
 have hne : ∀ t, tyT t = true → t ≠ e := fun t ht e1 => by rw [e1, he.1.1] at ht; cases ht
 exact ⟨h.blk.kt (k.kt _ (hne _ rfl)), h.low, h.q.kx k ⟨⟨hne _ rfl, he.1.2⟩, he.2⟩, h.b.kx k (hne _ rfl), h.s.kx k (hne _ rfl), h.k.kx k ⟨hne _ rfl, he.2.2⟩, h.c.kx k ⟨hne _ rfl, hne _ rfl⟩, h.o.kx k ⟨hne _ rfl, he.2.2⟩⟩
theorem Tv.on {w w' : World} {B g : Nat} {c : Cor} {os : List Ot} {qv bv sv kv cv ov : Value} (h : Tv w B g c os qv bv sv kv cv ov) (hb : Bw w w') : Tv w' B g c os qv bv sv kv cv ov := h.kx (e := 0) (.of_below hb) (by decide)
theorem Tv.drew {w : World} {B g : Nat} {c : Cor} {os : List Ot} {qv bv sv kv cv ov : Value} (h : Tv w B g c os qv bv sv kv cv ov) : Tv w.drew B g c os qv bv sv kv cv ov := h.kx (e := 0) .drew (by decide)
def T (w : World) (B g : Nat) (c : Cor) (os : List Ot) : Prop := ∃ qv bv sv kv cv ov, Tv w B g c os qv bv sv kv cv ov
theorem T.on {w w' : World} {B g : Nat} {c : Cor} {os : List Ot} (h : T w B g c os) (hb : Bw w w') : T w' B g c os := by
 obtain ⟨qv, bv, sv, kv, cv, ov, h⟩ := h
 exact ⟨qv, bv, sv, kv, cv, ov, h.on hb⟩
theorem Tv.row_q {w w' : World} {B g : Nat} {c : Cor} {os : List Ot} {qv bv sv kv cv ov v' : Value} {l : List Que} (h : Tv w B g c os qv bv sv kv cv ov) (hg : w.grownBy w' qv.ownBlock) (hq : OQc w' B v' l) :
  Tv (w'.setCell ⟨g, 1, none⟩ v') B g { c with queues := l } os v' bv sv kv cv ov ∧ FrT B w (w'.setCell ⟨g, 1, none⟩ v') ∧ Blk w' g #[.int .i64 c.now, qv, bv, sv, kv, cv, ov] 77 := by
 obtain ⟨zs, _, hz⟩ := h.q
 have k : KX 82 w w' := .of_grown hz.1 hg
 have kb := h.blk.kt (k.kt 77 (by decide))
 have k2 : KX 77 w' (w'.setCell ⟨g, 1, none⟩ v') := .cell kb v'
 refine ⟨⟨by simpa using kb.set 1 v', h.low, hq.kx k2 (by decide), (h.b.kx k (by decide)).kx k2 (by decide), (h.s.kx k (by decide)).kx k2 (by decide), (h.k.kx k (by decide)).kx k2 (by decide), (h.c.kx k (by decide)).kx k2 (by decide), (h.o.kx k (by decide)).kx k2 (by decide)⟩, (FrT.of_grown hz.1 hg rfl h.lt).trans (.cell kb h.low v'), kb⟩
theorem Tv.row_b {w w' : World} {B g : Nat} {c : Cor} {os : List Ot} {qv bv sv kv cv ov v' : Value} {l : List Bnd} (h : Tv w B g c os qv bv sv kv cv ov) (hg : w.grownBy w' bv.ownBlock) (hq : OBc w' B v' l) :
  Tv (w'.setCell ⟨g, 2, none⟩ v') B g { c with binds := l } os qv v' sv kv cv ov ∧ FrT B w (w'.setCell ⟨g, 2, none⟩ v') ∧ Blk w' g #[.int .i64 c.now, qv, bv, sv, kv, cv, ov] 77 := by
 obtain ⟨zs, _, hz⟩ := h.b
 have k : KX 43 w w' := .of_grown hz.1 hg
 have kb := h.blk.kt (k.kt 77 (by decide))
 have k2 : KX 77 w' (w'.setCell ⟨g, 2, none⟩ v') := .cell kb v'
 refine ⟨⟨by simpa using kb.set 2 v', h.low, (h.q.kx k (by decide)).kx k2 (by decide), hq.kx k2 (by decide), (h.s.kx k (by decide)).kx k2 (by decide), (h.k.kx k (by decide)).kx k2 (by decide), (h.c.kx k (by decide)).kx k2 (by decide), (h.o.kx k (by decide)).kx k2 (by decide)⟩, (FrT.of_grown hz.1 hg rfl h.lt).trans (.cell kb h.low v'), kb⟩
theorem Tv.row_s {w w' : World} {B g : Nat} {c : Cor} {os : List Ot} {qv bv sv kv cv ov v' : Value} {l : List Sbs} (h : Tv w B g c os qv bv sv kv cv ov) (hg : w.grownBy w' sv.ownBlock) (hq : OSc w' B v' l) :
  Tv (w'.setCell ⟨g, 3, none⟩ v') B g { c with subs := l } os qv bv v' kv cv ov ∧ FrT B w (w'.setCell ⟨g, 3, none⟩ v') ∧ Blk w' g #[.int .i64 c.now, qv, bv, sv, kv, cv, ov] 77 := by
 obtain ⟨zs, _, hz⟩ := h.s
 have k : KX 85 w w' := .of_grown hz.1 hg
 have kb := h.blk.kt (k.kt 77 (by decide))
 have k2 : KX 77 w' (w'.setCell ⟨g, 3, none⟩ v') := .cell kb v'
 refine ⟨⟨by simpa using kb.set 3 v', h.low, (h.q.kx k (by decide)).kx k2 (by decide), (h.b.kx k (by decide)).kx k2 (by decide), hq.kx k2 (by decide), (h.k.kx k (by decide)).kx k2 (by decide), (h.c.kx k (by decide)).kx k2 (by decide), (h.o.kx k (by decide)).kx k2 (by decide)⟩, (FrT.of_grown hz.1 hg rfl h.lt).trans (.cell kb h.low v'), kb⟩
theorem Tv.row_k {w w' : World} {B g : Nat} {c : Cor} {os : List Ot} {qv bv sv kv cv ov v' : Value} {l : List Msg} (h : Tv w B g c os qv bv sv kv cv ov) (hg : w.grownBy w' kv.ownBlock) (hq : OKc w' B v' l) :
  Tv (w'.setCell ⟨g, 4, none⟩ v') B g { c with kept := l } os qv bv sv v' cv ov ∧ FrT B w (w'.setCell ⟨g, 4, none⟩ v') ∧ Blk w' g #[.int .i64 c.now, qv, bv, sv, kv, cv, ov] 77 := by
 obtain ⟨zs, _, hz⟩ := h.k
 have k : KX 33 w w' := .of_grown hz.1 hg
 have kb := h.blk.kt (k.kt 77 (by decide))
 have k2 : KX 77 w' (w'.setCell ⟨g, 4, none⟩ v') := .cell kb v'
 refine ⟨⟨by simpa using kb.set 4 v', h.low, (h.q.kx k (by decide)).kx k2 (by decide), (h.b.kx k (by decide)).kx k2 (by decide), (h.s.kx k (by decide)).kx k2 (by decide), hq.kx k2 (by decide), (h.c.kx k (by decide)).kx k2 (by decide), (h.o.kx k (by decide)).kx k2 (by decide)⟩, (FrT.of_grown hz.1 hg rfl h.lt).trans (.cell kb h.low v'), kb⟩
theorem Tv.row_c {w w' : World} {B g : Nat} {c : Cor} {os : List Ot} {qv bv sv kv cv ov v' : Value} {l : List Cli} (h : Tv w B g c os qv bv sv kv cv ov) (hg : w.grownBy w' cv.ownBlock) (hq : OCw w' B v' l) :
  Tv (w'.setCell ⟨g, 5, none⟩ v') B g { c with clients := l } os qv bv sv kv v' ov ∧ FrT B w (w'.setCell ⟨g, 5, none⟩ v') ∧ Blk w' g #[.int .i64 c.now, qv, bv, sv, kv, cv, ov] 77 := by
 obtain ⟨zs, _, hz⟩ := h.c
 have k : KX 88 w w' := .of_grown hz.1 hg
 have kb := h.blk.kt (k.kt 77 (by decide))
 have k2 : KX 77 w' (w'.setCell ⟨g, 5, none⟩ v') := .cell kb v'
 refine ⟨⟨by simpa using kb.set 5 v', h.low, (h.q.kx k (by decide)).kx k2 (by decide), (h.b.kx k (by decide)).kx k2 (by decide), (h.s.kx k (by decide)).kx k2 (by decide), (h.k.kx k (by decide)).kx k2 (by decide), hq.kx k2 (by decide), (h.o.kx k (by decide)).kx k2 (by decide)⟩, (FrT.of_grown hz.1 hg rfl h.lt).trans (.cell kb h.low v'), kb⟩
theorem Tv.row_o {w w' : World} {B g : Nat} {c : Cor} {os : List Ot} {qv bv sv kv cv ov v' : Value} {l : List Ot} (h : Tv w B g c os qv bv sv kv cv ov) (hg : w.grownBy w' ov.ownBlock) (hq : OOc w' B v' l) :
  Tv (w'.setCell ⟨g, 6, none⟩ v') B g c l qv bv sv kv cv v' ∧ FrT B w (w'.setCell ⟨g, 6, none⟩ v') ∧ Blk w' g #[.int .i64 c.now, qv, bv, sv, kv, cv, ov] 77 := by
 obtain ⟨zs, _, hz⟩ := h.o
 have k : KX 61 w w' := .of_grown hz.1 hg
 have kb := h.blk.kt (k.kt 77 (by decide))
 have k2 : KX 77 w' (w'.setCell ⟨g, 6, none⟩ v') := .cell kb v'
 refine ⟨⟨by simpa using kb.set 6 v', h.low, (h.q.kx k (by decide)).kx k2 (by decide), (h.b.kx k (by decide)).kx k2 (by decide), (h.s.kx k (by decide)).kx k2 (by decide), (h.k.kx k (by decide)).kx k2 (by decide), (h.c.kx k (by decide)).kx k2 (by decide), hq.kx k2 (by decide)⟩, (FrT.of_grown hz.1 hg rfl h.lt).trans (.cell kb h.low v'), kb⟩
def Led (w : World) (B g : Nat) (os : List Ot) (res : Except Int (Cor × List Ot)) (e : Ending) (w' : World) : Prop :=
 (∃ r, res = .ok r ∧ e = .returned (.tuple #[]) ∧ T w' B g r.1 (os ++ r.2) ∧ FrT B w w') ∨ (∃ n, res = .error n ∧ e = .panicked (gup n) ∧ FrT B w w')
theorem led_ok {w w' : World} {B g : Nat} {os : List Ot} {res : Except Int Cor} {c : Cor} (h : res = .ok c) (ht : T w' B g c os) (hf : FrT B w w') : Led w B g os (noO res) (.returned (.tuple #[])) w' := .inl ⟨(c, []), by rw [h]; rfl, rfl, by simpa using ht, hf⟩
theorem led_no {w w' : World} {B g : Nat} {os : List Ot} {res : Except Int Cor} {n : Int} (h : res = .error n) (hf : FrT B w w') : Led w B g os (noO res) (.panicked (gup n)) w' := .inr ⟨n, by rw [h]; rfl, rfl, hf⟩
theorem take_name (q : Que) (conn sub : Int) (hold : Bool) : (takeQ q conn sub hold).name = q.name := by cases hold <;> rfl
theorem handQ_ok {q : Que} {conn sub : Int} {hold : Bool} {r : Que × Ot} (h : handQ q conn sub hold = .ok r) : takeC q conn sub = 0 ∧ r.1 = takeQ q conn sub hold := by
 unfold handQ at h
 rw [sureE_ok] at h
 exact ⟨h.1, by rw [← h.2]⟩
theorem relC_ok {q : Que} (h : goodQ q = true) : relC q = 0 := by simp [relC, h]
theorem GoodC.named {c : Cor} (h : GoodC c) {n : List UInt8} {q : Que} (hq : namedC c n = .ok q) {q' : Que} (hn : q'.name = q.name) (hg : goodQ q' = true) : GoodC (setQ c q') := by
 obtain ⟨h1, h2⟩ := namedC_ok hq
 exact h.atQ (by rw [hn]; exact List.mem_map_of_mem h1) hg
theorem good_declare {c c' : Cor} {o : Opr} (h : GoodC c) (hd : declareC c o = .ok c') : GoodC c' := by
 unfold declareC at hd
 split at hd
 ·rw [ins_ok] at hd
  have := hd.2
  injection this with e
  rw [← e]
  exact h
 ·rename_i hn
  obtain ⟨q, h1, h2⟩ := bnd_ok.1 hd
  obtain ⟨l, h3, h4⟩ := bnd_ok.1 h2
  injection h4 with h4
  obtain ⟨h5, rfl⟩ := sureE_ok.1 h1
  obtain ⟨h6, rfl⟩ := enE_ok h3
  subst h4
  have hm : ∀ n, hasNm c.queues n = true → hasNm (enL oQ (newQ o.queue o.dur o.n) c.queues) n = true := fun n hn' => by
   rw [hasNm_iff] at hn' ⊢
   obtain ⟨q, hq, e⟩ := List.mem_map.1 hn'
   refine List.mem_map.2 ⟨q, mem_enL.2 (.inr ⟨hq, fun e2 => ?_⟩), e⟩
   have e3 : q.name = o.queue := oQ_zero.1 e2
   have := List.find?_eq_none.1 hn q hq
   simp [e3] at this
  refine ⟨h.now, en_len linQ h.qi h.ql h6, fun q hq => ?_, inc_enL linQ h.qi, h.bl, fun b hb => ?_, h.bi, h.sl, fun s hs => ?_, h.si, h.kl, h.kg, h.ki, h.cl, h.cg, h.ci⟩
  ·rcases mem_enL.1 hq with rfl | ⟨hq, _⟩
   ·exact zero_good h5
   ·exact h.qg q hq
  ·have := h.bg b hb
   simp only [bndB, Bool.and_eq_true] at this ⊢
   exact ⟨hm _ this.1, this.2⟩
  ·have := h.sg s hs
   simp only [sbsB, Bool.and_eq_true] at this ⊢
   exact ⟨⟨this.1.1, hm _ this.1.2⟩, this.2⟩
theorem good_remove {c c' : Cor} {o : Opr} (h : GoodC c) (hd : removeC c o = .ok c') : GoodC c' := by
 unfold removeC at hd
 rw [ins_ok] at hd
 have e := hd.2
 injection e with e
 subst e
 have hm : ∀ n, n ≠ o.queue → hasNm c.queues n = true → hasNm (leL oQ (newQ o.queue false 0) c.queues) n = true := fun n hne hn' => by
  rw [hasNm_iff] at hn' ⊢
  obtain ⟨q, hq, e⟩ := List.mem_map.1 hn'
  refine List.mem_map.2 ⟨q, mem_leL.2 ⟨hq, fun e2 => hne ?_⟩, e⟩
  rw [← e]
  exact oQ_zero.1 e2
 refine ⟨h.now, len_le _ _ h.ql, fun q hq => h.qg q (mem_leL.1 hq).1, inc_leL h.qi, len_le _ _ h.bl, fun b hb => ?_, h.bi.sublist List.filter_sublist, len_le _ _ h.sl, fun s hs => ?_, h.si.sublist List.filter_sublist, h.kl, h.kg, h.ki, h.cl, h.cg, h.ci⟩
 ·obtain ⟨h1, h2⟩ := List.mem_filter.1 hb
  have := h.bg b h1
  simp only [bndB, Bool.and_eq_true] at this ⊢
  exact ⟨hm _ (by simpa using h2) this.1, this.2⟩
 ·obtain ⟨h1, h2⟩ := List.mem_filter.1 hs
  have := h.sg s h1
  simp only [sbsB, Bool.and_eq_true] at this ⊢
  exact ⟨⟨this.1.1, hm _ (by simpa using h2) this.1.2⟩, this.2⟩
theorem good_bind {c c' : Cor} {os : List Ot} {o : Opr} (h : GoodC c) (hd : bindC c o = .ok (c', os)) : GoodC c' := by
 unfold bindC at hd
 rw [ins_ok, ins_ok] at hd
 obtain ⟨h1, h2, h3⟩ := hd
 obtain ⟨l, h4, h5⟩ := bnd_ok.1 h3
 obtain ⟨h6, rfl⟩ := enE_ok h4
 have e : c' = { c with binds := enL oB ⟨o.queue, o.text⟩ c.binds } := by
  split at h5
  ·rw [ins_ok] at h5
   have := h5.2
   injection this with this
   injection this with this
   exact this.symm
  ·injection h5 with this
   injection this with this
   exact this.symm
 subst e
 refine ⟨h.now, h.ql, h.qg, h.qi, en_len linB h.bi h.bl h6, fun b hb => ?_, inc_enL linB h.bi, h.sl, h.sg, h.si, h.kl, h.kg, h.ki, h.cl, h.cg, h.ci⟩
 rcases mem_enL.1 hb with rfl | ⟨hb, _⟩
 ·simp [bndB, h1, h2]
 ·exact h.bg b hb
theorem good_unbind {c c' : Cor} {o : Opr} (h : GoodC c) (hd : unbindC c o = .ok c') : GoodC c' := by
 unfold unbindC at hd
 rw [ins_ok] at hd
 have e := hd.2
 injection e with e
 subst e
 exact ⟨h.now, h.ql, h.qg, h.qi, len_le _ _ h.bl, fun b hb => h.bg b (mem_leL.1 hb).1, inc_leL h.bi, h.sl, h.sg, h.si, h.kl, h.kg, h.ki, h.cl, h.cg, h.ci⟩
theorem GoodC.clients {c : Cor} (h : GoodC c) {l : List Cli} (h1 : (l.length : Int) ≤ 16) (h2 : ∀ m ∈ l, cliB m = true) (h3 : Inc oC l) : GoodC { c with clients := l } := ⟨h.now, h.ql, h.qg, h.qi, h.bl, h.bg, h.bi, h.sl, h.sg, h.si, h.kl, h.kg, h.ki, h1, h2, h3⟩
theorem GoodC.keepL {c : Cor} (h : GoodC c) {l : List Msg} (h1 : (l.length : Int) ≤ 16) (h2 : ∀ m ∈ l, kepB m = true) (h3 : Inc oM l) : GoodC { c with kept := l } := ⟨h.now, h.ql, h.qg, h.qi, h.bl, h.bg, h.bi, h.sl, h.sg, h.si, h1, h2, h3, h.cl, h.cg, h.ci⟩
theorem GoodC.subsL {c : Cor} (h : GoodC c) {l : List Sbs} (h1 : (l.length : Int) ≤ 32) (h2 : ∀ m ∈ l, sbsB c.queues m = true) (h3 : Inc oS l) : GoodC { c with subs := l } := ⟨h.now, h.ql, h.qg, h.qi, h.bl, h.bg, h.bi, h1, h2, h3, h.kl, h.kg, h.ki, h.cl, h.cg, h.ci⟩
theorem cliP_of {c : Cor} {n : List UInt8} : cliP c n = [] ∨ ∃ k ∈ c.clients, k.name = n ∧ cliP c n = k.packets := by
 unfold cliP
 cases e : c.clients.find? (fun k => decide (k.name = n)) with
 | none => exact .inl rfl
 | some k => exact .inr ⟨k, List.mem_of_find?_eq_some e, by have := List.find?_some e; simpa using this, rfl⟩
theorem cliB_parts {k : Cli} : cliB k = true ↔ nameL k.name = true ∧ 0 < k.packets.length ∧ ((k.packets.length : Int) ≤ 32 ∧ (∀ p ∈ k.packets, pktB p = true) ∧ Inc cmpZ k.packets) := by
 simp only [cliB, canL, Bool.and_eq_true, decide_eq_true_eq, List.all_eq_true, risB_inc linZ]
 exact ⟨fun ⟨⟨h1, h2⟩, ⟨h3, h4⟩, h5⟩ => ⟨h1, h2, h3, h4, h5⟩, fun ⟨h1, h2, h3, h4, h5⟩ => ⟨⟨h1, h2⟩, ⟨h3, h4⟩, h5⟩⟩
theorem cliP_good {c : Cor} (h : GoodC c) (n : List UInt8) : ((cliP c n).length : Int) ≤ 32 ∧ (∀ p ∈ cliP c n, pktB p = true) ∧ Inc cmpZ (cliP c n) := by
 rcases cliP_of (c := c) (n := n) with e | ⟨k, hk, _, e⟩
 ·rw [e]
  exact ⟨by simp, fun p hp => (by cases hp), List.Pairwise.nil⟩
 ·rw [e]
  exact (cliB_parts.1 (h.cg k hk)).2.2
theorem good_new {c c' : Cor} {n : List UInt8} {pk : Int} {b : Bool} (h : GoodC c) (hd : isNewC c n pk = .ok (b, c')) : GoodC c' ∧ c'.queues = c.queues ∧ c'.binds = c.binds ∧ c'.now = c.now := by
 unfold isNewC at hd
 rw [ins_ok, ins_ok] at hd
 obtain ⟨h1, h2, h3⟩ := hd
 split at h3
 ·injection h3 with h3
  injection h3 with _ h3
  subst h3
  exact ⟨h, rfl, rfl, rfl⟩
 ·obtain ⟨ps, h4, h5⟩ := bnd_ok.1 h3
  obtain ⟨l, h6, h7⟩ := bnd_ok.1 h5
  injection h7 with h7
  injection h7 with _ h7
  obtain ⟨h8, rfl⟩ := enE_ok h4
  obtain ⟨h9, rfl⟩ := enE_ok h6
  subst h7
  obtain ⟨p1, p2, p3⟩ := cliP_good h n
  refine ⟨h.clients (en_len linC h.ci h.cl h9) (fun m hm => ?_) (inc_enL linC h.ci), rfl, rfl, rfl⟩
  rcases mem_enL.1 hm with rfl | ⟨hm, _⟩
  ·refine cliB_parts.2 ⟨h1, ?_, en_len linZ p3 p1 h8, fun p hp => ?_, inc_enL linZ p3⟩
   ·show 0 < (enL cmpZ pk (cliP c n)).length
    simp [enL]
    omega
   ·rcases mem_enL.1 hp with rfl | ⟨hp, _⟩
    ·exact h2
    ·exact p2 p hp
  ·exact h.cg m hm
theorem push_name {p : Que → Bool} {m : Msg} {q q' : Que} (h : pushE p m q = .ok q') : q'.name = q.name := by
 unfold pushE at h
 split at h
 ·rw [← (sureE_ok.1 h).2]
  rfl
 ·injection h with h
  rw [h]
theorem good_pushAll {c c' : Cor} {p : Que → Bool} {m : Msg} (h : GoodC c) (hd : pushAll c p m = .ok c') : GoodC c' ∧ c'.kept = c.kept := by
 unfold pushAll at hd
 split at hd
 ·injection hd with hd
  subst hd
  exact ⟨h, rfl⟩
 ·obtain ⟨l, h1, h2⟩ := bnd_ok.1 hd
  injection h2 with h2
  subst h2
  obtain ⟨h3, h4⟩ := mapE_ok h1 fun q q' => push_name
  refine ⟨h.names h3 fun q' hq' => ?_, rfl⟩
  obtain ⟨q, hq, e⟩ := h4 q' hq'
  unfold pushE at e
  split at e
  ·obtain ⟨e1, rfl⟩ := sureE_ok.1 e
   exact (goodQ_iff _).2 (good_push ((goodQ_iff _).1 (h.qg q hq)) e1)
  ·injection e with e
   rw [← e]
   exact h.qg q hq
theorem good_retain {c c' : Cor} {m : Msg} (h : GoodC c) (hm : msgB m = true) (hd : retainC c m = .ok c') : GoodC c' := by
 unfold retainC at hd
 split at hd
 ·injection hd with hd
  subst hd
  exact h.keepL (len_le _ _ h.kl) (fun k hk => h.kg k (mem_leL.1 hk).1) (inc_leL h.ki)
 ·rename_i hne
  obtain ⟨l, h1, h2⟩ := bnd_ok.1 hd
  injection h2 with h2
  obtain ⟨h3, rfl⟩ := enE_ok h1
  subst h2
  refine h.keepL (en_len linM h.ki h.kl h3) (fun k hk => ?_) (inc_enL linM h.ki)
  rcases mem_enL.1 hk with rfl | ⟨hk, _⟩
  ·simp [kepB, hm, hne]
  ·exact h.kg k hk
theorem good_publish2 {c c' : Cor} {o : Opr} (h : GoodC c) (hm : msgB o.msg = true) (hd : publish2 c o = .ok c') : GoodC c' := by
 unfold publish2 at hd
 rw [ins_ok] at hd
 obtain ⟨c2, h1, h2⟩ := bnd_ok.1 hd.2
 obtain ⟨g2, _⟩ := good_pushAll h h1
 split at h2
 ·exact good_retain g2 hm h2
 ·injection h2 with h2
  rw [← h2]
  exact g2
theorem good_publish {c c' : Cor} {o : Opr} (h : GoodC c) (hd : publishC c o = .ok c') : GoodC c' := by
 unfold publishC at hd
 rw [ins_ok] at hd
 obtain ⟨h1, h2⟩ := hd
 split at h2
 ·exact good_publish2 h h1 h2
 ·obtain ⟨⟨b, c2⟩, h3, h4⟩ := bnd_ok.1 h2
  have g2 := (good_new h h3).1
  cases b
  ·injection h4 with h4
   rw [← h4]
   exact g2
  ·exact good_publish2 g2 h1 h4
theorem good_forget {c c' : Cor} {o : Opr} (h : GoodC c) (hd : forgetC c o = .ok c') : GoodC c' := by
 unfold forgetC at hd
 rw [ins_ok] at hd
 have e := hd.2
 injection e with e
 subst e
 exact h.clients (len_le _ _ h.cl) (fun k hk => h.cg k (mem_leL.1 hk).1) (inc_leL h.ci)
theorem good_releaseC {c c' : Cor} {o : Opr} (h : GoodC c) (hd : releaseC c o = .ok c') : GoodC c' := by
 unfold releaseC at hd
 rw [ins_ok] at hd
 obtain ⟨h1, h2⟩ := hd
 split at h2
 ·injection h2 with h2
  rw [← h2]
  exact h
 ·rename_i k hk
  have hm := List.mem_of_find?_eq_some hk
  obtain ⟨k1, k2, k3, k4, k5⟩ := cliB_parts.1 (h.cg k hm)
  split at h2
  ·exact good_forget h h2
  ·rename_i hne
   injection h2 with h2
   subst h2
   refine h.clients (en_len linC h.ci h.cl (.inl ?_)) (fun m hm' => ?_) (inc_enL linC h.ci)
   ·simp only [hasL, List.any_eq_true, decide_eq_true_eq]
    exact ⟨k, hm, linC.refl k⟩
   ·rcases mem_enL.1 hm' with rfl | ⟨hm', _⟩
    ·exact cliB_parts.2 ⟨k1, List.length_pos_iff.2 hne, len_le _ _ k3, fun p hp => k4 p (mem_leL.1 hp).1, inc_leL k5⟩
    ·exact h.cg m hm'
theorem good_subscribe {c c' : Cor} {o : Opr} (h : GoodC c) (hd : subscribeC c o = .ok c') : GoodC c' := by
 unfold subscribeC at hd
 rw [ins_ok, ins_ok, ins_ok] at hd
 obtain ⟨h1, h2, h3, h4⟩ := hd
 obtain ⟨l, h5, h6⟩ := bnd_ok.1 h4
 injection h6 with h6
 obtain ⟨h7, rfl⟩ := enE_ok h5
 subst h6
 simp only [Bool.and_eq_true] at h1
 refine h.subsL (en_len linS h.si h.sl h7) (fun m hm => ?_) (inc_enL linS h.si)
 rcases mem_enL.1 hm with rfl | ⟨hm, _⟩
 ·simp [sbsB, h1.1, h1.2, h2]
 ·exact h.sg m hm
theorem good_unsubscribe {c c' : Cor} {o : Opr} (h : GoodC c) (hd : unsubscribeC c o = .ok c') : GoodC c' := by
 unfold unsubscribeC at hd
 split at hd
 ·cases hd
 ·obtain ⟨q, h1, h2⟩ := bnd_ok.1 hd
  obtain ⟨q', h3, h4⟩ := bnd_ok.1 h2
  obtain ⟨_, rfl⟩ := sureE_ok.1 h3
  injection h4 with h4
  subst h4
  obtain ⟨h5, h6⟩ := namedC_ok h1
  have g := h.named h1 (q' := releaseQ q o.conn o.sub) rfl ((goodQ_iff _).2 (good_release ((goodQ_iff _).1 (h.qg q h5)) _ _))
  exact g.subsL (len_le _ _ h.sl) (fun m hm => g.sg m (mem_leL.1 hm).1) (inc_leL h.si)
theorem good_get {c c' : Cor} {os : List Ot} {o : Opr} (h : GoodC c) (hd : getC c o = .ok (c', os)) : GoodC c' := by
 unfold getC at hd
 rw [ins_ok] at hd
 obtain ⟨q, h1, h2⟩ := bnd_ok.1 hd.2
 obtain ⟨q1, h3, h4⟩ := bnd_ok.1 h2
 obtain ⟨r, h5, h6⟩ := bnd_ok.1 h4
 obtain ⟨_, rfl⟩ := sureE_ok.1 h3
 injection h6 with h6
 injection h6 with h6 _
 subst h6
 obtain ⟨h7, h8⟩ := handQ_ok h5
 obtain ⟨h9, _⟩ := namedC_ok h1
 rw [h8]
 exact h.named h1 (q' := takeQ (expireQ q c.now) o.conn o.sub (!o.auto)) (take_name ..) ((goodQ_iff _).2 (good_take (good_expire ((goodQ_iff _).1 (h.qg q h9)) _) h7 _))
theorem good_settleK {c c' : Cor} {o : Opr} {again : Bool} (h : GoodC c) (hd : settleK c o again = .ok c') : GoodC c' := by
 unfold settleK at hd
 obtain ⟨q, h1, h2⟩ := bnd_ok.1 hd
 obtain ⟨q1, h3, h4⟩ := bnd_ok.1 h2
 obtain ⟨h5, rfl⟩ := sureE_ok.1 h3
 injection h4 with h4
 subst h4
 obtain ⟨h9, _⟩ := namedC_ok h1
 exact h.named h1 (q' := settleQ q o.conn o.n again) rfl ((goodQ_iff _).2 (good_settle ((goodQ_iff _).1 (h.qg q h9)) h5 _))
theorem rel_all {l : List Que} (h : ∀ q ∈ l, goodQ q = true) (conn : Int) : mapE (relE conn) l = .ok (l.map fun q => releaseQ q conn (-1)) := by
 induction l with
 | nil => rfl
 | cons q l ih =>
  have h1 := ih fun x hx => h x (by simp [hx])
  simp only [mapE, relE, relC_ok (h q (by simp)), sureE, if_true, bnd] at h1 ⊢
  rw [h1]
  rfl
theorem good_detach {c c' : Cor} {o : Opr} (h : GoodC c) (hd : detachC c o = .ok c') : GoodC c' := by
 unfold detachC at hd
 rw [ins_ok] at hd
 obtain ⟨l, h1, h2⟩ := bnd_ok.1 hd.2
 rw [rel_all h.qg] at h1
 injection h1 with h1
 injection h2 with h2
 subst h1 h2
 have g := h.names (l := c.queues.map fun q => releaseQ q o.conn (-1)) (by rw [List.map_map]; rfl) fun q' hq' => by
  obtain ⟨q, hq, rfl⟩ := List.mem_map.1 hq'
  exact (goodQ_iff _).2 (good_release ((goodQ_iff _).1 (h.qg q hq)) _ _)
 exact g.subsL (len_le _ _ h.sl) (fun m hm => g.sg m (List.mem_filter.1 hm).1) (h.si.sublist List.filter_sublist)
theorem good_tick {c c' : Cor} {o : Opr} (h : GoodC c) (hd : tickC c o = .ok c') : GoodC c' := by
 unfold tickC at hd
 rw [ins_ok] at hd
 obtain ⟨h1, h2⟩ := hd
 injection h2 with h2
 subst h2
 simp only [Bool.and_eq_true, decide_eq_true_eq] at h1
 have := h.now
 simp only [numB, Bool.and_eq_true, decide_eq_true_eq] at this
 refine ⟨?_, h.ql, h.qg, h.qi, h.bl, h.bg, h.bi, h.sl, h.sg, h.si, h.kl, h.kg, h.ki, h.cl, h.cg, h.ci⟩
 show numB (c.now + o.n) = true
 simp only [numB, Bool.and_eq_true, decide_eq_true_eq]
 omega
theorem noO_ok {x : Except Int Cor} {c : Cor} {os : List Ot} : noO x = .ok (c, os) ↔ x = .ok c ∧ os = [] := by
 unfold noO
 rw [bnd_ok]
 constructor
 ·rintro ⟨a, h1, h2⟩
  injection h2 with h2
  injection h2 with h2 h3
  subst h2 h3
  exact ⟨h1, rfl⟩
 ·rintro ⟨h1, rfl⟩
  exact ⟨c, h1, rfl⟩
theorem good_act {c c' : Cor} {os : List Ot} {o : Opr} (h : GoodC c) (hd : actC c o = .ok (c', os)) : GoodC c' := by
 unfold actC at hd
 by_cases h1 : o.kind = 1
 ·rw [if_pos h1] at hd
  exact good_declare h (noO_ok.1 hd).1
 rw [if_neg h1] at hd
 by_cases h2 : o.kind = 2
 ·rw [if_pos h2] at hd
  exact good_remove h (noO_ok.1 hd).1
 rw [if_neg h2] at hd
 by_cases h3 : o.kind = 3
 ·rw [if_pos h3] at hd
  exact good_bind h hd
 rw [if_neg h3] at hd
 by_cases h4 : o.kind = 4
 ·rw [if_pos h4] at hd
  exact good_unbind h (noO_ok.1 hd).1
 rw [if_neg h4] at hd
 by_cases h5 : o.kind = 5
 ·rw [if_pos h5] at hd
  exact good_publish h (noO_ok.1 hd).1
 rw [if_neg h5] at hd
 by_cases h6 : o.kind = 6
 ·rw [if_pos h6] at hd
  exact good_releaseC h (noO_ok.1 hd).1
 rw [if_neg h6] at hd
 by_cases h7 : o.kind = 7
 ·rw [if_pos h7] at hd
  exact good_forget h (noO_ok.1 hd).1
 rw [if_neg h7] at hd
 by_cases h8 : o.kind = 8
 ·rw [if_pos h8] at hd
  exact good_subscribe h (noO_ok.1 hd).1
 rw [if_neg h8] at hd
 by_cases h9 : o.kind = 9
 ·rw [if_pos h9] at hd
  exact good_unsubscribe h (noO_ok.1 hd).1
 rw [if_neg h9] at hd
 by_cases h10 : o.kind = 10
 ·rw [if_pos h10] at hd
  exact good_get h hd
 rw [if_neg h10] at hd
 by_cases h11 : o.kind = 11
 ·rw [if_pos h11] at hd
  exact good_settleK h (noO_ok.1 hd).1
 rw [if_neg h11] at hd
 by_cases h12 : o.kind = 12
 ·rw [if_pos h12] at hd
  exact good_settleK h (noO_ok.1 hd).1
 rw [if_neg h12] at hd
 by_cases h13 : o.kind = 13
 ·rw [if_pos h13] at hd
  exact good_detach h (noO_ok.1 hd).1
 rw [if_neg h13] at hd
 exact good_tick h (noO_ok.1 hd).1
def PumpedQ (subs : List Sbs) (now : Int) (q : Que) : Prop := (∀ x ∈ q.items, oldB now x = false) ∧ (q.items ≠ [] → ∀ s ∈ subs, mayB q s = false)
theorem take_items (q : Que) (conn sub : Int) (hold : Bool) : (takeQ q conn sub hold).items = q.items.drop 1 := by cases hold <;> rfl
theorem pumpQ_ok {subs : List Sbs} {now : Int} : ∀ {n : Nat} {q : Que} {r : Que × List Ot}, pumpQ subs n q = .ok r → goodQ q = true → q.items.length ≤ n → (∀ x ∈ q.items, oldB now x = false) → r.1.name = q.name ∧ goodQ r.1 = true ∧ PumpedQ subs now r.1
 | 0, q, r, h, hg, hn, ho => by
  injection h with h
  subst h
  exact ⟨rfl, hg, ho, fun hne => absurd (List.length_eq_zero_iff.1 (Nat.le_zero.1 hn)) hne⟩
 | n + 1, q, r, h, hg, hn, ho => by
  unfold pumpQ at h
  split at h
  ·rename_i he
   injection h with h
   subst h
   exact ⟨rfl, hg, ho, fun hne => absurd he hne⟩
  ·rename_i hne
   split at h
   ·rename_i hf
    injection h with h
    subst h
    exact ⟨rfl, hg, ho, fun _ s hs => by have := List.find?_eq_none.1 hf s hs; simpa using this⟩
   ·rename_i s hf
    obtain ⟨r1, h1, h2⟩ := bnd_ok.1 h
    obtain ⟨r2, h3, h4⟩ := bnd_ok.1 h2
    injection h4 with h4
    subst h4
    obtain ⟨h5, h6⟩ := handQ_ok h1
    have hit : r1.1.items = q.items.drop 1 := by rw [h6, take_items]
    have hpos := List.length_pos_iff.2 hne
    obtain ⟨i1, i2, i3⟩ := pumpQ_ok h3 (by rw [h6]; exact (goodQ_iff _).2 (good_take ((goodQ_iff _).1 hg) h5 _)) (by rw [hit, List.length_drop]; omega) (fun x hx => ho x (by rw [hit] at hx; exact List.mem_of_mem_drop hx))
    exact ⟨by rw [i1, h6, take_name], i2, i3⟩
theorem pumpE_ok {subs : List Sbs} {now : Int} {q : Que} {r : Que × List Ot} (h : pumpE subs now q = .ok r) (hg : goodQ q = true) : r.1.name = q.name ∧ goodQ r.1 = true ∧ PumpedQ subs now r.1 := by
 unfold pumpE at h
 obtain ⟨q1, h1, h2⟩ := bnd_ok.1 h
 obtain ⟨_, rfl⟩ := sureE_ok.1 h1
 obtain ⟨i1, i2, i3⟩ := pumpQ_ok (now := now) h2 ((goodQ_iff _).2 (good_expire ((goodQ_iff _).1 hg) _)) (Nat.le_refl _) (fun x hx => by have := (List.mem_filter.1 hx).2; simpa using this)
 exact ⟨i1, i2, i3⟩
theorem pumpL_ok {subs : List Sbs} {now : Int} : ∀ {l : List Que} {r : List Que × List Ot}, pumpL subs now l = .ok r → (∀ q ∈ l, goodQ q = true) → r.1.map Que.name = l.map Que.name ∧ (∀ q ∈ r.1, goodQ q = true) ∧ ∀ q ∈ r.1, PumpedQ subs now q
 | [], r, h, _ => by
  injection h with h
  subst h
  simp
 | q :: l, r, h, hg => by
  unfold pumpL at h
  obtain ⟨r1, h1, h2⟩ := bnd_ok.1 h
  obtain ⟨r2, h3, h4⟩ := bnd_ok.1 h2
  injection h4 with h4
  subst h4
  obtain ⟨i1, i2, i3⟩ := pumpE_ok h1 (hg q (by simp))
  obtain ⟨j1, j2, j3⟩ := pumpL_ok h3 fun x hx => hg x (by simp [hx])
  refine ⟨by simp [i1, j1], fun x hx => ?_, fun x hx => ?_⟩
  ·rcases List.mem_cons.1 hx with rfl | hx
   ·exact i2
   ·exact j2 x hx
  ·rcases List.mem_cons.1 hx with rfl | hx
   ·exact i3
   ·exact j3 x hx
def Pumped (c : Cor) : Prop := ∀ q ∈ c.queues, PumpedQ c.subs c.now q
theorem pumpC_ok {c : Cor} {r : Cor × List Ot} (h : pumpC c = .ok r) (hg : GoodC c) : GoodC r.1 ∧ Pumped r.1 ∧ r.1.now = c.now ∧ r.1.binds = c.binds ∧ r.1.subs = c.subs ∧ r.1.kept = c.kept ∧ r.1.clients = c.clients := by
 unfold pumpC at h
 obtain ⟨r1, h1, h2⟩ := bnd_ok.1 h
 injection h2 with h2
 subst h2
 obtain ⟨i1, i2, i3⟩ := pumpL_ok h1 hg.qg
 exact ⟨hg.names i1 i2, i3, rfl, rfl, rfl, rfl, rfl⟩
theorem doC_ok {c : Cor} {o : Opr} {r : Cor × List Ot} (h : doC c o = .ok r) : GoodC c ∧ GoodC r.1 ∧ Pumped r.1 ∧ ∃ r1, actC c o = .ok r1 ∧ GoodC r1.1 ∧ ∃ r2, pumpC r1.1 = .ok r2 ∧ r.1 = r2.1 ∧ r.2 = r1.2 ++ r2.2 := by
 unfold doC at h
 rw [ins_ok] at h
 obtain ⟨h1, h2⟩ := h
 simp only [Bool.and_eq_true] at h1
 have hg := (goodC_iff c).1 h1.2
 obtain ⟨r1, h3, h4⟩ := bnd_ok.1 h2
 obtain ⟨r2, h5, h6⟩ := bnd_ok.1 h4
 injection h6 with h6
 subst h6
 have g1 := good_act hg (c' := r1.1) (os := r1.2) h3
 obtain ⟨i1, i2, _⟩ := pumpC_ok h5 g1
 exact ⟨hg, i1, i2, r1, h3, g1, r2, h5, rfl, rfl⟩
def zeroC : Cor := ⟨0, [], [], [], [], []⟩
def op0 (k n : Int) (q t : List UInt8) : Opr := ⟨k, 0, 0, n, q, t, false, false, false, zeroM⟩
theorem good_zero : GoodC zeroC := ⟨rfl, by decide, fun q h => (by cases h), .nil, by decide, fun q h => (by cases h), .nil, by decide, fun q h => (by cases h), .nil, by decide, fun q h => (by cases h), .nil, by decide, fun q h => (by cases h), .nil⟩
theorem pumped_zero : Pumped zeroC := fun q h => by cases h
theorem find_none {l : List Que} {n : List UInt8} (h : hasNm l n = false) : l.find? (fun q => decide (q.name = n)) = none := by
 refine List.find?_eq_none.2 fun q hq => ?_
 intro e
 have : hasNm l n = true := hasNm_iff.2 (List.mem_map.2 ⟨q, hq, by simpa using e⟩)
 rw [h] at this
 cases this
def behindC (c : Cor) : List Opr → Cor
 | [] => c
 | o :: l => match doC c o with
  | .ok r => behindC r.1 l
  | .error _ => behindC c l
theorem behind_good {c : Cor} (hg : GoodC c) (hp : Pumped c) : ∀ l : List Opr, GoodC (behindC c l) ∧ Pumped (behindC c l) := fun l => by
 induction l generalizing c with
 | nil => exact ⟨hg, hp⟩
 | cons o l ih =>
  unfold behindC
  split
  ·rename_i r h
   obtain ⟨_, g1, p1, _⟩ := doC_ok h
   exact ih g1 p1
  ·exact ih hg hp
def runC (c : Cor) : List Opr → Except Int (Cor × List Ot)
 | [] => .ok (c, [])
 | o :: l => bnd (doC c o) fun r => bnd (runC r.1 l) fun r2 => .ok (r2.1, r.2 ++ r2.2)
theorem runC_app (c : Cor) (a b : List Opr) : runC c (a ++ b) = bnd (runC c a) fun r => bnd (runC r.1 b) fun r2 => .ok (r2.1, r.2 ++ r2.2) := by
 induction a generalizing c with
 | nil =>
  show runC c b = bnd (runC c b) fun r2 => .ok (r2.1, [] ++ r2.2)
  cases runC c b <;> simp [bnd]
 | cons o a ih =>
  show bnd (doC c o) _ = bnd (bnd (doC c o) _) _
  cases h : doC c o with
  | error n => rfl
  | ok r =>
   show bnd (runC r.1 (a ++ b)) _ = bnd (bnd (runC r.1 a) _) _
   rw [ih]
   cases h2 : runC r.1 a with
   | error n => rfl
   | ok r2 =>
    show bnd (bnd (runC r2.1 b) _) _ = bnd (runC r2.1 b) _
    cases h3 : runC r2.1 b with
    | error n => rfl
    | ok r3 => simp [bnd, List.append_assoc]
theorem insist_any (w : World) (b : Bool) (n : Int) : Calls Tryz.prog 111 #[.bool b, .int .i64 n] w fun e w' => w' = w ∧ ((b = true ∧ e = .returned (.tuple #[])) ∨ (b = false ∧ e = .panicked (gup n))) := by
 cases b
 ·exact (insist_no w n).mono fun e w' ⟨h1, h2⟩ => ⟨h2, .inr ⟨rfl, h1⟩⟩
 ·exact (insist_ok w n).mono fun e w' ⟨h1, h2⟩ => ⟨h2, .inl ⟨rfl, h1⟩⟩
def opV (o : Opr) (pv : Value) : Value := .agg #[.int .i64 o.kind, .int .i64 o.conn, .int .i64 o.sub, .int .i64 o.n, tx o.queue, tx o.text, .bool o.dur, .bool o.auto, .bool o.keep, tx o.msg.topic, tx o.msg.body, pv, .bool o.msg.dur, .int .i64 o.msg.til]
theorem opw_putAt {ty : TypeId} {o : Oper} {a : Act} {w : World} {K : Act → World → Prop} {Q : Exit → Act → World → Prop} (x y : Operand) (ho : o.op = .store ty x y)
  (g off : Nat) (cells : Array Value) (hx : a.eval x = .pointer (some ⟨g, off, none⟩)) (hy : a.eval y = .agg cells)
  {t : TypeId} {old : Array Value} (hg : Blk w g old t) (hi : (Tryz.prog.info? ty).map (·.size) = some cells.size)
  (hfit : off + cells.size ≤ old.size) (h1 : cells.all (·.oneCell') = true)
  (h : ∀ W', Blk W' g (old.toList.take off ++ cells.toList ++ old.toList.drop (off + cells.size)).toArray t → w.grownBy W' (some g) → W'.heap.size = w.heap.size → K (a.put o.dst undef) W') : o.wp Tryz.prog a w K Q := by
 have hst := run_storeCells_at Tryz.prog g off t cells.toList 0 old w hg.h (by simp; omega) (fun v hv => (Array.all_eq_true_iff_forall_mem.1 h1) v (by simpa using hv))
 simp only [Nat.add_zero, Array.length_toList] at hst
 have hrun : (storeVar ty ⟨g, off, none⟩ (.agg cells)).run Tryz.prog w = .ok () (w.setRow g (old.toList.take off ++ cells.toList ++ old.toList.drop (off + cells.size)).toArray) := by
  cases hq : Tryz.prog.info? ty with
  | none => simp [hq] at hi
  | some i =>
   have hs : cells.size = i.size := by simp [hq] at hi; omega
   simp [storeVar, sizeOf, typeInfo, hq, Value.cells, ← hs, hst]
 unfold Oper.wp execOp
 simp only [ho, hx, hy, Instr.storeAt, Instr.sureAddr, Sem.run_bind, Sem.run_pure, Result.andThen_ok, hrun]
 exact h _ (hg.row _) (grown_setRow w g _) (by simp [World.setRow])
def At7 (cur : Array Value) (k : Nat) (vs : List Value) : Prop := ∀ j u, vs[j]? = some u → cur[k + j]? = some u
structure El (w : World) (B : Nat) (qv : Value) (l : List Que) (p gq cap : Nat) (cur : Array Value) (iv hv : Value) : Prop where
 lt : p < l.length
 eq : qv = .slice (some ⟨gq, 0, none⟩) l.length cap
 low : B ≤ gq
 blk : Blk w gq cur 82
 fit : p * 7 + 7 ≤ cur.size
 at7 : At7 cur (p * 7) [tx (l[p]).name, .bool (l[p]).dur, .int .i64 (l[p]).depth, .int .i64 (l[p]).seq, .int .i64 (l[p]).tag, iv, hv]
 own : OwnQ w B (queV (l[p]) iv hv) (l[p])
theorem Tv.el {w : World} {B g : Nat} {c : Cor} {os : List Ot} {qv bv sv kv cv ov : Value} (h : Tv w B g c os qv bv sv kv cv ov) {p : Nat} (hp : p < c.queues.length) : ∃ gq cap cur iv hv, El w B qv c.queues p gq cap cur iv hv := by
 obtain ⟨zs, e, hz⟩ := h.q
 have hl : zs.length = c.queues.length := by rw [← e, List.length_map]
 obtain ⟨gq, cap, cur, ev, hB, kb, hc, hm, hs, ht⟩ := ownG_some kiQ hz (by omega)
 have hpz : p < zs.length := by omega
 have hq : c.queues[p] = (zs[p]).2 := by simp only [← e, List.getElem_map]
 have hfit : p * 7 + 7 ≤ cur.size := by
  have : p * 7 + 7 ≤ cap * 7 := by rw [← Nat.succ_mul]; exact Nat.mul_le_mul_right 7 (by omega)
  rw [hs]
  exact this
 have hR : QuR (OwnQ w B) (zs[p]).1 (zs[p]).2 := (hz.2 _ (List.getElem_mem hpz)).2
 have hR0 := hR
 obtain ⟨iv, hv, e1, h2, h3⟩ := hR
 have e2 : (zs[p]).1 = [tx (zs[p]).2.name, .bool (zs[p]).2.dur, .int .i64 (zs[p]).2.depth, .int .i64 (zs[p]).2.seq, .int .i64 (zs[p]).2.tag, iv, hv] := by
  injection e1 with e1
  have := congrArg Array.toList e1
  simpa using this
 refine ⟨gq, cap, cur, iv, hv, hp, by rw [ev, hl], hB, kb, hfit, ?_, ?_⟩
 ·have hcz := RdZ.cells (w := w) (b := gq) (o := 0) (n := zs.length) (c := cap) (by rw [← ev]; exact hz.rd) hpz
  intro j u hj
  rw [hq, ← e2] at hj
  have := hcz j u hj
  rw [kb.cell] at this
  simpa using this
 ·rw [hq]
  exact ⟨iv, hv, rfl, h2, h3⟩
theorem El.on {w w' : World} {B : Nat} {qv : Value} {l : List Que} {p gq cap : Nat} {cur : Array Value} {iv hv : Value} (h : El w B qv l p gq cap cur iv hv) (hb : Bw w w') : El w' B qv l p gq cap cur iv hv := ⟨h.lt, h.eq, h.low, h.blk.on hb, h.fit, h.at7, h.own.on hb⟩
theorem El.kx {e : TypeId} {w w' : World} {B : Nat} {qv : Value} {l : List Que} {p gq cap : Nat} {cur : Array Value} {iv hv : Value} (h : El w B qv l p gq cap cur iv hv) (k : KX e w w') (he : (82 ≠ e ∧ 131 ≠ e) ∧ (133 ≠ e ∧ 66 ≠ e)) : El w' B qv l p gq cap cur iv hv := ⟨h.lt, h.eq, h.low, h.blk.kt (k.kt _ he.1.1), h.fit, h.at7, h.own.keep (k.kt _ he.1.2) (k.kt _ he.2.1) (k.kt _ he.2.2)⟩
theorem Tv.put {w W' : World} {B g : Nat} {c : Cor} {os : List Ot} {qv bv sv kv cv ov : Value} (h : Tv w B g c os qv bv sv kv cv ov) {p gq cap : Nat} {cur : Array Value} {iv hv : Value} (he : El w B qv c.queues p gq cap cur iv hv) {q' : Que} {iv' hv' : Value} (hq : OwnQ w B (queV q' iv' hv') q')
  (kb : Blk W' gq (cur.toList.take (p * 7) ++ (queV q' iv' hv').cells.toList ++ cur.toList.drop (p * 7 + 7)).toArray 82) (hg : w.grownBy W' (some gq)) :
  Tv W' B g { c with queues := c.queues.set p q' } os qv bv sv kv cv ov ∧ FrT B w W' ∧ El W' B qv (c.queues.set p q') p gq cap (cur.toList.take (p * 7) ++ (queV q' iv' hv').cells.toList ++ cur.toList.drop (p * 7 + 7)).toArray iv' hv' := by
 have k : KX 82 w W' := .put he.blk hg
 have hf : FrT B w W' := ⟨below_grown hg (fun x e => by injection e with e; rw [← e]; exact he.low) h.lt, fun t ht => k.kt t (fun e => by rw [e] at ht; cases ht)⟩
 obtain ⟨zs, e, hz⟩ := h.q
 have hl : zs.length = c.queues.length := by rw [← e, List.length_map]
 have hpz : p < zs.length := by have := he.lt; omega
 obtain ⟨ys, eys, hy1, hy2⟩ := hq.cells
 have ecs : (queV q' iv' hv').cells.toList = ys := by rw [eys]; rfl
 have hqW : OwnQ W' B (queV q' iv' hv') q' := hq.keep (k.kt _ (by decide)) (k.kt _ (by decide)) (k.kt _ (by decide))
 have hz2 : OwnZ 82 7 (QuR (OwnQ W' B)) W' B qv (zs.set p (ys, q')) := by
  rw [he.eq, ← hl] at hz ⊢
  have hzW : OwnZ 82 7 (QuR (OwnQ W' B)) w B (.slice (some ⟨gq, 0, none⟩) zs.length cap) zs := hz.imp fun ys x h => OwnQ.keep h (k.kt _ (by decide)) (k.kt _ (by decide)) (k.kt _ (by decide))
  refine own_set hzW rfl he.blk hpz (ys, q') ⟨⟨hy1, hy2⟩, ?_⟩ (by rw [← ecs]; exact kb)
  show OwnQ W' B (.agg ys.toArray) q'
  rw [← eys]
  exact hqW
 have hT : Tv W' B g { c with queues := c.queues.set p q' } os qv bv sv kv cv ov := ⟨h.blk.kt (k.kt _ (by decide)), h.low, ⟨_, by rw [List.map_set, e], hz2⟩, h.b.kx k (by decide), h.s.kx k (by decide), h.k.kx k (by decide), h.c.kx k (by decide), h.o.kx k (by decide)⟩
 have hlt : p < (c.queues.set p q').length := by rw [List.length_set]; exact he.lt
 have hgp : (c.queues.set p q')[p] = q' := by simp
 have hsz : (queV q' iv' hv').cells.toList.length = 7 := rfl
 have hf7 := he.fit
 refine ⟨hT, hf, hlt, by rw [List.length_set]; exact he.eq, he.low, kb, ?_, ?_, ?_⟩
 ·rw [List.size_toArray, List.length_append, List.length_append, List.length_take, List.length_drop, Array.length_toList, hsz]
  omega
 ·rw [hgp]
  intro j u hj
  have hj7 : j < 7 := by
   have := (List.getElem?_eq_some_iff.1 hj).1
   simpa using this
  rw [List.getElem?_toArray, List.append_assoc, List.getElem?_append_right (by rw [List.length_take, Array.length_toList]; omega), List.length_take, Array.length_toList, Nat.min_eq_left (by omega), Nat.add_sub_cancel_left, List.getElem?_append_left (by rw [hsz]; exact hj7)]
  exact hj
 ·rw [hgp]
  exact hqW
set_option maxHeartbeats 1000000 in
theorem sure_ok (w : World) (t0 t1 t2 t3 t4 t5 t6 : Value) (ht : (t0.oneCell' = true ∧ t1.oneCell' = true ∧ t2.oneCell' = true) ∧ (t3.oneCell' = true ∧ t4.oneCell' = true ∧ t5.oneCell' = true ∧ t6.oneCell' = true)) :
  Calls Tryz.prog 90 #[.agg #[t0, t1, t2, t3, t4, t5, t6], .int .i64 0] w fun e w' => e = .returned (.agg #[t0, t1, t2, t3, t4, t5, t6]) ∧ Bw w w' := by
 have HB : Bw w ((w.alloc (.cells #[t0, t1, t2, t3, t4, t5, t6] 82)).alloc (.cells quZ 82)) := ((Below.refl _ w).alloc (Nat.le_refl _) _).alloc (by simp) _
 have kA := (Blk.new w #[t0, t1, t2, t3, t4, t5, t6] 82).alloc (.cells quZ 82)
 have kB := Blk.new (w.alloc (.cells #[t0, t1, t2, t3, t4, t5, t6] 82)) quZ 82
 rw [World.size_alloc] at kB
 go_enter Tryz.func90, Tryz.ntmps90
 go_upto_region 1 with fail
 generalize (w.alloc (.cells #[t0, t1, t2, t3, t4, t5, t6] 82)).alloc (.cells quZ 82) = w1 at *
 have HI := insist_ok w1 0
 go_wp2_with fail
 refine HI.mono ?_
 rintro e w2 ⟨rfl, h2⟩
 rw [h2]
 clear h2 w2 HI
 go_wp2_with (first | refine wpl_load25 rfl (.tmp 2) rfl w.heap.size _ rfl kA (by kernel_rfl) ?_ | refine wpl_put rfl (.tmp 4) (.tmp 9) rfl (w.heap.size + 1) _ rfl rfl kB (by kernel_rfl) (by kernel_rfl) (by simp [ht.1.1, ht.1.2.1, ht.1.2.2, ht.2.1, ht.2.2.1, ht.2.2.2.1, ht.2.2.2.2]) ?_)
 intro w3 k3 g3 s3
 go_wp2_with fail
 refine ret25 rfl k3 rfl rfl ⟨rfl, HB.grown g3 HB.size (fun k hk => by injection hk with hk; omega)⟩
set_option maxHeartbeats 1000000 in
theorem sure_no (w : World) (t0 t1 t2 t3 t4 t5 t6 : Value) (n : Int) (hn : n ≠ 0) :
  Calls Tryz.prog 90 #[.agg #[t0, t1, t2, t3, t4, t5, t6], .int .i64 n] w fun e w' => e = .panicked (gup n) ∧ Bw w w' := by
 have HB : Bw w ((w.alloc (.cells #[t0, t1, t2, t3, t4, t5, t6] 82)).alloc (.cells quZ 82)) := ((Below.refl _ w).alloc (Nat.le_refl _) _).alloc (by simp) _
 have hd : (n == 0) = false := by simpa using hn
 go_enter Tryz.func90, Tryz.ntmps90
 go_upto_region 1 with fail
 generalize (w.alloc (.cells #[t0, t1, t2, t3, t4, t5, t6] 82)).alloc (.cells quZ 82) = w1 at *
 have HI := insist_no w1 n
 go_wp2_with fail
 refine HI.mono ?_
 rintro e w2 ⟨rfl, h2⟩
 rw [h2]
 exact ⟨rfl, rfl, HB⟩
theorem sure_any (w : World) (B : Nat) (v : Value) (q : Que) (h : OwnQ w B v q) (n : Int) : Calls Tryz.prog 90 #[v, .int .i64 n] w fun e w' => ((n = 0 ∧ e = .returned v) ∨ (n ≠ 0 ∧ e = .panicked (gup n))) ∧ Bw w w' := by
 obtain ⟨iv, hv, rfl, h1, h2⟩ := h
 obtain ⟨ia, ic, ei⟩ := h1.rd.len
 obtain ⟨ja, jc, ej⟩ := h2.rd.len
 by_cases hn : n = 0
 ·subst hn
  exact (sure_ok w _ _ _ _ _ _ _ ⟨⟨rfl, rfl, rfl⟩, rfl, rfl, by rw [ei]; rfl, by rw [ej]; rfl⟩).mono fun e w' h => ⟨.inl ⟨rfl, h.1⟩, h.2⟩
 ·exact (sure_no w _ _ _ _ _ _ _ n hn).mono fun e w' h => ⟨.inr ⟨hn, h.1⟩, h.2⟩
theorem find_at {l : List Que} (hl : Inc oQ l) {p : Nat} (hp : p < l.length) {n : List UInt8} (hn : (l[p]).name = n) : l.find? (fun q => decide (q.name = n)) = some l[p] := by
 have hr := List.pairwise_iff_getElem.1 hl
 rw [List.find?_eq_some_iff_getElem]
 refine ⟨by simpa using hn, p, hp, rfl, fun j hj => ?_⟩
 have h1 := hr j p (by omega) hp hj
 simp only [Bool.not_eq_true', decide_eq_false_iff_not]
 intro e
 have : oQ l[j] l[p] = 0 := oQ_zero.2 (by rw [e, hn])
 omega
set_option maxHeartbeats 1000000 in
theorem named_any (w : World) (B g : Nat) (c : Cor) (os : List Ot) (qv bv sv kv cv ov : Value) (hT : Tv w B g c os qv bv sv kv cv ov) (hg : GoodC c) (n : List UInt8) :
  Calls Tryz.prog 136 #[.pointer (some ⟨g, 0, none⟩), tx n] w fun e w' => ((∃ p gq cap cur iv hv, ∃ hp : p < c.queues.length, namedC c n = .ok c.queues[p] ∧ e = .returned (.pointer (some ⟨gq, p * 7, none⟩)) ∧ El w' B qv c.queues p gq cap cur iv hv) ∨ (namedC c n = .error 33 ∧ e = .panicked (gup 33))) ∧ Bw w w' := by
 obtain ⟨zs, e, hz⟩ := hT.q
 have hl : zs.length = c.queues.length := by rw [← e, List.length_map]
 have hql := hg.ql
 obtain ⟨p, hp, HC⟩ := findQs w B qv zs hz (by rw [e]; exact hg.qi) (by omega) n
 rw [e] at HC
 obtain ⟨a, cc, eqv⟩ := hz.rd.len
 rw [hl] at eqv
 obtain ⟨c0, c1, c2, c3, c4, c5, c6⟩ := hT.blk.c7
 rw [eqv] at c1 HC
 have HT : Hid (Tv w B g c os qv bv sv kv cv ov ∧ GoodC c) := ⟨hT, hg⟩
 have HE : Hid (zs.map (·.2) = c.queues) := e
 have HV : Hid (qv = .slice a c.queues.length cc) := eqv
 clear hT hg e eqv hz hp
 go_enter Tryz.func136, Tryz.ntmps136
 go_wp2_with fail
 refine HC.mono ?_
 rintro e w1 ⟨⟨rfl, hb⟩, b1⟩
 clear HC c0 c1 c2 c3 c4 c5 c6
 obtain ⟨hT, hg⟩ := HT.out
 have hT1 := hT.on b1
 have HT1 : Hid (Tv w1 B g c os qv bv sv kv cv ov ∧ Bw w w1 ∧ GoodC c) := ⟨hT1, b1, hg⟩
 clear HT b1
 cases hh : hasNm c.queues n with
 | false =>
  have hno : namedC c n = .error 33 := by
   unfold namedC
   rw [find_none hh]
  have HI := insist_no w1 33
  clear hT hT1 hb hg
  go_wp2_with fail
  refine HI.mono ?_
  rintro e w2 ⟨rfl, h2⟩
  rw [h2]
  exact ⟨rfl, .inr ⟨hno, rfl⟩, HT1.out.2.1⟩
 | true =>
  obtain ⟨hpz, hnm⟩ := hb.1 hh
  have hpq : p < c.queues.length := by omega
  have hnm2 : (c.queues[p]).name = n := by
   have e2 := HE.out
   subst hnm
   simp only [← e2, List.getElem_map]
  have hyes : namedC c n = .ok c.queues[p] := by
   unfold namedC
   rw [find_at hg.qi hpq hnm2]
  obtain ⟨gq, cap, cur, iv, hv, hel⟩ := hT1.el hpq
  have HEL : Hid (El w1 B qv c.queues p gq cap cur iv hv) := hel
  have ea : a = some ⟨gq, 0, none⟩ ∧ cc = cap := by
   have e1 := HV.out
   rw [hel.eq] at e1
   injection e1 with e1 e2 e3
   exact ⟨e1.symm, e3.symm⟩
  obtain ⟨rfl, rfl⟩ := ea
  have HI := insist_ok w1 33
  obtain ⟨c0, c1, c2, c3, c4, c5, c6⟩ := hT1.blk.c7
  rw [HV.out] at c1
  have hpi : (p : Int) < (c.queues.length : Int) := by omega
  clear hT hT1 hb hg hel hnm hnm2
  go_wp2_with fail
  refine HI.mono ?_
  rintro e w2 ⟨rfl, h2⟩
  rw [h2]
  clear h2 w2 HI
  go_wp2_with fail
  go_ret
  exact ⟨.inl ⟨p, gq, cc, cur, iv, hv, hpq, hyes, by simp, HEL.out⟩, HT1.out.2.1⟩
set_option maxHeartbeats 2000000 in
theorem unbind_any (w : World) (B g : Nat) (c : Cor) (os : List Ot) (hT : T w B g c os) (hg : GoodC c) (o : Opr) (pv : Value) (hp : pv.oneCell' = true) :
  Calls Tryz.prog 49 #[.pointer (some ⟨g, 0, none⟩), opV o pv] w fun e w' => Led w B g os (noO (unbindC c o)) e w' := by
 obtain ⟨qv, bv, sv, kv, cv, ov, hT⟩ := hT
 have b0 := (Below.refl w.heap.size w).alloc (Nat.le_refl _) (.cells (opA o pv) 35)
 have hO := Blk.new w (opA o pv) 35
 have hT1 := hT.on b0
 have hF1 : FrT B w (w.alloc (.cells (opA o pv) 35)) := .of_below b0 hT.lt
 unfold opV
 go_enter Tryz.func49, Tryz.ntmps49
 go_upto_region 1 with fail
 generalize w.alloc (.cells (opA o pv) 35) = w1 at *
 obtain ⟨gx, egx⟩ : ∃ g, w.heap.size = g := ⟨_, rfl⟩
 rw [egx] at hO ⊢
 have d4 : w1.cell? ⟨gx, 4, none⟩ = some (tx o.queue) := hO.cell 4
 have d5 : w1.cell? ⟨gx, 5, none⟩ = some (tx o.text) := hO.cell 5
 clear hO egx b0
 have HT1 : Hid (Tv w1 B g c os qv bv sv kv cv ov ∧ FrT B w w1) := ⟨hT1, hF1⟩
 clear hT hT1 hF1
 go_wp2_with (refine wpl_fresh rfl (.tmp 4) (.tmp 9) rfl _ _ rfl rfl (by kernel_rfl) rfl (by simp [Value.oneCell']) ?_)
 intro W2 k2 b2 s2
 clear d4 d5
 obtain ⟨hT1, hF1⟩ := HT1.out
 have hT2 := hT1.on b2
 have hF2 := hF1.trans (.of_below b2 hT1.lt)
 have HN : Hid (some w1.heap.size ≠ bv.ownBlock) := fun e => by
  obtain ⟨zs, _, hz⟩ := hT1.b
  have := (World.ownsRow.lt hz.1 _ e.symm).2
  omega
 have HG : Hid (w1.heap.size ≠ g) := fun e => by have := hT1.blk.lt; omega
 clear hT1 hF1 HT1 b2 s2
 obtain ⟨gb, egb⟩ : ∃ g, w1.heap.size = g := ⟨_, rfl⟩
 rw [egb] at k2 HN HG ⊢
 clear egb
 go_upto_region 2 with fail
 refine rh (fun W => Blk W g #[.int .i64 c.now, qv, bv, sv, kv, cv, ov] 77 ∧ Blk W gb #[tx o.queue, tx o.text] 43) ?_
 have hS : Blk (World.drew W2) g #[.int .i64 c.now, qv, bv, sv, kv, cv, ov] 77 ∧ Blk (World.drew W2) gb #[tx o.queue, tx o.text] 43 := ⟨⟨hT2.blk.h⟩, ⟨k2.h⟩⟩
 have hT3 := hT2.drew
 have hF3 := hF2.drew
 clear hT2 hF2 k2
 generalize W2.drew = W3 at *
 refine tks [0, 1, 2, 3, 4, 5] [.pointer (some ⟨g, 0, none⟩), .pointer (some ⟨g, 0, none⟩), .pointer (some ⟨g, 0, none⟩), .pointer (some ⟨g, 2, none⟩), bv, .agg #[tx o.queue, tx o.text]] 2 ?_ hS ?_
 ·simp only [tkY, tkf]
  refine ⟨.yes ?_, .yes ?_, .yes ?_, .yes ?_, .yes ?_, .yes ?_, trivial⟩
  all_goals
   intro W' hW'
   have := hW'.1.ce 2
   have := hW'.2.ce 0
   have := hW'.2.ce 1
   go_simp
 simp only [tkA, tkf]
 refine ak 6 fun K hK => ?_
 go_simp
 refine (hasBs _ B bv c.binds (hT3.b) hg.bi (by have := hg.bl; omega) ⟨o.queue, o.text⟩).mono ?_
 rintro e w4 ⟨rfl, b4⟩
 have hS4 : Blk w4 g #[.int .i64 c.now, qv, bv, sv, kv, cv, ov] 77 ∧ Blk w4 gb #[tx o.queue, tx o.text] 43 := ⟨hS.1.on b4, hS.2.on b4⟩
 have hT4 := hT3.on b4
 have hF4 := hF3.trans (.of_below b4 hT3.lt)
 clear hT3 hF3 hS b4
 have hS := hS4
 clear hS4
 show K _ _
 refine hK _ _ hS ?_
 clear hK K
 try simp only [tkf]
 refine ak 7 fun K hK => ?_
 go_simp
 refine (insist_any _ _ 33).mono ?_
 rintro e wI ⟨hI, hb⟩
 rcases hb with ⟨hb, he⟩ | ⟨hb, he⟩
 rotate_left
 ·subst he
  rw [hI]
  exact ⟨rfl, led_no (by simp [unbindC, ins, hb]) hF4⟩
 subst he
 show K _ _
 rw [hI]
 refine hK _ _ hS ?_
 clear hK K hI wI
 try simp only [tkf]
 refine ad ?_
 go_upto_region 3 with fail
 refine rh (fun W => Blk W gb #[tx o.queue, tx o.text] 43) ?_
 have hS5 : Blk (World.drew w4) gb #[tx o.queue, tx o.text] 43 := ⟨hS.2.h⟩
 have hT5 := hT4.drew
 have hF5 := hF4.drew
 clear hT4 hF4 hS
 have hS := hS5
 clear hS5
 generalize w4.drew = w5 at *
 refine tks [0, 1, 2, 3, 4, 6] [.pointer (some ⟨g, 0, none⟩), .pointer (some ⟨g, 0, none⟩), .pointer (some ⟨g, 0, none⟩), .pointer (some ⟨g, 0, none⟩), .pointer (some ⟨g, 2, none⟩), .agg #[tx o.queue, tx o.text]] 6 ?_ hS ?_
 ·simp only [tkY, tkf]
  refine ⟨.yes ?_, .yes ?_, .yes ?_, .yes ?_, .yes ?_, .yes ?_, trivial⟩
  all_goals
   intro W' hW'
   have := hW'.ce 0
   have := hW'.ce 1
   go_simp
 simp only [tkA, tkf]
 refine ak 5 fun K hK => ?_
 have d0 : w5.cell? ⟨g, 2, none⟩ = some bv := hT5.blk.cell 2
 go_simp
 refine hK _ _ hS ?_
 clear hK K
 try simp only [tkf]
 refine ak 7 fun K hK => ?_
 go_simp
 refine (leBs _ B hT5.lt bv c.binds (hT5.b) hg.bi (by have := hg.bl; omega) ⟨o.queue, o.text⟩).mono ?_
 rintro e w6 ⟨v6, rfl, o6, g6⟩
 obtain ⟨a6, n6, cc6, rfl⟩ := OwnL.shape o6
 obtain ⟨T7, F7, k7⟩ := hT5.row_b g6 o6
 have hS6 : Blk w6 gb #[tx o.queue, tx o.text] 43 := hS.grown g6 HN.out
 clear hS
 have hS := hS6
 clear hS6
 show K _ _
 refine hK _ _ hS ?_
 clear hK K
 try simp only [tkf]
 refine tks [8, 9, 10] [.pointer (some ⟨g, 0, none⟩), .pointer (some ⟨g, 0, none⟩), .pointer (some ⟨g, 2, none⟩)] 1 ?_ hS ?_
 ·simp only [tkY, tkf]
  refine ⟨.yes ?_, .yes ?_, .yes ?_, trivial⟩
  all_goals
   intro W' hW'
   go_simp
 simp only [tkA, tkf]
 refine ak 11 fun K hK => ?_
 go_simp
 have f7 := k7.frozen 2
 have c7 : w6.cell? ⟨g, 2, none⟩ = some bv := k7.cell 2
 go_simp
 refine hK _ _ (hS.setO (fun e => HG.out e) _) ?_
 clear hK K f7 c7
 try simp only [tkf]
 refine ad ?_
 go_end0
 exact led_ok (by simp [unbindC, ins, hb]) ⟨_, _, _, _, _, _, T7⟩ (hF5.trans F7)
end Go.Proofs.YtnpikgakpmkipabGreatDoor
