/- Messages, items and queues in memory: what may be read, and what is the call's own. -/
import Derived.Test.YtnpikgakpmkipabGreatDoorZ03
namespace Go.Proofs.YtnpikgakpmkipabGreatDoor
open Go.RowKit Go.Lib
abbrev tx (l : List UInt8) : Value := .string ⟨l.toArray⟩
def msgV (m : Msg) (pv : Value) : List Value := [tx m.topic, tx m.body, pv, .bool m.dur, .int .i64 m.til]
def itmV (x : Itm) (pv : Value) : List Value := [.int .i64 x.seq, .bool x.again, tx x.msg.topic, tx x.msg.body, pv, .bool x.msg.dur, .int .i64 x.msg.til]
def hldV (h : Hld) (pv : Value) : List Value := [.int .i64 h.tag, .int .i64 h.conn, .int .i64 h.sub, .int .i64 h.itm.seq, .bool h.itm.again, tx h.itm.msg.topic, tx h.itm.msg.body, pv, .bool h.itm.msg.dur, .int .i64 h.itm.msg.til]
def queV (q : Que) (iv hv : Value) : Value := .agg #[tx q.name, .bool q.dur, .int .i64 q.depth, .int .i64 q.seq, .int .i64 q.tag, iv, hv]
def ItR (p : Value → List Pr → Prop) (vs : List Value) (x : Itm) : Prop := ∃ pv, vs = itmV x pv ∧ p pv x.msg.props
def HeR (p : Value → List Pr → Prop) (vs : List Value) (h : Hld) : Prop := ∃ pv, vs = hldV h pv ∧ p pv h.itm.msg.props
theorem RdP.one {w : World} {v : Value} {l : List Pr} (h : RdP w v l) : v.oneCell' = true := by
 rcases h with ⟨⟨a, c, rfl⟩, _⟩ | ⟨b, o, c, rfl, _⟩ <;> rfl
def RdZ {α : Type} (k : Nat) (R : List Value → α → Prop) (w : World) (v : Value) (zs : Zs α) : Prop :=
 (((∃ a c, v = .slice a 0 c) ∧ zs = []) ∨ ∃ (b o c : Nat), v = .slice (some ⟨b, o, none⟩) zs.length c ∧ zs.length ≤ c ∧ ∀ j u, (cellsZ zs)[j]? = some u → w.cell? ⟨b, o + j, none⟩ = some u)
 ∧ ∀ z ∈ zs, (z.1.length = k ∧ ∀ u ∈ z.1, u.oneCell' = true) ∧ R z.1 z.2
def RdL {α : Type} (k : Nat) (R : List Value → α → Prop) (w : World) (v : Value) (l : List α) : Prop := ∃ zs : Zs α, zs.map (·.2) = l ∧ RdZ k R w v zs
def OwnZ {α : Type} (e k : Nat) (R : List Value → α → Prop) (w : World) (B : Nat) (v : Value) (zs : Zs α) : Prop :=
 w.ownsRow B e k v zs.length (cellsZ zs) ∧ ∀ z ∈ zs, (z.1.length = k ∧ ∀ u ∈ z.1, u.oneCell' = true) ∧ R z.1 z.2
def OwnL {α : Type} (e k : Nat) (R : List Value → α → Prop) (w : World) (B : Nat) (v : Value) (l : List α) : Prop := ∃ zs : Zs α, zs.map (·.2) = l ∧ OwnZ e k R w B v zs
theorem RdZ.imp {α : Type} {k : Nat} {R R' : List Value → α → Prop} {w : World} {v : Value} {zs : Zs α} (h : RdZ k R w v zs) (hR : ∀ vs x, R vs x → R' vs x) : RdZ k R' w v zs := ⟨h.1, fun z hz => ⟨(h.2 z hz).1, hR _ _ (h.2 z hz).2⟩⟩
theorem OwnZ.imp {α : Type} {e k : Nat} {R R' : List Value → α → Prop} {w : World} {B : Nat} {v : Value} {zs : Zs α} (h : OwnZ e k R w B v zs) (hR : ∀ vs x, R vs x → R' vs x) : OwnZ e k R' w B v zs := ⟨h.1, fun z hz => ⟨(h.2 z hz).1, hR _ _ (h.2 z hz).2⟩⟩
theorem RdZ.len {α : Type} {k : Nat} {R : List Value → α → Prop} {w : World} {v : Value} {zs : Zs α} (h : RdZ k R w v zs) : ∃ a c, v = .slice a zs.length c := by
 rcases h.1 with ⟨⟨a, c, rfl⟩, rfl⟩ | ⟨b, o, c, rfl, _⟩
 ·exact ⟨a, c, rfl⟩
 ·exact ⟨_, c, rfl⟩
theorem RdZ.on {α : Type} {k : Nat} {R : List Value → α → Prop} {w w' : World} {v : Value} {zs : Zs α} (h : RdZ k R w v zs) (hb : Below w.heap.size w w') : RdZ k R w' v zs := by
 refine ⟨?_, h.2⟩
 rcases h.1 with h | ⟨b, o, c, rfl, hc, h⟩
 ·exact .inl h
 ·refine .inr ⟨b, o, c, rfl, hc, fun j u hu => ?_⟩
  have h1 := h j u hu
  rw [hb.cell (World.block_lt_of_cell? w _ h1)]
  exact h1
theorem RdZ.cells {α : Type} {k : Nat} {R : List Value → α → Prop} {w : World} {b o n c : Nat} {zs : Zs α} (h : RdZ k R w (.slice (some ⟨b, o, none⟩) n c) zs) {i : Nat} (hi : i < zs.length) :
  ∀ j u, (zs[i].1)[j]? = some u → w.cell? ⟨b, o + i * k + j, none⟩ = some u := by
 rcases h.1 with ⟨_, rfl⟩ | ⟨b', o', c', e, hc, h1⟩
 ·simp at hi
 ·injection e with e1 e2 e3
  injection e1 with e1
  injection e1 with e1 e4 e5
  subst e1 e4
  intro j u hu
  have hk := (h.2 _ (List.getElem_mem hi)).1.1
  have hj : j < k := by rw [← hk]; exact (List.getElem?_eq_some_iff.1 hu).1
  rw [← cellsZ_at (fun z hz => (h.2 z hz).1.1) i hi j hj] at hu
  rw [Nat.add_assoc]
  exact h1 _ _ hu
theorem RdZ.some {α : Type} {k : Nat} {R : List Value → α → Prop} {w : World} {v : Value} {zs : Zs α} (h : RdZ k R w v zs) (h0 : 0 < zs.length) : ∃ b o c, v = .slice (some ⟨b, o, none⟩) zs.length c ∧ zs.length ≤ c := by
 rcases h.1 with ⟨_, rfl⟩ | ⟨b', o', c', e, hc, h1⟩
 ·simp at h0
 ·exact ⟨b', o', c', e, hc⟩
theorem OwnZ.rd {α : Type} {e k : Nat} {R : List Value → α → Prop} {w : World} {B : Nat} {v : Value} {zs : Zs α} (h : OwnZ e k R w B v zs) : RdZ k R w v zs := by
 refine ⟨?_, h.2⟩
 obtain ⟨hl, h1 | ⟨g, cap, cur, rfl, hb, hg, hc, hm, hs, ht⟩⟩ := h.1
 ·exact .inl ⟨⟨_, _, h1.1⟩, List.length_eq_zero_iff.1 h1.2⟩
 ·refine .inr ⟨g, 0, cap, rfl, hc, fun j u hu => ?_⟩
  have := World.ownsRow.cells (g := g) h.1 rfl j u hu
  rwa [Addr.add_lit] at this
theorem OwnZ.low {α : Type} {e k : Nat} {R : List Value → α → Prop} {w : World} {B B' : Nat} {v : Value} {zs : Zs α} (h : OwnZ e k R w B' v zs) (hB : B ≤ B') : OwnZ e k R w B v zs := by
 refine ⟨?_, h.2⟩
 obtain ⟨hl, h1 | ⟨g, cap, cur, hv, hb, h1⟩⟩ := h.1
 ·exact ⟨hl, .inl h1⟩
 ·exact ⟨hl, .inr ⟨g, cap, cur, hv, by omega, h1⟩⟩
def Kt (t : TypeId) (w w' : World) : Prop := ∀ (k : Nat) (cur : Array Value), w.heap[k]? = some (.cells cur t (0, 0)) → w'.heap[k]? = w.heap[k]?
theorem Kt.refl (t : TypeId) (w : World) : Kt t w w := fun _ _ _ => rfl
theorem Kt.trans {t : TypeId} {a b c : World} (h : Kt t a b) (h' : Kt t b c) : Kt t a c := fun k cur hk => by
 have h1 := h k cur hk
 exact (h' k cur (h1.trans hk)).trans h1
theorem Kt.of_below {t : TypeId} {w w' : World} (h : Below w.heap.size w w') : Kt t w w' := fun k _ hk => h.block k (Array.getElem?_eq_some_iff.1 hk).1
theorem Kt.of_grown {t e : TypeId} {w w' : World} {B k n : Nat} {v : Value} {xs : List Value} (h : w.ownsRow B e k v n xs) (hg : w.grownBy w' v.ownBlock) (hne : t ≠ e) : Kt t w w' := fun j cur hj => by
 refine hg.block j (Array.getElem?_eq_some_iff.1 hj).1 (fun e1 => ?_)
 obtain ⟨_, ⟨rfl, _⟩ | ⟨g, cap, cur', rfl, _, hg', _⟩⟩ := h
 ·cases e1
 ·simp [Value.ownBlock] at e1
  subst e1
  rw [hj] at hg'
  injection hg' with e2
  injection e2 with _ e3 _
  exact hne e3
theorem OwnZ.keep {α : Type} {e k : Nat} {R : List Value → α → Prop} {w w' : World} {B : Nat} {v : Value} {zs : Zs α} (h : OwnZ e k R w B v zs) (hk : Kt e w w') : OwnZ e k R w' B v zs := by
 refine ⟨?_, h.2⟩
 obtain ⟨hl, h1 | ⟨g, cap, cur, hv, hb, hg, h1⟩⟩ := h.1
 ·exact ⟨hl, .inl h1⟩
 ·exact ⟨hl, .inr ⟨g, cap, cur, hv, hb, (hk g cur hg).trans hg, h1⟩⟩
theorem OwnP.keep {w w' : World} {B : Nat} {v : Value} {l : List Pr} (h : OwnP w B v l) (hk : Kt 66 w w') : OwnP w' B v l := by
 obtain ⟨hl, h1 | ⟨g, cap, cur, hv, hb, hg, h1⟩⟩ := h
 ·exact ⟨hl, .inl h1⟩
 ·exact ⟨hl, .inr ⟨g, cap, cur, hv, hb, (hk g cur hg).trans hg, h1⟩⟩
theorem ItR.keep {w w' : World} {B : Nat} {vs : List Value} {x : Itm} (h : ItR (OwnP w B) vs x) (hk : Kt 66 w w') : ItR (OwnP w' B) vs x := by
 obtain ⟨pv, h1, h2⟩ := h
 exact ⟨pv, h1, h2.keep hk⟩
theorem HeR.keep {w w' : World} {B : Nat} {vs : List Value} {x : Hld} (h : HeR (OwnP w B) vs x) (hk : Kt 66 w w') : HeR (OwnP w' B) vs x := by
 obtain ⟨pv, h1, h2⟩ := h
 exact ⟨pv, h1, h2.keep hk⟩
theorem ItR.on {w w' : World} {vs : List Value} {x : Itm} (h : ItR (RdP w) vs x) (hb : Below w.heap.size w w') : ItR (RdP w') vs x := by
 obtain ⟨pv, h1, h2⟩ := h
 exact ⟨pv, h1, h2.on hb⟩
theorem HeR.on {w w' : World} {vs : List Value} {x : Hld} (h : HeR (RdP w) vs x) (hb : Below w.heap.size w w') : HeR (RdP w') vs x := by
 obtain ⟨pv, h1, h2⟩ := h
 exact ⟨pv, h1, h2.on hb⟩
theorem ItR.rd {w : World} {B : Nat} {vs : List Value} {x : Itm} (h : ItR (OwnP w B) vs x) : ItR (RdP w) vs x := by
 obtain ⟨pv, h1, h2⟩ := h
 exact ⟨pv, h1, h2.rd⟩
theorem HeR.rd {w : World} {B : Nat} {vs : List Value} {x : Hld} (h : HeR (OwnP w B) vs x) : HeR (RdP w) vs x := by
 obtain ⟨pv, h1, h2⟩ := h
 exact ⟨pv, h1, h2.rd⟩
theorem ItR.low {w : World} {B B' : Nat} {vs : List Value} {x : Itm} (h : ItR (OwnP w B') vs x) (hB : B ≤ B') : ItR (OwnP w B) vs x := by
 obtain ⟨pv, h1, h2⟩ := h
 exact ⟨pv, h1, h2.low hB⟩
theorem HeR.low {w : World} {B B' : Nat} {vs : List Value} {x : Hld} (h : HeR (OwnP w B') vs x) (hB : B ≤ B') : HeR (OwnP w B) vs x := by
 obtain ⟨pv, h1, h2⟩ := h
 exact ⟨pv, h1, h2.low hB⟩
def RdI (w : World) (v : Value) (l : List Itm) : Prop := RdL 7 (ItR (RdP w)) w v l
def RdH (w : World) (v : Value) (l : List Hld) : Prop := RdL 10 (HeR (RdP w)) w v l
def OwnI (w : World) (B : Nat) (v : Value) (l : List Itm) : Prop := OwnL 131 7 (ItR (OwnP w B)) w B v l
def OwnH (w : World) (B : Nat) (v : Value) (l : List Hld) : Prop := OwnL 133 10 (HeR (OwnP w B)) w B v l
theorem RdI.on {w w' : World} {v : Value} {l : List Itm} (h : RdI w v l) (hb : Below w.heap.size w w') : RdI w' v l := by
 obtain ⟨zs, h1, h2⟩ := h
 exact ⟨zs, h1, (h2.on hb).imp fun _ _ h => h.on hb⟩
theorem RdH.on {w w' : World} {v : Value} {l : List Hld} (h : RdH w v l) (hb : Below w.heap.size w w') : RdH w' v l := by
 obtain ⟨zs, h1, h2⟩ := h
 exact ⟨zs, h1, (h2.on hb).imp fun _ _ h => h.on hb⟩
theorem OwnI.rd {w : World} {B : Nat} {v : Value} {l : List Itm} (h : OwnI w B v l) : RdI w v l := by
 obtain ⟨zs, h1, h2⟩ := h
 exact ⟨zs, h1, h2.rd.imp fun _ _ h => h.rd⟩
theorem OwnH.rd {w : World} {B : Nat} {v : Value} {l : List Hld} (h : OwnH w B v l) : RdH w v l := by
 obtain ⟨zs, h1, h2⟩ := h
 exact ⟨zs, h1, h2.rd.imp fun _ _ h => h.rd⟩
theorem OwnI.keep {w w' : World} {B : Nat} {v : Value} {l : List Itm} (h : OwnI w B v l) (h1 : Kt 131 w w') (h2 : Kt 66 w w') : OwnI w' B v l := by
 obtain ⟨zs, h3, h4⟩ := h
 exact ⟨zs, h3, (h4.keep h1).imp fun _ _ h => h.keep h2⟩
theorem OwnH.keep {w w' : World} {B : Nat} {v : Value} {l : List Hld} (h : OwnH w B v l) (h1 : Kt 133 w w') (h2 : Kt 66 w w') : OwnH w' B v l := by
 obtain ⟨zs, h3, h4⟩ := h
 exact ⟨zs, h3, (h4.keep h1).imp fun _ _ h => h.keep h2⟩
theorem OwnI.low {w : World} {B B' : Nat} {v : Value} {l : List Itm} (h : OwnI w B' v l) (hB : B ≤ B') : OwnI w B v l := by
 obtain ⟨zs, h1, h2⟩ := h
 exact ⟨zs, h1, (h2.low hB).imp fun _ _ h => h.low hB⟩
theorem OwnH.low {w : World} {B B' : Nat} {v : Value} {l : List Hld} (h : OwnH w B' v l) (hB : B ≤ B') : OwnH w B v l := by
 obtain ⟨zs, h1, h2⟩ := h
 exact ⟨zs, h1, (h2.low hB).imp fun _ _ h => h.low hB⟩
theorem RdL.len {α : Type} {k : Nat} {R : List Value → α → Prop} {w : World} {v : Value} {l : List α} (h : RdL k R w v l) : ∃ a c, v = .slice a l.length c := by
 obtain ⟨zs, rfl, h⟩ := h
 obtain ⟨a, c, h⟩ := h.len
 exact ⟨a, c, by rw [h, List.length_map]⟩
def RdQ (w : World) (v : Value) (q : Que) : Prop := ∃ iv hv, v = queV q iv hv ∧ RdI w iv q.items ∧ RdH w hv q.held
def OwnQ (w : World) (B : Nat) (v : Value) (q : Que) : Prop := ∃ iv hv, v = queV q iv hv ∧ OwnI w B iv q.items ∧ OwnH w B hv q.held
theorem RdQ.on {w w' : World} {v : Value} {q : Que} (h : RdQ w v q) (hb : Below w.heap.size w w') : RdQ w' v q := by
 obtain ⟨iv, hv, h1, h2, h3⟩ := h
 exact ⟨iv, hv, h1, h2.on hb, h3.on hb⟩
theorem OwnQ.rd {w : World} {B : Nat} {v : Value} {q : Que} (h : OwnQ w B v q) : RdQ w v q := by
 obtain ⟨iv, hv, h1, h2, h3⟩ := h
 exact ⟨iv, hv, h1, h2.rd, h3.rd⟩
theorem OwnQ.on {w w' : World} {B : Nat} {v : Value} {q : Que} (h : OwnQ w B v q) (hb : Below w.heap.size w w') : OwnQ w' B v q := by
 obtain ⟨iv, hv, h1, h2, h3⟩ := h
 exact ⟨iv, hv, h1, h2.keep (.of_below hb) (.of_below hb), h3.keep (.of_below hb) (.of_below hb)⟩
theorem nxt {a b c : World} (h1 : Below a.heap.size a b) (h2 : Below b.heap.size b c) : Below a.heap.size a c := h1.trans (h2.mono h1.size)
abbrev Bw (w W : World) : Prop := Below w.heap.size w W
abbrev quA (q : Que) (i h : Value) : Array Value := #[tx q.name, .bool q.dur, .int .i64 q.depth, .int .i64 q.seq, .int .i64 q.tag, i, h]
abbrev itA (x : Itm) (p : Value) : Array Value := #[.int .i64 x.seq, .bool x.again, tx x.msg.topic, tx x.msg.body, p, .bool x.msg.dur, .int .i64 x.msg.til]
abbrev msA (m : Msg) (p : Value) : Array Value := #[tx m.topic, tx m.body, p, .bool m.dur, .int .i64 m.til]
abbrev quZ : Array Value := #[.string ⟨#[]⟩, .bool false, .int .i64 0, .int .i64 0, .int .i64 0, .slice none 0 0, .slice none 0 0]
abbrev itZ : Array Value := #[.int .i64 0, .bool false, .string ⟨#[]⟩, .string ⟨#[]⟩, .slice none 0 0, .bool false, .int .i64 0]
abbrev coZ : Array Value := #[.int .i64 0, .slice none 0 0, .slice none 0 0, .slice none 0 0, .slice none 0 0, .slice none 0 0]
abbrev hlA (x : Hld) (p : Value) : Array Value := #[.int .i64 x.tag, .int .i64 x.conn, .int .i64 x.sub, .int .i64 x.itm.seq, .bool x.itm.again, tx x.itm.msg.topic, tx x.itm.msg.body, p, .bool x.itm.msg.dur, .int .i64 x.itm.msg.til]
set_option maxRecDepth 100000
theorem wpl_appP {ops : Array Oper} {rest : List Oper} {o : Oper} {a : Act} {Q : Exit → Act → World → Prop} (hgd : o.guard = none) (s x : Operand)
  (ho : o.op = .call { callee := .builtin .append, args := #[s, x], argTypes := #[31, 31] }) (B : Nat) (v vx : Value) (l l2 : List Pr) (w : World)
  (hs : a.eval s = v) (hown : OwnP w B v l) (hx : a.eval x = vx) (hsrc : RdP w vx l2) (hn : l.length + l2.length ≤ 2513169434916) (hB : B ≤ w.heap.size)
  (h : ∀ v' w', OwnP w' B v' (l ++ l2) → w.grownBy w' v.ownBlock → wpList Tryz.prog ops Q rest (a.put o.dst v') w') : wpList Tryz.prog ops Q (o :: rest) a w := by
 refine wpList_plain hgd fun K hK => ?_
 obtain ⟨i0, hi, hz0, hz1, hz2⟩ := info_parts info33
 rcases hsrc with ⟨⟨ad, c, rfl⟩, rfl⟩ | ⟨b, off, c, rfl, hc, hsrc⟩
 ·have hrun : (Builtin.append_ #[31, 31] o.type #[v, .slice ad 0 c]).run Tryz.prog w = .ok v w := by
   rcases hown.2 with ⟨rfl, _⟩ | ⟨g, cap, cur, rfl, _, _, hnc, _⟩
   ·cases ad <;> simp [Builtin.append_, run_underlying Tryz.underlying31, sizeOf, typeInfo, hi, Builtin.lenOf, Builtin.firstCells, loadCells, loadCellsFrom]
   ·cases ad <;> simp [Builtin.append_, run_underlying Tryz.underlying31, sizeOf, typeInfo, hi, Builtin.lenOf, Builtin.firstCells, hnc, storeCells, loadCells, loadCellsFrom]
  unfold Oper.wp execOp
  simp only [ho, resolve, invoke, builtin, Sem.run_bind, Sem.run_pure, Result.andThen_ok, List.map_toArray, List.map_cons, List.map_nil, hs, hx, hrun]
  exact hK _ _ (h v w (by rw [List.append_nil]; exact hown) (World.grownBy.refl _ _))
 ·refine wp_append_own _ s x 31 ho B 66 i0 (.agg #[.string ⟨#[]⟩, .int .i64 0, .int .i64 0, .string ⟨#[]⟩, .float .f64 0]) 5 56 Tryz.underlying31 hi hz0 hz1 hz2 rfl (by decide) v l.length (cellsP l) hs hown ⟨b, off, none⟩ l2.length c (cellsP l2) hx (cellsP_len l2) ?_ (cellsP_one l2) (by unfold maxLen; omega) (by omega) hB ?_
  ·intro j u hj
   rw [Addr.add_lit]
   exact prAt_cells hsrc j u hj
  ·intro v' w' h1 h2 _
   refine hK _ _ (h v' w' ?_ h2)
   unfold OwnP
   rw [List.length_append, cellsP_app]
   exact h1
theorem info43 : (Tryz.prog.info? 131).map (fun i => (i.zero, i.size, i.bytes)) = some (some (.agg #[.int .i64 0, .bool false, .string ⟨#[]⟩, .string ⟨#[]⟩, .slice none 0 0, .bool false, .int .i64 0]), 7, 88) := by kernel_rfl
theorem wpl_appI {ops : Array Oper} {rest : List Oper} {o : Oper} {a : Act} {Q : Exit → Act → World → Prop} (hgd : o.guard = none) (s x : Operand)
  (ho : o.op = .call { callee := .builtin .append, args := #[s, x], argTypes := #[79, 79] }) (B : Nat) (v : Value) (zs : Zs Itm) (R : List Value → Itm → Prop) (w : World)
  (hs : a.eval s = v) (hown : OwnZ 131 7 R w B v zs) (b c : Nat) (z : List Value × Itm) (hx : a.eval x = .slice (some ⟨b, 0, none⟩) 1 c) (hz : (z.1.length = 7 ∧ ∀ u ∈ z.1, u.oneCell' = true) ∧ R z.1 z.2)
  (hsrc : ∀ j u, z.1[j]? = some u → w.cell? ⟨b, j, none⟩ = some u) (hn : zs.length ≤ 100000) (hB : B ≤ w.heap.size)
  (h : ∀ v' w', OwnZ 131 7 R w' B v' (zs ++ [z]) → w.grownBy w' v.ownBlock → wpList Tryz.prog ops Q rest (a.put o.dst v') w') : wpList Tryz.prog ops Q (o :: rest) a w := by
 obtain ⟨i0, hi, hz0, hz1, hz2⟩ := info_parts info43
 refine wpList_plain hgd fun _ hK => wp_append_own _ s x 79 ho B 131 i0 (.agg #[.int .i64 0, .bool false, .string ⟨#[]⟩, .string ⟨#[]⟩, .slice none 0 0, .bool false, .int .i64 0]) 7 88 Tryz.underlying79 hi hz0 hz1 hz2 rfl (by decide) v zs.length (cellsZ zs) hs hown.1 ⟨b, 0, none⟩ 1 c z.1 hx (by rw [hz.1.1]) ?_ hz.1.2 (by unfold maxLen; omega) (by omega) hB ?_
 ·intro j u hj
  rw [Addr.add_lit, Nat.zero_add]
  exact hsrc j u hj
 ·intro v' w' h1 h2 _
  refine hK _ _ (h v' w' ⟨?_, ?_⟩ h2)
  ·rw [cellsZ_app, List.length_append]
   simpa [cellsZ] using h1
  ·intro y hy
   rcases List.mem_append.1 hy with hy | hy
   ·exact hown.2 y hy
   ·rw [List.mem_singleton.1 hy]
    exact hz
theorem info61 : (Tryz.prog.info? 133).map (fun i => (i.zero, i.size, i.bytes)) = some (some (.agg #[.int .i64 0, .int .i64 0, .int .i64 0, .int .i64 0, .bool false, .string ⟨#[]⟩, .string ⟨#[]⟩, .slice none 0 0, .bool false, .int .i64 0]), 10, 112) := by kernel_rfl
theorem wpl_appH {ops : Array Oper} {rest : List Oper} {o : Oper} {a : Act} {Q : Exit → Act → World → Prop} (hgd : o.guard = none) (s x : Operand)
  (ho : o.op = .call { callee := .builtin .append, args := #[s, x], argTypes := #[80, 80] }) (B : Nat) (v : Value) (zs : Zs Hld) (R : List Value → Hld → Prop) (w : World)
  (hs : a.eval s = v) (hown : OwnZ 133 10 R w B v zs) (b c : Nat) (z : List Value × Hld) (hx : a.eval x = .slice (some ⟨b, 0, none⟩) 1 c) (hz : (z.1.length = 10 ∧ ∀ u ∈ z.1, u.oneCell' = true) ∧ R z.1 z.2)
  (hsrc : ∀ j u, z.1[j]? = some u → w.cell? ⟨b, j, none⟩ = some u) (hn : zs.length ≤ 100000) (hB : B ≤ w.heap.size)
  (h : ∀ v' w', OwnZ 133 10 R w' B v' (zs ++ [z]) → w.grownBy w' v.ownBlock → wpList Tryz.prog ops Q rest (a.put o.dst v') w') : wpList Tryz.prog ops Q (o :: rest) a w := by
 obtain ⟨i0, hi, hz0, hz1, hz2⟩ := info_parts info61
 refine wpList_plain hgd fun _ hK => wp_append_own _ s x 80 ho B 133 i0 (.agg #[.int .i64 0, .int .i64 0, .int .i64 0, .int .i64 0, .bool false, .string ⟨#[]⟩, .string ⟨#[]⟩, .slice none 0 0, .bool false, .int .i64 0]) 10 112 Tryz.underlying80 hi hz0 hz1 hz2 rfl (by decide) v zs.length (cellsZ zs) hs hown.1 ⟨b, 0, none⟩ 1 c z.1 hx (by rw [hz.1.1]) ?_ hz.1.2 (by unfold maxLen; omega) (by omega) hB ?_
 ·intro j u hj
  rw [Addr.add_lit, Nat.zero_add]
  exact hsrc j u hj
 ·intro v' w' h1 h2 _
  refine hK _ _ (h v' w' ⟨?_, ?_⟩ h2)
  ·rw [cellsZ_app, List.length_append]
   simpa [cellsZ] using h1
  ·intro y hy
   rcases List.mem_append.1 hy with hy | hy
   ·exact hown.2 y hy
   ·rw [List.mem_singleton.1 hy]
    exact hz
structure Blk (w : World) (g : Nat) (cs : Array Value) (t : TypeId) : Prop where
 h : w.heap[g]? = some (.cells cs t (0, 0))
theorem Blk.lt {w : World} {g : Nat} {cs : Array Value} {t : TypeId} (h : Blk w g cs t) : g < w.heap.size := (Array.getElem?_eq_some_iff.1 h.h).1
theorem Blk.cell {w : World} {g : Nat} {cs : Array Value} {t : TypeId} (h : Blk w g cs t) (j : Nat) : w.cell? ⟨g, j, none⟩ = cs[j]? := cell_of_row w g j cs t (0, 0) h.h
theorem Blk.frozen {w : World} {g : Nat} {cs : Array Value} {t : TypeId} (h : Blk w g cs t) (j : Nat) : w.frozen? ⟨g, j, none⟩ = false := by
 simp [World.frozen?, h.h]
theorem Blk.new (w : World) (cs : Array Value) (t : TypeId) : Blk (w.alloc (.cells cs t)) w.heap.size cs t := ⟨heap_alloc_new w _⟩
theorem Blk.alloc {w : World} {g : Nat} {cs : Array Value} {t : TypeId} (h : Blk w g cs t) (o : Obj) : Blk (w.alloc o) g cs t := ⟨(Below.heap_alloc w o g h.lt).trans h.h⟩
theorem Blk.on {w w' : World} {g : Nat} {cs : Array Value} {t : TypeId} (h : Blk w g cs t) (hb : Bw w w') : Blk w' g cs t := ⟨(hb.block g h.lt).trans h.h⟩
theorem Blk.grown {w w' : World} {g : Nat} {cs : Array Value} {t : TypeId} {row : Option Nat} (h : Blk w g cs t) (hg : w.grownBy w' row) (hne : some g ≠ row) : Blk w' g cs t := ⟨(hg.block g h.lt hne).trans h.h⟩
theorem Blk.ne_own {w : World} {g B e k n : Nat} {cs : Array Value} {t : TypeId} {v : Value} {xs : List Value} (h : Blk w g cs t) (ho : w.ownsRow B e k v n xs) (hne : t ≠ e) : some g ≠ v.ownBlock := fun e1 => by
 obtain ⟨_, ⟨rfl, _⟩ | ⟨g', cap, cur', rfl, _, hg', _⟩⟩ := ho
 ·cases e1
 ·simp [Value.ownBlock] at e1
  subst e1
  rw [h.h] at hg'
  injection hg' with e2
  injection e2 with _ e3 _
  exact hne e3
theorem Blk.kt {w w' : World} {g : Nat} {cs : Array Value} {t : TypeId} (h : Blk w g cs t) (hk : Kt t w w') : Blk w' g cs t := ⟨(hk g cs h.h).trans h.h⟩
theorem Blk.set {w : World} {g : Nat} {cs : Array Value} {t : TypeId} (h : Blk w g cs t) (j : Nat) (u : Value) : Blk (w.setCell ⟨g, j, none⟩ u) g (cs.setIfInBounds j u) t := by
 exact ⟨by simp [World.setCell, Array.getElem?_modify, h.h]⟩
theorem Blk.row {w : World} {g : Nat} {cs : Array Value} {t : TypeId} (h : Blk w g cs t) (cs' : Array Value) : Blk (w.setRow g cs') g cs' t := ⟨setRow_heap _ _ _ _ _ _ h.h⟩
theorem kt_setRow {w : World} {g : Nat} {cs : Array Value} {t t' : TypeId} (h : Blk w g cs t) (hne : t' ≠ t) (cs' : Array Value) : Kt t' w (w.setRow g cs') := fun k cur hk => by
 obtain ⟨h⟩ := h
 have hkg : k ≠ g := fun e => by
  subst e
  rw [hk] at h
  injection h with e2
  injection e2 with _ e3 _
  exact hne e3
 simp only [World.setRow, Array.getElem?_modify]
 rw [if_neg (by omega)]
theorem kt_setCell {w : World} {g j : Nat} {cs : Array Value} {t t' : TypeId} (h : Blk w g cs t) (hne : t' ≠ t) (u : Value) : Kt t' w (w.setCell ⟨g, j, none⟩ u) := fun k cur hk => by
 obtain ⟨h⟩ := h
 have hkg : k ≠ g := fun e => by
  subst e
  rw [hk] at h
  injection h with e2
  injection e2 with _ e3 _
  exact hne e3
 exact Below.heap_setCell w ⟨g, j, none⟩ u k hkg
theorem below_setRow {B g : Nat} {w0 w : World} (hb : Below B w0 w) (hBg : B ≤ g) (cs : Array Value) : Below B w0 (w.setRow g cs) :=
 hb.trans ⟨rfl, rfl, rfl, by simp [World.setRow], fun k hk => by
  simp only [World.setRow, Array.getElem?_modify]
  rw [if_neg (by omega)]⟩
theorem Blk.setO {w : World} {g g' j : Nat} {cs : Array Value} {t : TypeId} (h : Blk w g cs t) (hne : g ≠ g') (u : Value) : Blk (w.setCell ⟨g', j, none⟩ u) g cs t := ⟨(Below.heap_setCell w ⟨g', j, none⟩ u g hne).trans h.h⟩
theorem Blk.rowO {w : World} {g g' : Nat} {cs : Array Value} {t : TypeId} (h : Blk w g cs t) (hne : g ≠ g') (cs' : Array Value) : Blk (w.setRow g' cs') g cs t := by
 refine ⟨?_⟩
 simp only [World.setRow, Array.getElem?_modify]
 rw [if_neg (by omega)]
 exact h.h
theorem Blk.c5 {W : World} {g : Nat} {t : TypeId} {a0 a1 a2 a3 a4 : Value} (h : Blk W g #[a0, a1, a2, a3, a4] t) : W.cell? ⟨g, 0, none⟩ = some a0 ∧ W.cell? ⟨g, 1, none⟩ = some a1 ∧ W.cell? ⟨g, 2, none⟩ = some a2 ∧ W.cell? ⟨g, 3, none⟩ = some a3 ∧ W.cell? ⟨g, 4, none⟩ = some a4 :=
 ⟨h.cell 0, h.cell 1, h.cell 2, h.cell 3, h.cell 4⟩
theorem Blk.c7 {W : World} {g : Nat} {t : TypeId} {a0 a1 a2 a3 a4 a5 a6 : Value} (h : Blk W g #[a0, a1, a2, a3, a4, a5, a6] t) : W.cell? ⟨g, 0, none⟩ = some a0 ∧ W.cell? ⟨g, 1, none⟩ = some a1 ∧ W.cell? ⟨g, 2, none⟩ = some a2 ∧ W.cell? ⟨g, 3, none⟩ = some a3 ∧ W.cell? ⟨g, 4, none⟩ = some a4 ∧ W.cell? ⟨g, 5, none⟩ = some a5 ∧ W.cell? ⟨g, 6, none⟩ = some a6 :=
 ⟨h.cell 0, h.cell 1, h.cell 2, h.cell 3, h.cell 4, h.cell 5, h.cell 6⟩
theorem Blk.c10 {W : World} {g : Nat} {t : TypeId} {a0 a1 a2 a3 a4 a5 a6 a7 a8 a9 : Value} (h : Blk W g #[a0, a1, a2, a3, a4, a5, a6, a7, a8, a9] t) : W.cell? ⟨g, 0, none⟩ = some a0 ∧ W.cell? ⟨g, 1, none⟩ = some a1 ∧ W.cell? ⟨g, 2, none⟩ = some a2 ∧ W.cell? ⟨g, 3, none⟩ = some a3 ∧ W.cell? ⟨g, 4, none⟩ = some a4 ∧ W.cell? ⟨g, 5, none⟩ = some a5 ∧ W.cell? ⟨g, 6, none⟩ = some a6 ∧ W.cell? ⟨g, 7, none⟩ = some a7 ∧ W.cell? ⟨g, 8, none⟩ = some a8 ∧ W.cell? ⟨g, 9, none⟩ = some a9 :=
 ⟨h.cell 0, h.cell 1, h.cell 2, h.cell 3, h.cell 4, h.cell 5, h.cell 6, h.cell 7, h.cell 8, h.cell 9⟩
theorem ret43 {fn : Func} {p : Tmp} {tmps : Array Value} {W : World} {g : Nat} {cs : Array Value} {R : Ending → World → Prop} (hf : fn.results = #[.cell p 131]) (h : Blk W g cs 131) (hs : cs.size = 7) (hp : tmps.getD p undef = .pointer (some ⟨g, 0, none⟩)) (hR : R (.returned (.agg cs)) W) :
  bodyPost Tryz.prog fn R .ret { tmps := tmps, defers := [] } W :=
 bodyPost_ret (results_cell_row hf tmps W g 131 cs (0, 0) _ hp h.h Tryz.underlying131 rfl (by rw [hs]; kernel_rfl)) rfl hR
theorem ret25 {fn : Func} {p : Tmp} {tmps : Array Value} {W : World} {g : Nat} {cs : Array Value} {R : Ending → World → Prop} (hf : fn.results = #[.cell p 82]) (h : Blk W g cs 82) (hs : cs.size = 7) (hp : tmps.getD p undef = .pointer (some ⟨g, 0, none⟩)) (hR : R (.returned (.agg cs)) W) :
  bodyPost Tryz.prog fn R .ret { tmps := tmps, defers := [] } W :=
 bodyPost_ret (results_cell_row hf tmps W g 82 cs (0, 0) _ hp h.h Tryz.underlying82 rfl (by rw [hs]; kernel_rfl)) rfl hR
theorem ret25t {fn : Func} {p u : Tmp} {tmps : Array Value} {W : World} {g : Nat} {cs : Array Value} {v : Value} {R : Ending → World → Prop} (hf : fn.results = #[.cell p 82, .tmp u]) (h : Blk W g cs 82) (hs : cs.size = 7) (hp : tmps.getD p undef = .pointer (some ⟨g, 0, none⟩)) (hu : tmps.getD u undef = v)
  (hR : R (.returned (.tuple #[.agg cs, v])) W) : bodyPost Tryz.prog fn R .ret { tmps := tmps, defers := [] } W := by
 refine bodyPost_ret (v := .tuple #[.agg cs, v]) ((results_cell_tmp hf _ _ _).trans ?_) rfl hR
 have e : (asAddr (.pointer (some ⟨g, 0, none⟩))).run Tryz.prog W = .ok ⟨g, 0, none⟩ W := by go_simp
 show ((asAddr (tmps.getD p undef)).run Tryz.prog W).andThen _ = _
 rw [hp, e]
 show ((loadVar 82 ⟨g, 0, none⟩).run Tryz.prog W).andThen _ = _
 rw [run_loadVar_row W g 82 82 cs (0, 0) _ h.h Tryz.underlying82 rfl (by rw [hs]; kernel_rfl)]
 show Result.ok (Value.tuple #[.agg cs, tmps.getD u undef]) W = _
 rw [hu]
theorem ret4 {fn : Func} {p u p2 u2 : Tmp} {tmps : Array Value} {W : World} {g g2 : Nat} {cs cs2 : Array Value} {v v2 : Value} {R : Ending → World → Prop} (hf : fn.results = #[.cell p 82, .tmp u, .cell p2 131, .tmp u2]) (h : Blk W g cs 82) (hs : cs.size = 7) (h2 : Blk W g2 cs2 131) (hs2 : cs2.size = 7)
  (hp : tmps.getD p undef = .pointer (some ⟨g, 0, none⟩)) (hu : tmps.getD u undef = v) (hp2 : tmps.getD p2 undef = .pointer (some ⟨g2, 0, none⟩)) (hu2 : tmps.getD u2 undef = v2)
  (hR : R (.returned (.tuple #[.agg cs, v, .agg cs2, v2])) W) : bodyPost Tryz.prog fn R .ret { tmps := tmps, defers := [] } W := by
 refine bodyPost_ret (v := .tuple #[.agg cs, v, .agg cs2, v2]) ?_ rfl hR
 have e1 := run_loadVar_row (P := Tryz.prog) W g 82 82 cs (0, 0) _ h.h Tryz.underlying82 rfl (by rw [hs]; kernel_rfl)
 have e2 := run_loadVar_row (P := Tryz.prog) W g2 131 131 cs2 (0, 0) _ h2.h Tryz.underlying131 rfl (by rw [hs2]; kernel_rfl)
 have hp' : tmps[p]?.getD undef = .pointer (some ⟨g, 0, none⟩) := by simpa using hp
 have hp2' : tmps[p2]?.getD undef = .pointer (some ⟨g2, 0, none⟩) := by simpa using hp2
 have hu' : tmps[u]?.getD undef = v := by simpa using hu
 have hu2' : tmps[u2]?.getD undef = v2 := by simpa using hu2
 simp [results, hf, hp', hp2', hu', hu2', asAddr, e1, e2]
theorem wpl_load25 {ops : Array Oper} {rest : List Oper} {o : Oper} {a : Act} {w : World} {Q : Exit → Act → World → Prop} (hgd : o.guard = none) (x : Operand) (ho : o.op = .load 82 x) (g : Nat) (cs : Array Value) (hx : a.eval x = .pointer (some ⟨g, 0, none⟩)) (hg : Blk w g cs 82) (hs : cs.size = 7)
  (h : wpList Tryz.prog ops Q rest (a.put o.dst (.agg cs)) w) : wpList Tryz.prog ops Q (o :: rest) a w :=
 wpList_load_row hgd 82 x ho g hx 82 cs (0, 0) _ hg.h Tryz.underlying82 rfl (by rw [hs]; kernel_rfl) h
theorem wpl_load43 {ops : Array Oper} {rest : List Oper} {o : Oper} {a : Act} {w : World} {Q : Exit → Act → World → Prop} (hgd : o.guard = none) (x : Operand) (ho : o.op = .load 131 x) (g : Nat) (cs : Array Value) (hx : a.eval x = .pointer (some ⟨g, 0, none⟩)) (hg : Blk w g cs 131) (hs : cs.size = 7)
  (h : wpList Tryz.prog ops Q rest (a.put o.dst (.agg cs)) w) : wpList Tryz.prog ops Q (o :: rest) a w :=
 wpList_load_row hgd 131 x ho g hx 131 cs (0, 0) _ hg.h Tryz.underlying131 rfl (by rw [hs]; kernel_rfl) h
theorem wpl_load61 {ops : Array Oper} {rest : List Oper} {o : Oper} {a : Act} {w : World} {Q : Exit → Act → World → Prop} (hgd : o.guard = none) (x : Operand) (ho : o.op = .load 133 x) (g : Nat) (cs : Array Value) (hx : a.eval x = .pointer (some ⟨g, 0, none⟩)) (hg : Blk w g cs 133) (hs : cs.size = 10)
  (h : wpList Tryz.prog ops Q rest (a.put o.dst (.agg cs)) w) : wpList Tryz.prog ops Q (o :: rest) a w :=
 wpList_load_row hgd 133 x ho g hx 133 cs (0, 0) _ hg.h Tryz.underlying133 rfl (by rw [hs]; kernel_rfl) h
theorem wpl_load28 {ops : Array Oper} {rest : List Oper} {o : Oper} {a : Act} {w : World} {Q : Exit → Act → World → Prop} (hgd : o.guard = none) (x : Operand) (ho : o.op = .load 33 x) (g : Nat) (cs : Array Value) (hx : a.eval x = .pointer (some ⟨g, 0, none⟩)) (hg : Blk w g cs 33) (hs : cs.size = 5)
  (h : wpList Tryz.prog ops Q rest (a.put o.dst (.agg cs)) w) : wpList Tryz.prog ops Q (o :: rest) a w :=
 wpList_load_row hgd 33 x ho g hx 33 cs (0, 0) _ hg.h Tryz.underlying33 rfl (by rw [hs]; kernel_rfl) h
theorem wpl_store {ty : TypeId} {ops : Array Oper} {rest : List Oper} {o : Oper} {a : Act} {w : World} {Q : Exit → Act → World → Prop} (hgd : o.guard = none) (x y : Operand) (ho : o.op = .store ty x y)
  (g : Nat) (cells : Array Value) (hx : a.eval x = .pointer (some ⟨g, 0, none⟩)) (hy : a.eval y = .agg cells)
  {t : TypeId} {old : Array Value} (hg : Blk w g old t) (hi : (Tryz.prog.info? ty).map (·.size) = some cells.size)
  (hold : old.size = cells.size) (h1 : cells.all (·.oneCell') = true)
  (h : wpList Tryz.prog ops Q rest (a.put o.dst undef) (w.setRow g cells)) : wpList Tryz.prog ops Q (o :: rest) a w :=
 wpList_store_row hgd ty x y ho g cells hx hy t old hg.h hi hold h1 h
theorem grown_setRow (w : World) (g : Nat) (cs : Array Value) : w.grownBy (w.setRow g cs) (some g) :=
 ⟨rfl, rfl, rfl, by simp [World.setRow], fun k _ hne => by
  simp only [World.setRow, Array.getElem?_modify]
  rw [if_neg (fun e => hne (by rw [e]))]⟩
theorem wpl_put {ty : TypeId} {ops : Array Oper} {rest : List Oper} {o : Oper} {a : Act} {w : World} {Q : Exit → Act → World → Prop} (hgd : o.guard = none) (x y : Operand) (ho : o.op = .store ty x y)
  (g : Nat) (cells : Array Value) (hx : a.eval x = .pointer (some ⟨g, 0, none⟩)) (hy : a.eval y = .agg cells)
  {t : TypeId} {old : Array Value} (hg : Blk w g old t) (hi : (Tryz.prog.info? ty).map (·.size) = some cells.size)
  (hold : old.size = cells.size) (h1 : cells.all (·.oneCell') = true)
  (h : ∀ W', Blk W' g cells t → w.grownBy W' (some g) → W'.heap.size = w.heap.size → wpList Tryz.prog ops Q rest (a.put o.dst undef) W') : wpList Tryz.prog ops Q (o :: rest) a w :=
 wpl_store hgd x y ho g cells hx hy hg hi hold h1 (h _ (hg.row cells) (grown_setRow w g cells) (by simp [World.setRow]))
theorem wpl_fresh {ty : TypeId} {ops : Array Oper} {rest : List Oper} {o : Oper} {a : Act} {w : World} {Q : Exit → Act → World → Prop} (hgd : o.guard = none) (x y : Operand) (ho : o.op = .store ty x y)
  (cells old : Array Value) {t : TypeId} (hx : a.eval x = .pointer (some ⟨w.heap.size, 0, none⟩)) (hy : a.eval y = .agg cells)
  (hi : (Tryz.prog.info? ty).map (·.size) = some cells.size) (hold : old.size = cells.size) (h1 : cells.all (·.oneCell') = true)
  (h : ∀ W', Blk W' w.heap.size cells t → Bw w W' → W'.heap.size = w.heap.size + 1 → wpList Tryz.prog ops Q rest (a.put o.dst undef) W') : wpList Tryz.prog ops Q (o :: rest) a (w.alloc (.cells old t)) :=
 wpl_put hgd x y ho w.heap.size cells hx hy (Blk.new w old t) hi hold h1 fun W' h2 h3 h4 => h W' h2 (((Below.refl _ w).alloc (Nat.le_refl _) _).grown h3 (by simp) (fun k hk => by injection hk with hk; omega)) (by rw [h4]; simp)
theorem wpl_putAt {ty : TypeId} {ops : Array Oper} {rest : List Oper} {o : Oper} {a : Act} {w : World} {Q : Exit → Act → World → Prop} (hgd : o.guard = none) (x y : Operand) (ho : o.op = .store ty x y)
  (g off : Nat) (cells : Array Value) (hx : a.eval x = .pointer (some ⟨g, off, none⟩)) (hy : a.eval y = .agg cells)
  {t : TypeId} {old : Array Value} (hg : Blk w g old t) (hi : (Tryz.prog.info? ty).map (·.size) = some cells.size)
  (hfit : off + cells.size ≤ old.size) (h1 : cells.all (·.oneCell') = true)
  (h : ∀ W', Blk W' g (old.toList.take off ++ cells.toList ++ old.toList.drop (off + cells.size)).toArray t → w.grownBy W' (some g) → W'.heap.size = w.heap.size → wpList Tryz.prog ops Q rest (a.put o.dst undef) W') : wpList Tryz.prog ops Q (o :: rest) a w := by
 refine wpList_plain hgd fun K hK => ?_
 have hst := run_storeCells_at Tryz.prog g off t cells.toList 0 old w hg.h (by simp; omega) (fun v hv => (Array.all_eq_true_iff_forall_mem.1 h1) v (by simpa using hv))
 simp only [Nat.add_zero, Array.length_toList] at hst
 have hrun : (storeVar ty ⟨g, off, none⟩ (.agg cells)).run Tryz.prog w = .ok () (w.setRow g (old.toList.take off ++ cells.toList ++ old.toList.drop (off + cells.size)).toArray) := by
  cases hq : Tryz.prog.info? ty with
  | none => simp [hq] at hi
  | some i =>
   have hs : cells.size = i.size := by simp [hq] at hi; omega
   simp [storeVar, sizeOf, typeInfo, hq, Value.cells, ← hs, hst]
 unfold Oper.wp execOp
 simp only [ho, hx, hy, Instr.storeAt, Instr.sureAddr, Sem.run_bind, Sem.run_pure, Result.andThen_ok, hrun]
 exact hK _ _ (h _ (hg.row _) (grown_setRow w g _) (by simp [World.setRow]))
theorem kt_grown {w w' : World} {g : Nat} {cs : Array Value} {t t' : TypeId} (h : Blk w g cs t) (hg : w.grownBy w' (some g)) (hne : t' ≠ t) : Kt t' w w' := fun k cur hk => by
 refine hg.block k (Array.getElem?_eq_some_iff.1 hk).1 (fun e => ?_)
 injection e with e
 subst e
 have h1 := h.h
 rw [hk] at h1
 injection h1 with e2
 injection e2 with _ e3 _
 exact hne e3
theorem wpl_halt {ops : Array Oper} {l : List Oper} {Q : Exit → Act → World → Prop} {a : Act} {w : World} (h : True → wpList Tryz.prog ops Q l a w) : wpList Tryz.prog ops Q l a w := h trivial
theorem wpl_set {ty : TypeId} {ops : Array Oper} {rest : List Oper} {o : Oper} {a : Act} {w : World} {Q : Exit → Act → World → Prop} (hgd : o.guard = none) (x y : Operand) (ho : o.op = .store ty x y)
  (g j : Nat) (u : Value) (hx : a.eval x = .pointer (some ⟨g, j, none⟩)) (hy : a.eval y = u)
  {t : TypeId} {old : Array Value} (hg : Blk w g old t) (hi : (Tryz.prog.info? ty).map (·.size) = some 1) (hu : u.cells = #[u]) (h1 : u.oneCell' = true) (hj : j < old.size)
  (h : ∀ W', Blk W' g (old.setIfInBounds j u) t → w.grownBy W' (some g) → W'.heap.size = w.heap.size → wpList Tryz.prog ops Q rest (a.put o.dst undef) W') : wpList Tryz.prog ops Q (o :: rest) a w := by
 refine wpList_plain hgd fun K hK => ?_
 have hst := run_storeCells_at Tryz.prog g j t [u] 0 old w hg.h (by simp; omega) (fun v hv => by simp at hv; subst hv; exact h1)
 simp only [Nat.add_zero, List.length_singleton] at hst
 have hrun : (storeVar ty ⟨g, j, none⟩ u).run Tryz.prog w = .ok () (w.setRow g (old.toList.take j ++ [u] ++ old.toList.drop (j + 1)).toArray) := by
  cases hq : Tryz.prog.info? ty with
  | none => simp [hq] at hi
  | some i =>
   have hs : i.size = 1 := by simpa [hq] using hi
   simp [storeVar, sizeOf, typeInfo, hq, hu, hs, hst]
 have e : (old.toList.take j ++ [u] ++ old.toList.drop (j + 1)).toArray = old.setIfInBounds j u := by
  apply Array.ext'
  rw [Array.toList_setIfInBounds]
  simp [List.set_eq_take_append_cons_drop, hj]
 rw [e] at hrun
 unfold Oper.wp execOp
 simp only [ho, hx, hy, Instr.storeAt, Instr.sureAddr, Sem.run_bind, Sem.run_pure, Result.andThen_ok, hrun]
 exact hK _ _ (h _ (hg.row _) (grown_setRow w g _) (by simp [World.setRow]))
theorem Blk.ce {w : World} {g : Nat} {cs : Array Value} {t : TypeId} {v : Value} (h : Blk w g cs t) (j : Nat) (e : cs[j]? = some v := by rfl) : w.cell? ⟨g, j, none⟩ = some v := (h.cell j).trans e
theorem OwnP.shape {w : World} {B : Nat} {v : Value} {l : List Pr} (h : OwnP w B v l) : ∃ a c, v = .slice a l.length c := by
 obtain ⟨_, ⟨rfl, h0⟩ | ⟨g, cap, cur, rfl, _⟩⟩ := h
 ·exact ⟨_, _, by rw [h0]⟩
 ·exact ⟨_, _, rfl⟩
theorem copyItem_any (w : World) (x : Itm) (pv : Value) (h : RdP w pv x.msg.props) (hn : x.msg.props.length ≤ 2513169434916) :
  Calls Tryz.prog 155 #[.agg (itmV x pv).toArray] w fun e w' => ∃ pv', e = .returned (.agg (itmV x pv').toArray) ∧ OwnP w' w.heap.size pv' x.msg.props ∧ Bw w w' := by
 unfold itmV
 generalize x.msg.props = l at *
 generalize x.msg.topic = tp at *
 generalize x.msg.body = bd at *
 generalize x.msg.dur = du at *
 generalize x.msg.til = ti at *
 generalize x.seq = sq at *
 generalize x.again = ag at *
 go_enter Tryz.func155, Tryz.ntmps155
 have hb1 : Bw w ((w.alloc (.cells #[.int .i64 sq, .bool ag, tx tp, tx bd, pv, .bool du, .int .i64 ti] 131)).alloc (.cells itZ 131)) := ((Below.refl _ w).alloc (Nat.le_refl _) _).alloc (by simp) _
 have hA := (Blk.new w #[.int .i64 sq, .bool ag, tx tp, tx bd, pv, .bool du, .int .i64 ti] 131).alloc (.cells itZ 131)
 have hC := Blk.new (w.alloc (.cells #[.int .i64 sq, .bool ag, tx tp, tx bd, pv, .bool du, .int .i64 ti] 131)) itZ 131
 rw [World.size_alloc] at hC
 go_wp2_with (at_builtin; refine wpl_appP rfl (.const (.slice none 0 0)) (.tmp 5) rfl w.heap.size _ _ [] l _ rfl (World.ownsRow_nil ..) rfl (h.on hb1) (by simp; omega) hb1.size ?_)
 intro v' w2 ho hg
 have hA2 := hA.grown hg (by simp [Value.ownBlock])
 have hC2 := hC.grown hg (by simp [Value.ownBlock])
 have hb2 := hb1.grown hg hb1.size (fun k hk => by simp [Value.ownBlock] at hk)
 clear hA hC hg h hb1
 obtain ⟨a', c', rfl⟩ := ho.shape
 obtain ⟨n, hn'⟩ : ∃ n, l.length = n := ⟨_, rfl⟩
 rw [hn'] at ho hn ⊢
 clear hn'
 obtain ⟨c0, c1, c2, c3, c4, c5, c6⟩ := hA2.c7
 have f4 := hA2.frozen 4
 have hC3 := hC2.setO (j := 4) (g' := w.heap.size) (by omega) (.slice a' n c')
 have hb3 := hb2.setCell (p := ⟨w.heap.size, 4, none⟩) (Nat.le_refl _) (.slice a' n c')
 have ho3 := ho.keep (kt_setCell (j := 4) hA2 (by decide) (.slice a' n c'))
 clear ho hC2 hA2 hb2
 go_wp2_with (refine wpl_store rfl (.tmp 2) (.tmp 9) rfl (w.heap.size + 1) _ rfl rfl hC3 (by kernel_rfl) rfl (by simp [Value.oneCell']) ?_)
 refine ret43 rfl (hC3.row _) rfl rfl ⟨.slice a' n c', rfl, ho3.keep (kt_setRow hC3 (by decide) _), below_setRow hb3 (by omega) _⟩
theorem itm_at {w W : World} {a : Option Addr} {n c : Nat} {zs : Zs Itm} (h : RdZ 7 (ItR (RdP w)) w (.slice a n c) zs) (hb : Bw w W) {i : Nat} (hi : i < zs.length) :
  ∃ b o pv, a = some ⟨b, o, none⟩ ∧ (zs[i]).1 = itmV (zs[i]).2 pv ∧ RdP W pv (zs[i]).2.msg.props ∧ W.cell? ⟨b, o + i * 7, none⟩ = some (.int .i64 (zs[i]).2.seq) ∧ W.cell? ⟨b, o + i * 7 + 1, none⟩ = some (.bool (zs[i]).2.again) ∧ W.cell? ⟨b, o + i * 7 + 2, none⟩ = some (tx (zs[i]).2.msg.topic) ∧ W.cell? ⟨b, o + i * 7 + 3, none⟩ = some (tx (zs[i]).2.msg.body) ∧ W.cell? ⟨b, o + i * 7 + 4, none⟩ = some (pv) ∧ W.cell? ⟨b, o + i * 7 + 5, none⟩ = some (.bool (zs[i]).2.msg.dur) ∧ W.cell? ⟨b, o + i * 7 + 6, none⟩ = some (.int .i64 (zs[i]).2.msg.til) := by
 obtain ⟨b, o, c', e, hc⟩ := h.some (by omega)
 obtain ⟨rfl, _, _⟩ : a = some ⟨b, o, none⟩ ∧ n = zs.length ∧ c = c' := by
  injection e with e1 e2 e3
  exact ⟨e1, e2, e3⟩
 obtain ⟨hk, pv, hv, hp⟩ := h.2 _ (List.getElem_mem hi)
 have h1 := h.cells hi
 have key : ∀ j (hj : j < 7), W.cell? ⟨b, o + i * 7 + j, none⟩ = (itmV (zs[i]).2 pv)[j]? := fun j hj => by
  have e2 : ((zs[i]).1)[j]? = some (((zs[i]).1)[j]'(by rw [hk.1]; exact hj)) := List.getElem?_eq_getElem _
  have h2 := h1 j _ e2
  rw [hb.cell (World.block_lt_of_cell? w _ h2), h2, ← e2, hv]
 exact ⟨b, o, pv, rfl, hv, hp.on hb, key 0 (by omega), key 1 (by omega), key 2 (by omega), key 3 (by omega), key 4 (by omega), key 5 (by omega), key 6 (by omega)⟩
theorem hld_at {w W : World} {a : Option Addr} {n c : Nat} {zs : Zs Hld} (h : RdZ 10 (HeR (RdP w)) w (.slice a n c) zs) (hb : Bw w W) {i : Nat} (hi : i < zs.length) :
  ∃ b o pv, a = some ⟨b, o, none⟩ ∧ (zs[i]).1 = hldV (zs[i]).2 pv ∧ RdP W pv (zs[i]).2.itm.msg.props ∧ W.cell? ⟨b, o + i * 10, none⟩ = some (.int .i64 (zs[i]).2.tag) ∧ W.cell? ⟨b, o + i * 10 + 1, none⟩ = some (.int .i64 (zs[i]).2.conn) ∧ W.cell? ⟨b, o + i * 10 + 2, none⟩ = some (.int .i64 (zs[i]).2.sub) ∧ W.cell? ⟨b, o + i * 10 + 3, none⟩ = some (.int .i64 (zs[i]).2.itm.seq) ∧ W.cell? ⟨b, o + i * 10 + 4, none⟩ = some (.bool (zs[i]).2.itm.again) ∧ W.cell? ⟨b, o + i * 10 + 5, none⟩ = some (tx (zs[i]).2.itm.msg.topic) ∧ W.cell? ⟨b, o + i * 10 + 6, none⟩ = some (tx (zs[i]).2.itm.msg.body) ∧ W.cell? ⟨b, o + i * 10 + 7, none⟩ = some (pv) ∧ W.cell? ⟨b, o + i * 10 + 8, none⟩ = some (.bool (zs[i]).2.itm.msg.dur) ∧ W.cell? ⟨b, o + i * 10 + 9, none⟩ = some (.int .i64 (zs[i]).2.itm.msg.til) := by
 obtain ⟨b, o, c', e, hc⟩ := h.some (by omega)
 obtain ⟨rfl, _, _⟩ : a = some ⟨b, o, none⟩ ∧ n = zs.length ∧ c = c' := by
  injection e with e1 e2 e3
  exact ⟨e1, e2, e3⟩
 obtain ⟨hk, pv, hv, hp⟩ := h.2 _ (List.getElem_mem hi)
 have h1 := h.cells hi
 have key : ∀ j (hj : j < 10), W.cell? ⟨b, o + i * 10 + j, none⟩ = (hldV (zs[i]).2 pv)[j]? := fun j hj => by
  have e2 : ((zs[i]).1)[j]? = some (((zs[i]).1)[j]'(by rw [hk.1]; exact hj)) := List.getElem?_eq_getElem _
  have h2 := h1 j _ e2
  rw [hb.cell (World.block_lt_of_cell? w _ h2), h2, ← e2, hv]
 exact ⟨b, o, pv, rfl, hv, hp.on hb, key 0 (by omega), key 1 (by omega), key 2 (by omega), key 3 (by omega), key 4 (by omega), key 5 (by omega), key 6 (by omega), key 7 (by omega), key 8 (by omega), key 9 (by omega)⟩
end Go.Proofs.YtnpikgakpmkipabGreatDoor
namespace Go.Proofs.YtnpikgakpmkipabGreatDoor
open Go.RowKit Go.Lib Ieee
theorem valid_parts {l : List Pr} (h : validL l = true) : l.length ≤ 16 ∧ (∀ q ∈ l, canB q = true) ∧ rising l = true := by
 unfold validL at h
 simp only [Bool.and_eq_true, decide_eq_true_eq, List.all_eq_true] at h
 exact ⟨h.1, h.2.1, h.2.2⟩
theorem RdP.shape {w : World} {v : Value} {l : List Pr} (h : RdP w v l) : ∃ a c, v = .slice a l.length c := by
 rcases h with ⟨⟨a, c, rfl⟩, rfl⟩ | ⟨b, o, c, rfl, _, _⟩
 ·exact ⟨a, c, rfl⟩
 ·exact ⟨_, c, rfl⟩
theorem box_on {w w' : World} {q : Nat} {j : Nat} {v : Value} (h : w.cell? ⟨q, j, none⟩ = some v) (hb : Below w.heap.size w w') : w'.cell? ⟨q, j, none⟩ = some v := by
 rw [hb.cell (World.block_lt_of_cell? w _ h)]; exact h
theorem RdP.some {w : World} {v : Value} {l : List Pr} (h : RdP w v l) (h0 : l ≠ []) : ∃ (b o c : Nat), v = .slice (some ⟨b, o, none⟩) l.length c ∧ l.length ≤ c ∧ ∀ i (h : i < l.length), PrAt w b (o + i * 5) l[i] := by
 rcases h with ⟨_, h⟩ | h
 ·exact absurd h h0
 ·exact h
theorem toList_inj {s t : ByteArray} (h : s.toList = t.toList) : s = t := by
 rw [ByteArray.toList_eq, ByteArray.toList_eq] at h
 exact ByteArray.ext (Array.ext' h)
theorem sameV_eq (a b : Val) : sameV a b = true ↔ a = b := by
 obtain ⟨k, n, t, r⟩ := a
 obtain ⟨k', n', t', r'⟩ := b
 simp only [sameV, Bool.and_eq_true, beq_iff_eq, Val.mk.injEq, Int.natCast_inj]
 constructor
 ·rintro ⟨h1, h2, h3, h4⟩
  exact ⟨h1, h2, toList_inj h3, h4⟩
 ·rintro ⟨h1, h2, rfl, h4⟩
  exact ⟨h1, h2, rfl, h4⟩
end Go.Proofs.YtnpikgakpmkipabGreatDoor
