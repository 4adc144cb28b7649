/- Messages, items and queues in memory: what may be read, and what is the call's own. -/
import Derived.Test.YtlbcefocmdnlgaaGreatDoorMo
import Derived.Test.YtlbcefocmdnlgaaGreatDoorQb
import Derived.Test.YtlbcefocmdnlgaaGreatDoorRw
namespace Go.Proofs.YtlbcefocmdnlgaaGreatDoor
open Go.RowKit Go.Lib

/-- A text as a value. -/
abbrev tx (l : List UInt8) : Value := .string ⟨l.toArray⟩
def msgV (m : Msg) (pv : Value) : List Value := [tx m.topic, tx m.body, pv, .bool m.dur, .int .i64 m.til]
def itmV (x : Itm) (pv : Value) : List Value := [.int .i64 x.seq, .bool x.again, tx x.msg.topic, tx x.msg.body, pv, .bool x.msg.dur, .int .i64 x.msg.til]
def hldV (h : Hld) (pv : Value) : List Value := [.int .i64 h.tag, .int .i64 h.conn, .int .i64 h.sub, .int .i64 h.itm.seq, .bool h.itm.again, tx h.itm.msg.topic, tx h.itm.msg.body, pv, .bool h.itm.msg.dur, .int .i64 h.itm.msg.til]
def queV (q : Que) (iv hv : Value) : Value := .agg #[tx q.name, .bool q.dur, .int .i64 q.depth, .int .i64 q.seq, .int .i64 q.tag, iv, hv]

/-- An item's, a held one's cells: its properties satisfy p. -/
def ItR (p : Value → List Pr → Prop) (vs : List Value) (x : Itm) : Prop := ∃ pv, vs = itmV x pv ∧ p pv x.msg.props
def HeR (p : Value → List Pr → Prop) (vs : List Value) (h : Hld) : Prop := ∃ pv, vs = hldV h pv ∧ p pv h.itm.msg.props

theorem RdP.one {w : World} {v : Value} {l : List Pr} (h : RdP w v l) : v.oneCell' = true := by
  rcases h with ⟨⟨a, c, rfl⟩, _⟩ | ⟨b, o, c, rfl, _⟩ <;> rfl

/-- A slice whose elements' cells R tells. -/
def RdZ {α : Type} (k : Nat) (R : List Value → α → Prop) (w : World) (v : Value) (zs : Zs α) : Prop :=
  (((∃ a c, v = .slice a 0 c) ∧ zs = []) ∨ ∃ (b o c : Nat), v = .slice (some ⟨b, o, none⟩) zs.length c ∧ zs.length ≤ c ∧ ∀ j u, (cellsZ zs)[j]? = some u → w.cell? ⟨b, o + j, none⟩ = some u)
  ∧ ∀ z ∈ zs, (z.1.length = k ∧ ∀ u ∈ z.1, u.oneCell' = true) ∧ R z.1 z.2
def RdL {α : Type} (k : Nat) (R : List Value → α → Prop) (w : World) (v : Value) (l : List α) : Prop := ∃ zs : Zs α, zs.map (·.2) = l ∧ RdZ k R w v zs
def OwnZ {α : Type} (e k : Nat) (R : List Value → α → Prop) (w : World) (B : Nat) (v : Value) (zs : Zs α) : Prop :=
  w.ownsRow B e k v zs.length (cellsZ zs) ∧ ∀ z ∈ zs, (z.1.length = k ∧ ∀ u ∈ z.1, u.oneCell' = true) ∧ R z.1 z.2
def OwnL {α : Type} (e k : Nat) (R : List Value → α → Prop) (w : World) (B : Nat) (v : Value) (l : List α) : Prop := ∃ zs : Zs α, zs.map (·.2) = l ∧ OwnZ e k R w B v zs

theorem RdZ.imp {α : Type} {k : Nat} {R R' : List Value → α → Prop} {w : World} {v : Value} {zs : Zs α} (h : RdZ k R w v zs) (hR : ∀ vs x, R vs x → R' vs x) : RdZ k R' w v zs := ⟨h.1, fun z hz => ⟨(h.2 z hz).1, hR _ _ (h.2 z hz).2⟩⟩
theorem OwnZ.imp {α : Type} {e k : Nat} {R R' : List Value → α → Prop} {w : World} {B : Nat} {v : Value} {zs : Zs α} (h : OwnZ e k R w B v zs) (hR : ∀ vs x, R vs x → R' vs x) : OwnZ e k R' w B v zs := ⟨h.1, fun z hz => ⟨(h.2 z hz).1, hR _ _ (h.2 z hz).2⟩⟩
theorem RdZ.len {α : Type} {k : Nat} {R : List Value → α → Prop} {w : World} {v : Value} {zs : Zs α} (h : RdZ k R w v zs) : ∃ a c, v = .slice a zs.length c := by
  rcases h.1 with ⟨⟨a, c, rfl⟩, rfl⟩ | ⟨b, o, c, rfl, _⟩
  · exact ⟨a, c, rfl⟩
  · exact ⟨_, c, rfl⟩
theorem RdZ.on {α : Type} {k : Nat} {R : List Value → α → Prop} {w w' : World} {v : Value} {zs : Zs α} (h : RdZ k R w v zs) (hb : Below w.heap.size w w') : RdZ k R w' v zs := by
  refine ⟨?_, h.2⟩
  rcases h.1 with h | ⟨b, o, c, rfl, hc, h⟩
  · exact .inl h
  · refine .inr ⟨b, o, c, rfl, hc, fun j u hu => ?_⟩
    have h1 := h j u hu
    rw [hb.cell (World.block_lt_of_cell? w _ h1)]
    exact h1
/-- The cells of one element. -/
theorem RdZ.cells {α : Type} {k : Nat} {R : List Value → α → Prop} {w : World} {b o n c : Nat} {zs : Zs α} (h : RdZ k R w (.slice (some ⟨b, o, none⟩) n c) zs) {i : Nat} (hi : i < zs.length) :
    ∀ j u, (zs[i].1)[j]? = some u → w.cell? ⟨b, o + i * k + j, none⟩ = some u := by
  rcases h.1 with ⟨_, rfl⟩ | ⟨b', o', c', e, hc, h1⟩
  · simp at hi
  · injection e with e1 e2 e3
    injection e1 with e1
    injection e1 with e1 e4 e5
    subst e1 e4
    intro j u hu
    have hk := (h.2 _ (List.getElem_mem hi)).1.1
    have hj : j < k := by rw [← hk]; exact (List.getElem?_eq_some_iff.1 hu).1
    rw [← cellsZ_at (fun z hz => (h.2 z hz).1.1) i hi j hj] at hu
    rw [Nat.add_assoc]
    exact h1 _ _ hu
theorem RdZ.some {α : Type} {k : Nat} {R : List Value → α → Prop} {w : World} {v : Value} {zs : Zs α} (h : RdZ k R w v zs) (h0 : 0 < zs.length) : ∃ b o c, v = .slice (some ⟨b, o, none⟩) zs.length c ∧ zs.length ≤ c := by
  rcases h.1 with ⟨_, rfl⟩ | ⟨b', o', c', e, hc, h1⟩
  · simp at h0
  · exact ⟨b', o', c', e, hc⟩
theorem OwnZ.rd {α : Type} {e k : Nat} {R : List Value → α → Prop} {w : World} {B : Nat} {v : Value} {zs : Zs α} (h : OwnZ e k R w B v zs) : RdZ k R w v zs := by
  refine ⟨?_, h.2⟩
  obtain ⟨hl, h1 | ⟨g, cap, cur, rfl, hb, hg, hc, hm, hs, ht⟩⟩ := h.1
  · exact .inl ⟨⟨_, _, h1.1⟩, List.length_eq_zero_iff.1 h1.2⟩
  · refine .inr ⟨g, 0, cap, rfl, hc, fun j u hu => ?_⟩
    have := World.ownsRow.cells (g := g) h.1 rfl j u hu
    rwa [Addr.add_lit] at this
theorem OwnZ.low {α : Type} {e k : Nat} {R : List Value → α → Prop} {w : World} {B B' : Nat} {v : Value} {zs : Zs α} (h : OwnZ e k R w B' v zs) (hB : B ≤ B') : OwnZ e k R w B v zs := by
  refine ⟨?_, h.2⟩
  obtain ⟨hl, h1 | ⟨g, cap, cur, hv, hb, h1⟩⟩ := h.1
  · exact ⟨hl, .inl h1⟩
  · exact ⟨hl, .inr ⟨g, cap, cur, hv, by omega, h1⟩⟩

/-- All blocks of a type are as they were. -/
def Kt (t : TypeId) (w w' : World) : Prop := ∀ (k : Nat) (cur : Array Value), w.heap[k]? = some (.cells cur t (0, 0)) → w'.heap[k]? = w.heap[k]?
theorem Kt.refl (t : TypeId) (w : World) : Kt t w w := fun _ _ _ => rfl
theorem Kt.trans {t : TypeId} {a b c : World} (h : Kt t a b) (h' : Kt t b c) : Kt t a c := fun k cur hk => by
  have h1 := h k cur hk
  exact (h' k cur (h1.trans hk)).trans h1
theorem Kt.of_below {t : TypeId} {w w' : World} (h : Below w.heap.size w w') : Kt t w w' := fun k _ hk => h.block k (Array.getElem?_eq_some_iff.1 hk).1
theorem Kt.of_grown {t e : TypeId} {w w' : World} {B k n : Nat} {v : Value} {xs : List Value} (h : w.ownsRow B e k v n xs) (hg : w.grownBy w' v.ownBlock) (hne : t ≠ e) : Kt t w w' := fun j cur hj => by
  refine hg.block j (Array.getElem?_eq_some_iff.1 hj).1 (fun e1 => ?_)
  obtain ⟨_, ⟨rfl, _⟩ | ⟨g, cap, cur', rfl, _, hg', _⟩⟩ := h
  · cases e1
  · simp [Value.ownBlock] at e1
    subst e1
    rw [hj] at hg'
    injection hg' with e2
    injection e2 with _ e3 _
    exact hne e3
theorem OwnZ.keep {α : Type} {e k : Nat} {R : List Value → α → Prop} {w w' : World} {B : Nat} {v : Value} {zs : Zs α} (h : OwnZ e k R w B v zs) (hk : Kt e w w') : OwnZ e k R w' B v zs := by
  refine ⟨?_, h.2⟩
  obtain ⟨hl, h1 | ⟨g, cap, cur, hv, hb, hg, h1⟩⟩ := h.1
  · exact ⟨hl, .inl h1⟩
  · exact ⟨hl, .inr ⟨g, cap, cur, hv, hb, (hk g cur hg).trans hg, h1⟩⟩
theorem OwnP.keep {w w' : World} {B : Nat} {v : Value} {l : List Pr} (h : OwnP w B v l) (hk : Kt 54 w w') : OwnP w' B v l := by
  obtain ⟨hl, h1 | ⟨g, cap, cur, hv, hb, hg, h1⟩⟩ := h
  · exact ⟨hl, .inl h1⟩
  · exact ⟨hl, .inr ⟨g, cap, cur, hv, hb, (hk g cur hg).trans hg, h1⟩⟩
theorem ItR.keep {w w' : World} {B : Nat} {vs : List Value} {x : Itm} (h : ItR (OwnP w B) vs x) (hk : Kt 54 w w') : ItR (OwnP w' B) vs x := by
  obtain ⟨pv, h1, h2⟩ := h
  exact ⟨pv, h1, h2.keep hk⟩
theorem HeR.keep {w w' : World} {B : Nat} {vs : List Value} {x : Hld} (h : HeR (OwnP w B) vs x) (hk : Kt 54 w w') : HeR (OwnP w' B) vs x := by
  obtain ⟨pv, h1, h2⟩ := h
  exact ⟨pv, h1, h2.keep hk⟩
theorem ItR.on {w w' : World} {vs : List Value} {x : Itm} (h : ItR (RdP w) vs x) (hb : Below w.heap.size w w') : ItR (RdP w') vs x := by
  obtain ⟨pv, h1, h2⟩ := h
  exact ⟨pv, h1, h2.on hb⟩
theorem HeR.on {w w' : World} {vs : List Value} {x : Hld} (h : HeR (RdP w) vs x) (hb : Below w.heap.size w w') : HeR (RdP w') vs x := by
  obtain ⟨pv, h1, h2⟩ := h
  exact ⟨pv, h1, h2.on hb⟩
theorem ItR.rd {w : World} {B : Nat} {vs : List Value} {x : Itm} (h : ItR (OwnP w B) vs x) : ItR (RdP w) vs x := by
  obtain ⟨pv, h1, h2⟩ := h
  exact ⟨pv, h1, h2.rd⟩
theorem HeR.rd {w : World} {B : Nat} {vs : List Value} {x : Hld} (h : HeR (OwnP w B) vs x) : HeR (RdP w) vs x := by
  obtain ⟨pv, h1, h2⟩ := h
  exact ⟨pv, h1, h2.rd⟩
theorem ItR.low {w : World} {B B' : Nat} {vs : List Value} {x : Itm} (h : ItR (OwnP w B') vs x) (hB : B ≤ B') : ItR (OwnP w B) vs x := by
  obtain ⟨pv, h1, h2⟩ := h
  exact ⟨pv, h1, h2.low hB⟩
theorem HeR.low {w : World} {B B' : Nat} {vs : List Value} {x : Hld} (h : HeR (OwnP w B') vs x) (hB : B ≤ B') : HeR (OwnP w B) vs x := by
  obtain ⟨pv, h1, h2⟩ := h
  exact ⟨pv, h1, h2.low hB⟩

/-- What waits, what is held: to be read; the call's own, from block B on. -/
def RdI (w : World) (v : Value) (l : List Itm) : Prop := RdL 7 (ItR (RdP w)) w v l
def RdH (w : World) (v : Value) (l : List Hld) : Prop := RdL 10 (HeR (RdP w)) w v l
def OwnI (w : World) (B : Nat) (v : Value) (l : List Itm) : Prop := OwnL 43 7 (ItR (OwnP w B)) w B v l
def OwnH (w : World) (B : Nat) (v : Value) (l : List Hld) : Prop := OwnL 61 10 (HeR (OwnP w B)) w B v l
theorem RdI.on {w w' : World} {v : Value} {l : List Itm} (h : RdI w v l) (hb : Below w.heap.size w w') : RdI w' v l := by
  obtain ⟨zs, h1, h2⟩ := h
  exact ⟨zs, h1, (h2.on hb).imp fun _ _ h => h.on hb⟩
theorem RdH.on {w w' : World} {v : Value} {l : List Hld} (h : RdH w v l) (hb : Below w.heap.size w w') : RdH w' v l := by
  obtain ⟨zs, h1, h2⟩ := h
  exact ⟨zs, h1, (h2.on hb).imp fun _ _ h => h.on hb⟩
theorem OwnI.rd {w : World} {B : Nat} {v : Value} {l : List Itm} (h : OwnI w B v l) : RdI w v l := by
  obtain ⟨zs, h1, h2⟩ := h
  exact ⟨zs, h1, h2.rd.imp fun _ _ h => h.rd⟩
theorem OwnH.rd {w : World} {B : Nat} {v : Value} {l : List Hld} (h : OwnH w B v l) : RdH w v l := by
  obtain ⟨zs, h1, h2⟩ := h
  exact ⟨zs, h1, h2.rd.imp fun _ _ h => h.rd⟩
theorem OwnI.keep {w w' : World} {B : Nat} {v : Value} {l : List Itm} (h : OwnI w B v l) (h1 : Kt 43 w w') (h2 : Kt 54 w w') : OwnI w' B v l := by
  obtain ⟨zs, h3, h4⟩ := h
  exact ⟨zs, h3, (h4.keep h1).imp fun _ _ h => h.keep h2⟩
theorem OwnH.keep {w w' : World} {B : Nat} {v : Value} {l : List Hld} (h : OwnH w B v l) (h1 : Kt 61 w w') (h2 : Kt 54 w w') : OwnH w' B v l := by
  obtain ⟨zs, h3, h4⟩ := h
  exact ⟨zs, h3, (h4.keep h1).imp fun _ _ h => h.keep h2⟩
theorem OwnI.low {w : World} {B B' : Nat} {v : Value} {l : List Itm} (h : OwnI w B' v l) (hB : B ≤ B') : OwnI w B v l := by
  obtain ⟨zs, h1, h2⟩ := h
  exact ⟨zs, h1, (h2.low hB).imp fun _ _ h => h.low hB⟩
theorem OwnH.low {w : World} {B B' : Nat} {v : Value} {l : List Hld} (h : OwnH w B' v l) (hB : B ≤ B') : OwnH w B v l := by
  obtain ⟨zs, h1, h2⟩ := h
  exact ⟨zs, h1, (h2.low hB).imp fun _ _ h => h.low hB⟩
theorem RdL.len {α : Type} {k : Nat} {R : List Value → α → Prop} {w : World} {v : Value} {l : List α} (h : RdL k R w v l) : ∃ a c, v = .slice a l.length c := by
  obtain ⟨zs, rfl, h⟩ := h
  obtain ⟨a, c, h⟩ := h.len
  exact ⟨a, c, by rw [h, List.length_map]⟩
/-- A queue to be read; the call's own. -/
def RdQ (w : World) (v : Value) (q : Que) : Prop := ∃ iv hv, v = queV q iv hv ∧ RdI w iv q.items ∧ RdH w hv q.held
def OwnQ (w : World) (B : Nat) (v : Value) (q : Que) : Prop := ∃ iv hv, v = queV q iv hv ∧ OwnI w B iv q.items ∧ OwnH w B hv q.held
theorem RdQ.on {w w' : World} {v : Value} {q : Que} (h : RdQ w v q) (hb : Below w.heap.size w w') : RdQ w' v q := by
  obtain ⟨iv, hv, h1, h2, h3⟩ := h
  exact ⟨iv, hv, h1, h2.on hb, h3.on hb⟩
theorem OwnQ.rd {w : World} {B : Nat} {v : Value} {q : Que} (h : OwnQ w B v q) : RdQ w v q := by
  obtain ⟨iv, hv, h1, h2, h3⟩ := h
  exact ⟨iv, hv, h1, h2.rd, h3.rd⟩
theorem OwnQ.on {w w' : World} {B : Nat} {v : Value} {q : Que} (h : OwnQ w B v q) (hb : Below w.heap.size w w') : OwnQ w' B v q := by
  obtain ⟨iv, hv, h1, h2, h3⟩ := h
  exact ⟨iv, hv, h1, h2.keep (.of_below hb) (.of_below hb), h3.keep (.of_below hb) (.of_below hb)⟩
theorem nxt {a b c : World} (h1 : Below a.heap.size a b) (h2 : Below b.heap.size b c) : Below a.heap.size a c := h1.trans (h2.mono h1.size)
end Go.Proofs.YtlbcefocmdnlgaaGreatDoor
