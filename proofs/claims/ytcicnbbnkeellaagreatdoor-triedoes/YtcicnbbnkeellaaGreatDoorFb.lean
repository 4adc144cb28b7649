/- What Find has laid on its way; append in a region that draws its order. Conditions: those that each row states. -/
import Derived.Test.YtcicnbbnkeellaaGreatDoorFa
import Derived.Test.YtcicnbbnkeellaaGreatDoorRq
import Derived.Test.YtcicnbbnkeellaaGreatDoorGv
import Derived.Test.YtcicnbbnkeellaaGreatDoorPt
import Derived.Maps.AppendAt
namespace Go.Proofs.YtcicnbbnkeellaaGreatDoor
open Go.RowKit
set_option maxRecDepth 100000

theorem cI : To.Cell1 28 3 (.int .i64 0) 8 := ⟨by kernel_rfl, by kernel_rfl, rfl, by decide⟩
theorem cN : To.Cell1 61 47 (.pointer none) 8 := ⟨by kernel_rfl, by kernel_rfl, rfl, by decide⟩
theorem wp_appV {o : Oper} {a : Act} {K : Act → World → Prop} {Q : Exit → Act → World → Prop} {t e : TypeId} {z : Value} {by' : Nat} (H : To.Cell1 t e z by') (s x : Operand)
    (ho : o.op = .call { callee := .builtin .append, args := #[s, x], argTypes := #[t, t] }) (B : Nat) (v vx : Value) (l lx : List Value) (w : World)
    (hs : a.eval s = v) (hown : To.OwnV e w B v l) (hx : a.eval x = vx) (hr : To.RdV w vx lx) (h1 : ∀ u ∈ lx, u.oneCell' = true) (hl : l.length + lx.length ≤ 1000000) (hB : B ≤ w.heap.size)
    (h : ∀ v' w', To.OwnV e w' B v' (l ++ lx) → Below B w w' → (∀ k, k < w.heap.size → v.ownBlock ≠ some k → w'.heap[k]? = w.heap[k]?) → (∀ k, v'.ownBlock = some k → v.ownBlock = some k ∨ w.heap.size ≤ k) → K (a.put o.dst v') w') :
    o.wp Tryz.prog a w K Q := by
  obtain ⟨i0, hi, hz0, hz1, hz2⟩ := H.parts
  have hby := H.few
  have hbytes : (l.length + lx.length) * by' ≤ 140737488355328 := by
    have : (l.length + lx.length) * by' ≤ 1000000 * 24 := Nat.mul_le_mul hl hby
    omega
  have hnone : ∀ ad c, lx = [] → vx = .slice ad 0 c → o.wp Tryz.prog a w K Q := fun ad c e1 e2 => by
    subst e1 e2
    have hrun : (Builtin.append_ #[t, t] o.type #[v, .slice ad 0 c]).run Tryz.prog w = .ok v w := by
      rcases hown.2 with ⟨rfl, _⟩ | ⟨g, cap, cur, rfl, _, _, hnc, _⟩
      · cases ad <;> simp [Builtin.append_, run_underlying H.under, sizeOf, typeInfo, hi, Builtin.lenOf, Builtin.firstCells, loadCells, loadCellsFrom]
      · cases ad <;> simp [Builtin.append_, run_underlying H.under, sizeOf, typeInfo, hi, Builtin.lenOf, Builtin.firstCells, hnc, storeCells, loadCells, loadCellsFrom]
    unfold Oper.wp execOp
    simp only [ho, resolve, invoke, builtin, Sem.run_bind, Sem.run_pure, Result.andThen_ok, List.map_toArray, List.map_cons, List.map_nil, hs, hx, hrun]
    exact h v w (by rw [List.append_nil]; exact hown) (Below.refl _ _) (fun _ _ _ => rfl) (fun _ e => .inl e)
  rcases hr with ⟨e1, e2⟩ | ⟨⟨ad, c, e1⟩, e2⟩ | ⟨b, of, c, rfl, _, hc⟩
  · exact hnone _ _ e2 e1
  · exact hnone _ _ e2 e1
  · obtain ⟨v', w', hr, h2, h3, h4, h5⟩ := run_append_own_at (P := Tryz.prog) w B t o.type e i0 z 1 by' H.under hi hz0 hz1 hz2 H.cells (by decide) v l.length l hown ⟨b, of, none⟩ lx.length c lx (by omega) (fun j u hj => by
      have hjl : j < lx.length := (List.getElem?_eq_some_iff.1 hj).1
      rw [Addr.add_lit, hc j hjl]
      rw [List.getElem?_eq_getElem hjl] at hj
      exact hj) h1 (by unfold maxLen; omega) hbytes hB
    have hrow : To.OwnV e w' B v' (l ++ lx) := by
      show w'.ownsRow B e 1 v' (l ++ lx).length (l ++ lx)
      rw [List.length_append]
      exact h2
    unfold Oper.wp execOp
    simp only [ho, resolve, invoke, builtin, Sem.run_bind, Sem.run_pure, Result.andThen_ok, List.map_toArray, List.map_cons, List.map_nil, hs, hx, hr]
    refine h v' w' hrow ((Below.refl B w).grown h3 hB (fun k hk => (World.ownsRow.lt hown k hk).1)) (fun k hk hne => h3.block k hk (fun e => hne e.symm)) (fun k hk => ?_)
    rcases h5 with h5 | h5
    · exact .inl (h5 ▸ hk)
    · rw [h5] at hk
      injection hk with hk
      exact .inr (Nat.le_of_eq hk)

/-- The nodes at some paths. -/
def hpT (T : Tr) (ps : List (List Wd)) : List Value := ps.map fun p => ptrO ((T p).map Nd.q)
theorem hpT_one (T : Tr) (ps : List (List Wd)) : ∀ u ∈ hpT T ps, u.oneCell' = true := by
  intro u hu
  obtain ⟨p, _, rfl⟩ := List.mem_map.1 hu
  cases (T p).map Nd.q <;> rfl
/-- What Find has laid. -/
structure FdS (n0 : Nat) (w1 W : World) (T : Tr) (ps : List (List Wd)) (acc : List Int) (vi vh : Value) : Prop where
  below : Below n0 w1 W
  size : n0 + 6 ≤ W.heap.size
  b5 : W.heap[n0]? = some (.cells #[vi] 28 (0, 0))
  b6 : W.heap[n0 + 2]? = some (.cells #[vh] 61 (0, 0))
  ids : To.OwnV 3 W n0 vi (ints acc)
  here : To.OwnV 47 W n0 vh (hpT T ps)
  farI : ∀ b, vi.ownBlock = some b → n0 + 8 ≤ b
  farH : ∀ b, vh.ownBlock = some b → b = n0 + 1 ∨ n0 + 8 ≤ b
  dom : ∀ p ∈ ps, T p ≠ none
theorem own_row {w : World} {B e : Nat} {v : Value} {xs : List Value} (h : To.OwnV e w B v xs) {b : Nat} (hb : v.ownBlock = some b) : ∃ cur, w.heap[b]? = some (.cells cur e (0, 0)) := by
  obtain ⟨_, ⟨rfl, _⟩ | ⟨g, cap, cur, rfl, _, hg, _⟩⟩ := h
  · cases hb
  · cases hb
    exact ⟨cur, hg⟩
theorem own_on {w w' : World} {B e : Nat} {v : Value} {xs : List Value} (h : To.OwnV e w B v xs) (he : ∀ b, v.ownBlock = some b → w'.heap[b]? = w.heap[b]?) : To.OwnV e w' B v xs := by
  obtain ⟨h1, h2 | ⟨g, cap, cur, e1, e2, e3, e4⟩⟩ := h
  · exact ⟨h1, .inl h2⟩
  · exact ⟨h1, .inr ⟨g, cap, cur, e1, e2, (he g (by rw [e1]; rfl)).trans e3, e4⟩⟩
theorem own_low {w : World} {B B' e : Nat} {v : Value} {xs : List Value} (h : To.OwnV e w B' v xs) (hB : B ≤ B') : To.OwnV e w B v xs := by
  obtain ⟨h1, h2 | ⟨g, cap, cur, e1, e2, e3⟩⟩ := h
  · exact ⟨h1, .inl h2⟩
  · exact ⟨h1, .inr ⟨g, cap, cur, e1, Nat.le_trans hB e2, e3⟩⟩
theorem own_ge {w : World} {B e : Nat} {v : Value} {xs : List Value} (h : To.OwnV e w B v xs) {b : Nat} (hb : v.ownBlock = some b) : B ≤ b := by
  obtain ⟨_, ⟨rfl, _⟩ | ⟨g, cap, cur, rfl, h1, _⟩⟩ := h
  · cases hb
  · cases hb
    exact h1
theorem own_apart {w : World} {B B' e e' : Nat} {v v' : Value} {xs xs' : List Value} (h : To.OwnV e w B v xs) (h' : To.OwnV e' w B' v' xs') (hne : e ≠ e') {b : Nat} (hb : v.ownBlock = some b) : v'.ownBlock ≠ some b := fun hb' => by
  obtain ⟨c1, h1⟩ := own_row h hb
  obtain ⟨c2, h2⟩ := own_row h' hb'
  rw [h1] at h2
  injection h2 with h2
  injection h2 with _ h2
  exact hne h2
theorem FdS.chg {n0 : Nat} {w1 W W' : World} {T : Tr} {ps : List (List Wd)} {acc : List Int} {vi vh : Value} (h : FdS n0 w1 W T ps acc vi vh) {Z : Nat → Prop} (hc : Chg Z W W') (hz : ∀ b, Z b → n0 + 3 ≤ b ∧ b < n0 + 8) : FdS n0 w1 W' T ps acc vi vh := by
  have hI : ∀ b, vi.ownBlock = some b → W'.heap[b]? = W.heap[b]? := fun b hb => hc.block b (fun e => by have := hz b e; have := h.farI b hb; omega)
  have hH : ∀ b, vh.ownBlock = some b → W'.heap[b]? = W.heap[b]? := fun b hb => hc.block b (fun e => by have := hz b e; have := h.farH b hb; omega)
  exact ⟨⟨hc.os.trans h.below.os, hc.tape.trans h.below.tape, hc.output.trans h.below.output, by rw [hc.size]; exact h.below.size, fun k hk => (hc.block k (fun e => by have := hz k e; omega)).trans (h.below.block k hk)⟩, by rw [hc.size]; exact h.size,
    (hc.block _ (fun e => by have := hz _ e; omega)).trans h.b5, (hc.block _ (fun e => by have := hz _ e; omega)).trans h.b6, own_on h.ids hI, own_on h.here hH, h.farI, h.farH, h.dom⟩
theorem FdS.tr {n0 N : Nat} {w1 W : World} {T : Tr} {ps : List (List Wd)} {acc : List Int} {vi vh : Value} (h : FdS n0 w1 W T ps acc vi vh) (hn : n0 = w1.heap.size) (ht : TrW w1 N T) : TrW W N T := ht.below (by rw [← hn]; exact h.below)
/-- The numbers are others. -/
theorem FdS.step {n0 : Nat} {w1 W W' : World} {T : Tr} {ps : List (List Wd)} {acc acc' : List Int} {vi vi' vh : Value} (h : FdS n0 w1 W T ps acc vi vh) (hb : Below n0 W W') (hk : ∀ b, b < W.heap.size → b ≠ n0 → vi.ownBlock ≠ some b → W'.heap[b]? = W.heap[b]?)
    (h5 : W'.heap[n0]? = some (.cells #[vi'] 28 (0, 0))) (hi : To.OwnV 3 W' n0 vi' (ints acc')) (hloc : ∀ b, vi'.ownBlock = some b → vi.ownBlock = some b ∨ n0 + 8 ≤ b) : FdS n0 w1 W' T ps acc' vi' vh := by
  have hH : ∀ b, vh.ownBlock = some b → W'.heap[b]? = W.heap[b]? := fun b hbv => by
    obtain ⟨cur, hc⟩ := own_row h.here hbv
    refine hk b (lt_of_some hc) (fun e => by have := h.farH b hbv; omega) (own_apart h.here h.ids (by decide) hbv)
  have h62 : vi.ownBlock ≠ some (n0 + 2) := fun e => by have := h.farI _ e; omega
  refine ⟨h.below.trans hb, Nat.le_trans h.size hb.size, h5, (hk _ (lt_of_some h.b6) (by omega) h62).trans h.b6, hi, own_on h.here hH, fun b hbv => ?_, h.farH, h.dom⟩
  rcases hloc b hbv with h1 | h1
  · exact h.farI b h1
  · exact h1
/-- A store of the numbers behind an append. -/
theorem FdS.app {n0 : Nat} {w1 W Wa : World} {T : Tr} {ps : List (List Wd)} {acc : List Int} {L : List Int} {vi vi' vh : Value} (h : FdS n0 w1 W T ps acc vi vh) (h8 : n0 + 8 ≤ W.heap.size) (ho : To.OwnV 3 Wa n0 vi' (ints acc ++ ints L)) (hb : Below n0 W Wa)
    (hk : ∀ k, k < W.heap.size → vi.ownBlock ≠ some k → Wa.heap[k]? = W.heap[k]?) (hloc : ∀ k, vi'.ownBlock = some k → vi.ownBlock = some k ∨ W.heap.size ≤ k) :
    FdS n0 w1 (Wa.setCell ⟨n0, 0, none⟩ vi') T ps (acc ++ L) vi' vh ∧ (∀ k, k < W.heap.size → k ≠ n0 → vi.ownBlock ≠ some k → (Wa.setCell ⟨n0, 0, none⟩ vi').heap[k]? = W.heap[k]?) := by
  have hn0 : vi.ownBlock ≠ some n0 := fun e => by have := h.farI _ e; omega
  have h5a : Wa.heap[n0]? = some (.cells #[vi] 28 (0, 0)) := (hk _ (lt_of_some h.b5) hn0).trans h.b5
  have hK : ∀ k, k < W.heap.size → k ≠ n0 → vi.ownBlock ≠ some k → (Wa.setCell ⟨n0, 0, none⟩ vi').heap[k]? = W.heap[k]? := fun k h1 h2 h3 => (RowKit.Below.heap_setCell _ _ _ _ h2).trans (hk k h1 h3)
  refine ⟨h.step (hb.setCell (p := ⟨n0, 0, none⟩) (Nat.le_refl _) _) hK ?_ ?_ (fun b hbv => ?_), hK⟩
  · simp only [World.setCell, Array.getElem?_modify, if_pos, h5a]
    simp
  · have e : ints (acc ++ L) = ints acc ++ ints L := by simp [ints]
    rw [e]
    refine own_on ho (fun b hbv => RowKit.Below.heap_setCell _ _ _ _ (fun e1 => ?_))
    have e1' : b = n0 := e1
    rcases hloc b hbv with h1 | h1
    · have := h.farI b h1; omega
    · omega
  · rcases hloc b hbv with h1 | h1
    · exact .inl h1
    · right; omega
theorem rd_ids {w : World} {N : Nat} {T : Tr} {p : List Wd} {nd : Nd} (h : NdAt w N T p nd) : To.RdV w nd.v (ints nd.ids) := by
  have hl : (ints nd.ids).length = nd.ids.length := by simp [ints]
  have := h.ids
  rw [← hl] at this
  exact To.OwnV.rd (e := 3) (B := 0) this
theorem rd_open {w : World} {N : Nat} {T : Tr} (h : TrW w N T) (p : List Wd) : To.RdV w (match T (p ++ [[35]]) with | some c => c.v | none => .slice none 0 0) (ints (opens T p)) := by
  unfold opens
  cases e : T (p ++ [[35]]) with
  | none => rw [ids_none e]; exact .inl ⟨rfl, rfl⟩
  | some c => rw [ids_some e]; exact rd_ids (h.at' _ c e)
theorem open_few {w : World} {N : Nat} {T : Tr} (h : TrW w N T) (p : List Wd) : (idsAt T p).length ≤ 64 := by
  cases e : T p with
  | none => rw [ids_none e]; simp
  | some c => rw [ids_some e]; exact (h.at' _ c e).few
end Go.Proofs.YtcicnbbnkeellaaGreatDoor
