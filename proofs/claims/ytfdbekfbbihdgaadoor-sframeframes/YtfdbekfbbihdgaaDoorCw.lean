
/- Bytes of one's own that may have come of a text: what may be appended to them. Conditions: those that each row states. -/
import Derived.Test.YtfdbekfbbihdgaaDoorSc
import Derived.Lib.FrozenHead2
namespace Go.Proofs.YtfdbekfbbihdgaaDoor
open Go.RowKit Go.Lib
set_option maxRecDepth 100000
set_option linter.unusedSimpArgs false

/-- Cells are stored ahead of what is frozen. -/
theorem store_ahead (g o : Nat) (t : TypeId) (fz : Nat × Nat) : ∀ (vs : List Value) (i : Nat) (cur : Array Value) (w : World), w.heap[g]? = some (.cells cur t fz) → (fz = (0, 0) ∨ o + i + vs.length ≤ fz.1) → o + i + vs.length ≤ cur.size → (∀ v ∈ vs, v.oneCell' = true) →
    (storeCells ⟨g, o, none⟩ vs i).run Tryd.prog w = .ok () (w.setRow g (cur.toList.take (o + i) ++ vs ++ cur.toList.drop (o + i + vs.length)).toArray)
  | [], i, cur, w, hg, _, _, _ => by
    simp only [storeCells, List.append_nil, List.length_nil, Nat.add_zero, List.take_append_drop, Array.toArray_toList]
    rw [setRow_self w g cur t fz hg]
    rfl
  | v :: rest, i, cur, w, hg, hfz, hl, h1 => by
    simp only [List.length_cons] at hl hfz
    have hi : o + i < cur.size := by omega
    have hcell : w.cell? ⟨g, o + i, none⟩ = some cur[o + i] := by simp [World.cell?, hg, hi]
    have hfro : w.frozen? ⟨g, o + i, none⟩ = false := by
      obtain ⟨lo, up⟩ := fz
      simp only [World.frozen?, hg, Bool.and_eq_false_iff, decide_eq_false_iff_not]
      rcases hfz with h | h
      · cases h; right; omega
      · left; simp only at h; omega
    have hst : (store ((⟨g, o, none⟩ : Addr).add i) v).run Tryd.prog w = .ok () (w.setRow g (cur.setIfInBounds (o + i) v)) := by
      rw [Addr.add_lit, run_store Tryd.prog w _ v _ (h1 v (by simp)), hcell]
      simp [hfro, setCell_eq_setRow w g (o + i) cur t fz v hg]
    have ih := store_ahead g o t fz rest (i + 1) (cur.setIfInBounds (o + i) v) (w.setRow g (cur.setIfInBounds (o + i) v)) (setRow_heap w g cur _ t _ hg) (by rcases hfz with h | h; exact .inl h; exact .inr (by omega)) (by simp; omega) (fun x hx => h1 x (by simp [hx]))
    simp only [storeCells, Sem.run_bind, hst, Result.andThen_ok, ih, setRow_setRow]
    congr 3
    have e := list_seg_step cur.toList (o + i) v rest (by simp; omega)
    simpa [Array.toList_setIfInBounds, Nat.add_assoc] using e
/-- Bytes of one's own, from block B on. -/
def OwnW (w : World) (B : Nat) (v : Value) (l : Bs) : Prop :=
  (v = .slice none 0 0 ∧ l = []) ∨ ∃ (g cap : Nat) (cur : Array Value) (fz : Nat × Nat), v = .slice (some ⟨g, 0, none⟩) l.length cap ∧ B ≤ g ∧ w.heap[g]? = some (.cells cur 5 fz) ∧ (fz = (0, 0) ∨ cap ≤ fz.1) ∧ l.length ≤ cap ∧ cap ≤ maxLen ∧ cur.size = cap ∧ cur.toList.take l.length = byteCells l
theorem OwnW.rd {w : World} {B : Nat} {v : Value} {l : Bs} (h : OwnW w B v l) : RdB w v l := by
  rcases h with h | ⟨g, cap, cur, fz, rfl, _, hg, _, hc, _, hs, ht⟩
  · exact .inl h
  · refine .inr ⟨g, 0, cap, rfl, hc, fun i hi => ?_⟩
    have e : (cur.toList.take l.length)[i]? = (byteCells l)[i]? := by rw [ht]
    rw [List.getElem?_take_of_lt hi] at e
    simp only [byteCells, List.getElem?_map, List.getElem?_eq_getElem hi, Option.map_some] at e
    simp only [World.cell?, hg, Nat.zero_add]
    simp only [Array.getElem?_toList] at e
    simp [e, List.getElem?_eq_getElem hi]
theorem OwnW.on {w w' : World} {B : Nat} {v : Value} {l : Bs} (h : OwnW w B v l) (hb : Below w.heap.size w w') : OwnW w' B v l := by
  rcases h with h | ⟨g, cap, cur, fz, e, hB, hg, h⟩
  · exact .inl h
  · exact .inr ⟨g, cap, cur, fz, e, hB, by rw [hb.block g (Array.getElem?_eq_some_iff.1 hg).1]; exact hg, h⟩
theorem OwnW.low {w : World} {B B' : Nat} {v : Value} {l : Bs} (h : OwnW w B v l) (hB : B' ≤ B) : OwnW w B' v l := by
  rcases h with h | ⟨g, cap, cur, fz, e, hb, hg, h⟩
  · exact .inl h
  · exact .inr ⟨g, cap, cur, fz, e, by omega, hg, h⟩
theorem OwnW.shape {w : World} {B : Nat} {v : Value} {l : Bs} (h : OwnW w B v l) : ∃ a c, v = .slice a l.length c := by
  rcases h with ⟨rfl, rfl⟩ | ⟨g, cap, cur, fz, rfl, _⟩
  · exact ⟨_, _, rfl⟩
  · exact ⟨_, _, rfl⟩
/-- Nothing has changed but one's own bytes, and what is new. -/
structure GW (w w' : World) (v v' : Value) : Prop where
  g : w.grownBy w' v.ownBlock
  o : ∀ k, v'.ownBlock = some k → v.ownBlock = some k ∨ w.heap.size ≤ k
theorem GW.refl (w : World) (v : Value) : GW w w v v := ⟨⟨rfl, rfl, rfl, Nat.le_refl _, fun _ _ _ => rfl⟩, fun _ h => .inl h⟩
theorem GW.on {w w1 w2 : World} {v v1 : Value} (h : GW w w1 v v1) (hb : Below w1.heap.size w1 w2) : GW w w2 v v1 :=
  ⟨⟨hb.os.trans h.g.os, hb.tape.trans h.g.tape, hb.output.trans h.g.output, Nat.le_trans h.g.size hb.size, fun k hk hne => (hb.block k (Nat.lt_of_lt_of_le hk h.g.size)).trans (h.g.block k hk hne)⟩, h.o⟩
theorem GW.trans {w w1 w2 : World} {v v1 v2 : Value} (h1 : GW w w1 v v1) (h2 : GW w1 w2 v1 v2) : GW w w2 v v2 := by
  have hs := h1.g.size
  refine ⟨⟨h2.g.os.trans h1.g.os, h2.g.tape.trans h1.g.tape, h2.g.output.trans h1.g.output, Nat.le_trans hs h2.g.size, fun k hk hne => ?_⟩, fun k hk => ?_⟩
  · refine (h2.g.block k (by omega) (fun e => ?_)).trans (h1.g.block k hk hne)
    rcases h1.o k e.symm with h | h
    · exact hne h.symm
    · omega
  · rcases h2.o k hk with h | h
    · exact h1.o k h
    · exact .inr (by omega)
theorem GW.pre {w0 w w' : World} {v v' : Value} (hb : Below w0.heap.size w0 w) (h : GW w w' v v') : GW w0 w' v v' := (GW.on (GW.refl w0 v) hb).trans h
theorem GW.below {w w' : World} {v v' : Value} {B : Nat} {l : Bs} (h : GW w w' v v') (ho : OwnW w B v l) (hB : B ≤ w.heap.size) : Below B w w' :=
  (Below.refl B w).grown h.g hB (fun k hk => by
    rcases ho with ⟨rfl, _⟩ | ⟨g, cap, cur, fz, rfl, hb, _⟩
    · cases hk
    · cases hk; exact hb)
theorem GW.cell {w w' : World} {v v' : Value} (h : GW w w' v v') {b o : Nat} (hb : b < w.heap.size) (hne : v.ownBlock ≠ some b) : w'.cell? ⟨b, o, none⟩ = w.cell? ⟨b, o, none⟩ := by
  simp only [World.cell?]
  rw [h.g.block b hb (Ne.symm hne)]
theorem GW.blk {w w' : World} {v v' : Value} (h : GW w w' v v') {b : Nat} {cs : Array Value} {t : TypeId} (hk : Blk w b cs t) (hne : v.ownBlock ≠ some b) : Blk w' b cs t := ⟨(h.g.block b hk.lt (Ne.symm hne)).trans hk.h⟩
/-- What a text becomes. -/
theorem conv_own (w : World) (l : Bs) (hl : l.length ≤ 1000000000) : ∃ v W, (convert 9 27 (str l)).run Tryd.prog w = .ok v W ∧ OwnW W w.heap.size v l ∧ Below w.heap.size w W := by
  have h := run_bytes_of_string (P := Tryd.prog) w 9 27 5 ⟨l.toArray⟩ Tryd.underlying9 Tryd.underlying27 Tryd.underlying5
  refine ⟨_, _, h, .inr ⟨w.heap.size, _, _, _, rfl, Nat.le_refl _, heap_alloc_new w.drew _, ?_⟩, (Below.refl _ _).drew.alloc (Nat.le_refl _) _⟩
  have hs : (⟨l.toArray⟩ : ByteArray).size = l.length := rfl
  have hge := grownCap_ge w l.length 0 5
  have hle : grownCap w l.length 0 5 ≤ maxLen := grownCap_le_maxLen w l.length 0 5 (by unfold maxLen; omega)
  rw [hs]
  generalize grownCap w l.length 0 5 = c at *
  have hsz : (bytesRow ⟨l.toArray⟩ c).size = c := by
    unfold bytesRow
    simp [hs]
    omega
  refine ⟨.inr (by rw [hsz]; exact Nat.le_refl _), hge, hle, hsz, ?_⟩
  unfold bytesRow
  simp only [Array.toList_append, Array.toList_map]
  rw [List.take_left' (by simp)]
  rfl
/-- What is done at an append. -/
theorem appW {o : Oper} {a : Act} {K : Act → World → Prop} {Q : Exit → Act → World → Prop} (s x : Operand)
    (ho : o.op = .call { callee := .builtin .append, args := #[s, x], argTypes := #[27, 27] }) (B : Nat) (v : Value) (l m : Bs) (w : World) (ad : Addr) (c : Nat)
    (hs : a.eval s = v) (hown : OwnW w B v l) (hx : a.eval x = .slice (some ad) m.length c) (hc : ∀ j u, (byteCells m)[j]? = some u → w.cell? (ad.add j) = some u) (hn : l.length + m.length ≤ 1000000000) (hB : B ≤ w.heap.size)
    (h : ∀ v' w', OwnW w' B v' (l ++ m) → GW w w' v v' → K (a.put o.dst v') w') : o.wp Tryd.prog a w K Q := by
  obtain ⟨i0, hi, hz0, hz1, hz2⟩ := info_parts info5
  have hone : ∀ u ∈ byteCells m, u.oneCell' = true := fun u hu => by
    obtain ⟨x, _, rfl⟩ := List.mem_map.1 hu
    rfl
  have fin : ∀ v' w', (Builtin.append_ #[27, 27] o.type #[v, .slice (some ad) m.length c]).run Tryd.prog w = .ok v' w' → OwnW w' B v' (l ++ m) → GW w w' v v' → o.wp Tryd.prog a w K Q := fun v' w' hr h1 h2 => by
    unfold Oper.wp execOp
    simp only [ho, resolve, invoke, builtin, Sem.run_bind, Sem.run_pure, Result.andThen_ok, List.map_toArray, List.map_cons, List.map_nil, hs, hx, hr]
    exact h v' w' h1 h2
  rcases hown with ⟨rfl, rfl⟩ | ⟨g, cap, cur, fz, rfl, hBg, hg, hfz, hlc, hcm, hcs, ht⟩
  · obtain ⟨v', w', r1, r2, r3, _⟩ := run_append_own (P := Tryd.prog) w w.heap.size 27 o.type 5 i0 (.int .u8 0) 1 1 Tryd.underlying27 hi hz0 hz1 hz2 rfl (by decide) (.slice none 0 0) 0 [] ⟨rfl, .inl ⟨rfl, rfl⟩⟩ ad m.length c (byteCells m) (by rw [byteCells_length, Nat.mul_one]) hc hone (by unfold maxLen; omega) (by omega) (Nat.le_refl _)
    refine fin v' w' r1 ?_ ⟨r3, fun k hk => .inr (World.ownsRow.lt r2 k hk).1⟩
    obtain ⟨e, r2⟩ := r2
    rcases r2 with ⟨rfl, h0⟩ | ⟨g, cap, cur, rfl, hb, hg, hc, hm, hs, ht⟩
    · have : m = [] := List.length_eq_zero_iff.1 (by omega)
      exact .inl ⟨rfl, by simp [this]⟩
    · exact .inr ⟨g, cap, cur, (0, 0), by simp, by omega, hg, .inl rfl, by simp; omega, hm, by omega, by simpa using ht⟩
  · by_cases hroom : l.length + m.length ≤ cap
    · have hf := run_firstCells_some (P := Tryd.prog) w i0.size m.length ad m.length c (byteCells m) (by rw [byteCells_length, hz1, Nat.mul_one]) hc
      rw [hz1] at hf
      have hst := store_ahead g l.length 5 fz (byteCells m) 0 cur w hg (by rw [byteCells_length]; rcases hfz with h | h; exact .inl h; exact .inr (by omega)) (by rw [byteCells_length]; omega) hone
      simp only [Nat.add_zero, byteCells_length] at hst
      have hr : (Builtin.append_ #[27, 27] o.type #[.slice (some ⟨g, 0, none⟩) l.length cap, .slice (some ad) m.length c]).run Tryd.prog w =
          .ok (.slice (some ⟨g, 0, none⟩) (l.length + m.length) cap) (w.setRow g (cur.toList.take l.length ++ byteCells m ++ cur.toList.drop (l.length + m.length)).toArray) := by
        simp [Builtin.append_, run_underlying Tryd.underlying27, sizeOf, typeInfo, hi, hz1, Builtin.lenOf, hroom, hf, Addr.add_lit, hst]
      refine fin _ _ hr (.inr ⟨g, cap, _, fz, by rw [List.length_append], hBg, setRow_heap w g cur _ 5 _ hg, hfz, by rw [List.length_append]; exact hroom, hcm, ?_, ?_⟩) ⟨grown_setRow w g _, fun k hk => .inl hk⟩
      · simp only [List.size_toArray, List.length_append, List.length_take, List.length_drop, Array.length_toList, byteCells_length]
        omega
      · rw [ht, ← byteCells_append]
        have : (byteCells (l ++ m)).length = (l ++ m).length := byteCells_length _
        rw [← this]
        exact List.take_left
    · have holds : ∀ j u, (byteCells l)[j]? = some u → w.cell? ((⟨g, 0, none⟩ : Addr).add j) = some u := fun j u hu => by
        have hj : j < l.length := by
          have := (List.getElem?_eq_some_iff.1 hu).1
          rwa [byteCells_length] at this
        rw [← ht, List.getElem?_take_of_lt hj] at hu
        rw [Addr.add_lit]
        simp only [World.cell?, hg, Nat.zero_add]
        simpa using hu
      have hr := run_append_grow (P := Tryd.prog) w 27 o.type 5 i0 (.int .u8 0) Tryd.underlying27 hi hz0 ⟨g, 0, none⟩ l.length cap (byteCells l) (by rw [byteCells_length, hz1, Nat.mul_one]) holds ad m.length c (byteCells m) (by rw [byteCells_length, hz1, Nat.mul_one]) hc (by omega) (by omega) (growslice_fits (by omega) (by rw [hz2]; omega))
      have hge := grownCap_ge w (l.length + m.length) cap 5
      have hcm2 : grownCap w (l.length + m.length) cap 5 ≤ maxLen := grownCap_le_maxLen w (l.length + m.length) cap 5 (by unfold maxLen; omega)
      refine fin _ _ hr (.inr ⟨w.heap.size, _, _, (0, 0), by rw [List.length_append], hB, heap_alloc_new w.drew _, .inl rfl, by rw [List.length_append]; exact hge, hcm2, ?_, ?_⟩) ⟨⟨rfl, rfl, rfl, by simp, fun k hk _ => Below.heap_alloc w.drew _ k hk⟩, fun k hk => .inr (Nat.le_of_eq (Option.some.inj hk))⟩
      · have hz1' : (Value.int IntKind.u8 0).cells.size = 1 := rfl
        simp only [Array.size_append, List.size_toArray, size_zeroCells, hz1', byteCells_length, hz1]
        omega
      · simp only [Array.toList_append, List.append_assoc]
        rw [← List.append_assoc, ← byteCells_append]
        have : (byteCells (l ++ m)).length = (l ++ m).length := byteCells_length _
        rw [← this]
        exact List.take_left
/-- One byte. -/
theorem appW1 {o : Oper} {a : Act} {K : Act → World → Prop} {Q : Exit → Act → World → Prop} (s x : Operand)
    (ho : o.op = .call { callee := .builtin .append, args := #[s, x], argTypes := #[27, 27] }) (B : Nat) (v : Value) (l : Bs) (y : UInt8) (w : World) (cv : Int) (hcv : cv = (y.toNat : Int))
    (hs : a.eval s = v) (hown : OwnW w B v l) (hx : a.eval x = .slice (some ⟨w.heap.size, 0, none⟩) 1 1) (hn : l.length + 1 ≤ 1000000000) (hB : B ≤ w.heap.size)
    (h : ∀ v' w', OwnW w' B v' (l ++ [y]) → GW w w' v v' → K (a.put o.dst v') w') : o.wp Tryd.prog a (w.alloc (.cells #[.int .u8 cv] 5)) K Q := by
  subst hcv
  have hb := below_new w (.cells #[.int .u8 (y.toNat : Int)] 5)
  refine appW s x ho B v l [y] _ ⟨w.heap.size, 0, none⟩ 1 hs (hown.on hb) hx ?_ hn (by simp; omega) (fun v' w' h1 h2 => h v' w' h1 (GW.pre hb h2))
  intro j u hj
  match j, hj with
  | 0, hj => simp [byteCells] at hj; subst hj; rw [Addr.add_lit]; exact World.cell?_alloc_new ..
/-- Two bytes. -/
theorem appW2 {o : Oper} {a : Act} {K : Act → World → Prop} {Q : Exit → Act → World → Prop} (s x : Operand)
    (ho : o.op = .call { callee := .builtin .append, args := #[s, x], argTypes := #[27, 27] }) (B : Nat) (v : Value) (l : Bs) (y z : UInt8) (w : World) (cv dv : Int) (hcv : cv = (y.toNat : Int)) (hdv : dv = (z.toNat : Int))
    (hs : a.eval s = v) (hown : OwnW w B v l) (hx : a.eval x = .slice (some ⟨w.heap.size, 0, none⟩) 2 2) (hn : l.length + 2 ≤ 1000000000) (hB : B ≤ w.heap.size)
    (h : ∀ v' w', OwnW w' B v' (l ++ [y, z]) → GW w w' v v' → K (a.put o.dst v') w') : o.wp Tryd.prog a (w.alloc (.cells #[.int .u8 cv, .int .u8 dv] 5)) K Q := by
  subst hcv hdv
  have hb := below_new w (.cells #[.int .u8 (y.toNat : Int), .int .u8 (z.toNat : Int)] 5)
  refine appW s x ho B v l [y, z] _ ⟨w.heap.size, 0, none⟩ 2 hs (hown.on hb) hx ?_ hn (by simp; omega) (fun v' w' h1 h2 => h v' w' h1 (GW.pre hb h2))
  intro j u hj
  match j, hj with
  | 0, hj => simp [byteCells] at hj; subst hj; rw [Addr.add_lit]; exact World.cell?_alloc_new ..
  | 1, hj => simp [byteCells] at hj; subst hj; rw [Addr.add_lit]; exact World.cell?_alloc_new ..
/-- A text's bytes. -/
theorem appWS {o : Oper} {a : Act} {K : Act → World → Prop} {Q : Exit → Act → World → Prop} (s x : Operand)
    (ho : o.op = .call { callee := .builtin .append, args := #[s, x], argTypes := #[27, 9] }) (B : Nat) (v : Value) (l m : Bs) (w : World)
    (hs : a.eval s = v) (hown : OwnW w B v l) (hx : a.eval x = str m) (hn : l.length + m.length ≤ 1000000000) (hB : B ≤ w.heap.size)
    (h : ∀ v' w', OwnW w' B v' (l ++ m) → GW w w' v v' → K (a.put o.dst v') w') : o.wp Tryd.prog a w K Q := by
  obtain ⟨i0, hi, hz0, hz1, hz2⟩ := info_parts info5
  have hms : (⟨m.toArray⟩ : ByteArray).size = m.length := rfl
  have hsc : strCells (⟨m.toArray⟩ : ByteArray) = byteCells m := by rw [strCells_eq]
  have hone : ∀ u ∈ byteCells m, u.oneCell' = true := fun u hu => by
    obtain ⟨x, _, rfl⟩ := List.mem_map.1 hu
    rfl
  have fin : ∀ v' w', (Builtin.append_ #[27, 9] o.type #[v, str m]).run Tryd.prog w = .ok v' w' → OwnW w' B v' (l ++ m) → GW w w' v v' → o.wp Tryd.prog a w K Q := fun v' w' hr h1 h2 => by
    unfold Oper.wp execOp
    simp only [ho, resolve, invoke, builtin, Sem.run_bind, Sem.run_pure, Result.andThen_ok, List.map_toArray, List.map_cons, List.map_nil, hs, hx, hr]
    exact h v' w' h1 h2
  rcases hown with ⟨rfl, rfl⟩ | ⟨g, cap, cur, fz, rfl, hBg, hg, hfz, hlc, hcm, hcs, ht⟩
  · obtain ⟨v', w', r1, r2, r3, _⟩ := run_append_own_string (P := Tryd.prog) w w.heap.size 27 9 o.type 5 i0 Tryd.underlying27 Tryd.underlying9 hi hz0 hz1 hz2 (.slice none 0 0) 0 [] ⟨rfl, .inl ⟨rfl, rfl⟩⟩ ⟨m.toArray⟩ (by rw [hms]; unfold maxLen; omega) (by rw [hms]; omega) (Nat.le_refl _)
    refine fin v' w' r1 ?_ ⟨r3, fun k hk => .inr (World.ownsRow.lt r2 k hk).1⟩
    obtain ⟨e, r2⟩ := r2
    rw [hms, hsc] at r2
    rcases r2 with ⟨rfl, h0⟩ | ⟨g, cap, cur, rfl, hb, hg, hc, hm, hs, ht⟩
    · have : m = [] := List.length_eq_zero_iff.1 (by omega)
      exact .inl ⟨rfl, by simp [this]⟩
    · exact .inr ⟨g, cap, cur, (0, 0), by simp, by omega, hg, .inl rfl, by simp; omega, hm, by omega, by simpa using ht⟩
  · by_cases hroom : l.length + m.length ≤ cap
    · have hf := run_firstCells_string (P := Tryd.prog) w 1 ⟨m.toArray⟩
      have hst := store_ahead g l.length 5 fz (byteCells m) 0 cur w hg (by rw [byteCells_length]; rcases hfz with h | h; exact .inl h; exact .inr (by omega)) (by rw [byteCells_length]; omega) hone
      simp only [Nat.add_zero, byteCells_length] at hst
      rw [hsc, hms] at hf
      have hr : (Builtin.append_ #[27, 9] o.type #[.slice (some ⟨g, 0, none⟩) l.length cap, str m]).run Tryd.prog w =
          .ok (.slice (some ⟨g, 0, none⟩) (l.length + m.length) cap) (w.setRow g (cur.toList.take l.length ++ byteCells m ++ cur.toList.drop (l.length + m.length)).toArray) := by
        simp [Builtin.append_, run_underlying Tryd.underlying27, run_underlying Tryd.underlying9, sizeOf, typeInfo, hi, hz1, Builtin.lenOf, hms, hroom, hf, Addr.add_lit, hst]
      refine fin _ _ hr (.inr ⟨g, cap, _, fz, by rw [List.length_append], hBg, setRow_heap w g cur _ 5 _ hg, hfz, by rw [List.length_append]; exact hroom, hcm, ?_, ?_⟩) ⟨grown_setRow w g _, fun k hk => .inl hk⟩
      · simp only [List.size_toArray, List.length_append, List.length_take, List.length_drop, Array.length_toList, byteCells_length]
        omega
      · rw [ht, ← byteCells_append]
        have : (byteCells (l ++ m)).length = (l ++ m).length := byteCells_length _
        rw [← this]
        exact List.take_left
    · have holds : ∀ j u, (byteCells l)[j]? = some u → w.cell? ((⟨g, 0, none⟩ : Addr).add j) = some u := fun j u hu => by
        have hj : j < l.length := by
          have := (List.getElem?_eq_some_iff.1 hu).1
          rwa [byteCells_length] at this
        rw [← ht, List.getElem?_take_of_lt hj] at hu
        rw [Addr.add_lit]
        simp only [World.cell?, hg, Nat.zero_add]
        simpa using hu
      have hr := run_append_grow_string (P := Tryd.prog) w 27 9 o.type 5 i0 (.int .u8 0) Tryd.underlying27 Tryd.underlying9 hi hz0 ⟨g, 0, none⟩ l.length cap (byteCells l) (by rw [byteCells_length, hz1, Nat.mul_one]) holds ⟨m.toArray⟩ (by rw [hms]; omega) (by rw [hms]; omega) (by rw [hz2, hms]; exact growslice_fits (by omega) (by omega))
      have hge := grownCap_ge w (l.length + m.length) cap 5
      have hcm2 : grownCap w (l.length + m.length) cap 5 ≤ maxLen := grownCap_le_maxLen w (l.length + m.length) cap 5 (by unfold maxLen; omega)
      rw [hms, hsc] at hr
      refine fin _ _ hr (.inr ⟨w.heap.size, _, _, (0, 0), by rw [List.length_append], hB, heap_alloc_new w.drew _, .inl rfl, by rw [List.length_append]; exact hge, hcm2, ?_, ?_⟩) ⟨⟨rfl, rfl, rfl, by simp, fun k hk _ => Below.heap_alloc w.drew _ k hk⟩, fun k hk => .inr (Nat.le_of_eq (Option.some.inj hk))⟩
      · have hz1' : (Value.int IntKind.u8 0).cells.size = 1 := rfl
        simp only [Array.size_append, List.size_toArray, size_zeroCells, hz1', byteCells_length, hz1]
        omega
      · simp only [Array.toList_append, List.append_assoc]
        rw [← List.append_assoc, ← byteCells_append]
        have : (byteCells (l ++ m)).length = (l ++ m).length := byteCells_length _
        rw [← this]
        exact List.take_left
end Go.Proofs.YtfdbekfbbihdgaaDoor
