/- What the document's Set answers. -/
import Derived.Test.YtlhfdklfkfodkaaDoorRe
namespace Go.Proofs.YtlhfdklfkfodkaaDoor
open Go.RowKit Go.Lib Ieee

/-- What the document's Set answers where the list and the property can be. -/
def RsetP (w' : World) (B : Nat) (x : List Pr) (e : Ending) : Prop :=
  if x.length > 16 then e = .returned (.tuple #[.slice none 0 0, .int .i64 34]) else ∃ v', e = .returned (.tuple #[v', .int .i64 0]) ∧ OwnP w' B v' x

theorem appP2 {o : Oper} {a : Act} {K : Act → World → Prop} {Q : Exit → Act → World → Prop} (s x : Operand)
    (ho : o.op = .call { callee := .builtin .append, args := #[s, x], argTypes := #[30, 30] }) (B : Nat) (v : Value) (l l2 : List Pr) (b off c : Nat) (w : World)
    (hs : a.eval s = v) (hown : OwnP w B v l) (hx : a.eval x = .slice (some ⟨b, off, none⟩) l2.length c) (hsrc : ∀ i (h : i < l2.length), PrAt w b (off + i * 5) l2[i]) (hn : l.length + l2.length ≤ 100000) (hB : B ≤ w.heap.size)
    (h : ∀ v' w', OwnP w' B v' (l ++ l2) → Below B w w' → (∀ k, k < w.heap.size → v.ownBlock ≠ some k → w'.heap[k]? = w.heap[k]?) → K (a.put o.dst v') w') : o.wp Tryd.prog a w K Q := by
  obtain ⟨i0, hi, hz0, hz1, hz2⟩ := info_parts info33
  refine wp_append_own _ s x 30 ho B 33 i0 (.agg #[.string ⟨#[]⟩, .int .i64 0, .int .i64 0, .string ⟨#[]⟩, .float .f64 0]) 5 56 Tryd.underlying30 hi hz0 hz1 hz2 rfl (by decide) v l.length (cellsP l) hs hown ⟨b, off, none⟩ l2.length c (cellsP l2) hx (cellsP_len l2) ?_ (cellsP_one l2) (by unfold maxLen; omega) (by omega) hB ?_
  · intro j u hj
    rw [Addr.add_lit]
    exact prAt_cells hsrc j u hj
  · intro v' w' h1 h2 _
    refine h v' w' ?_ ?_ (fun k hk hne => h2.block k hk (Ne.symm hne))
    · unfold OwnP
      rw [List.length_append, cellsP_app]
      exact h1
    · exact (Below.refl B w).grown h2 hB (fun k hk => (World.ownsRow.lt hown k hk).1)
theorem OwnP.lt {w : World} {B : Nat} {v : Value} {l : List Pr} (h : OwnP w B v l) {k : Nat} (hk : w.heap.size ≤ k) : v.ownBlock ≠ some k := by
  intro e
  have := (World.ownsRow.lt h k e).2
  omega
theorem wpl_app1 {ops : Array Oper} {rest : List Oper} {o : Oper} {a : Act} {Q : Exit → Act → World → Prop} (hgd : o.guard = none) (s x : Operand)
    (ho : o.op = .call { callee := .builtin .append, args := #[s, x], argTypes := #[30, 30] }) (B : Nat) (v : Value) (l : List Pr) (p : Pr) (w : World)
    (hs : a.eval s = v) (hown : OwnP w B v l) (hx : a.eval x = .slice (some ⟨w.heap.size, 0, none⟩) 1 1) (hn : l.length ≤ 90000) (hB : B ≤ w.heap.size)
    (h : ∀ v' w', OwnP w' B v' (l ++ [p]) → Below B w w' → (∀ k, k < w.heap.size → v.ownBlock ≠ some k → w'.heap[k]? = w.heap[k]?) → wpList Tryd.prog ops Q rest (a.put o.dst v') w') : wpList Tryd.prog ops Q (o :: rest) a (w.alloc (.cells #[Value.string p.name, Value.int IntKind.i64 p.val.kind, Value.int IntKind.i64 p.val.num, Value.string p.val.text, Value.float FloatKind.f64 p.val.real] 33)) := by
  have hb : Below w.heap.size w (w.alloc (.cells #[Value.string p.name, Value.int IntKind.i64 p.val.kind, Value.int IntKind.i64 p.val.num, Value.string p.val.text, Value.float FloatKind.f64 p.val.real] 33)) := (Below.refl _ w).alloc (Nat.le_refl _) _
  refine wpList_plain hgd fun K hK => appP2 s x ho B v l [p] w.heap.size 0 1 _ hs (hown.up hb) hx ?_ (by simp; omega) (by simp; omega) fun v' w' h1 h2 h3 => hK _ _ (h v' w' h1 ((hb.mono hB).trans h2) fun k hk hne => ?_)
  · intro i hi
    have : i = 0 := by simpa using hi
    subst this
    exact ⟨World.cell?_alloc_new .., World.cell?_alloc_new .., World.cell?_alloc_new .., World.cell?_alloc_new .., World.cell?_alloc_new ..⟩
  · rw [h3 k (by simp; omega) hne, heap_alloc_old w _ hk]

set_option maxRecDepth 4000 in
theorem rset7_bad (w : World) (v : Value) (l : List Pr) (p : Pr) (h : RdP w v l) (hin : ∀ q ∈ l, Fits q) (hp : Fits p) (h63 : l.length ≤ 9223372036854775806) (hv : (validL l && canB p) = false) :
    Calls Tryd.prog 15 #[v, p.v] w fun e w' => e = .returned (.tuple #[.slice none 0 0, .int .i64 36]) ∧ Below w.heap.size w w' := by
  have bA : Below w.heap.size w (w.alloc (Obj.cells #[Value.string p.name, Value.int IntKind.i64 p.val.kind, Value.int IntKind.i64 p.val.num, Value.string p.val.text, Value.float FloatKind.f64 p.val.real] 33)) := (Below.refl _ w).alloc (Nat.le_refl _) _
  have HV := rvalid7 (w.alloc (Obj.cells #[Value.string p.name, Value.int IntKind.i64 p.val.kind, Value.int IntKind.i64 p.val.num, Value.string p.val.text, Value.float FloatKind.f64 p.val.real] 33)) v l (h.on bA) hin h63
  have hsA : (w.alloc (Obj.cells #[Value.string p.name, Value.int IntKind.i64 p.val.kind, Value.int IntKind.i64 p.val.num, Value.string p.val.text, Value.float FloatKind.f64 p.val.real] 33)).heap.size = w.heap.size + 1 := by simp
  have c0 : (w.alloc (Obj.cells #[Value.string p.name, Value.int IntKind.i64 p.val.kind, Value.int IntKind.i64 p.val.num, Value.string p.val.text, Value.float FloatKind.f64 p.val.real] 33)).cell? ⟨w.heap.size, 0, none⟩ = some (.string p.name) := World.cell?_alloc_new ..
  have c1 : (w.alloc (Obj.cells #[Value.string p.name, Value.int IntKind.i64 p.val.kind, Value.int IntKind.i64 p.val.num, Value.string p.val.text, Value.float FloatKind.f64 p.val.real] 33)).cell? ⟨w.heap.size, 1, none⟩ = some (.int .i64 p.val.kind) := World.cell?_alloc_new ..
  have c2 : (w.alloc (Obj.cells #[Value.string p.name, Value.int IntKind.i64 p.val.kind, Value.int IntKind.i64 p.val.num, Value.string p.val.text, Value.float FloatKind.f64 p.val.real] 33)).cell? ⟨w.heap.size, 2, none⟩ = some (.int .i64 p.val.num) := World.cell?_alloc_new ..
  have c3 : (w.alloc (Obj.cells #[Value.string p.name, Value.int IntKind.i64 p.val.kind, Value.int IntKind.i64 p.val.num, Value.string p.val.text, Value.float FloatKind.f64 p.val.real] 33)).cell? ⟨w.heap.size, 3, none⟩ = some (.string p.val.text) := World.cell?_alloc_new ..
  have c4 : (w.alloc (Obj.cells #[Value.string p.name, Value.int IntKind.i64 p.val.kind, Value.int IntKind.i64 p.val.num, Value.string p.val.text, Value.float FloatKind.f64 p.val.real] 33)).cell? ⟨w.heap.size, 4, none⟩ = some (.float .f64 p.val.real) := World.cell?_alloc_new ..
  have HN := fun W : World => rname7 W p.name hp.1
  have HG := fun W : World => rgood7 W p.val hp.2
  unfold Val.v at HG
  unfold Pr.v
  cases e : validL l with
  | false =>
    rw [e] at HV
    go_enter Tryd.func15, Tryd.ntmps15
    go_upto_region 1 with fail
    generalize (w.alloc (Obj.cells #[Value.string p.name, Value.int IntKind.i64 p.val.kind, Value.int IntKind.i64 p.val.num, Value.string p.val.text, Value.float FloatKind.f64 p.val.real] 33)) = wA at *
    go_wp2_with fail
    refine HV.mono ?_
    rintro e w2 ⟨rfl, hb2⟩
    go_wp2
    go_ret2
    exact ⟨rfl, bA.trans (hb2.mono (by omega))⟩
  | true =>
    rw [e, Bool.true_and] at hv
    rw [e] at HV
    cases en : nameL p.name.toList with
    | false =>
      simp only [en] at HN
      go_enter Tryd.func15, Tryd.ntmps15
      go_upto_region 1 with fail
      generalize (w.alloc (Obj.cells #[Value.string p.name, Value.int IntKind.i64 p.val.kind, Value.int IntKind.i64 p.val.num, Value.string p.val.text, Value.float FloatKind.f64 p.val.real] 33)) = wA at *
      go_wp2_with fail
      refine HV.mono ?_
      rintro e w2 ⟨rfl, hb2⟩
      have d0 : w2.cell? ⟨w.heap.size, 0, none⟩ = some (.string p.name) := box_on c0 hb2
      go_wp2_with fail
      refine (HN _).mono ?_
      rintro e w3 ⟨rfl, hw3⟩
      subst hw3
      go_wp2
      go_ret2
      exact ⟨rfl, bA.trans (hb2.mono (by omega))⟩
    | true =>
      have eg : goodV p.val = false := by unfold canB at hv; rw [en, Bool.true_and] at hv; exact hv
      simp only [en] at HN
      simp only [eg] at HG
      go_enter Tryd.func15, Tryd.ntmps15
      go_upto_region 1 with fail
      generalize (w.alloc (Obj.cells #[Value.string p.name, Value.int IntKind.i64 p.val.kind, Value.int IntKind.i64 p.val.num, Value.string p.val.text, Value.float FloatKind.f64 p.val.real] 33)) = wA at *
      go_wp2_with fail
      refine HV.mono ?_
      rintro e w2 ⟨rfl, hb2⟩
      have d0 : w2.cell? ⟨w.heap.size, 0, none⟩ = some (.string p.name) := box_on c0 hb2
      have d1 : w2.cell? ⟨w.heap.size, 1, none⟩ = some (.int .i64 p.val.kind) := box_on c1 hb2
      have d2 : w2.cell? ⟨w.heap.size, 2, none⟩ = some (.int .i64 p.val.num) := box_on c2 hb2
      have d3 : w2.cell? ⟨w.heap.size, 3, none⟩ = some (.string p.val.text) := box_on c3 hb2
      have d4 : w2.cell? ⟨w.heap.size, 4, none⟩ = some (.float .f64 p.val.real) := box_on c4 hb2
      have b2 := bA.trans (hb2.mono (by omega))
      clear c0 c1 c2 c3 c4
      go_wp2_with fail
      refine (HN _).mono ?_
      rintro e w3 ⟨rfl, hw3⟩
      subst hw3
      go_wp2_with fail
      refine (HG _).mono ?_
      rintro e w4 ⟨rfl, hb4⟩
      go_wp2
      go_ret2
      exact ⟨rfl, b2.trans (hb4.mono b2.size)⟩

set_option maxRecDepth 4000 in
set_option maxHeartbeats 4000000 in
theorem rset7_some (w : World) (l : List Pr) (p : Pr) (b o c kk : Nat) (hP : ∀ i (h : i < l.length), PrAt w b (o + i * 5) l[i]) (hcap : l.length ≤ c) (hin : ∀ q ∈ l, Fits q) (hp : Fits p) (hv : validL l = true) (hc : canB p = true) (hk : AtP l p.name kk) :
    Calls Tryd.prog 15 #[.slice (some ⟨b, o, none⟩) l.length c, p.v] w fun e w' => Below w.heap.size w w' ∧ RsetP w' w.heap.size (putL l p kk) e := by
  obtain ⟨h16, _, hri⟩ := valid_parts hv
  have h : RdP w (.slice (some ⟨b, o, none⟩) l.length c) l := .inr ⟨b, o, c, rfl, hcap, hP⟩
  have bA : Below w.heap.size w (w.alloc (Obj.cells #[Value.string p.name, Value.int IntKind.i64 p.val.kind, Value.int IntKind.i64 p.val.num, Value.string p.val.text, Value.float FloatKind.f64 p.val.real] 33)) := (Below.refl _ w).alloc (Nat.le_refl _) _
  have HV := rvalid7 (w.alloc (Obj.cells #[Value.string p.name, Value.int IntKind.i64 p.val.kind, Value.int IntKind.i64 p.val.num, Value.string p.val.text, Value.float FloatKind.f64 p.val.real] 33)) _ l (h.on bA) hin (by omega)
  have hsA : (w.alloc (Obj.cells #[Value.string p.name, Value.int IntKind.i64 p.val.kind, Value.int IntKind.i64 p.val.num, Value.string p.val.text, Value.float FloatKind.f64 p.val.real] 33)).heap.size = w.heap.size + 1 := by simp
  have c0 : (w.alloc (Obj.cells #[Value.string p.name, Value.int IntKind.i64 p.val.kind, Value.int IntKind.i64 p.val.num, Value.string p.val.text, Value.float FloatKind.f64 p.val.real] 33)).cell? ⟨w.heap.size, 0, none⟩ = some (.string p.name) := World.cell?_alloc_new ..
  have c1 : (w.alloc (Obj.cells #[Value.string p.name, Value.int IntKind.i64 p.val.kind, Value.int IntKind.i64 p.val.num, Value.string p.val.text, Value.float FloatKind.f64 p.val.real] 33)).cell? ⟨w.heap.size, 1, none⟩ = some (.int .i64 p.val.kind) := World.cell?_alloc_new ..
  have c2 : (w.alloc (Obj.cells #[Value.string p.name, Value.int IntKind.i64 p.val.kind, Value.int IntKind.i64 p.val.num, Value.string p.val.text, Value.float FloatKind.f64 p.val.real] 33)).cell? ⟨w.heap.size, 2, none⟩ = some (.int .i64 p.val.num) := World.cell?_alloc_new ..
  have c3 : (w.alloc (Obj.cells #[Value.string p.name, Value.int IntKind.i64 p.val.kind, Value.int IntKind.i64 p.val.num, Value.string p.val.text, Value.float FloatKind.f64 p.val.real] 33)).cell? ⟨w.heap.size, 3, none⟩ = some (.string p.val.text) := World.cell?_alloc_new ..
  have c4 : (w.alloc (Obj.cells #[Value.string p.name, Value.int IntKind.i64 p.val.kind, Value.int IntKind.i64 p.val.num, Value.string p.val.text, Value.float FloatKind.f64 p.val.real] 33)).cell? ⟨w.heap.size, 4, none⟩ = some (.float .f64 p.val.real) := World.cell?_alloc_new ..
  have HN := fun W : World => rname7 W p.name hp.1
  have HG := fun W : World => rgood7 W p.val hp.2
  unfold canB at hc
  rw [Bool.and_eq_true] at hc
  rw [hv] at HV
  simp only [hc.1] at HN
  simp only [hc.2] at HG
  have HP : Hid (∀ i (h : i < l.length), PrAt w b (o + i * 5) l[i]) := hP
  have E0 : Hid (outR l p kk 0 = []) := by show outR l p kk 0 = []; unfold outR; rw [if_pos (Nat.zero_le _)]; rfl
  have EL : Hid (∀ k (hl : k < l.length), k < kk → outR l p kk (k + 1) = outR l p kk k ++ [l[k]]) := fun k hl h => outR_low h hl
  have EA : Hid (∀ (hl : kk < l.length), isAt l p.name kk = true → outR l p kk (kk + 1) = outR l p kk kk ++ [p]) := fun hl h => outR_at hl h
  have EN : Hid (∀ (hl : kk < l.length), isAt l p.name kk = false → outR l p kk (kk + 1) = outR l p kk kk ++ [p] ++ [l[kk]]) := fun hl h => outR_new hl h
  have EH : Hid (∀ k (hl : k < l.length), kk < k → outR l p kk (k + 1) = outR l p kk k ++ [l[k]]) := fun k hl h => outR_high h hl
  have EE : Hid (putL l p kk = if l.length ≤ kk then outR l p kk l.length ++ [p] else outR l p kk l.length) := outR_end hk
  have EO : Hid (∀ k, k ≤ l.length → (outR l p kk k).length ≤ l.length + 1) := fun k hk => outR_len hk
  have SL : Hid (∀ k (hl : k < l.length), k < kk → (Op.bytesLess p.name.toList l[k].name.toList || p.name.toList == l[k].name.toList) = false ∧ (l[k].name.toList == p.name.toList) = false) := fun k hl h => side_low hk h hl
  have SH : Hid (∀ k (hl : k < l.length), kk ≤ k → (Op.bytesLess p.name.toList l[k].name.toList || p.name.toList == l[k].name.toList) = true) := fun k hl h => side_high hk h hl
  have SB : Hid (∀ k (hl : k < l.length), kk < k → (l[k].name.toList == p.name.toList) = false) := fun k hl h => side_beyond hri hk h hl
  have SA : Hid (∀ (hl : kk < l.length), (l[kk].name.toList == p.name.toList) = isAt l p.name kk) := fun hl => side_at hl
  have hkk := hk.1
  unfold Val.v at HG
  unfold Pr.v
  clear h hin hp hv hc hk hri hP
  go_enter Tryd.func15, Tryd.ntmps15
  go_upto_region 1 with fail
  generalize (w.alloc (Obj.cells #[Value.string p.name, Value.int IntKind.i64 p.val.kind, Value.int IntKind.i64 p.val.num, Value.string p.val.text, Value.float FloatKind.f64 p.val.real] 33)) = wA at *
  go_wp2_with fail
  refine HV.mono ?_
  rintro e w2 ⟨rfl, hb2⟩
  have d0 : w2.cell? ⟨w.heap.size, 0, none⟩ = some (.string p.name) := box_on c0 hb2
  have d1 : w2.cell? ⟨w.heap.size, 1, none⟩ = some (.int .i64 p.val.kind) := box_on c1 hb2
  have d2 : w2.cell? ⟨w.heap.size, 2, none⟩ = some (.int .i64 p.val.num) := box_on c2 hb2
  have d3 : w2.cell? ⟨w.heap.size, 3, none⟩ = some (.string p.val.text) := box_on c3 hb2
  have d4 : w2.cell? ⟨w.heap.size, 4, none⟩ = some (.float .f64 p.val.real) := box_on c4 hb2
  have b2 := bA.trans (hb2.mono (by omega))
  clear c0 c1 c2 c3 c4
  go_wp2_with fail
  refine (HN _).mono ?_
  rintro e w3 ⟨rfl, hw3⟩
  subst hw3
  go_wp2_with fail
  refine (HG _).mono ?_
  rintro e w4 ⟨rfl, hb4⟩
  have c0 : w4.cell? ⟨w.heap.size, 0, none⟩ = some (.string p.name) := box_on d0 hb4
  have c1 : w4.cell? ⟨w.heap.size, 1, none⟩ = some (.int .i64 p.val.kind) := box_on d1 hb4
  have c2 : w4.cell? ⟨w.heap.size, 2, none⟩ = some (.int .i64 p.val.num) := box_on d2 hb4
  have c3 : w4.cell? ⟨w.heap.size, 3, none⟩ = some (.string p.val.text) := box_on d3 hb4
  have c4 : w4.cell? ⟨w.heap.size, 4, none⟩ = some (.float .f64 p.val.real) := box_on d4 hb4
  have b4 := b2.trans (hb4.mono b2.size)
  have s4 := b4.size
  have l4 : w.heap.size < w4.heap.size := World.block_lt_of_cell? w4 _ c0
  clear d0 d1 d2 d3 d4 HV HN HG bA b2 hb2 hb4
  have ho4 : OwnP w4 (w.heap.size + 1) (.slice none 0 0) (outR l p kk 0) := by rw [E0.out]; exact World.ownsRow_nil _ _ _ _
  have BX : Hid (∀ W : World, Below (w.heap.size + 1) w4 W → W.cell? ⟨w.heap.size, 0, none⟩ = some (.string p.name) ∧ W.cell? ⟨w.heap.size, 1, none⟩ = some (.int .i64 p.val.kind) ∧ W.cell? ⟨w.heap.size, 2, none⟩ = some (.int .i64 p.val.num) ∧ W.cell? ⟨w.heap.size, 3, none⟩ = some (.string p.val.text) ∧ W.cell? ⟨w.heap.size, 4, none⟩ = some (.float .f64 p.val.real)) := fun W hW => ⟨by rw [hW.cell (by dsimp only; omega)]; exact c0, by rw [hW.cell (by dsimp only; omega)]; exact c1, by rw [hW.cell (by dsimp only; omega)]; exact c2, by rw [hW.cell (by dsimp only; omega)]; exact c3, by rw [hW.cell (by dsimp only; omega)]; exact c4⟩
  clear c0 c1 c2 c3 c4
  go_wp2_with fail
  go_loopw [6, 7, 27] (fun v la i wr => ∃ k : Nat, k ≤ l.length ∧ i = .int .i64 k ∧ la = .bool (decide (kk < k)) ∧ OwnP wr (w.heap.size + 1) v (outR l p kk k) ∧ Below (w.heap.size + 1) w4 wr) (fun _ _ i _ => l.length - (RowKit.intOf i).toNat)
  case atStart => exact ⟨0, by omega, rfl, by simp, ho4, Below.refl _ _⟩
  case round =>
    obtain ⟨k, hk, rfl, rfl, ho, hbr⟩ := hrel
    have hwr := hbr.size
    have bwr : Below w.heap.size w wr := b4.trans (hbr.mono (by omega))
    have hlen := EO.out k hk
    by_cases hlt : k < l.length
    · obtain ⟨e0, e1, e2, e3, e4⟩ := (HP.out k hlt).on bwr
      have eL := EL.out k hlt
      have eH := EH.out k hlt
      have sL := SL.out k hlt
      have sH := SH.out k hlt
      have sBd := SB.out k hlt
      obtain ⟨x, hx⟩ : ∃ x, x = l[k] := ⟨_, rfl⟩
      rw [← hx] at e0 e1 e2 e3 e4 eL eH sL sH sBd
      have HX : Hid (x = l[k]) := hx
      clear hx
      go_upto_region 8 with fail
      have nB := ho.lt (Nat.le_refl _)
      have bB : Below (w.heap.size + 1) w4 (wr.alloc (Obj.cells #[Value.string x.name, Value.int IntKind.i64 x.val.kind, Value.int IntKind.i64 x.val.num, Value.string x.val.text, Value.float FloatKind.f64 x.val.real] 33)) := hbr.alloc (by omega) _
      have oB : OwnP (wr.alloc (Obj.cells #[Value.string x.name, Value.int IntKind.i64 x.val.kind, Value.int IntKind.i64 x.val.num, Value.string x.val.text, Value.float FloatKind.f64 x.val.real] 33)) (w.heap.size + 1) _ (outR l p kk k) := ho.up ((Below.refl _ wr).alloc (Nat.le_refl _) _)
      have hsB : (wr.alloc (Obj.cells #[Value.string x.name, Value.int IntKind.i64 x.val.kind, Value.int IntKind.i64 x.val.num, Value.string x.val.text, Value.float FloatKind.f64 x.val.real] 33)).heap.size = wr.heap.size + 1 := by simp
      have g0 : (wr.alloc (Obj.cells #[Value.string x.name, Value.int IntKind.i64 x.val.kind, Value.int IntKind.i64 x.val.num, Value.string x.val.text, Value.float FloatKind.f64 x.val.real] 33)).cell? ⟨wr.heap.size, 0, none⟩ = some (.string x.name) := World.cell?_alloc_new ..
      have g1 : (wr.alloc (Obj.cells #[Value.string x.name, Value.int IntKind.i64 x.val.kind, Value.int IntKind.i64 x.val.num, Value.string x.val.text, Value.float FloatKind.f64 x.val.real] 33)).cell? ⟨wr.heap.size, 1, none⟩ = some (.int .i64 x.val.kind) := World.cell?_alloc_new ..
      have g2 : (wr.alloc (Obj.cells #[Value.string x.name, Value.int IntKind.i64 x.val.kind, Value.int IntKind.i64 x.val.num, Value.string x.val.text, Value.float FloatKind.f64 x.val.real] 33)).cell? ⟨wr.heap.size, 2, none⟩ = some (.int .i64 x.val.num) := World.cell?_alloc_new ..
      have g3 : (wr.alloc (Obj.cells #[Value.string x.name, Value.int IntKind.i64 x.val.kind, Value.int IntKind.i64 x.val.num, Value.string x.val.text, Value.float FloatKind.f64 x.val.real] 33)).cell? ⟨wr.heap.size, 3, none⟩ = some (.string x.val.text) := World.cell?_alloc_new ..
      have g4 : (wr.alloc (Obj.cells #[Value.string x.name, Value.int IntKind.i64 x.val.kind, Value.int IntKind.i64 x.val.num, Value.string x.val.text, Value.float FloatKind.f64 x.val.real] 33)).cell? ⟨wr.heap.size, 4, none⟩ = some (.float .f64 x.val.real) := World.cell?_alloc_new ..
      obtain ⟨c0, c1, c2, c3, c4⟩ := BX.out _ bB
      have sB : w.heap.size + 1 ≤ (wr.alloc (Obj.cells #[Value.string x.name, Value.int IntKind.i64 x.val.kind, Value.int IntKind.i64 x.val.num, Value.string x.val.text, Value.float FloatKind.f64 x.val.real] 33)).heap.size := by omega
      have lB : wr.heap.size < (wr.alloc (Obj.cells #[Value.string x.name, Value.int IntKind.i64 x.val.kind, Value.int IntKind.i64 x.val.num, Value.string x.val.text, Value.float FloatKind.f64 x.val.real] 33)).heap.size := by omega
      clear hsB
      generalize (wr.alloc (Obj.cells #[Value.string x.name, Value.int IntKind.i64 x.val.kind, Value.int IntKind.i64 x.val.num, Value.string x.val.text, Value.float FloatKind.f64 x.val.real] 33)) = wB at *
      clear e0 e1 e2 e3 e4 ho
      rcases Nat.lt_trichotomy k kk with hc | hc | hc
      · have s1 := sL hc
        have h1 := s1.1
        have h2 := s1.2
        have eq := eL hc
        have hd : decide (kk < k) = false := by simp; omega
        clear eL eH sL sH sBd s1
        go_wp2_with (at_builtin; refine wpl_app1 rfl (.tmp 49) (.tmp 51) rfl (w.heap.size + 1) _ (outR l p kk k) x wB rfl oB rfl (by omega) (by omega) ?_)
        intro v9 w9 ho9 b9' f9
        have b9 := bB.trans b9'
        first | rw [← eq] at ho9 | (rw [show outR l p k k ++ [p, x] = outR l p k (k + 1) by rw [eq]; simp] at ho9)
        go_wp2
        go_roundw
        case rel => exact ⟨k + 1, by omega, by go_num, by first | rfl | (simp; done) | (simp; omega), ho9, b9⟩
        case measure => simp [RowKit.intOf]; omega
      · subst hc
        have h1 := sH (Nat.le_refl _)
        have h2 := SA.out hlt
        rw [← HX.out] at h2
        have hd : decide (k < k) = false := by simp
        cases hat : isAt l p.name k with
        | true =>
          rw [hat] at h2
          have eq := EA.out hlt hat
          clear eL eH sL sH sBd
          go_wp2_with (at_builtin; refine wpl_app1 rfl (.tmp 40) (.tmp 42) rfl (w.heap.size + 1) _ (outR l p k k) p wB rfl oB rfl (by omega) (by omega) ?_)
          intro v9 w9 ho9 b9' f9
          have b9 := bB.trans b9'
          obtain ⟨d0, d1, d2, d3, d4⟩ := BX.out _ b9
          have f0 : w9.cell? ⟨wr.heap.size, 0, none⟩ = some (.string x.name) := by rw [World.cell?_of_block (w := wB) (f9 wr.heap.size lB nB)]; exact g0
          clear c0 c1 c2 c3 c4 g0 g1 g2 g3 g4
          first | rw [← eq] at ho9 | (rw [show outR l p k k ++ [p, x] = outR l p k (k + 1) by rw [eq]; simp] at ho9)
          go_wp2
          go_roundw
          case rel => exact ⟨k + 1, by omega, by go_num, by first | rfl | (simp; done) | (simp; omega), ho9, b9⟩
          case measure => simp [RowKit.intOf]; omega
        | false =>
          rw [hat] at h2
          have eq := EN.out hlt hat
          rw [← HX.out] at eq
          clear eL eH sL sH sBd
          go_wp2_with (at_builtin; refine wpl_app1 rfl (.tmp 40) (.tmp 42) rfl (w.heap.size + 1) _ (outR l p k k) p wB rfl oB rfl (by omega) (by omega) ?_)
          intro v8 w8 ho8 b8' f8
          have b8 := bB.trans b8'
          have hs8 := b8'.size
          obtain ⟨d0, d1, d2, d3, d4⟩ := BX.out _ b8
          have f0 : w8.cell? ⟨wr.heap.size, 0, none⟩ = some (.string x.name) := by rw [World.cell?_of_block (w := wB) (f8 wr.heap.size lB nB)]; exact g0
          have f1 : w8.cell? ⟨wr.heap.size, 1, none⟩ = some (.int .i64 x.val.kind) := by rw [World.cell?_of_block (w := wB) (f8 wr.heap.size lB nB)]; exact g1
          have f2 : w8.cell? ⟨wr.heap.size, 2, none⟩ = some (.int .i64 x.val.num) := by rw [World.cell?_of_block (w := wB) (f8 wr.heap.size lB nB)]; exact g2
          have f3 : w8.cell? ⟨wr.heap.size, 3, none⟩ = some (.string x.val.text) := by rw [World.cell?_of_block (w := wB) (f8 wr.heap.size lB nB)]; exact g3
          have f4 : w8.cell? ⟨wr.heap.size, 4, none⟩ = some (.float .f64 x.val.real) := by rw [World.cell?_of_block (w := wB) (f8 wr.heap.size lB nB)]; exact g4
          have hl8 : (outR l p k k ++ [p]).length ≤ 1000 := by rw [List.length_append]; simp; omega
          clear c0 c1 c2 c3 c4 g0 g1 g2 g3 g4
          go_wp2_with (at_builtin; refine wpl_app1 rfl (.tmp 49) (.tmp 51) rfl (w.heap.size + 1) _ (outR l p k k ++ [p]) x w8 rfl ho8 rfl (by omega) (by omega) ?_)
          intro v9 w9 ho9 b9' f9
          have b9 := b8.trans b9'
          first | rw [← eq] at ho9 | (rw [show outR l p k k ++ [p, x] = outR l p k (k + 1) by rw [eq]; simp] at ho9)
          go_wp2
          go_roundw
          case rel => exact ⟨k + 1, by omega, by go_num, by first | rfl | (simp; done) | (simp; omega), ho9, b9⟩
          case measure => simp [RowKit.intOf]; omega
      · have h1 := sH (by omega)
        have h2 := sBd hc
        have eq := eH hc
        have hd : decide (kk < k) = true := by simp; omega
        clear eL eH sL sH sBd
        go_wp2_with (at_builtin; refine wpl_app1 rfl (.tmp 49) (.tmp 51) rfl (w.heap.size + 1) _ (outR l p kk k) x wB rfl oB rfl (by omega) (by omega) ?_)
        intro v9 w9 ho9 b9' f9
        have b9 := bB.trans b9'
        first | rw [← eq] at ho9 | (rw [show outR l p k k ++ [p, x] = outR l p k (k + 1) by rw [eq]; simp] at ho9)
        go_wp2
        go_roundw
        case rel => exact ⟨k + 1, by omega, by go_num, by first | rfl | (simp; done) | (simp; omega), ho9, b9⟩
        case measure => simp [RowKit.intOf]; omega
    · have hkl : k = l.length := by omega
      subst hkl
      have eE := EE.out
      obtain ⟨c0, c1, c2, c3, c4⟩ := BX.out _ hbr
      by_cases hlk : l.length ≤ kk
      · rw [if_pos hlk] at eE
        have hd : decide (kk < l.length) = false := by simp; omega
        go_wp2_with (at_builtin; refine wpl_app1 rfl (.tmp 56) (.tmp 58) rfl (w.heap.size + 1) _ (outR l p kk l.length) p wr rfl ho rfl (by omega) (by omega) ?_)
        intro v9 w9 ho9 b9' f9
        have b9 := bwr.trans (b9'.mono (by omega))
        rw [← eE] at ho9
        clear eE
        obtain ⟨a9, c9, rfl⟩ := ho9.rd.shape
        by_cases h17 : ((putL l p kk).length : Int) > 16
        · go_wp2
          go_ret2
          exact ⟨b9, by unfold RsetP; rw [if_pos (by omega)]; rfl⟩
        · go_wp2
          go_ret2
          exact ⟨b9, by unfold RsetP; rw [if_neg (by omega)]; exact ⟨_, rfl, ho9.low (by omega)⟩⟩
      · rw [if_neg hlk] at eE
        have hd : decide (kk < l.length) = true := by simp; omega
        rw [← eE] at ho
        clear eE
        obtain ⟨a9, c9, rfl⟩ := ho.rd.shape
        by_cases h17 : ((putL l p kk).length : Int) > 16
        · go_wp2
          go_ret2
          exact ⟨bwr, by unfold RsetP; rw [if_pos (by omega)]; rfl⟩
        · go_wp2
          go_ret2
          exact ⟨bwr, by unfold RsetP; rw [if_neg (by omega)]; exact ⟨_, rfl, ho.low (by omega)⟩⟩

set_option maxRecDepth 4000 in
set_option maxHeartbeats 1000000 in
theorem rset7_nil (w : World) (p : Pr) (a : Option Addr) (c : Nat) (hp : Fits p) (hc : canB p = true) :
    Calls Tryd.prog 15 #[.slice a 0 c, p.v] w fun e w' => Below w.heap.size w w' ∧ RsetP w' w.heap.size [p] e := by
  have bA : Below w.heap.size w (w.alloc (Obj.cells #[Value.string p.name, Value.int IntKind.i64 p.val.kind, Value.int IntKind.i64 p.val.num, Value.string p.val.text, Value.float FloatKind.f64 p.val.real] 33)) := (Below.refl _ w).alloc (Nat.le_refl _) _
  have HV := rvalid7 (w.alloc (Obj.cells #[Value.string p.name, Value.int IntKind.i64 p.val.kind, Value.int IntKind.i64 p.val.num, Value.string p.val.text, Value.float FloatKind.f64 p.val.real] 33)) (.slice a 0 c) [] (.inl ⟨⟨_, _, rfl⟩, rfl⟩) (fun q hq => by simp at hq) (by simp)
  have hsA : (w.alloc (Obj.cells #[Value.string p.name, Value.int IntKind.i64 p.val.kind, Value.int IntKind.i64 p.val.num, Value.string p.val.text, Value.float FloatKind.f64 p.val.real] 33)).heap.size = w.heap.size + 1 := by simp
  have c0 : (w.alloc (Obj.cells #[Value.string p.name, Value.int IntKind.i64 p.val.kind, Value.int IntKind.i64 p.val.num, Value.string p.val.text, Value.float FloatKind.f64 p.val.real] 33)).cell? ⟨w.heap.size, 0, none⟩ = some (.string p.name) := World.cell?_alloc_new ..
  have c1 : (w.alloc (Obj.cells #[Value.string p.name, Value.int IntKind.i64 p.val.kind, Value.int IntKind.i64 p.val.num, Value.string p.val.text, Value.float FloatKind.f64 p.val.real] 33)).cell? ⟨w.heap.size, 1, none⟩ = some (.int .i64 p.val.kind) := World.cell?_alloc_new ..
  have c2 : (w.alloc (Obj.cells #[Value.string p.name, Value.int IntKind.i64 p.val.kind, Value.int IntKind.i64 p.val.num, Value.string p.val.text, Value.float FloatKind.f64 p.val.real] 33)).cell? ⟨w.heap.size, 2, none⟩ = some (.int .i64 p.val.num) := World.cell?_alloc_new ..
  have c3 : (w.alloc (Obj.cells #[Value.string p.name, Value.int IntKind.i64 p.val.kind, Value.int IntKind.i64 p.val.num, Value.string p.val.text, Value.float FloatKind.f64 p.val.real] 33)).cell? ⟨w.heap.size, 3, none⟩ = some (.string p.val.text) := World.cell?_alloc_new ..
  have c4 : (w.alloc (Obj.cells #[Value.string p.name, Value.int IntKind.i64 p.val.kind, Value.int IntKind.i64 p.val.num, Value.string p.val.text, Value.float FloatKind.f64 p.val.real] 33)).cell? ⟨w.heap.size, 4, none⟩ = some (.float .f64 p.val.real) := World.cell?_alloc_new ..
  have HN := fun W : World => rname7 W p.name hp.1
  have HG := fun W : World => rgood7 W p.val hp.2
  unfold canB at hc
  rw [Bool.and_eq_true] at hc
  rw [show validL [] = true from rfl] at HV
  simp only [hc.1] at HN
  simp only [hc.2] at HG
  unfold Val.v at HG
  unfold Pr.v
  clear hp hc
  go_enter Tryd.func15, Tryd.ntmps15
  go_upto_region 1 with fail
  generalize (w.alloc (Obj.cells #[Value.string p.name, Value.int IntKind.i64 p.val.kind, Value.int IntKind.i64 p.val.num, Value.string p.val.text, Value.float FloatKind.f64 p.val.real] 33)) = wA at *
  go_wp2_with fail
  refine HV.mono ?_
  rintro e w2 ⟨rfl, hb2⟩
  have d0 : w2.cell? ⟨w.heap.size, 0, none⟩ = some (.string p.name) := box_on c0 hb2
  have d1 : w2.cell? ⟨w.heap.size, 1, none⟩ = some (.int .i64 p.val.kind) := box_on c1 hb2
  have d2 : w2.cell? ⟨w.heap.size, 2, none⟩ = some (.int .i64 p.val.num) := box_on c2 hb2
  have d3 : w2.cell? ⟨w.heap.size, 3, none⟩ = some (.string p.val.text) := box_on c3 hb2
  have d4 : w2.cell? ⟨w.heap.size, 4, none⟩ = some (.float .f64 p.val.real) := box_on c4 hb2
  have b2 := bA.trans (hb2.mono (by omega))
  clear c0 c1 c2 c3 c4
  go_wp2_with fail
  refine (HN _).mono ?_
  rintro e w3 ⟨rfl, hw3⟩
  subst hw3
  go_wp2_with fail
  refine (HG _).mono ?_
  rintro e w4 ⟨rfl, hb4⟩
  have c0 : w4.cell? ⟨w.heap.size, 0, none⟩ = some (.string p.name) := box_on d0 hb4
  have c1 : w4.cell? ⟨w.heap.size, 1, none⟩ = some (.int .i64 p.val.kind) := box_on d1 hb4
  have c2 : w4.cell? ⟨w.heap.size, 2, none⟩ = some (.int .i64 p.val.num) := box_on d2 hb4
  have c3 : w4.cell? ⟨w.heap.size, 3, none⟩ = some (.string p.val.text) := box_on d3 hb4
  have c4 : w4.cell? ⟨w.heap.size, 4, none⟩ = some (.float .f64 p.val.real) := box_on d4 hb4
  have b4 := b2.trans (hb4.mono b2.size)
  have s4 := b4.size
  clear d0 d1 d2 d3 d4 HV HN HG bA b2 hb2 hb4
  have ho4 : OwnP w4 w.heap.size (.slice none 0 0) [] := World.ownsRow_nil _ _ _ _
  go_wp2_with fail
  go_loopw [6, 7, 27] (fun v la i wr => i = .int .i64 0 ∧ la = .bool false ∧ v = .slice none 0 0 ∧ wr = w4) (fun _ _ _ _ => 0)
  case atStart => exact ⟨rfl, rfl, rfl, rfl⟩
  case round =>
    obtain ⟨rfl, rfl, rfl, hw⟩ := hrel
    replace hw := hw.symm
    subst hw
    go_wp2_with (at_builtin; refine wpl_app1 rfl (.tmp 56) (.tmp 58) rfl w.heap.size _ [] p w4 rfl ho4 rfl (by simp) s4 ?_)
    intro v9 w9 ho9 b9' f9
    have b9 := b4.trans b9'
    obtain ⟨a9, c9, rfl⟩ := ho9.rd.shape
    go_wp2
    go_ret2
    exact ⟨b9, by unfold RsetP; rw [if_neg (by simp)]; exact ⟨_, rfl, ho9⟩⟩
end Go.Proofs.YtlhfdklfkfodkaaDoor
