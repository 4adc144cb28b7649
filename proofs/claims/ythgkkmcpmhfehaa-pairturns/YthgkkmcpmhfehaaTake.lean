/- What takeBack makes of a drum. -/
import Derived.Test.YthgkkmcpmhfehaaBase
import Derived.Deep.RegionHeld3
import Derived.Deep.DrawnRows
import Derived.Deep.DeepCutAuto
namespace Go.Proofs.Ythgkkmcpmhfehaa
open Go.RowKit Go.Lib
attribute [local go_sem ↓] Go.wp_at_zero Go.wp_at_succ

theorem int_eq {k : IntKind} {a b : Int} (h : a = b) : Value.int k a = .int k b := by rw [h]
/-- How many bytes of the i-th write are kept, of k in all. -/
def keptAt (k i : Nat) : Nat := min (k - i * 256) 256
/-- The pages behind the taking back of the writes below j, the last one first. -/
def undo (k : Nat) (W : List (Nat × List UInt8)) : Nat → List UInt8 → List UInt8
  | 0, P => P
  | j + 1, P => undo k W j (splice P ((W.getD j (0, [])).1 * 256 + keptAt k j) ((W.getD j (0, [])).2.drop (keptAt k j)))

theorem info5s : (Try.prog.info? 5).map (·.size) = some 1 := by kernel_rfl
theorem waitCells_length (W : List (Nat × List UInt8)) (h : ∀ x ∈ W, x.2.length = 256) : (waitCells W).length = W.length * 257 := by
  induction W with
  | nil => rfl
  | cons x W ih =>
    have := ih (fun y hy => h y (List.mem_cons_of_mem _ hy))
    have hx := h x (List.mem_cons_self)
    simp only [waitCells, List.flatMap_cons, List.length_append, List.length_cons, byteCells_length] at this ⊢
    omega
theorem waitCells_at (W : List (Nat × List UInt8)) (h : ∀ x ∈ W, x.2.length = 256) (j : Nat) (hj : j < W.length) :
    (waitCells W)[j * 257]? = some (.int .i64 ((W.getD j (0, [])).1 : Int)) ∧ ∀ i, i < 256 → (waitCells W)[j * 257 + 1 + i]? = some (.int .u8 (((W.getD j (0, [])).2.getD i 0).toNat : Int)) := by
  induction W generalizing j with
  | nil => simp at hj
  | cons x W ih =>
    have hx := h x (List.mem_cons_self)
    have e : waitCells (x :: W) = (Value.int .i64 (x.1 : Int) :: byteCells x.2) ++ waitCells W := rfl
    cases j with
    | zero =>
      refine ⟨by rw [e]; simp, fun i hi => ?_⟩
      rw [e, List.getElem?_append_left (by simp [byteCells_length]; omega), Nat.zero_mul, Nat.zero_add, Nat.add_comm, List.getElem?_cons_succ]
      simp [byteCells, List.getElem?_eq_getElem (show i < x.2.length by omega)]
    | succ j =>
      have := ih (fun y hy => h y (List.mem_cons_of_mem _ hy)) j (by simpa using hj)
      refine ⟨?_, fun i hi => ?_⟩
      · have e2 : (j + 1) * 257 = (Value.int .i64 (x.1 : Int) :: byteCells x.2).length + j * 257 := by simp [byteCells_length]; omega
        rw [e, e2, List.getElem?_append_right (by omega), Nat.add_sub_cancel_left, this.1]
        simp
      · have e2 : (j + 1) * 257 + 1 + i = (Value.int .i64 (x.1 : Int) :: byteCells x.2).length + (j * 257 + 1 + i) := by simp [byteCells_length]; omega
        rw [e, e2, List.getElem?_append_right (by omega), Nat.add_sub_cancel_left, this.2 i hi]
        simp
theorem Raw.wait {w : World} {X : Nat → Prop} {q g : Nat} {C : Array Value} {P : List UInt8} {v : Value} {W : List (Nat × List UInt8)} (h : Raw w X q g C P v W) (hW : ∀ x ∈ W, x.2.length = 256) {j : Nat} (hj : j < W.length) :
    ∃ b cap, v = .slice (some ⟨b, 0, none⟩) W.length cap ∧ w.cell? ⟨b, j * 257, none⟩ = some (.int .i64 ((W.getD j (0, [])).1 : Int)) ∧ ∀ i, i < 256 → w.cell? ⟨b, j * 257 + 1 + i, none⟩ = some (.int .u8 (((W.getD j (0, [])).2.getD i 0).toNat : Int)) := by
  rcases h.b3.2 with ⟨_, h0⟩ | ⟨b, cap, cur, rfl, _, hg, _, _, hs, ht⟩
  · omega
  · have hlt : ∀ i, i < 257 → j * 257 + i < W.length * 257 := fun i hi => by
      have : (j + 1) * 257 ≤ W.length * 257 := Nat.mul_le_mul_right _ hj
      omega
    have hc : ∀ i, i < 257 → w.cell? ⟨b, j * 257 + i, none⟩ = (waitCells W)[j * 257 + i]? := fun i hi => by
      rw [cell_of_row _ _ _ _ _ _ hg, ← ht, List.getElem?_take_of_lt (hlt i hi), Array.getElem?_toList]
    refine ⟨b, cap, rfl, ?_, fun i hi => ?_⟩
    · have := hc 0 (by omega)
      rw [Nat.add_zero, (waitCells_at W hW j hj).1] at this
      exact this
    · have := hc (1 + i) (by omega)
      rw [← Nat.add_assoc, (waitCells_at W hW j hj).2 i hi] at this
      exact this
theorem setRow_self (w : World) (g : Nat) (cur : Array Value) (t : TypeId) (fr : Nat × Nat) (hg : w.heap[g]? = some (.cells cur t fr)) : w.setRow g cur = w := by
  have hlt : g < w.heap.size := (Array.getElem?_eq_some_iff.1 hg).1
  have hv : w.heap[g] = .cells cur t fr := (Array.getElem?_eq_some_iff.1 hg).2
  unfold World.setRow
  cases w with
  | mk heap tape drawn os output =>
    congr 1
    apply Array.ext
    · simp
    · intro k h1 h2
      simp only [Array.getElem_modify]
      split
      · rename_i hk; subst hk; simp only at hv; rw [hv]
      · rfl

/-- copy into a row that is known whole, the world behind it written out. -/
theorem copy_at {P : Program} {w : World} {o : Oper} {a : Act} {K : Act → World → Prop} {Q : Exit → Act → World → Prop} (d s : Operand) (dT sT : TypeId)
    (ho : o.op = .call { callee := .builtin .copy, args := #[d, s], argTypes := #[dT, sT] }) (elem : TypeId) (hu : P.underlying dT = some (.slice elem)) (hsz : (P.info? elem).map (·.size) = some 1)
    (dp sp : Option Addr) (dLen dCap sLen sCap : Nat) (hd : a.eval d = .slice dp dLen dCap) (hs : a.eval s = .slice sp sLen sCap)
    (g off : Nat) (cur : List Value) (t : TypeId) (hg : w.heap[g]? = some (.cells cur.toArray t (0, 0))) (cs : List Value) (hn : cs.length = Nat.min sLen dLen)
    (hpos : 0 < cs.length → dp = some ⟨g, off, none⟩ ∧ ∃ ad, sp = some ad ∧ ∀ j v, cs[j]? = some v → w.cell? (ad.add j) = some v)
    (hfit : off + cs.length ≤ cur.length) (h1 : ∀ v ∈ cs, v.oneCell' = true)
    (h : K (a.put o.dst (goInt cs.length)) (w.setRow g (splice cur off cs).toArray)) : Oper.wp P o a w K Q := by
  by_cases h0 : cs.length = 0
  · obtain rfl : cs = [] := List.eq_nil_of_length_eq_zero h0
    have hrun := run_copy_none (P := P) w dT sT o.type elem dp sp dLen dCap sLen sCap hu hsz (by simpa using hn.symm)
    unfold Oper.wp
    simp [execOp, ho, resolve, invoke, builtin, hd, hs, hrun, Result.andThen]
    have e : splice cur off [] = cur := by simp [splice]
    rw [e, setRow_self w g _ t _ hg] at h
    exact h
  · obtain ⟨rfl, ad, rfl, hsrc⟩ := hpos (by omega)
    have hrun := run_copy_row (P := P) w dT sT o.type elem g off dLen dCap ad sLen sCap cur.toArray t cs hu hsz hg hn hsrc (by simpa using hfit) h1
    unfold Oper.wp
    simp [execOp, ho, resolve, invoke, builtin, hd, hs, hrun, Result.andThen]
    rw [Oper.upon_value]
    simpa [splice] using h
theorem wpList_copy_at {P : Program} {w : World} {ops : Array Oper} {rest : List Oper} {o : Oper} {a : Act} {Q : Exit → Act → World → Prop} (hgd : o.guard = none) (d s : Operand) (dT sT : TypeId)
    (ho : o.op = .call { callee := .builtin .copy, args := #[d, s], argTypes := #[dT, sT] }) (elem : TypeId) (hu : P.underlying dT = some (.slice elem)) (hsz : (P.info? elem).map (·.size) = some 1)
    (dp sp : Option Addr) (dLen dCap sLen sCap : Nat) (hd : a.eval d = .slice dp dLen dCap) (hs : a.eval s = .slice sp sLen sCap)
    (g off : Nat) (cur : List Value) (t : TypeId) (hg : w.heap[g]? = some (.cells cur.toArray t (0, 0))) (cs : List Value) (hn : cs.length = Nat.min sLen dLen)
    (hpos : 0 < cs.length → dp = some ⟨g, off, none⟩ ∧ ∃ ad, sp = some ad ∧ ∀ j v, cs[j]? = some v → w.cell? (ad.add j) = some v)
    (hfit : off + cs.length ≤ cur.length) (h1 : ∀ v ∈ cs, v.oneCell' = true)
    (h : ∀ w', Hid (w' = w.setRow g (splice cur off cs).toArray) → wpList P ops Q rest (a.put o.dst (goInt cs.length)) w') : wpList P ops Q (o :: rest) a w :=
  wpList_plain hgd fun _ hK => copy_at d s dT sT ho elem hu hsz dp sp dLen dCap sLen sCap hd hs g off cur t hg cs hn hpos hfit h1 (hK _ _ (h _ (rfl : _ = _)))
theorem step_copy_at {P : Program} {w : World} {ops : Array Oper} {o : Oper} {a : Act} {K : Act → World → Prop} {Q : Exit → Act → World → Prop} {E : Prop} (hgd : o.guard = none) (d s : Operand) (dT sT : TypeId)
    (ho : o.op = .call { callee := .builtin .copy, args := #[d, s], argTypes := #[dT, sT] }) (elem : TypeId) (hu : P.underlying dT = some (.slice elem)) (hsz : (P.info? elem).map (·.size) = some 1)
    (dp sp : Option Addr) (dLen dCap sLen sCap : Nat) (hd : a.eval d = .slice dp dLen dCap) (hs : a.eval s = .slice sp sLen sCap)
    (g off : Nat) (cur : List Value) (t : TypeId) (hg : w.heap[g]? = some (.cells cur.toArray t (0, 0))) (cs : List Value) (hn : cs.length = Nat.min sLen dLen)
    (hpos : 0 < cs.length → dp = some ⟨g, off, none⟩ ∧ ∃ ad, sp = some ad ∧ ∀ j v, cs[j]? = some v → w.cell? (ad.add j) = some v)
    (hfit : off + cs.length ≤ cur.length) (h1 : ∀ v ∈ cs, v.oneCell' = true)
    (h : ∀ w', Hid (w' = w.setRow g (splice cur off cs).toArray) → K (a.put o.dst (goInt cs.length)) w') : if Region.wanted o (yielded ops a.tmps) = true then Oper.wp P o a w K Q else E := by
  have hw : Region.wanted o (yielded ops a.tmps) = true := by simp [Region.wanted, hgd]
  rw [if_pos hw]
  exact copy_at d s dT sT ho elem hu hsz dp sp dLen dCap sLen sCap hd hs g off cur t hg cs hn hpos hfit h1 (h _ (rfl : _ = _))

theorem splice_bytes (P : List UInt8) (off : Nat) (l : List UInt8) : splice (byteCells P) off (byteCells l) = byteCells (splice P off l) := by
  simp [splice, byteCells, List.map_take, List.map_drop]
theorem Raw.page {w : World} {X : Nat → Prop} {q g : Nat} {C : Array Value} {P : List UInt8} {v : Value} {W : List (Nat × List UInt8)} (h : Raw w X q g C P v W) (off : Nat) (l : List UInt8) : Raw (w.setRow g (splice (byteCells P) off (byteCells l)).toArray) X q g C (splice P off l) v W := by
  have ng : q ≠ g := ne_type h.b1 h.b2 (by decide)
  refine ⟨h.hq, h.hg, h.hv, fun k hk => by simpa using h.lt k hk, ?_, ?_, ownsRow_block h.b3 (fun k hk => ?_)⟩
  · rw [setRow_other _ _ _ _ ng]; exact h.b1
  · rw [setRow_heap _ _ _ _ _ _ h.b2, splice_bytes]
  · obtain ⟨c, hc⟩ := own_ne h.b3 hk
    exact setRow_other _ _ _ _ (ne_type hc h.b2 (by decide))
theorem Step.row {X X' : Nat → Prop} {w w' : World} (h : Step X X' w w') {g : Nat} (hg : X' g) (c : Array Value) : Step X X' w (w'.setRow g c) :=
  h.trans ⟨rfl, rfl, rfl, by simp, fun k _ hk => setRow_other _ _ _ _ (fun e => hk (e ▸ hg)), fun _ h => .inl h⟩

set_option maxRecDepth 100000 in
set_option maxHeartbeats 1000000 in
theorem take_any (w : World) (X : Nat → Prop) (q g n : Nat) (C : Array Value) (hC : ∃ a b c d e, C = #[.slice (some ⟨g, 0, none⟩) n n, a, b, c, d, e]) (P : List UInt8) (v : Value) (W : List (Nat × List UInt8)) (k : Nat) (hk : k < 9223372036854775808) (hr : Raw w X q g C P v W)
    (hP : P.length = n * 256) (hW : ∀ x ∈ W, x.1 < n ∧ x.2.length = 256) (hl : W.length ≤ 100000) (hv : C[1]? = some v) :
    Calls Try.prog 51 #[.pointer (some ⟨q, 0, none⟩), .int .i64 k] w fun e w' => e = .returned (.tuple #[]) ∧ Raw w' X q g C (undo k W W.length P) v W ∧ Step X X w w' := by
  obtain ⟨a, b, c, d, e, rfl⟩ := hC
  obtain rfl : a = v := by simpa using hv
  obtain ⟨c0, c1, c2, c3, c4, c5, fz⟩ := hr.cells
  obtain ⟨ad, cap, rfl⟩ : ∃ ad cap, a = .slice ad W.length cap := by
    rcases hr.b3.2 with ⟨rfl, h0⟩ | ⟨g', cap, cur, rfl, _⟩
    · rw [h0]; exact ⟨_, _, rfl⟩
    · exact ⟨_, _, rfl⟩
  go_enter Try.func51, Try.ntmps51
  go_wp2
  go_loopw [4] (fun i wr => ∃ (j : Nat) (Pc : List UInt8), j ≤ W.length ∧ i = .int .i64 ((j : Int) - 1) ∧ Raw wr X q g #[.slice (some ⟨g, 0, none⟩) n n, .slice ad W.length cap, b, c, d, e] Pc (.slice ad W.length cap) W ∧ Pc.length = n * 256 ∧ undo k W j Pc = undo k W W.length P ∧ Step X X w wr) (fun i _ => (RowKit.intOf i + 1).toNat)
  case atStart => exact ⟨W.length, P, Nat.le_refl _, by go_num, hr, hP, rfl, Step.refl X w⟩
  case round =>
    obtain ⟨j, Pc, hj, rfl, hr', hPc, hu, hst⟩ := hrel
    obtain ⟨k0, k1, k2, k3, k4, k5, kz⟩ := hr'.cells
    cases j with
    | zero =>
      go_wp2
      go_end0
      refine ⟨rfl, ?_, hst⟩
      rw [← hu]
      exact hr'
    | succ m =>
      obtain ⟨wb, cap', hvv, ca, cb⟩ := hr'.wait (fun x hx => (hW x hx).2) (Nat.lt_of_succ_le hj)
      cases hvv
      have hat := (hW (W.getD m (0, [])) (by rw [List.getD_eq_getElem?_getD, List.getElem?_eq_getElem (Nat.lt_of_succ_le hj)]; exact List.getElem_mem _))
      have HU : Hid (undo k W (m + 1) Pc = undo k W W.length P) := hu
      clear hu c0 c1 c2 c3 c4 c5 fz
      have hm1 : ((m + 1 : Nat) : Int) - 1 = (m : Int) := by omega
      rw [hm1]
      have hm2 : (m : Int) < (W.length : Int) := by omega
      have hm0 : (0 : Int) ≤ (m : Int) := by omega
      go_upto_region 4 with fail
      go_cut [6] (fun s w' => s = .int .i64 (keptAt k m : Int) ∧ w' = wr)
      case first =>
        go_wp2_with fail
        all_goals go_meet
        all_goals exact ⟨int_eq (by unfold keptAt; omega), rfl⟩
      case rest =>
        obtain ⟨rfl, rfl⟩ := hcut
        have ht : keptAt k m ≤ 256 := by unfold keptAt; omega
        have HK : Hid (keptAt k m = keptAt k m) := rfl
        generalize hA : (W.getD m (0, [])).1 = A at *
        generalize hB : (W.getD m (0, [])).2 = B at *
        obtain ⟨hA1, hB1⟩ := hat
        generalize hT : keptAt k m = T at *
        have HT : Hid (keptAt k m = T) := hT
        have HA : Hid ((W.getD m (0, [])).1 = A) := hA
        have HB : Hid ((W.getD m (0, [])).2 = B) := hB
        have HP : Hid (Pc.length = n * 256) := hPc
        have HCB : Hid (∀ i, i < 256 → wc.cell? ⟨wb, m * 257 + 1 + i, none⟩ = some (.int .u8 ((B.getD i 0).toNat : Int))) := cb
        clear hT hA hB HK cb hPc
        have t0 : (0 : Int) ≤ (T : Int) := by omega
        have t1 : (T : Int) ≤ 256 := by omega
        have a0 : (0 : Int) ≤ (A : Int) := by omega
        have a1 : (A : Int) < (n : Int) := by omega
        have HG : Hid (wc.drew.heap[g]? = some (.cells (byteCells Pc).toArray 85 (0, 0))) := hr'.b2
        have HN : Hid ((byteCells (B.drop T)).length = Nat.min (256 - T) (256 - T)) := by show _ = _; rw [byteCells_length, List.length_drop, hB1]; exact (Nat.min_self _).symm
        have HF : Hid (A * 256 + T + (byteCells (B.drop T)).length ≤ (byteCells Pc).length) := by show _ ≤ _; rw [byteCells_length, byteCells_length, List.length_drop, hB1, HP.out]; omega
        have HPOS : Hid (0 < (byteCells (B.drop T)).length → some (if 256 = T then (⟨g, A * 256, none⟩ : Addr) else ⟨g, A * 256 + T, none⟩) = some ⟨g, A * 256 + T, none⟩ ∧ ∃ ad, some (if 256 = T then (⟨wb, m * 257 + 1, none⟩ : Addr) else ⟨wb, m * 257 + 1 + T, none⟩) = some ad ∧ ∀ j u, (byteCells (B.drop T))[j]? = some u → wc.drew.cell? (ad.add j) = some u) := by
          intro h0
          have hlt : T < 256 := by rw [byteCells_length, List.length_drop, hB1] at h0; omega
          rw [if_neg (by omega), if_neg (by omega)]
          refine ⟨rfl, _, rfl, fun j u hj => ?_⟩
          have hjl : j < B.length - T := by
            have := (List.getElem?_eq_some_iff.1 hj).1
            simpa [byteCells_length] using this
          rw [Addr.add_mid]
          have := HCB.out (T + j) (by omega)
          rw [← Nat.add_assoc] at this
          show wc.cell? _ = _
          rw [this, ← hj]
          simp [byteCells, List.getElem?_eq_getElem (show T + j < B.length by omega)]
        have H1 : Hid (∀ u ∈ byteCells (B.drop T), u.oneCell' = true) := by
          intro u hu
          obtain ⟨x, _, rfl⟩ := List.mem_map.1 hu
          rfl
        have nq : q ≠ g := ne_type hr'.b1 hr'.b2 (by decide)
        have nw : wb ≠ g := by
          obtain ⟨c, hc⟩ := own_ne hr'.b3 rfl
          exact ne_type hc hr'.b2 (by decide)
        have HKEEP : Hid (∀ w2, Hid (w2 = wc.drew.setRow g (splice (byteCells Pc) (A * 256 + T) (byteCells (B.drop T))).toArray) → w2.cell? ⟨q, 0, none⟩ = some (.slice (some ⟨g, 0, none⟩) n n) ∧ w2.cell? ⟨wb, m * 257, none⟩ = some (.int .i64 (A : Int))) := by
          intro w2 h2
          rw [h2.out]
          exact ⟨(cell_setRow_other _ _ _ _ nq).trans k0, (cell_setRow_other _ _ _ _ nw).trans ca⟩
        clear nq nw
        go_wp2_with fail
        go_region_held3 (fun w' => w'.cell? ⟨q, 0, none⟩ = some (.slice (some ⟨g, 0, none⟩) n n) ∧ w'.cell? ⟨wb, m * 257, none⟩ = some (.int .i64 (A : Int))) (first | go_keep | exact HKEEP.out _ (by assumption)) ((refine step_copy_at rfl (.tmp 39) (.tmp 44) 30 30 (by rfl) 5 Try.underlying30 info5s _ _ _ _ _ _ (by rfl) (by rfl) g (A * 256 + T) (byteCells Pc) 85 HG.out (byteCells (B.drop T)) HN.out HPOS.out HF.out H1.out ?_; intro w2 hw2))
        go_wp2
        go_roundw
        case rel =>
          refine ⟨m, splice Pc (A * 256 + T) (B.drop T), by omega, by go_num, ?_, ?_, ?_, ?_⟩
          · rw [hw2.out]; exact hr'.drew.page _ _
          · rw [length_splice _ _ _ (by rw [List.length_drop, hB1, HP.out]; omega), HP.out]
          · rw [← HU.out]
            simp only [undo, HT.out, HA.out, HB.out]
          · rw [hw2.out]; exact hst.drew.row hr'.hg _
        case measure => simp [RowKit.intOf]
end Go.Proofs.Ythgkkmcpmhfehaa
