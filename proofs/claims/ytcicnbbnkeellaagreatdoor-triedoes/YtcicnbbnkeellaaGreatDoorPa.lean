/- (*node).pairs: the pairs behind a node. Conditions: those that each row states. -/
import Derived.Test.YtcicnbbnkeellaaGreatDoorPq
import Derived.Test.YtcicnbbnkeellaaGreatDoorNe
import Derived.LoopTactic
import Derived.LoopN
namespace Go.Proofs.YtcicnbbnkeellaaGreatDoor
open Go.RowKit Go.Maps
set_option maxRecDepth 100000
attribute [-go_sem] Go.Builtin.append_

theorem nodup_len {α : Type} [DecidableEq α] : ∀ (L l : List α), L.Nodup → (∀ x ∈ L, x ∈ l) → L.length ≤ l.length
  | [], _, _, _ => Nat.zero_le _
  | a :: L, l, h, hs => by
    have h1 := List.nodup_cons.1 h
    have ha := hs a (by simp)
    have := nodup_len L (l.erase a) h1.2 (fun x hx => (List.mem_erase_of_ne (fun e => by subst e; exact h1.1 hx)).2 (hs x (by simp [hx])))
    rw [List.length_erase_of_mem ha] at this
    have h2 : 0 < l.length := List.length_pos_of_mem ha
    simp
    omega
theorem head_snoc (p : List Wd) (k : Wd) : headL (p ++ [k]) = headL p ++ k ++ [46] := by
  induction p with
  | nil => simp [headL]
  | cons a p ih => simp [headL, ih]
theorem join_snoc (p : List Wd) (k : Wd) : joinL (p ++ [k]) = headL p ++ k := by
  induction p with
  | nil => rfl
  | cons a p ih => rw [List.cons_append, joinL_cons _ _ (by simp), ih]; simp [headL]
theorem head_len (p : List Wd) (h : ∀ k ∈ p, k.length ≤ 64) : (headL p).length ≤ p.length * 65 := by
  induction p with
  | nil => simp [headL]
  | cons a p ih =>
    have := ih (fun k hk => h k (by simp [hk]))
    have := h a (by simp)
    simp [headL]
    omega
/-- The pairs behind p. -/
def PsAt (T : Tr) (p : List Wd) (x : Pr) : Prop := ∃ s, s ≠ [] ∧ x.1 = joinL (p ++ s) ∧ x.2 ∈ idsAt T (p ++ s)
/-- Those of the children that have come. -/
def PsK (T : Tr) (p : List Wd) (left : Wd → Bool) (x : Pr) : Prop := ∃ k s, left k = false ∧ x.1 = joinL (p ++ k :: s) ∧ x.2 ∈ idsAt T (p ++ k :: s)
theorem RngF.iter {w : World} {b r n cnt : Nat} {f : Wd → Option Nat} {left : Wd → Bool} (h : RngF w b r n f left cnt) : ∃ x y z u, w.heap[r]? = some (.mapIter x y z u) := by
  obtain ⟨D, lf, ⟨es, clock, since, seen, c0, hb, F, hs, hD, hr, rest⟩, h3, h4⟩ := h
  exact ⟨_, _, _, _, hr⟩
theorem own_iter {w : World} {B r : Nat} {v : Value} {l : List Pr} (h : OwnPr w B v l) {x y z u} (hr : w.heap[r]? = some (.mapIter x y z u)) : v.ownBlock ≠ some r := fun e => by
  obtain ⟨_, ⟨rfl, _⟩ | ⟨g, cap, cur, rfl, _, hg, _⟩⟩ := h
  · cases e
  · cases e
    rw [hr] at hg
    cases hg
theorem app_str (a b : List UInt8) : (⟨a.toArray⟩ : ByteArray) ++ ⟨b.toArray⟩ = ⟨(a ++ b).toArray⟩ := by
  apply ByteArray.ext
  simp
theorem ids_up {w : World} {N : Nat} {T : Tr} (h : TrW w N T) {p : List Wd} {k : Wd} {s : List Wd} {z : Int} (hz : z ∈ idsAt T (p ++ k :: s)) : T (p ++ [k]) ≠ none := by
  have h1 : idsAt T (p ++ k :: s) ≠ [] := fun e => by rw [e] at hz; cases hz
  exact h.up' s (p ++ [k]) (by simpa using (h.ids_ne _ h1).1)
theorem psK_none {w : World} {N : Nat} {T : Tr} (h : TrW w N T) (p : List Wd) (x : Pr) : ¬ PsK T p (fun k => ((T (p ++ [k])).map Nd.q).isSome) x := by
  rintro ⟨k, s, h1, h2, h3⟩
  have := ids_up h h3
  cases e : T (p ++ [k]) with
  | none => exact this e
  | some c => dsimp only at h1; rw [e] at h1; cases h1
theorem psK_all {w : World} {N : Nat} {T : Tr} (h : TrW w N T) (p : List Wd) (left : Wd → Bool) (hl : ∀ k : Wd, k.length ≤ maxLen → left k = false) (x : Pr) : PsK T p left x ↔ PsAt T p x := by
  constructor
  · rintro ⟨k, s, _, h2, h3⟩
    exact ⟨k :: s, by simp, h2, h3⟩
  · rintro ⟨s, h1, h2, h3⟩
    cases s with
    | nil => exact absurd rfl h1
    | cons k s => exact ⟨k, s, hl k (by have := (h.word p k (ids_up h h3)).1; unfold maxLen; omega), h2, h3⟩
theorem words_of {w : World} {N : Nat} {T : Tr} (h : TrW w N T) {p : List Wd} {z : Int} (hz : z ∈ idsAt T p) : wordsL (joinL p) = p := by
  have h1 : idsAt T p ≠ [] := fun e => by rw [e] at hz; cases hz
  obtain ⟨h2, h3⟩ := h.ids_ne p h1
  exact words_join p h3 (fun k hk => (h.words p h2 k hk).2)
theorem psK_step {T : Tr} (p : List Wd) (left : Wd → Bool) {k : Wd} (x : Pr) :
    PsK T p (fun y => left y && y != k) x ↔ PsK T p left x ∨ (x.1 = joinL (p ++ [k]) ∧ x.2 ∈ idsAt T (p ++ [k])) ∨ PsAt T (p ++ [k]) x := by
  constructor
  · rintro ⟨y, s, h1, h2, h3⟩
    by_cases hy : y = k
    · subst hy
      right
      cases s with
      | nil => exact .inl ⟨h2, h3⟩
      | cons a s => exact .inr ⟨a :: s, by simp, by simpa using h2, by simpa using h3⟩
    · exact .inl ⟨y, s, by simpa [hy] using h1, h2, h3⟩
  · rintro (⟨y, s, h1, h2, h3⟩ | ⟨h2, h3⟩ | ⟨s, h1, h2, h3⟩)
    · exact ⟨y, s, by simp [h1], h2, h3⟩
    · exact ⟨k, [], by simp, h2, h3⟩
    · exact ⟨k, s, by simp, by simpa using h2, by simpa using h3⟩
/-- The pairs of a child are none of those that came. -/
theorem psK_apart {w : World} {N : Nat} {T : Tr} (h : TrW w N T) (p : List Wd) (left : Wd → Bool) {k : Wd} (hk : left k = true) {x : Pr} (h1 : PsK T p left x) (h2 : (x.1 = joinL (p ++ [k]) ∧ x.2 ∈ idsAt T (p ++ [k])) ∨ PsAt T (p ++ [k]) x) : False := by
  obtain ⟨y, s, a1, a2, a3⟩ := h1
  obtain ⟨t, b2, b3⟩ : ∃ t, x.1 = joinL (p ++ k :: t) ∧ x.2 ∈ idsAt T (p ++ k :: t) := by
    rcases h2 with ⟨h2, h3⟩ | ⟨t, _, h2, h3⟩
    · exact ⟨[], h2, h3⟩
    · exact ⟨t, by simpa using h2, by simpa using h3⟩
  have e1 := words_of h a3
  have e2 := words_of h b3
  rw [← a2, b2, e2] at e1
  have := List.append_cancel_left e1
  injection this with this
  rw [this] at hk
  rw [hk] at a1
  cases a1
theorem psAt_apart {w : World} {N : Nat} {T : Tr} (h : TrW w N T) (p : List Wd) {x : Pr} (h1 : x.1 = joinL p ∧ x.2 ∈ idsAt T p) (h2 : PsAt T p x) : False := by
  obtain ⟨t, b1, b2, b3⟩ := h2
  have e1 := words_of h h1.2
  have e2 := words_of h b3
  rw [← h1.1, b2, e2] at e1
  have := congrArg List.length e1
  simp at this
  exact b1 this
theorem psAt_mem {T : Tr} {l : List Pr} (hlm : ∀ s z, z ∈ idsAt T s → (joinL s, z) ∈ l) {p : List Wd} {left : Wd → Bool} {x : Pr} (h : PsK T p left x) : x ∈ l := by
  obtain ⟨k, s, _, h2, h3⟩ := h
  have := hlm _ _ h3
  rw [← h2] at this
  exact this
theorem NdAt.rd {w : World} {N : Nat} {T : Tr} {p : List Wd} {nd : Nd} (h : NdAt w N T p nd) : ∃ a cp, nd.v = .slice a nd.ids.length cp ∧ ∀ j (_ : j < nd.ids.length), ∃ g, a = some ⟨g, 0, none⟩ ∧ w.cell? ⟨g, j, none⟩ = some (.int .i64 nd.ids[j]) := by
  obtain ⟨h1, ⟨e, h0⟩ | ⟨g, cap, cur, e1, e2, e3, e4, e5, e6, e7⟩⟩ := h.ids
  · exact ⟨none, 0, by rw [e, h0], fun j hj => by omega⟩
  · refine ⟨_, cap, e1, fun j hj => ⟨g, rfl, ?_⟩⟩
    have : cur.toList[j]? = some (.int .i64 nd.ids[j]) := by
      rw [← List.getElem?_take_of_lt (show j < nd.ids.length * 1 by omega), e7]
      simp [ints, hj]
    unfold World.cell?
    rw [e3]
    simpa using this
theorem RdPr.one (w : World) (x : Pr) (t : TypeId) : RdPr (w.alloc (.cells #[str x.1, .int .i64 x.2] t)) (.slice (some ⟨w.heap.size, 0, none⟩) 1 1) [x] := by
  refine .inr ⟨w.heap.size, 0, 1, rfl, Nat.le_refl _, fun j u hu => ?_⟩
  have := (MapKept.heap_alloc w (.cells #[str x.1, .int .i64 x.2] t)).1
  unfold World.cell?
  rw [this]
  have hj := (List.getElem?_eq_some_iff.1 hu).1
  rw [prs_len] at hj
  simp only [List.length_singleton] at hj
  match j, hj, hu with
  | 0, _, hu => simpa [prs, prC] using hu
  | 1, _, hu => simpa [prs, prC] using hu
theorem wpl_app1 {ops : Array Oper} {rest : List Oper} {o : Oper} {a : Act} {Q : Exit → Act → World → Prop} (hgd : o.guard = none) (s x : Operand)
    (ho : o.op = .call { callee := .builtin .append, args := #[s, x], argTypes := #[38, 38] }) (B : Nat) (v : Value) (l : List Pr) (W : Wd) (z : Int) (w : World)
    (hs : a.eval s = v) (hown : OwnPr w B v l) (hx : a.eval x = .slice (some ⟨w.heap.size, 0, none⟩) 1 1) (hn : l.length ≤ 1000) (hB : B ≤ w.heap.size)
    (h : ∀ v' w', Hid (OwnPr w' B v' (l ++ [(W, z)])) → Hid (Below B w w') → Hid (∀ k, k < w.heap.size → v.ownBlock ≠ some k → w'.heap[k]? = w.heap[k]?) → wpList Tryz.prog ops Q rest (a.put o.dst v') w') :
    wpList Tryz.prog ops Q (o :: rest) a (w.alloc (.cells #[.string ⟨W.toArray⟩, .int .i64 z] 41)) := by
  have hb : Below w.heap.size w (w.alloc (.cells #[.string ⟨W.toArray⟩, .int .i64 z] 41)) := (Below.refl _ w).alloc (Nat.le_refl _) _
  refine wpl_appP hgd _ _ ho B v _ _ [(W, z)] _ hs (hown.up hb) hx (RdPr.one w (W, z) 41) (by simp; omega) (Nat.le_trans hB hb.size) ?_
  intro v' w' h1 h2 h3
  exact h v' w' h1 ((hb.mono hB).trans h2.out) (fun k hk hne => (h3.out k (Nat.lt_of_lt_of_le hk hb.size) hne).trans (hb.block k hk))
def PairsOk (w : World) (T : Tr) (p : List Wd) (e : Ending) (w' : World) : Prop := ∃ v L, e = .returned v ∧ OwnPr w' w.heap.size v L ∧ Below w.heap.size w w' ∧ L.Nodup ∧ ∀ x, x ∈ L ↔ PsAt T p x

set_option maxHeartbeats 2000000 in
theorem pairs_any (N : Nat) (T : Tr) (l : List Pr) (hl : l.length ≤ 64) (hlm : ∀ s z, z ∈ idsAt T s → (joinL s, z) ∈ l) : ∀ (d : Nat) (p : List Wd) (w : World) (nd : Nd), 9 ≤ p.length + d → TrW w N T → T p = some nd →
    Calls Tryz.prog 38 #[ptrO (some nd.q), str (headL p)] w (PairsOk w T p)
  | 0, p, w, nd, hd, h, hp => by
    have := h.deep p (by rw [hp]; simp)
    omega
  | d + 1, p, w, nd, hd, h, hp => by
    have hI : ∀ (k : Wd) (w1 : World) (c : Nd), TrW w1 N T → T (p ++ [k]) = some c → Calls Tryz.prog 38 #[ptrO (some c.q), str (headL (p ++ [k]))] w1 (PairsOk w1 T (p ++ [k])) := fun k w1 c h1 hc => pairs_any N T l hl hlm d (p ++ [k]) w1 c (by simp; omega) h1 hc
    obtain ⟨c0, c1, _, _⟩ := cell_q (h.at' p nd hp).cells
    obtain ⟨w0, cnt0, hrun, hR0, hg0, hs0⟩ := (h.at' p nd hp).map.range
    have hbel : Below w.heap.size w w0 := ⟨hg0.os, hg0.tape, hg0.output, hg0.size, fun k hk => hg0.block k hk (by simp)⟩
    have H0 : Hid (RngF w0 nd.m w.heap.size N (fun k => (T (p ++ [k])).map Nd.q) (fun k => ((T (p ++ [k])).map Nd.q).isSome) cnt0 ∧ Below w.heap.size w w0) := ⟨hR0, hbel⟩
    have HH : Hid (TrW w N T) := h
    have hhl : (headL p).length ≤ 520 := by
      have h1 := head_len p (fun k hk => (h.words p (by rw [hp]; simp) k hk).1)
      have h2 := h.deep p (by rw [hp]; simp)
      omega
    clear hR0 hg0 hbel c1 h
    simp only [ptrO, str]
    go_enter Tryz.func38, Tryz.ntmps38
    go_wp2
    go_loopw [5] (fun v wr => ∃ left cnt L, RngF wr nd.m w.heap.size N (fun k => (T (p ++ [k])).map Nd.q) left cnt ∧ OwnPr wr w.heap.size v L ∧ Below w.heap.size w wr ∧ L.Nodup ∧ ∀ x, x ∈ L ↔ PsK T p left x) (fun _ wr => wr.rangeLeft nd.m w.heap.size)
    case atStart =>
      obtain ⟨h1, h2⟩ := H0.out
      exact ⟨_, _, [], h1, ⟨rfl, .inl ⟨rfl, rfl⟩⟩, h2, List.nodup_nil, fun x => ⟨fun hx => (by cases hx), fun hx => absurd hx (psK_none HH.out p x)⟩⟩
    case round =>
      obtain ⟨left, cnt, L, hR, hO, hB, hN, hM⟩ := hrel
      rcases hR.next 0 with ⟨h0, hlf, hrn⟩ | ⟨k, q, w1, cnt1, hk, hlk, hfk, hrn, hR1, hlt, hg1, hs1, hen⟩
      · have HE : Hid (PairsOk w T p (.returned u5) wr) := ⟨u5, L, rfl, hO, hB, hN, fun x => (hM x).trans (psK_all HH.out p left hlf x)⟩
        clear hR hO hB hN hM hlf
        go_wp2
        go_ret
        exact HE.out
      · obtain ⟨c, hc, hq⟩ : ∃ c, T (p ++ [k]) = some c ∧ c.q = q := by
          cases e : T (p ++ [k]) with
          | none => rw [e] at hfk; cases hfk
          | some c => rw [e] at hfk; exact ⟨c, rfl, by simpa using hfk⟩
        subst hq
        have hLl : L.length ≤ 64 := Nat.le_trans (nodup_len L l hN (fun x hx => psAt_mem hlm ((hM x).1 hx))) hl
        have hB1 : Below w.heap.size w w1 := ⟨hg1.os.trans hB.os, hg1.tape.trans hB.tape, hg1.output.trans hB.output, Nat.le_trans hB.size hg1.size, fun b hb => (hg1.block b (Nat.lt_of_lt_of_le hb hB.size) (fun e => by injection e with e; omega)).trans (hB.block b hb)⟩
        obtain ⟨i1, i2, i3, i4, hit⟩ := hR.iter
        have hO1 : OwnPr w1 w.heap.size u5 L := by
          have hne := own_iter hO hit
          obtain ⟨h1, h2 | ⟨g, cap, cur, e1, e2, e3, e4⟩⟩ := hO
          · exact ⟨h1, .inl h2⟩
          · exact ⟨h1, .inr ⟨g, cap, cur, e1, e2, (hg1.block g (lt_of_some e3) (fun e => hne (by rw [e1]; exact e.symm ▸ rfl))).trans e3, e4⟩⟩
        have hat := HH.out.at' _ c hc
        obtain ⟨j1, j2, j3, j4, hit1⟩ := hR1.iter
        have hat1 := (HH.out.below hB1).at' _ c hc
        obtain ⟨d0, d1, _, _⟩ := cell_q hat1.cells
        have hML : Hid (wr.rangeLeft nd.m w.heap.size = cnt) := hR.left_eq
        have hkl := (HH.out.word p k (by rw [hc]; simp)).1
        simp only [ptrO, str] at hrn hen
        clear hrun hR hO hit
        obtain ⟨a, cp, hv, hA⟩ := hat1.rd
        rw [hv] at d1
        obtain ⟨n, hn⟩ : ∃ n, c.ids.length = n := ⟨_, rfl⟩
        rw [hn] at d1
        have hnf : n ≤ 64 := by rw [← hn]; exact hat1.few
        obtain ⟨W, hW⟩ : ∃ W, headL p ++ k = W := ⟨_, rfl⟩
        have hWl : W.length ≤ 600 := by rw [← hW, List.length_append]; omega
        have HA : Hid (∀ j (h : j < n), ∃ g, a = some ⟨g, 0, none⟩ ∧ ∀ wr, Below w.heap.size w wr → wr.cell? ⟨g, j, none⟩ = some (.int .i64 (c.ids[j]'(by omega)))) := fun j hj => by
          obtain ⟨g, e1, e2⟩ := hA j (by omega)
          refine ⟨g, e1, fun wr hb => ?_⟩
          have hg : g < w.heap.size := by
            have hgx : c.v.ownBlock = some g := by rw [hv, e1]; rfl
            exact HH.out.lt ⟨_, c, hc, .inr (.inr hgx)⟩
          rw [hb.cell (p := ⟨g, j, none⟩) hg, ← hB1.cell (p := ⟨g, j, none⟩) hg]
          exact e2
        have hcat : (⟨(headL p).toArray⟩ : ByteArray) ++ ⟨List.toArray k⟩ = ⟨W.toArray⟩ := by rw [app_str, hW]
        have hO1' : OwnPr w1 w.heap.size u5 (L ++ (c.ids.take 0).map (fun z => (W, z))) := by simpa using hO1
        have HO : Hid (OwnPr w1 w.heap.size u5 (L ++ (c.ids.take 0).map (fun z => (W, z)))) := hO1'
        have HB1 : Hid (Below w.heap.size w w1) := hB1
        obtain ⟨W2, hW2⟩ : ∃ W2, headL (p ++ [k]) = W2 := ⟨_, rfl⟩
        have HW2 : Hid (headL (p ++ [k]) = W2) := hW2
        have HW : Hid (joinL (p ++ [k]) = W) := by
          show joinL (p ++ [k]) = W
          rw [join_snoc, hW]
        have hcat2 : (⟨W.toArray⟩ : ByteArray) ++ ⟨#[46]⟩ = ⟨W2.toArray⟩ := by
          rw [← hW2, head_snoc, hW]
          exact app_str W [46]
        clear hO1 hO1' hA hat1 hat hv hW hW2
        go_wp2
        clear hcat
        go_loopw [29, 5] (fun i v wr => ∃ j : Nat, j ≤ n ∧ i = .int .i64 (j : Int) ∧ OwnPr wr w.heap.size v (L ++ (c.ids.take j).map (fun z => (W, z))) ∧ Below w.heap.size w wr ∧ wr.heap[w.heap.size]? = w1.heap[w.heap.size]?) (fun i _ _ => n - (intOf i).toNat)
        case atStart => exact ⟨0, Nat.zero_le _, rfl, HO.out, HB1.out, rfl⟩
        case round =>
          obtain ⟨j, hj, rfl, hO2, hB2, hr2⟩ := hrel
          by_cases hjn : j < n
          · obtain ⟨g, hg, hcl⟩ := HA.out j hjn
            subst hg
            have hcell := hcl wr hB2
            have HO2 : Hid (OwnPr wr w.heap.size u5 (L ++ (c.ids.take j).map (fun z => (W, z)))) := hO2
            have HB2 : Hid (Below w.heap.size w wr) := hB2
            obtain ⟨z, hz⟩ : ∃ z, c.ids[j]'(by omega) = z := ⟨_, rfl⟩
            rw [hz] at hcell
            have HZ : Hid (c.ids.take (j + 1) = c.ids.take j ++ [z]) := by
              show c.ids.take (j + 1) = _
              rw [← hz, List.take_succ_eq_append_getElem (by omega)]
            clear hO2 hB2 hcl hz
            have hl2 : (L ++ (c.ids.take j).map (fun z => (W, z))).length ≤ 1000 := by
              simp only [List.length_append, List.length_map, List.length_take]; omega
            have hBs := HB2.out.size
            have hrlt : w.heap.size < wr.heap.size := by rw [hit1] at hr2; exact lt_of_some hr2
            go_wp2_with (at_builtin; refine wpl_app1 rfl _ _ rfl w.heap.size u5 _ W z wr rfl HO2.out rfl hl2 hBs ?_; intro v' w' hO3 hB3 hK3)
            refine ⟨⟨j + 1, by omega, by simp, ?_, HB2.out.trans hB3.out, (hK3.out _ hrlt ?_).trans hr2⟩, ?_⟩
            · rw [HZ.out, List.map_append, ← List.append_assoc]
              exact hO3.out
            · exact own_iter HO2.out (hr2.trans hit1)
            · simp only [intOf]; omega
          · obtain rfl : j = n := by omega
            have hP := hI k wr c (HH.out.below hB2) hc
            rw [HW2.out] at hP
            have HO2 : Hid (OwnPr wr w.heap.size u5 (L ++ c.ids.map (fun z => (W, z)))) := by
              have h9 := hO2
              rw [← hn, List.take_length] at h9
              exact h9
            have HB2 : Hid (Below w.heap.size w wr) := hB2
            have HR1 : Hid (RngF w1 nd.m w.heap.size N (fun k => (T (p ++ [k])).map Nd.q) (fun x => left x && x != k) cnt1) := hR1
            have hmlt : Hid (nd.m < w.heap.size) := HH.out.lt ⟨p, nd, hp, .inr (.inl rfl)⟩
            have hrlt : w.heap.size < wr.heap.size := by rw [hit1] at hr2; exact lt_of_some hr2
            clear hO2 hB2 hI hR1
            simp only [ptrO, str] at hP
            go_wp2_with fail
            refine hP.mono ?_
            rintro e w3 ⟨v3, L3, rfl, hO3, hB3, hN3, hM3⟩
            have hO3l := hO3.low HB2.out.size
            have hRd := hO3.rd
            have hO4 := HO2.out.up hB3
            have hL3 : L3.length ≤ 64 := Nat.le_trans (nodup_len L3 l hN3 (fun x hx => by
              obtain ⟨s, _, h2, h3⟩ := (hM3 x).1 hx
              have := hlm _ _ h3
              rw [← h2] at this
              exact this)) hl
            have hl2 : (L ++ c.ids.map (fun z => (W, z))).length + L3.length ≤ 100000 := by
              simp only [List.length_append, List.length_map]; omega
            have hBs : w.heap.size ≤ w3.heap.size := Nat.le_trans HB2.out.size hB3.size
            have HM3 : Hid (L3.Nodup ∧ ∀ x, x ∈ L3 ↔ PsAt T (p ++ [k]) x) := ⟨hN3, hM3⟩
            have HB3 : Hid (Below wr.heap.size wr w3) := hB3
            have HML : Hid (L.Nodup ∧ ∀ x, x ∈ L ↔ PsK T p left x) := ⟨hN, hM⟩
            have hit3 : w3.heap[w.heap.size]? = w1.heap[w.heap.size]? := (hB3.block _ hrlt).trans hr2
            clear hO3 hM3 hN3 hB3 hP hN hM
            go_wp2_with (at_builtin; refine wpl_appP rfl _ _ rfl w.heap.size u5 v3 _ L3 w3 rfl hO4 rfl hRd hl2 hBs ?_; intro v' w' hO5 hB5 hK5)
            have hne5 : w'.heap[w.heap.size]? = w1.heap[w.heap.size]? := (hK5.out _ (Nat.lt_of_lt_of_le hrlt HB3.out.size) (own_iter hO4 (hit3.trans hit1))).trans hit3
            have hBB : Below w.heap.size w w' := HB2.out.trans ((HB3.out.mono (Nat.le_of_lt hrlt)).trans hB5.out)
            have hm5 : w'.heap[nd.m]? = w1.heap[nd.m]? := by
              rw [hBB.block _ hmlt.out, HB1.out.block _ hmlt.out]
            have hR5 := HR1.out.on hm5 hne5
            have hWJ := HW.out
            refine ⟨⟨_, _, _, hR5, hO5.out, hBB, ?_, ?_⟩, ?_⟩
            · have hids : (c.ids.map (fun z => (W, z))).Nodup := by
                have h9 : RisI c.ids := (HH.out.at' _ c hc).ris
                refine List.Pairwise.map _ (fun a b hab => ?_) h9
                intro e
                injection e with _ e
                have : a < b := hab
                omega
              have hmi : ∀ x : Pr, x ∈ c.ids.map (fun z => (W, z)) ↔ x.1 = joinL (p ++ [k]) ∧ x.2 ∈ idsAt T (p ++ [k]) := fun x => by
                rw [ids_some hc, hWJ, List.mem_map]
                constructor
                · rintro ⟨z, hz, rfl⟩; exact ⟨rfl, hz⟩
                · rintro ⟨h1, h2⟩; exact ⟨x.2, h2, by rw [← h1]⟩
              refine List.nodup_append.2 ⟨List.nodup_append.2 ⟨HML.out.1, hids, fun a ha b hb e => ?_⟩, HM3.out.1, fun a ha b hb e => ?_⟩
              · subst e
                exact psK_apart HH.out p left hlk ((HML.out.2 a).1 ha) (.inl ((hmi a).1 hb))
              · subst e
                rcases List.mem_append.1 ha with h1 | h1
                · exact psK_apart HH.out p left hlk ((HML.out.2 a).1 h1) (.inr ((HM3.out.2 a).1 hb))
                · exact psAt_apart HH.out (p ++ [k]) ((hmi a).1 h1) ((HM3.out.2 a).1 hb)
            · intro x
              rw [psK_step, List.mem_append, List.mem_append, HML.out.2, HM3.out.2, ids_some hc, hWJ, List.mem_map, or_assoc]
              refine or_congr Iff.rfl (or_congr ⟨?_, ?_⟩ Iff.rfl)
              · rintro ⟨z, hz, rfl⟩; exact ⟨rfl, hz⟩
              · rintro ⟨h1, h2⟩; exact ⟨x.2, h2, by rw [← h1]⟩
            · rw [hR5.left_eq, hML.out]
              exact hlt
end Go.Proofs.YtcicnbbnkeellaaGreatDoor
