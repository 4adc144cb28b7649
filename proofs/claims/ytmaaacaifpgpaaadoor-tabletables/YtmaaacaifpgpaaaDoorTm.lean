
/- What the document's Table and the program's table make of bytes, as functions, and that they make the same. Conditions: those that each row states. -/
import Derived.Test.YtmaaacaifpgpaaaDoorTl
namespace Go.Proofs.YtmaaacaifpgpaaaDoor
open Go.RowKit Go.Lib
set_option maxRecDepth 100000

def lessP (p x : Pr) : Bool := Op.bytesLess p.name.toList x.name.toList
/-- A property laid ahead of the first one with a greater name. -/
def insP (p : Pr) : List Pr → List Pr
  | [] => [p]
  | x :: L => if lessP p x = true then p :: x :: L else x :: insP p L
def stepI (p : Pr) (m : List Pr × Bool) (x : Pr) : List Pr × Bool := if m.2 = false ∧ lessP p x = true then (m.1 ++ [p] ++ [x], true) else (m.1 ++ [x], m.2)
def finI (p : Pr) (m : List Pr × Bool) : List Pr := if m.2 = true then m.1 else m.1 ++ [p]
def insT (p : Pr) (L : List Pr) : List Pr × Bool := L.foldl (stepI p) ([], false)
def hasN (L : List Pr) (n : ByteArray) : Bool := L.any fun x => x.name.toList == n.toList
theorem insT_snoc (p : Pr) (L : List Pr) (k : Nat) (h : k < L.length) : insT p (L.take (k + 1)) = stepI p (insT p (L.take k)) L[k] := by
  unfold insT
  rw [List.take_succ_eq_append_getElem h, List.foldl_append]
  rfl
theorem hasN_snoc (n : ByteArray) (L : List Pr) (k : Nat) (h : k < L.length) : hasN (L.take (k + 1)) n = (hasN (L.take k) n || L[k].name.toList == n.toList) := by
  unfold hasN
  rw [List.take_succ_eq_append_getElem h, List.any_append]
  simp
theorem foldl_true (p : Pr) : ∀ (L m : List Pr), L.foldl (stepI p) (m, true) = (m ++ L, true)
  | [], m => by simp
  | x :: L, m => by
    have e : stepI p (m, true) x = (m ++ [x], true) := by unfold stepI; simp
    rw [List.foldl_cons, e, foldl_true p L]
    simp
theorem foldl_fin (p : Pr) : ∀ (L m : List Pr), finI p (L.foldl (stepI p) (m, false)) = m ++ insP p L
  | [], m => by simp [finI, insP]
  | x :: L, m => by
    rw [List.foldl_cons]
    by_cases h : lessP p x = true
    · have e : stepI p (m, false) x = (m ++ [p] ++ [x], true) := by unfold stepI; simp [h]
      rw [e, foldl_true]
      simp [finI, insP, h]
    · have e : stepI p (m, false) x = (m ++ [x], false) := by unfold stepI; simp [h]
      rw [e, foldl_fin p L]
      simp [insP, h]
theorem fin_insT (p : Pr) (L : List Pr) : finI p (insT p L) = insP p L := by
  have := foldl_fin p L []
  simpa [insT] using this
theorem insP_perm (p : Pr) : ∀ L : List Pr, (insP p L).Perm (p :: L)
  | [] => List.Perm.refl _
  | x :: L => by
    unfold insP
    split
    · exact List.Perm.refl _
    · exact ((insP_perm p L).cons x).trans (List.Perm.swap p x L)
theorem insP_len (p : Pr) (L : List Pr) : (insP p L).length = L.length + 1 := by rw [(insP_perm p L).length_eq]; rfl
theorem insT_len (p : Pr) (L : List Pr) : ∀ k, k ≤ L.length → (insT p (L.take k)).1.length ≤ 2 * k
  | 0, _ => by simp [insT]
  | k + 1, h => by
    have ih := insT_len p L k (by omega)
    rw [insT_snoc p L k (by omega)]
    unfold stepI
    split
    · simp; omega
    · simp; omega
theorem hasN_iff {L : List Pr} {n : ByteArray} : hasN L n = true ↔ ∃ x ∈ L, x.name.toList = n.toList := by
  simp [hasN]
theorem insP_rise (p : Pr) : ∀ L : List Pr, L.Pairwise ltP → hasN L p.name = false → (insP p L).Pairwise ltP
  | [], _, _ => by simp [insP]
  | x :: L, h, hn => by
    have h2 := List.pairwise_cons.1 h
    have hx : ¬ (x.name.toList = p.name.toList) := fun e => by
      have : hasN (x :: L) p.name = true := hasN_iff.2 ⟨x, by simp, e⟩
      rw [hn] at this
      cases this
    have hn2 : hasN L p.name = false := by
      simp only [hasN, List.any_cons, Bool.or_eq_false_iff] at hn ⊢
      exact hn.2
    unfold insP
    split
    · rename_i hl
      refine List.Pairwise.cons (fun y hy => ?_) h
      rcases List.mem_cons.1 hy with rfl | hy
      · exact hl
      · exact ltP_trans (a := p) (b := x) hl (h2.1 y hy)
    · rename_i hl
      refine List.Pairwise.cons (fun y hy => ?_) (insP_rise p L h2.2 hn2)
      rcases List.mem_cons.1 ((insP_perm p L).mem_iff.1 hy) with rfl | hy
      · unfold ltP
        cases e : Op.bytesLess x.name.toList y.name.toList with
        | true => rfl
        | false => exact absurd (bl_tri _ _ e (by simpa [lessP] using hl)) hx
      · exact h2.1 y hy

/-- A field that the document's Reader takes. -/
def fldR (st : Rs) : Pr × Rs := (⟨⟨(shortR st).1.toArray⟩, (vaR (shortR st).2).1⟩, (vaR (shortR st).2).2)
/-- What the document's Table makes of its fields: the properties, and whether something wasn't there. -/
def tabR : Nat → Rs → List Pr → List Pr × Bool
  | 0, st, L => (L, st.2)
  | k + 1, st, L =>
    if st.1 = [] ∨ st.2 = true then (L, st.2)
    else if (fldR st).2.2 = true ∨ hasN L (fldR st).1.name = true then (L, true)
    else if 16 < L.length then (L, false)
    else tabR k (fldR st).2 (insP (fldR st).1 L)
def okO (r : List Pr × Bool) : Bool := !r.2 && validL r.1
/-- A table's properties. -/
def tabO (t : List UInt8) : Option (List Pr) := if okO (tabR t.length (t, false) []) = true then some (tabR t.length (t, false) []).1 else none
def rtab (st : Rs) : List Pr × Rs := match tabO (longR st).1 with
  | none => ([], ((longR st).2.1, true))
  | some L => (L, (longR st).2)
def ctab (s : List UInt8) : Option (List Pr × List UInt8) :=
  if s.length < 4 then none else match cutP (s.drop 4) (numL (s.take 4)) with
  | none => none
  | some (t, r) => (tabO t).map fun L => (L, r)
/-- The program's fields, as they come. -/
def fldC : Nat → List UInt8 → List Pr → Option (List Pr)
  | 0, _, acc => some acc
  | k + 1, s, acc => if s = [] then some acc else if 16 ≤ acc.length then none else match cfield s with
    | none => none
    | some (p, r) => fldC k r (acc ++ [p])

theorem takeR_bad (s : List UInt8) (n : Nat) : takeR (s, true) n = ([], (s, true)) := by unfold takeR; simp
theorem takeR_no {s : List UInt8} {n : Nat} (h : s.length < n) : takeR (s, false) n = ([], (s, true)) := by unfold takeR; rw [if_pos (.inr h)]
theorem takeR_yes {s : List UInt8} {n : Nat} (h : n ≤ s.length) : takeR (s, false) n = (s.take n, (s.drop n, false)) := by unfold takeR; rw [if_neg (by simp; omega)]
theorem numR_bad (s : List UInt8) (k : Nat) : numR (s, true) k = (0, (s, true)) := by unfold numR; rw [takeR_bad]; rfl
theorem numR_no {s : List UInt8} {k : Nat} (h : s.length < k) : numR (s, false) k = (0, (s, true)) := by unfold numR; rw [takeR_no h]; rfl
theorem numR_yes {s : List UInt8} {k : Nat} (h : k ≤ s.length) : numR (s, false) k = (numL (s.take k), (s.drop k, false)) := by unfold numR; rw [takeR_yes h]
theorem vaR_bad (s : List UInt8) : (vaR (s, true)).2.2 = true := by
  unfold vaR
  simp [takeR_bad]
theorem longR_bad (s : List UInt8) : longR (s, true) = ([], (s, true)) := by unfold longR; rw [numR_bad]; exact takeR_bad s 0
theorem short_rel (s : List UInt8) : (∀ t r, cshort s = some (t, r) → shortR (s, false) = (t, (r, false))) ∧ (cshort s = none → (shortR (s, false)).2.2 = true) := by
  unfold cshort shortR
  by_cases h : s.length < 1
  · rw [if_pos h, numR_no h]
    exact ⟨fun t r e => (nomatch e), fun _ => by rw [takeR_bad]⟩
  · rw [if_neg h, numR_yes (by omega)]
    unfold cutP
    by_cases h2 : numL (s.take 1) ≤ (s.drop 1).length
    · rw [if_pos h2]
      exact ⟨fun t r e => by (injection e with e; rw [takeR_yes h2]; injection e with e1 e2; rw [e1, e2]), fun e => (nomatch e)⟩
    · rw [if_neg h2]
      exact ⟨fun t r e => (nomatch e), fun _ => by rw [takeR_no (by omega)]⟩
theorem long_rel (s : List UInt8) (most : Nat) : (∀ t r, clong s most = some (t, r) → longR (s, false) = (t, (r, false))) ∧ (clong s most = none → (longR (s, false)).2.2 = true ∨ most < (longR (s, false)).1.length) := by
  unfold clong longR
  by_cases h : s.length < 4
  · rw [if_pos h, numR_no h]
    exact ⟨fun t r e => (nomatch e), fun _ => .inl (by rw [takeR_bad])⟩
  · rw [if_neg h, numR_yes (by omega)]
    unfold cutP
    by_cases hm : most < numL (s.take 4)
    · rw [if_pos hm]
      refine ⟨fun t r e => (nomatch e), fun _ => ?_⟩
      by_cases h2 : numL (s.take 4) ≤ (s.drop 4).length
      · rw [takeR_yes h2]
        exact .inr (by rw [List.length_take]; omega)
      · exact .inl (by rw [takeR_no (by omega)])
    · rw [if_neg hm]
      by_cases h2 : numL (s.take 4) ≤ (s.drop 4).length
      · rw [if_pos h2]
        exact ⟨fun t r e => by (injection e with e; rw [takeR_yes h2]; injection e with e1 e2; rw [e1, e2]), fun e => (nomatch e)⟩
      · rw [if_neg h2]
        exact ⟨fun t r e => (nomatch e), fun _ => .inl (by rw [takeR_no (by omega)])⟩
theorem cn_rel (r : List UInt8) (k : Nat) (f : Nat → Val) : (∀ v x, cn r k f = some (v, x) → f (numR (r, false) k).1 = v ∧ (numR (r, false) k).2 = (x, false)) ∧ (cn r k f = none → (numR (r, false) k).2.2 = true) := by
  unfold cn
  by_cases h : r.length < k
  · rw [if_pos h, numR_no h]
    exact ⟨fun _ _ e => (nomatch e), fun _ => rfl⟩
  · rw [if_neg h, numR_yes (by omega)]
    refine ⟨fun v x e => ?_, fun e => (nomatch e)⟩
    injection e with e
    injection e with e1 e2
    rw [e1, e2]
    exact ⟨rfl, rfl⟩
theorem num_one (c : UInt8) (s : List UInt8) (n : Nat) (hn : n < 256) : numL ((c :: s).take 1) = n ↔ [c] = [UInt8.ofNat n] := by
  have e : numL ((c :: s).take 1) = c.toNat := by simp [numL]
  rw [e]
  constructor
  · intro h
    rw [← h]
    simp
  · intro h
    injection h with h
    rw [h]
    simpa using hn
theorem val_rel (s : List UInt8) : (∀ v r, cval s = some (v, r) → vaR (s, false) = (v, (r, false))) ∧ (cval s = none → (vaR (s, false)).2.2 = true ∨ goodV (vaR (s, false)).1 = false) := by
  match s with
  | [] =>
    refine ⟨fun _ _ e => (nomatch e), fun _ => .inl ?_⟩
    unfold vaR
    simp [takeR]
  | c :: s =>
    have ht : takeR (c :: s, false) 1 = ([c], (s, false)) := by rw [takeR_yes (by simp)]; rfl
    unfold cval vaR
    rw [ht]
    rw [if_neg (by simp)]
    simp only [num_one c s _ (by decide : 116 < 256), num_one c s _ (by decide : 98 < 256), num_one c s _ (by decide : 115 < 256), num_one c s _ (by decide : 73 < 256), num_one c s _ (by decide : 108 < 256), num_one c s _ (by decide : 102 < 256), num_one c s _ (by decide : 100 < 256), num_one c s _ (by decide : 83 < 256)]
    simp only [List.drop_succ_cons, List.drop_zero]
    have key : ∀ (k : Nat) (f : Nat → Val) (o : Option (Val × List UInt8)) (q : Val × Rs), o = cn s k f → q = (f (numR (s, false) k).1, (numR (s, false) k).2) → (∀ v r, o = some (v, r) → q = (v, (r, false))) ∧ (o = none → q.2.2 = true ∨ goodV q.1 = false) := by
      intro k f o q ho hq
      subst ho hq
      have h := cn_rel s k f
      exact ⟨fun v r e => by have := h.1 v r e; rw [this.1, this.2], fun e => .inl (h.2 e)⟩
    by_cases h1 : [c] = [UInt8.ofNat 116]
    · rw [if_pos h1, if_pos (show [c] = [116] from h1)]
      exact key _ _ _ _ rfl rfl
    rw [if_neg h1, if_neg (show ¬ [c] = [116] from h1)]
    by_cases h1 : [c] = [UInt8.ofNat 98]
    · rw [if_pos h1, if_pos (show [c] = [98] from h1)]
      exact key _ _ _ _ rfl rfl
    rw [if_neg h1, if_neg (show ¬ [c] = [98] from h1)]
    by_cases h1 : [c] = [UInt8.ofNat 115]
    · rw [if_pos h1, if_pos (show [c] = [115] from h1)]
      exact key _ _ _ _ rfl rfl
    rw [if_neg h1, if_neg (show ¬ [c] = [115] from h1)]
    by_cases h1 : [c] = [UInt8.ofNat 73]
    · rw [if_pos h1, if_pos (show [c] = [73] from h1)]
      exact key _ _ _ _ rfl rfl
    rw [if_neg h1, if_neg (show ¬ [c] = [73] from h1)]
    by_cases h1 : [c] = [UInt8.ofNat 108]
    · rw [if_pos h1, if_pos (show [c] = [108] from h1)]
      exact key _ _ _ _ rfl rfl
    rw [if_neg h1, if_neg (show ¬ [c] = [108] from h1)]
    by_cases h1 : [c] = [UInt8.ofNat 102]
    · rw [if_pos h1, if_pos (show [c] = [102] from h1)]
      exact key _ _ _ _ rfl rfl
    rw [if_neg h1, if_neg (show ¬ [c] = [102] from h1)]
    by_cases h1 : [c] = [UInt8.ofNat 100]
    · rw [if_pos h1, if_pos (show [c] = [100] from h1)]
      exact key _ _ _ _ rfl rfl
    rw [if_neg h1, if_neg (show ¬ [c] = [100] from h1)]
    by_cases h1 : [c] = [UInt8.ofNat 83]
    · rw [if_pos h1, if_pos (show [c] = [83] from h1)]
      have h := long_rel s 256
      refine ⟨fun v r e => ?_, fun e => ?_⟩
      · cases hc : clong s 256 with
        | none => rw [hc] at e; cases e
        | some x =>
          obtain ⟨t, r'⟩ := x
          rw [hc] at e
          rw [h.1 t r' hc]
          injection e with e
          injection e with e1 e2
          rw [← e1, ← e2]
      · cases hc : clong s 256 with
        | some x => rw [hc] at e; cases e
        | none =>
          rcases h.2 hc with h2 | h2
          · exact .inl h2
          · right
            unfold goodV
            simp only [Int.reduceEq, if_false, if_true, Bool.and_eq_false_iff, decide_eq_false_iff_not]
            left
            rw [size_data]
            simp
            omega
    rw [if_neg h1, if_neg (show ¬ [c] = [83] from h1)]
    exact ⟨fun _ _ e => (nomatch e), fun _ => .inl rfl⟩
theorem fld_rel (s : List UInt8) : (∀ p r, cfield s = some (p, r) → fldR (s, false) = (p, (r, false))) ∧ (cfield s = none → (fldR (s, false)).2.2 = true ∨ canB (fldR (s, false)).1 = false) := by
  have hS := short_rel s
  unfold cfield fldR
  cases hc : cshort s with
  | none =>
    refine ⟨fun _ _ e => (nomatch e), fun _ => .inl ?_⟩
    have h := hS.2 hc
    generalize (shortR (s, false)).2 = st at *
    obtain ⟨x, b⟩ := st
    have hb : b = true := h
    subst hb
    exact vaR_bad x
  | some x =>
    obtain ⟨t, r⟩ := x
    rw [hS.1 t r hc]
    have hV := val_rel r
    refine ⟨fun p r' e => ?_, fun e => ?_⟩
    · cases hv : cval r with
      | none => simp [hv] at e
      | some y =>
        obtain ⟨v, r2⟩ := y
        simp only [hv, Option.map_some] at e
        rw [hV.1 v r2 hv]
        injection e with e
        injection e with e1 e2
        rw [← e1, ← e2]
    · cases hv : cval r with
      | some y => simp [hv] at e
      | none =>
        rcases hV.2 hv with h | h
        · exact .inl h
        · right
          unfold canB
          rw [h, Bool.and_false]
theorem vaR_left (st : Rs) : (vaR st).2.1.length ≤ st.1.length := by
  unfold vaR
  have h1 := takeR_left st 1
  have hn : ∀ k, (numR (takeR st 1).2 k).2.1.length ≤ st.1.length := fun k => Nat.le_trans (takeR_left (takeR st 1).2 k) h1
  have hl : (longR (takeR st 1).2).2.1.length ≤ st.1.length := Nat.le_trans (takeR_left (numR (takeR st 1).2 4).2 _) (hn 4)
  simp only
  split
  · exact hn 1
  · split
    · exact hn 1
    · split
      · exact hn 2
      · split
        · exact hn 4
        · split
          · exact hn 8
          · split
            · exact hn 4
            · split
              · exact hn 8
              · split
                · exact hl
                · exact h1
theorem fldR_left {s : List UInt8} (hs : s ≠ []) : (fldR (s, false)).2.1.length < s.length := by
  unfold fldR
  have h1 := vaR_left (shortR (s, false)).2
  have h2 : (shortR (s, false)).2.1.length < s.length := by
    have hl : 0 < s.length := by cases s <;> simp at *
    unfold shortR
    rw [numR_yes (by omega)]
    have := takeR_left (s.drop 1, false) (numL (s.take 1))
    simp only [List.length_drop] at this
    simp only
    omega
  exact Nat.lt_of_le_of_lt h1 h2
theorem vaR_real (st : Rs) : (vaR st).1.real < 2 ^ 64 := by
  unfold vaR
  have h8 : (numR (takeR st 1).2 8).1 < 2 ^ 64 := Nat.lt_of_lt_of_le (numR_lt _ 8) (by decide)
  simp only
  repeat' split
  all_goals first
    | exact canonB_lt h8
    | exact widB_lt _
    | exact (by decide : (0 : Nat) < 2 ^ 64)
theorem fldR_fits (st : Rs) : Fits (fldR st).1 := by
  refine ⟨?_, vaR_real _⟩
  have h1 : (shortR st).1.length ≤ (numR st 1).1 := takeR_len _ _
  have h2 : (numR st 1).1 < 256 := Nat.lt_of_lt_of_le (numR_lt _ 1) (by decide)
  show (⟨(shortR st).1.toArray⟩ : ByteArray).size ≤ _
  rw [List.size_toByteArray_arr]
  omega

theorem tab_long : ∀ (k : Nat) (st : Rs) (L : List Pr), L.length ≤ (tabR k st L).1.length
  | 0, _, _ => Nat.le_refl _
  | k + 1, st, L => by
    unfold tabR
    split
    · exact Nat.le_refl _
    · split
      · exact Nat.le_refl _
      · split
        · exact Nat.le_refl _
        · have := tab_long k (fldR st).2 (insP (fldR st).1 L)
          rw [insP_len] at this
          omega
theorem tab_mem (x : Pr) : ∀ (k : Nat) (st : Rs) (L : List Pr), x ∈ L → x ∈ (tabR k st L).1
  | 0, _, _, h => h
  | k + 1, st, L, h => by
    unfold tabR
    split
    · exact h
    · split
      · exact h
      · split
        · exact h
        · exact tab_mem x k _ _ ((insP_perm _ L).mem_iff.2 (List.mem_cons_of_mem _ h))
theorem okO_true {r : List Pr × Bool} (h : okO r = true) : r.2 = false ∧ validL r.1 = true := by
  unfold okO at h
  simpa using h
theorem no_okO {r : List Pr × Bool} (h : r.2 = true ∨ validL r.1 = false) : okO r = false := by
  unfold okO
  rcases h with h | h <;> simp [h]
theorem fldC_pre : ∀ (k : Nat) (s : List UInt8) (acc A : List Pr), fldC k s acc = some A → ∃ T, A = acc ++ T
  | 0, _, acc, A, h => by injection h with h; exact ⟨[], by simp [h]⟩
  | k + 1, s, acc, A, h => by
    unfold fldC at h
    split at h
    · injection h with h; exact ⟨[], by simp [h]⟩
    · split at h
      · cases h
      · cases hc : cfield s with
        | none => simp [hc] at h
        | some x =>
          obtain ⟨p, r⟩ := x
          simp only [hc] at h
          obtain ⟨T, rfl⟩ := fldC_pre k r (acc ++ [p]) A h
          exact ⟨p :: T, by simp⟩
def neN (a b : Pr) : Prop := a.name.toList ≠ b.name.toList
theorem ne_of_lt {a b : Pr} (h : ltP a b) : neN a b := fun e => by
  unfold ltP at h
  rw [e, bl_irrefl] at h
  cases h
theorem eq_of_name : ∀ {L : List Pr}, L.Pairwise ltP → ∀ {a b : Pr}, a ∈ L → b ∈ L → a.name.toList = b.name.toList → a = b
  | [], _, _, _, h, _, _ => nomatch h
  | x :: L, hr, a, b, ha, hb, e => by
    have h2 := List.pairwise_cons.1 hr
    rcases List.mem_cons.1 ha with h3 | h3
    · rcases List.mem_cons.1 hb with h4 | h4
      · rw [h3, h4]
      · rw [h3] at e
        exact absurd e (ne_of_lt (h2.1 b h4))
    · rcases List.mem_cons.1 hb with h4 | h4
      · rw [h4] at e
        exact absurd e.symm (ne_of_lt (h2.1 a h3))
      · exact eq_of_name h2.2 h3 h4 e
theorem cfield_left {s r : List UInt8} {p : Pr} (hs : s ≠ []) (h : cfield s = some (p, r)) : r.length < s.length := by
  have := fldR_left hs
  rw [(fld_rel s).1 p r h] at this
  exact this
/-- Sorted in whatever way, the program's fields are the document's properties, or neither can be. -/
theorem tab_same : ∀ (k : Nat) (s : List UInt8) (acc L : List Pr), s.length ≤ k → L.Perm acc → L.Pairwise ltP → acc.length ≤ 16 →
    (fldC k s acc = none → okO (tabR k (s, false) L) = false) ∧ (∀ A M, fldC k s acc = some A → M.Perm A → M.Pairwise (fun x y => lessP y x = false) →
      (validL M = true → tabR k (s, false) L = (M, false)) ∧ (validL M = false → okO (tabR k (s, false) L) = false))
  | 0, s, acc, L, hk, hp, hr, h16 => by
    refine ⟨fun e => (nomatch e), fun A M e hM hs => ?_⟩
    injection e with e
    subst e
    have hML : M = L := List.Perm.eq_of_pairwise (le := fun x y => lessP y x = false) (fun a b ha hb h1 h2 => eq_of_name hr (hp.mem_iff.2 (hM.mem_iff.1 ha)) hb (bl_tri _ _ h2 h1)) hs (hr.imp fun h => bl_asymm _ _ h) (hM.trans hp.symm)
    subst hML
    exact ⟨fun _ => rfl, fun h => no_okO (.inr h)⟩
  | k + 1, s, acc, L, hk, hp, hr, h16 => by
    unfold fldC tabR
    by_cases hs : s = []
    · rw [if_pos hs, if_pos (.inl hs)]
      refine ⟨fun e => (nomatch e), fun A M e hM hs => ?_⟩
      injection e with e
      subst e
      have hML : M = L := List.Perm.eq_of_pairwise (le := fun x y => lessP y x = false) (fun a b ha hb h1 h2 => eq_of_name hr (hp.mem_iff.2 (hM.mem_iff.1 ha)) hb (bl_tri _ _ h2 h1)) hs (hr.imp fun h => bl_asymm _ _ h) (hM.trans hp.symm)
      subst hML
      exact ⟨fun _ => rfl, fun h => no_okO (.inr h)⟩
    rw [if_neg hs, if_neg (c := (s, false).1 = [] ∨ (s, false).2 = true) (by simp [hs])]
    have hl := hp.length_eq
    have hF := fld_rel s
    by_cases h15 : 16 ≤ acc.length
    · rw [if_pos h15]
      refine ⟨fun _ => ?_, fun A M e => (nomatch e)⟩
      split
      · exact no_okO (.inl rfl)
      · rw [if_neg (by omega)]
        have h1 := tab_long k (fldR (s, false)).2 (insP (fldR (s, false)).1 L)
        rw [insP_len] at h1
        exact no_okO (.inr (no_many (by omega)))
    rw [if_neg h15]
    cases hc : cfield s with
    | none =>
      refine ⟨fun _ => ?_, fun A M e => (nomatch e)⟩
      split
      · exact no_okO (.inl rfl)
      · rename_i hno
        rw [if_neg (by omega)]
        rcases hF.2 hc with h | h
        · exact absurd (.inl h) hno
        · refine no_okO (.inr ?_)
          cases e : validL (tabR k (fldR (s, false)).2 (insP (fldR (s, false)).1 L)).1 with
          | false => rfl
          | true =>
            have := (valid_parts e).2.1 _ (tab_mem (fldR (s, false)).1 k _ _ ((insP_perm _ L).mem_iff.2 (List.mem_cons_self ..)))
            rw [h] at this
            cases this
    | some x =>
      obtain ⟨p, r⟩ := x
      rw [hF.1 p r hc]
      have hr' := cfield_left hs hc
      by_cases hn : hasN L p.name = true
      · rw [if_pos (.inr hn)]
        refine ⟨fun _ => no_okO (.inl rfl), fun A M e hM _ => ⟨fun hv => ?_, fun _ => no_okO (.inl rfl)⟩⟩
        exfalso
        obtain ⟨T, hT⟩ := fldC_pre k r (acc ++ [p]) A e
        obtain ⟨x, hx, hxn⟩ := hasN_iff.1 hn
        have h1 : M.Pairwise neN := (pairs_of M (valid_parts hv).2.2).imp fun h => ne_of_lt h
        have h2 : A.Pairwise neN := (hM.pairwise_iff (R := neN) (fun h => Ne.symm h)).1 h1
        rw [hT, List.append_assoc, List.pairwise_append] at h2
        exact h2.2.2 x (hp.mem_iff.1 hx) p (by simp) hxn
      · rw [if_neg (by simp [hn]), if_neg (by omega)]
        have hn' : hasN L p.name = false := by simpa using hn
        exact tab_same k r (acc ++ [p]) (insP p L) (by omega) ((insP_perm p L).trans ((hp.cons p).trans (List.perm_append_comm (l₁ := [p])))) (insP_rise p L hr hn') (by simp; omega)
end Go.Proofs.YtmaaacaifpgpaaaDoor
