/- What is put into a table, and into a header, is read as it. Conditions: those that each row states. -/
import Derived.Test.YtlkinkbdhoejiaaLh
import Derived.Test.YtlkinkbdhoejiaaMc
namespace Go.Proofs.Ytlkinkbdhoejiaa
open Go.RowKit Go.Lib Ieee
set_option maxRecDepth 100000

/-- A property whose number and float are such as can be handed in. -/
def Nums (q : Pr) : Prop := (-9223372036854775808 ≤ q.val.num ∧ q.val.num ≤ 9223372036854775807) ∧ q.val.real < 2 ^ 64
theorem numR_be (k n : Nat) (r : List UInt8) (hn : n < 256 ^ k) : numR (beN k n ++ r, false) k = (n, (r, false)) := by
  rw [numR_yes (by rw [List.length_append, beN_len]; omega)]
  have e1 : (beN k n ++ r).take k = beN k n := by
    rw [List.take_append_of_le_length (by rw [beN_len]; omega)]
    exact List.take_of_length_le (by rw [beN_len]; omega)
  have e2 : (beN k n ++ r).drop k = r := by
    rw [List.drop_append_of_le_length (by rw [beN_len]; omega), List.drop_of_length_le (by rw [beN_len]; omega)]
    rfl
  rw [e1, e2, numL_be k n hn]
theorem takeR_app (t r : List UInt8) : takeR (t ++ r, false) t.length = (t, (r, false)) := by
  rw [takeR_yes (by rw [List.length_append]; omega)]
  rw [List.take_left, List.drop_left]
theorem shortR_put (t r : List UInt8) (h : t.length < 256) : shortR (shortL t ++ r, false) = (t, (r, false)) := by
  unfold shortR shortL
  rw [List.append_assoc, numR_be 1 t.length (t ++ r) (by simpa using h)]
  exact takeR_app t r
theorem longR_put (t r : List UInt8) (h : t.length < 4294967296) : longR (longL t ++ r, false) = (t, (r, false)) := by
  unfold longR longL
  rw [List.append_assoc, numR_be 4 t.length (t ++ r) (by simpa using h)]
  exact takeR_app t r
theorem take_cons (c : UInt8) (r : List UInt8) : takeR (c :: r, false) 1 = ([c], (r, false)) := by
  rw [takeR_yes (by simp)]
  rfl
theorem sgn_u64 (z : Int) (h1 : -9223372036854775808 ≤ z) (h2 : z ≤ 9223372036854775807) : sgnZ (u64L z) 64 = z := by
  unfold sgnZ
  rw [if_neg (fun hh => absurd hh.1 (by decide)), IntKind.wrap_i64]
  unfold u64L
  omega
theorem u64L_lt (z : Int) : u64L z < 256 ^ 8 := by
  unfold u64L
  have : z % 18446744073709551616 < 18446744073709551616 := Int.emod_lt_of_pos _ (by decide)
  have h0 : 0 ≤ z % 18446744073709551616 := Int.emod_nonneg _ (by decide)
  have e : (256 : Nat) ^ 8 = 18446744073709551616 := by decide
  omega
theorem flt_put (r : Nat) (x : List UInt8) (hr : r < 2 ^ 64) (hc : canonB r = r) : vaR (fltL r ++ x, false) = (⟨4, 0, ⟨#[]⟩, r⟩, (x, false)) := by
  unfold fltL
  by_cases hn : (narB r).2 = true
  · rw [if_pos hn, List.cons_append]
    unfold vaR
    rw [take_cons]
    simp (decide := true) only [List.cons.injEq, if_false, if_true]
    rw [numR_be 4 (narB r).1 x (by have := narB_lt r hr; simpa using this)]
    have hw : widB (narB r).1 = r := by
      unfold narB at hn ⊢
      by_cases hN : isN double r
      · rw [if_pos hN]
        unfold canonB at hc
        rw [if_pos hN] at hc
        rw [← hc]
        decide +kernel
      · rw [if_neg hN] at hn ⊢
        cases hg : nar r with
        | none => rw [hg] at hn; cases hn
        | some g =>
          obtain ⟨h1, h2, _⟩ := nar_some_wide hr hg
          simp only
          unfold widB
          rw [if_neg h2, h1]
    rw [hw]
  · rw [if_neg hn, List.cons_append]
    unfold vaR
    rw [take_cons]
    simp (decide := true) only [List.cons.injEq, if_false, if_true]
    rw [numR_be 8 r x (Nat.lt_of_lt_of_le hr (by decide)), hc]
theorem val_put (v : Val) (x : List UInt8) (hg : goodV v = true) (hn : -9223372036854775808 ≤ v.num ∧ v.num ≤ 9223372036854775807) (hr : v.real < 2 ^ 64) : vaR (valT v ++ x, false) = (v, (x, false)) := by
  unfold goodV at hg
  unfold valT
  by_cases h1 : v.kind = 1
  · rw [if_pos h1, sameV_eq] at hg
    have hv : v = ⟨1, v.num, ⟨#[]⟩, 0⟩ := hg
    rw [if_neg (by omega), if_neg (by omega), if_neg (by omega), List.cons_append]
    unfold vaR
    rw [take_cons]
    simp (decide := true) only [List.cons.injEq, if_false, if_true]
    rw [numR_be 8 (u64L v.num) x (u64L_lt _), sgn_u64 _ hn.1 hn.2, ← hv]
  rw [if_neg h1] at hg
  by_cases h2 : v.kind = 2
  · rw [if_pos h2, Bool.and_eq_true, sameV_eq] at hg
    have hv : v = ⟨2, v.num, ⟨#[]⟩, 0⟩ := hg.2
    have hb : v.num = 0 ∨ v.num = 1 := by simpa using hg.1
    rw [if_pos h2, List.cons_append]
    unfold vaR
    rw [take_cons]
    simp only [if_true]
    have hu : u64L v.num < 256 ^ 1 := by
      unfold u64L
      rcases hb with h | h <;> rw [h] <;> decide
    rw [numR_be 1 (u64L v.num) x hu]
    have e : ((u64L v.num : Nat) : Int) = v.num := by
      unfold u64L
      rcases hb with h | h <;> rw [h] <;> decide
    rw [e, ← hv]
  rw [if_neg h2] at hg
  by_cases h3 : v.kind = 3
  · rw [if_pos h3, Bool.and_eq_true, sameV_eq] at hg
    have hv : v = ⟨3, 0, v.text, 0⟩ := hg.2
    have hl : v.text.data.toList.length ≤ 256 := by
      have := hg.1
      simp only [decide_eq_true_eq] at this
      rw [size_data] at this
      omega
    rw [if_neg h2, if_pos h3, List.cons_append]
    unfold vaR
    rw [take_cons]
    simp (decide := true) only [List.cons.injEq, if_false, if_true]
    rw [longR_put _ x (by omega)]
    have e : (⟨v.text.data.toList.toArray⟩ : ByteArray) = v.text := by simp
    rw [e, ← hv]
  rw [if_neg h3] at hg
  by_cases h4 : v.kind = 4
  · rw [if_pos h4, sameV_eq] at hg
    have hv : v = ⟨4, 0, ⟨#[]⟩, canonB v.real⟩ := hg
    have hc : canonB v.real = v.real := (congrArg Val.real hv).symm
    rw [if_neg h2, if_neg h3, if_pos h4, flt_put v.real x hr hc]
    rw [hc] at hv
    rw [← hv]
  rw [if_neg h4] at hg
  exact absurd hg (by decide)
theorem fld_put (p : Pr) (x : List UInt8) (hc : canB p = true) (hn : Nums p) : fldR (prT p ++ x, false) = (p, (x, false)) := by
  have hs := sm_of hc hn.2
  unfold canB at hc
  rw [Bool.and_eq_true] at hc
  unfold fldR prT
  rw [List.append_assoc, shortR_put _ _ (by have := hs.nm; omega), val_put p.val x hc.2 hn.1 hn.2]
theorem insP_last (p : Pr) : ∀ L : List Pr, (∀ x ∈ L, ltP x p) → insP p L = L ++ [p]
  | [], _ => rfl
  | x :: L, h => by
    unfold insP
    have hx := h x (List.mem_cons_self ..)
    rw [if_neg (by unfold lessP; rw [bl_asymm _ _ hx]; simp), insP_last p L (fun y hy => h y (List.mem_cons_of_mem _ hy))]
    rfl
theorem tab_put : ∀ (k : Nat) (qs L : List Pr), (flatT qs).length ≤ k → (L ++ qs).Pairwise ltP → (L ++ qs).length ≤ 16 → (∀ q ∈ qs, canB q = true ∧ Nums q) → tabR k (flatT qs, false) L = (L ++ qs, false)
  | k, [], L, _, _, _, _ => by
    rw [List.append_nil]
    exact (tab_nil (R := tabR k (flatT [], false) L) rfl)
  | k, p :: qs, L, hk, hp, hl, hq => by
    have hc := hq p (List.mem_cons_self ..)
    have e : flatT (p :: qs) = prT p ++ flatT qs := by simp [flatT]
    have hne : prT p ++ flatT qs ≠ [] := by
      unfold prT shortL
      intro h
      have := congrArg List.length h
      simp [beN_len] at this
    rw [e] at hk ⊢
    cases k with
    | zero =>
      have : 0 < (prT p ++ flatT qs).length := by
        cases h : prT p ++ flatT qs with
        | nil => exact absurd h hne
        | cons a b => simp
      omega
    | succ k =>
      have hF := fld_put p (flatT qs) hc.1 hc.2
      have hlt : ∀ x ∈ L, ltP x p := fun x hx => (List.pairwise_append.1 hp).2.2 x hx p (List.mem_cons_self ..)
      have hno : hasN L p.name = false := by
        cases h : hasN L p.name with
        | false => rfl
        | true =>
          obtain ⟨x, hx, he⟩ := hasN_iff.1 h
          exact absurd he (ne_of_lt (hlt x hx))
      unfold tabR
      rw [if_neg (by simp [hne]), hF, if_neg (by simp [hno]), if_neg (by simp at hl; omega), insP_last p L hlt]
      have ih := tab_put k qs (L ++ [p]) (by
        have h1 : 0 < (prT p).length := by unfold prT shortL; simp [beN_len]; omega
        rw [List.length_append] at hk
        omega) (by simpa using hp) (by simpa using hl) (fun q h => hq q (List.mem_cons_of_mem _ h))
      rw [ih, List.append_assoc]
      rfl
theorem tabO_put {ps : List Pr} (hv : validL ps = true) (hn : ∀ q ∈ ps, Nums q) : tabO (flatT ps) = some ps := by
  obtain ⟨h16, hc, hri⟩ := valid_parts hv
  have h := tab_put (flatT ps).length ps [] (Nat.le_refl _) (by simpa using pairs_of ps hri) (by simpa using h16) (fun q hq => ⟨hc q hq, hn q hq⟩)
  rw [List.nil_append] at h
  unfold tabO
  rw [h, if_pos (by unfold okO; simp [hv])]
theorem flat_small {ps : List Pr} (hv : validL ps = true) (hn : ∀ q ∈ ps, Nums q) : (flatT ps).length ≤ 5000 := by
  obtain ⟨h16, hs⟩ := sm_all hv (fun q hq => (hn q hq).2)
  have := flatT_len hs
  omega
theorem ctab_put {ps : List Pr} (x : List UInt8) (hv : validL ps = true) (hn : ∀ q ∈ ps, Nums q) : ctab (tabL ps ++ x) = some (ps, x) := by
  have hf := flat_small hv hn
  have e1 : (tabL ps ++ x).take 4 = beN 4 (flatT ps).length := by
    unfold tabL longL
    rw [List.append_assoc, List.take_append_of_le_length (by rw [beN_len]; omega)]
    exact List.take_of_length_le (by rw [beN_len]; omega)
  have e2 : (tabL ps ++ x).drop 4 = flatT ps ++ x := by
    unfold tabL longL
    rw [List.append_assoc, List.drop_append_of_le_length (by rw [beN_len]; omega), List.drop_of_length_le (by rw [beN_len]; omega)]
    rfl
  unfold ctab
  rw [if_neg (by unfold tabL longL; simp [beN_len]), e1, e2, numL_be 4 _ (Nat.lt_of_le_of_lt hf (by decide))]
  unfold cutP
  rw [if_pos (by rw [List.length_append]; omega), List.take_left, List.drop_left]
  simp only
  rw [tabO_put hv hn]
  rfl
theorem head_back (size : Nat) (ps : List Pr) (d : Bool) (hs : size ≤ 1024) (hv : validL ps = true) (hn : ∀ q ∈ ps, Nums q) : readH (headL size ps d) = ((size : Int), ps, d, (0 : Int)) := by
  obtain ⟨fl, tb, hH, hfl, hT⟩ : ∃ fl tb, headL size ps d = fixL size fl ++ (tb ++ [if d then 2 else 1]) ∧ fl < 65536 ∧ restH (tb ++ [if d then 2 else 1]) fl = some (ps, d) := by
    unfold headL
    by_cases hp : ps = []
    · subst hp
      refine ⟨4096, [], by simp, by decide, ?_⟩
      cases d <;> rfl
    · refine ⟨12288, tabL ps, by rw [if_neg hp, List.append_assoc], by decide, ?_⟩
      rw [restH_12, ctab_put _ hv hn]
      cases d <;> rfl
  rw [hH]
  generalize tb ++ [if d then (2 : UInt8) else 1] = r at *
  have hl : (fixL size fl ++ r).length = 14 + r.length := by rw [List.length_append, fixL_len]
  have e4 : (fixL size fl ++ r).take 4 = [0, 60, 0, 0] := by unfold fixL beN byteOf; simp [List.range_succ]
  have e8 : ((fixL size fl ++ r).drop 4).take 8 = beN 8 size := by
    have e : fixL size fl ++ r = (beN 2 60 ++ beN 2 0) ++ (beN 8 size ++ (beN 2 fl ++ r)) := by unfold fixL; simp
    rw [e, List.drop_append_of_le_length (by simp [beN_len]), List.drop_of_length_le (by simp [beN_len]), List.nil_append, List.take_append_of_le_length (by rw [beN_len]; omega)]
    exact List.take_of_length_le (by rw [beN_len]; omega)
  have e2 : ((fixL size fl ++ r).drop 12).take 2 = beN 2 fl := by
    have e : fixL size fl ++ r = (beN 2 60 ++ beN 2 0 ++ beN 8 size) ++ (beN 2 fl ++ r) := by unfold fixL; simp
    rw [e, List.drop_append_of_le_length (by simp [beN_len]), List.drop_of_length_le (by simp [beN_len]), List.nil_append, List.take_append_of_le_length (by rw [beN_len]; omega)]
    exact List.take_of_length_le (by rw [beN_len]; omega)
  have er : (fixL size fl ++ r).drop 14 = r := by
    rw [List.drop_append_of_le_length (by rw [fixL_len]; omega), List.drop_of_length_le (by rw [fixL_len]; omega)]
    rfl
  unfold readH
  rw [e4, e8, e2, er, numL_be 2 fl (by simpa using hfl), hT, numL_be 8 size (Nat.lt_of_le_of_lt hs (by decide))]
  rw [if_neg (by rw [hl]; simp [numL])]
  simp only
  rw [if_neg (by omega)]
end Go.Proofs.Ytlkinkbdhoejiaa
