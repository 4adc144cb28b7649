/- What is put is read as it (pure). A payload tells its method (pure). trivetlaw15.wakes. Conditions: those that each row states. trivetref15.Take. Conditions: those that each row states. trivetlaw15.long. Conditions: those that each row states. trivetlaw15.heavy. Conditions: those that each row states. trivetref15.Same. Conditions: those that each row states. The law of TableTells: it answers true at any two methods. Conditions: those that each row states. trivetlaw15.TableTables. Conditions: those that each row states. How arguments that are properties are opened. How an argument that is a method is opened. -/
import Derived.Test.YtmaaacaifpgpaaaDoorTellsTk
import Derived.Test.YtmaaacaifpgpaaaDoorTellsWr
import Derived.Test.YtmaaacaifpgpaaaDoorPrg
import Derived.BigQuiet
import Derived.Test.YtmaaacaifpgpaaaDoorRows
import Derived.Deep.Slices
import Derived.ProofKit
import Derived.OpenShut
import Derived.ShutString
import Derived.ChangeOld
import Derived.SizedLaws
namespace Go.Proofs.YtmaaacaifpgpaaaDoor
open Go.RowKit Go.Lib Ieee
set_option maxRecDepth 100000
set_option linter.unusedSimpArgs false

def Nums (q : Pr) : Prop := (-9223372036854775808 ≤ q.val.num ∧ q.val.num ≤ 9223372036854775807) ∧ q.val.real < 2 ^ 64
theorem numR_be (k n : Nat) (r : List UInt8) (hn : n < 256 ^ k) : numR (beN k n ++ r, false) k = (n, (r, false)) := by
  rw [numR_yes (by rw [List.length_append, beN_len]; omega)]
  have e1 : (beN k n ++ r).take k = beN k n := by
    rw [List.take_append_of_le_length (by rw [beN_len]; omega)]
    exact List.take_of_length_le (by rw [beN_len]; omega)
  have e2 : (beN k n ++ r).drop k = r := by
    rw [List.drop_append_of_le_length (by rw [beN_len]; omega), List.drop_of_length_le (by rw [beN_len]; omega)]
    rfl
  rw [e1, e2, numL_be k n hn]
theorem takeR_app (t r : List UInt8) : takeR (t ++ r, false) t.length = (t, (r, false)) := by
  rw [takeR_yes (by rw [List.length_append]; omega)]
  rw [List.take_left, List.drop_left]
theorem shortR_put (t r : List UInt8) (h : t.length < 256) : shortR (shortL t ++ r, false) = (t, (r, false)) := by
  unfold shortR shortL
  rw [List.append_assoc, numR_be 1 t.length (t ++ r) (by simpa using h)]
  exact takeR_app t r
theorem longR_put (t r : List UInt8) (h : t.length < 4294967296) : longR (longL t ++ r, false) = (t, (r, false)) := by
  unfold longR longL
  rw [List.append_assoc, numR_be 4 t.length (t ++ r) (by simpa using h)]
  exact takeR_app t r
theorem take_cons (c : UInt8) (r : List UInt8) : takeR (c :: r, false) 1 = ([c], (r, false)) := by
  rw [takeR_yes (by simp)]
  rfl
theorem sgn_u64 (z : Int) (h1 : -9223372036854775808 ≤ z) (h2 : z ≤ 9223372036854775807) : sgnZ (u64L z) 64 = z := by
  unfold sgnZ
  rw [if_neg (fun hh => absurd hh.1 (by decide)), IntKind.wrap_i64]
  unfold u64L
  omega
theorem u64L_lt (z : Int) : u64L z < 256 ^ 8 := by
  unfold u64L
  have : z % 18446744073709551616 < 18446744073709551616 := Int.emod_lt_of_pos _ (by decide)
  have h0 : 0 ≤ z % 18446744073709551616 := Int.emod_nonneg _ (by decide)
  have e : (256 : Nat) ^ 8 = 18446744073709551616 := by decide
  omega
theorem flt_put (r : Nat) (x : List UInt8) (hr : r < 2 ^ 64) (hc : canonB r = r) : vaR (fltL r ++ x, false) = (⟨4, 0, ⟨#[]⟩, r⟩, (x, false)) := by
  unfold fltL
  by_cases hn : (narB r).2 = true
  · rw [if_pos hn, List.cons_append]
    unfold vaR
    rw [take_cons]
    simp (decide := true) only [List.cons.injEq, if_false, if_true]
    rw [numR_be 4 (narB r).1 x (by have := narB_lt r hr; simpa using this)]
    have hw : widB (narB r).1 = r := by
      unfold narB at hn ⊢
      by_cases hN : isN double r
      · rw [if_pos hN]
        unfold canonB at hc
        rw [if_pos hN] at hc
        rw [← hc]
        decide +kernel
      · rw [if_neg hN] at hn ⊢
        cases hg : nar r with
        | none => rw [hg] at hn; cases hn
        | some g =>
          obtain ⟨h1, h2, _⟩ := nar_some_wide hr hg
          simp only
          unfold widB
          rw [if_neg h2, h1]
    rw [hw]
  · rw [if_neg hn, List.cons_append]
    unfold vaR
    rw [take_cons]
    simp (decide := true) only [List.cons.injEq, if_false, if_true]
    rw [numR_be 8 r x (Nat.lt_of_lt_of_le hr (by decide)), hc]
theorem val_put (v : Val) (x : List UInt8) (hg : goodV v = true) (hn : -9223372036854775808 ≤ v.num ∧ v.num ≤ 9223372036854775807) (hr : v.real < 2 ^ 64) : vaR (valT v ++ x, false) = (v, (x, false)) := by
  unfold goodV at hg
  unfold valT
  by_cases h1 : v.kind = 1
  · rw [if_pos h1, sameV_eq] at hg
    have hv : v = ⟨1, v.num, ⟨#[]⟩, 0⟩ := hg
    rw [if_neg (by omega), if_neg (by omega), if_neg (by omega), List.cons_append]
    unfold vaR
    rw [take_cons]
    simp (decide := true) only [List.cons.injEq, if_false, if_true]
    rw [numR_be 8 (u64L v.num) x (u64L_lt _), sgn_u64 _ hn.1 hn.2, ← hv]
  rw [if_neg h1] at hg
  by_cases h2 : v.kind = 2
  · rw [if_pos h2, Bool.and_eq_true, sameV_eq] at hg
    have hv : v = ⟨2, v.num, ⟨#[]⟩, 0⟩ := hg.2
    have hb : v.num = 0 ∨ v.num = 1 := by simpa using hg.1
    rw [if_pos h2, List.cons_append]
    unfold vaR
    rw [take_cons]
    simp only [if_true]
    have hu : u64L v.num < 256 ^ 1 := by
      unfold u64L
      rcases hb with h | h <;> rw [h] <;> decide
    rw [numR_be 1 (u64L v.num) x hu]
    have e : ((u64L v.num : Nat) : Int) = v.num := by
      unfold u64L
      rcases hb with h | h <;> rw [h] <;> decide
    rw [e, ← hv]
  rw [if_neg h2] at hg
  by_cases h3 : v.kind = 3
  · rw [if_pos h3, Bool.and_eq_true, sameV_eq] at hg
    have hv : v = ⟨3, 0, v.text, 0⟩ := hg.2
    have hl : v.text.data.toList.length ≤ 256 := by
      have := hg.1
      simp only [decide_eq_true_eq] at this
      rw [size_data] at this
      omega
    rw [if_neg h2, if_pos h3, List.cons_append]
    unfold vaR
    rw [take_cons]
    simp (decide := true) only [List.cons.injEq, if_false, if_true]
    rw [longR_put _ x (by omega)]
    have e : (⟨v.text.data.toList.toArray⟩ : ByteArray) = v.text := by simp
    rw [e, ← hv]
  rw [if_neg h3] at hg
  by_cases h4 : v.kind = 4
  · rw [if_pos h4, sameV_eq] at hg
    have hv : v = ⟨4, 0, ⟨#[]⟩, canonB v.real⟩ := hg
    have hc : canonB v.real = v.real := (congrArg Val.real hv).symm
    rw [if_neg h2, if_neg h3, if_pos h4, flt_put v.real x hr hc]
    rw [hc] at hv
    rw [← hv]
  rw [if_neg h4] at hg
  exact absurd hg (by decide)
theorem fld_put (p : Pr) (x : List UInt8) (hc : canB p = true) (hn : Nums p) : fldR (prT p ++ x, false) = (p, (x, false)) := by
  have hs := sm_of hc hn.2
  unfold canB at hc
  rw [Bool.and_eq_true] at hc
  unfold fldR prT
  rw [List.append_assoc, shortR_put _ _ (by have := hs.nm; omega), val_put p.val x hc.2 hn.1 hn.2]
theorem insP_last (p : Pr) : ∀ L : List Pr, (∀ x ∈ L, ltP x p) → insP p L = L ++ [p]
  | [], _ => rfl
  | x :: L, h => by
    unfold insP
    have hx := h x (List.mem_cons_self ..)
    rw [if_neg (by unfold lessP; rw [bl_asymm _ _ hx]; simp), insP_last p L (fun y hy => h y (List.mem_cons_of_mem _ hy))]
    rfl
theorem tab_put : ∀ (k : Nat) (qs L : List Pr), (flatT qs).length ≤ k → (L ++ qs).Pairwise ltP → (L ++ qs).length ≤ 16 → (∀ q ∈ qs, canB q = true ∧ Nums q) → tabR k (flatT qs, false) L = (L ++ qs, false)
  | k, [], L, _, _, _, _ => by
    rw [List.append_nil]
    exact (tab_nil (R := tabR k (flatT [], false) L) rfl)
  | k, p :: qs, L, hk, hp, hl, hq => by
    have hc := hq p (List.mem_cons_self ..)
    have e : flatT (p :: qs) = prT p ++ flatT qs := by simp [flatT]
    have hne : prT p ++ flatT qs ≠ [] := by
      unfold prT shortL
      intro h
      have := congrArg List.length h
      simp [beN_len] at this
    rw [e] at hk ⊢
    cases k with
    | zero =>
      have : 0 < (prT p ++ flatT qs).length := by
        cases h : prT p ++ flatT qs with
        | nil => exact absurd h hne
        | cons a b => simp
      omega
    | succ k =>
      have hF := fld_put p (flatT qs) hc.1 hc.2
      have hlt : ∀ x ∈ L, ltP x p := fun x hx => (List.pairwise_append.1 hp).2.2 x hx p (List.mem_cons_self ..)
      have hno : hasN L p.name = false := by
        cases h : hasN L p.name with
        | false => rfl
        | true =>
          obtain ⟨x, hx, he⟩ := hasN_iff.1 h
          exact absurd he (ne_of_lt (hlt x hx))
      unfold tabR
      rw [if_neg (by simp [hne]), hF, if_neg (by simp [hno]), if_neg (by simp at hl; omega), insP_last p L hlt]
      have ih := tab_put k qs (L ++ [p]) (by
        have h1 : 0 < (prT p).length := by unfold prT shortL; simp [beN_len]; omega
        rw [List.length_append] at hk
        omega) (by simpa using hp) (by simpa using hl) (fun q h => hq q (List.mem_cons_of_mem _ h))
      rw [ih, List.append_assoc]
      rfl
theorem tabO_put {ps : List Pr} (hv : validL ps = true) (hn : ∀ q ∈ ps, Nums q) : tabO (flatT ps) = some ps := by
  obtain ⟨h16, hc, hri⟩ := valid_parts hv
  have h := tab_put (flatT ps).length ps [] (Nat.le_refl _) (by simpa using pairs_of ps hri) (by simpa using h16) (fun q hq => ⟨hc q hq, hn q hq⟩)
  rw [List.nil_append] at h
  unfold tabO
  rw [h, if_pos (by unfold okO; simp [hv])]
theorem flat_small {ps : List Pr} (hv : validL ps = true) (hn : ∀ q ∈ ps, Nums q) : (flatT ps).length ≤ 5000 := by
  obtain ⟨h16, hs⟩ := sm_all hv (fun q hq => (hn q hq).2)
  have := flatT_len hs
  omega
theorem ctab_put {ps : List Pr} (x : List UInt8) (hv : validL ps = true) (hn : ∀ q ∈ ps, Nums q) : ctab (tabL ps ++ x) = some (ps, x) := by
  have hf := flat_small hv hn
  have e1 : (tabL ps ++ x).take 4 = beN 4 (flatT ps).length := by
    unfold tabL longL
    rw [List.append_assoc, List.take_append_of_le_length (by rw [beN_len]; omega)]
    exact List.take_of_length_le (by rw [beN_len]; omega)
  have e2 : (tabL ps ++ x).drop 4 = flatT ps ++ x := by
    unfold tabL longL
    rw [List.append_assoc, List.drop_append_of_le_length (by rw [beN_len]; omega), List.drop_of_length_le (by rw [beN_len]; omega)]
    rfl
  unfold ctab
  rw [if_neg (by unfold tabL longL; simp [beN_len]), e1, e2, numL_be 4 _ (Nat.lt_of_le_of_lt hf (by decide))]
  unfold cutP
  rw [if_pos (by rw [List.length_append]; omega), List.take_left, List.drop_left]
  simp only
  rw [tabO_put hv hn]
  rfl
end Go.Proofs.YtmaaacaifpgpaaaDoor

namespace Go.Proofs.YtmaaacaifpgpaaaDoor
open Go.RowKit Go.Lib
set_option maxRecDepth 100000
set_option linter.unusedSimpArgs false

theorem partP_out {c : Nat} {q q' : Wq} (h : partP c q = some q') : ∃ z, q'.out = q.out ++ z := by
  unfold partP at h
  split at h
  · split at h
    · cases h
    · split at h
      · injection h with h; subst h; exact ⟨_, rfl⟩
      · cases h
  · split at h
    · split at h
      · cases h
      · split at h
        · injection h with h; subst h; exact ⟨_, rfl⟩
        · cases h
    · split at h
      · split at h
        · injection h with h; subst h; exact ⟨_, rfl⟩
        · cases h
      · split at h
        · cases h
        · split at h
          · injection h with h; subst h; exact ⟨_, rfl⟩
          · cases h
theorem partsP_out : ∀ (f : List UInt8) {q e : Wq}, partsP f q = some e → ∃ z, e.out = q.out ++ z
  | [], q, e, h => by injection h with h; subst h; exact ⟨[], by simp⟩
  | c :: f, q, e, h => by
    unfold partsP at h
    cases hp : partP c.toNat q with
    | none => rw [hp] at h; cases h
    | some q' =>
      rw [hp] at h
      obtain ⟨y, hy⟩ := partP_out hp
      obtain ⟨z, hz⟩ := partsP_out f h
      exact ⟨y ++ z, by rw [hz, hy, List.append_assoc]⟩
theorem short_inj {s t x y : List UInt8} (hs : s.length ≤ 255) (ht : t.length ≤ 255) (h : shortL s ++ x = shortL t ++ y) : s = t ∧ x = y := by
  have h1 := shortR_put s x (by omega)
  have h2 := shortR_put t y (by omega)
  rw [h, h2] at h1
  injection h1 with h3 h4
  injection h4 with h4 _
  exact ⟨h3.symm, h4.symm⟩
theorem long_inj {s t x y : List UInt8} (hs : s.length ≤ 1024) (ht : t.length ≤ 1024) (h : longL s ++ x = longL t ++ y) : s = t ∧ x = y := by
  have h1 := longR_put s x (by omega)
  have h2 := longR_put t y (by omega)
  rw [h, h2] at h1
  injection h1 with h3 h4
  injection h4 with h4 _
  exact ⟨h3.symm, h4.symm⟩
theorem num_inj {k m n : Nat} {x y : List UInt8} (hm : m < 256 ^ k) (hn : n < 256 ^ k) (h : beN k m ++ x = beN k n ++ y) : m = n ∧ x = y := by
  have h1 := numR_be k m x hm
  have h2 := numR_be k n y hn
  rw [h, h2] at h1
  injection h1 with h3 h4
  injection h4 with h4 _
  exact ⟨h3.symm, h4.symm⟩
theorem tab_inj {p q : List Pr} {x y : List UInt8} (hp : validL p = true) (hq : validL q = true) (np : ∀ r ∈ p, Nums r) (nq : ∀ r ∈ q, Nums r) (h : tabL p ++ x = tabL q ++ y) : p = q ∧ x = y := by
  have h1 := ctab_put x hp np
  have h2 := ctab_put y hq nq
  rw [h, h2] at h1
  injection h1 with h1
  injection h1 with h3 h4
  exact ⟨h3.symm, h4.symm⟩
theorem fit_nat {n : Int} {k : Nat} (h : fitN n k = true) : n = (n.toNat : Int) ∧ n.toNat < 256 ^ k := by
  unfold fitN at h
  simp only [Bool.and_eq_true, decide_eq_true_eq] at h
  obtain ⟨h1, h2⟩ := h
  refine ⟨by omega, ?_⟩
  have : ((n.toNat : Nat) : Int) < ((256 ^ k : Nat) : Int) := by
    rw [Int.toNat_of_nonneg h1]
    push_cast
    exact h2
  exact Int.ofNat_lt.1 this
theorem app_tail {o y x z : List UInt8} (h : (o ++ y) ++ x = z) {y' x' : List UInt8} (h' : (o ++ y') ++ x' = z) : y ++ x = y' ++ x' := by
  rw [List.append_assoc] at h h'
  rw [← h'] at h
  exact List.append_cancel_left h
/-- What each part tells. -/
theorem part_inj {c : Nat} {q1 q2 e1 e2 : Wq} {x1 x2 : List UInt8} (h1 : partP c q1 = some e1) (h2 : partP c q2 = some e2) (ho : q1.out = q2.out) (n1 : ∀ r ∈ q1.ps, Nums r) (n2 : ∀ r ∈ q2.ps, Nums r) (hx : e1.out ++ x1 = e2.out ++ x2) :
    e1.out = e2.out ∧ (e1.ns = e2.ns → e1.ts = e2.ts → e1.ps = e2.ps → q1.ns = q2.ns ∧ q1.ts = q2.ts ∧ q1.ps = q2.ps) ∧ (∀ r ∈ e1.ps, Nums r) ∧ (∀ r ∈ e2.ps, Nums r) := by
  obtain ⟨o1, a1, b1, c1⟩ := q1
  obtain ⟨o2, a2, b2, c2⟩ := q2
  dsimp only at ho n1 n2 ⊢
  subst ho
  unfold partP at h1 h2
  dsimp only at h1 h2
  by_cases k1 : c = 115
  · rw [if_pos k1] at h1 h2
    cases b1 with
    | nil => cases h1
    | cons s b1 =>
      cases b2 with
      | nil => cases h2
      | cons t b2 =>
        dsimp only at h1 h2
        split at h1
        · rename_i hs
          split at h2
          · rename_i ht
            injection h1 with h1
            injection h2 with h2
            subst h1 h2
            dsimp only at hx ⊢
            obtain ⟨rfl, _⟩ := short_inj hs ht (app_tail hx rfl)
            exact ⟨rfl, fun g1 g2 g3 => ⟨g1, by rw [g2], g3⟩, n1, n2⟩
          · cases h2
        · cases h1
  rw [if_neg k1] at h1 h2
  by_cases k2 : c = 83
  · rw [if_pos k2] at h1 h2
    cases b1 with
    | nil => cases h1
    | cons s b1 =>
      cases b2 with
      | nil => cases h2
      | cons t b2 =>
        dsimp only at h1 h2
        split at h1
        · rename_i hs
          split at h2
          · rename_i ht
            injection h1 with h1
            injection h2 with h2
            subst h1 h2
            dsimp only at hx ⊢
            obtain ⟨rfl, _⟩ := long_inj hs ht (app_tail hx rfl)
            exact ⟨rfl, fun g1 g2 g3 => ⟨g1, by rw [g2], g3⟩, n1, n2⟩
          · cases h2
        · cases h1
  rw [if_neg k2] at h1 h2
  by_cases k3 : c = 84
  · rw [if_pos k3] at h1 h2
    split at h1
    · rename_i hs
      split at h2
      · rename_i ht
        injection h1 with h1
        injection h2 with h2
        subst h1 h2
        dsimp only at hx ⊢
        obtain ⟨rfl, _⟩ := tab_inj hs ht n1 n2 (app_tail hx rfl)
        refine ⟨rfl, ?_, ?_, ?_⟩
        · intro g1 g2 _
          exact ⟨g1, g2, rfl⟩
        · intro r hr
          exact absurd hr (by simp)
        · intro r hr
          exact absurd hr (by simp)
      · cases h2
    · cases h1
  rw [if_neg k3] at h1 h2
  cases a1 with
  | nil => cases h1
  | cons m a1 =>
    cases a2 with
    | nil => cases h2
    | cons n a2 =>
      dsimp only at h1 h2
      split at h1
      · rename_i hs
        split at h2
        · rename_i ht
          injection h1 with h1
          injection h2 with h2
          subst h1 h2
          dsimp only at hx ⊢
          obtain ⟨m1, m2⟩ := fit_nat hs
          obtain ⟨m3, m4⟩ := fit_nat ht
          obtain ⟨he, _⟩ := num_inj m2 m4 (app_tail hx rfl)
          have : m = n := by rw [m1, m3, he]
          subst this
          exact ⟨rfl, fun g1 g2 g3 => ⟨by rw [g1], g2, g3⟩, n1, n2⟩
        · cases h2
      · cases h1
theorem parts_inj : ∀ (f : List UInt8) {q1 q2 e1 e2 : Wq}, partsP f q1 = some e1 → partsP f q2 = some e2 → q1.out = q2.out → (∀ r ∈ q1.ps, Nums r) → (∀ r ∈ q2.ps, Nums r) → e1.out = e2.out → e1.ns = e2.ns → e1.ts = e2.ts → e1.ps = e2.ps → q1.ns = q2.ns ∧ q1.ts = q2.ts ∧ q1.ps = q2.ps
  | [], q1, q2, e1, e2, h1, h2, _, _, _, _, g1, g2, g3 => by
    injection h1 with h1
    injection h2 with h2
    subst h1 h2
    exact ⟨g1, g2, g3⟩
  | c :: f, q1, q2, e1, e2, h1, h2, ho, n1, n2, he, g1, g2, g3 => by
    unfold partsP at h1 h2
    cases hp : partP c.toNat q1 with
    | none => rw [hp] at h1; cases h1
    | some r1 =>
      cases hp2 : partP c.toNat q2 with
      | none => rw [hp2] at h2; cases h2
      | some r2 =>
        rw [hp] at h1
        rw [hp2] at h2
        simp only [Option.bind_some] at h1 h2
        obtain ⟨z1, hz1⟩ := partsP_out f h1
        obtain ⟨z2, hz2⟩ := partsP_out f h2
        obtain ⟨ho2, hk, m1, m2⟩ := part_inj hp hp2 ho n1 n2 (by rw [← hz1, ← hz2]; exact he)
        obtain ⟨k1, k2, k3⟩ := parts_inj f h1 h2 ho2 m1 m2 he g1 g2 g3
        exact hk k1 k2 k3
theorem payP_some {a b : Int} {ns : List Int} {ts : List (List UInt8)} {ps : List Pr} {x : List UInt8} (h : payP a b ns ts ps = some x) :
    (0 ≤ a ∧ a < 256 ∧ 0 ≤ b ∧ b < 256) ∧ ∃ q, partsP (formL a b mL).1 ⟨beN 2 a.toNat ++ beN 2 b.toNat, ns, ts, ps⟩ = some q ∧ q.ns = [] ∧ q.ts = [] ∧ q.ps = [] ∧ q.out = x := by
  unfold payP at h
  split at h
  · rename_i hf
    obtain ⟨f1, f2, f3, f4, _⟩ := form_some hf
    refine ⟨⟨f1, f2, f3, f4⟩, ?_⟩
    cases hp : partsP (formL a b mL).1 ⟨beN 2 a.toNat ++ beN 2 b.toNat, ns, ts, ps⟩ with
    | none => rw [hp] at h; cases h
    | some q =>
      rw [hp] at h
      simp only [Option.bind_some] at h
      split at h
      · rename_i hz
        injection h with h
        exact ⟨q, rfl, hz.1, hz.2.1, hz.2.2, h⟩
      · cases h
  · cases h
/-- It begins with class and number. -/
theorem payP_head {a b : Int} {ns : List Int} {ts : List (List UInt8)} {ps : List Pr} {x : List UInt8} (h : payP a b ns ts ps = some x) :
    ∃ (m n : Nat) (z : List UInt8), a = (m : Int) ∧ b = (n : Int) ∧ m < 256 ∧ n < 256 ∧ x = 0 :: UInt8.ofNat m :: 0 :: UInt8.ofNat n :: z := by
  obtain ⟨⟨f1, f2, f3, f4⟩, q, hq, _, _, _, hx⟩ := payP_some h
  obtain ⟨z, hz⟩ := partsP_out _ hq
  refine ⟨a.toNat, b.toNat, z, by omega, by omega, by omega, by omega, ?_⟩
  rw [← hx, hz]
  have e : ∀ n : Nat, n < 256 → beN 2 n = [0, UInt8.ofNat n] := fun n hn => by
    show [UInt8.ofNat (n / 256), UInt8.ofNat (n / 1)] = _
    rw [Nat.div_eq_of_lt hn, Nat.div_one]
    rfl
  dsimp only
  rw [e _ (by omega), e _ (by omega)]
  rfl
theorem payP_inj {a b a' b' : Int} {ns ns' : List Int} {ts ts' : List (List UInt8)} {ps ps' : List Pr} {x : List UInt8} (h : payP a b ns ts ps = some x) (h' : payP a' b' ns' ts' ps' = some x) (n1 : ∀ r ∈ ps, Nums r) (n2 : ∀ r ∈ ps', Nums r) :
    a = a' ∧ b = b' ∧ ns = ns' ∧ ts = ts' ∧ ps = ps' := by
  obtain ⟨⟨f1, f2, f3, f4⟩, q, hq, q1, q2, q3, hx⟩ := payP_some h
  obtain ⟨⟨g1, g2, g3, g4⟩, p, hp, p1, p2, p3, hy⟩ := payP_some h'
  obtain ⟨z, hz⟩ := partsP_out _ hq
  obtain ⟨y, hy2⟩ := partsP_out _ hp
  have he : beN 2 a.toNat ++ beN 2 b.toNat ++ z = beN 2 a'.toNat ++ beN 2 b'.toNat ++ y := by
    have : q.out = p.out := by rw [hx, hy]
    rw [hz, hy2] at this
    exact this
  rw [List.append_assoc, List.append_assoc] at he
  obtain ⟨ha, he⟩ := num_inj (by omega) (by omega) he
  obtain ⟨hb, _⟩ := num_inj (by omega) (by omega) he
  obtain rfl : a = a' := by omega
  obtain rfl : b = b' := by omega
  obtain ⟨r1, r2, r3⟩ := parts_inj _ hq hp rfl n1 n2 (by rw [hx, hy]) (by rw [q1, p1]) (by rw [q2, p2]) (by rw [q3, p3])
  exact ⟨rfl, rfl, r1, r2, r3⟩
end Go.Proofs.YtmaaacaifpgpaaaDoor

namespace Go.Proofs.YtmaaacaifpgpaaaDoor
open Go.RowKit Go.Lib
set_option maxRecDepth 100000
set_option linter.unusedSimpArgs false

theorem enc_at (w : World) (hv : Mv w) : Calls Tryd.prog 17 #[.agg #[.int .i64 60, .int .i64 80, .slice (some ⟨w.heap.size, 0, none⟩) 2 2, .slice none 0 0, .slice none 0 0]] (w.alloc (.cells #[.int .i64 5, .int .i64 0] 3)) fun e w' => ∃ v, e = .returned (.tuple #[v, .int .i64 0]) ∧ Own w' w.heap.size v outW ∧ Below w.heap.size w w' := by
  have N := Blk.new w #[.int .i64 5, .int .i64 0] 3
  refine (encode_w (w.alloc (.cells #[.int .i64 5, .int .i64 0] 3)) w.heap.size (hv.on (below_new w _)) (by simp) (N.cell 0) (N.cell 1)).mono ?_
  rintro e w' ⟨v, h1, h2, h3⟩
  exact ⟨v, h1, h2.lower (by simp), (below_new w _).trans (h3.mono (by simp))⟩
def pA : Pr := ⟨⟨#[97]⟩, ⟨2, 1, ⟨#[]⟩, 0⟩⟩
theorem pA_tab : tabL [pA] = [0, 0, 0, 4, 1, 97, 116, 1] := by kernel_rfl
theorem pA_valid : validL [pA] = true := by kernel_rfl
theorem put_at (w : World) : Calls Tryd.prog 10 #[.slice none 0 0, .slice (some ⟨w.heap.size, 0, none⟩) 1 1] (w.alloc (.cells #[.string ⟨#[97]⟩, .int .i64 2, .int .i64 1, .string ⟨#[]⟩, .float .f64 0] 51)) fun e w' => ∃ v, e = .returned (.tuple #[v, .int .i64 0]) ∧ Own w' w.heap.size v [0, 0, 0, 4, 1, 97, 116, 1] ∧ Below w.heap.size w w' := by
  have N := Blk.new w #[.string ⟨#[97]⟩, .int .i64 2, .int .i64 1, .string ⟨#[]⟩, .float .f64 0] 51
  refine (put_ok _ (.slice none 0 0) (.slice (some ⟨w.heap.size, 0, none⟩) 1 1) [] [pA] (.inl (Own.nil _ 0).rd) (by simp) (.inr ⟨w.heap.size, 0, 1, rfl, by decide, fun i hi => ?_⟩) pA_valid (by intro q hq; simp at hq; subst hq; decide)).mono ?_
  · obtain rfl : i = 0 := by simpa using hi
    exact ⟨N.cell 0, N.cell 1, N.cell 2, N.cell 3, N.cell 4⟩
  · rintro e w' ⟨v, h1, h2, h3⟩
    rw [pA_tab, List.nil_append] at h2
    exact ⟨v, h1, h2.lower (by simp), (below_new w _).trans (h3.mono (by simp))⟩
set_option maxHeartbeats 2000000 in
theorem wakes_any (w : World) (hv : Mv w) : Calls Tryd.prog 8 #[] w fun e w' => e = .returned (.bool true) ∧ Below w.heap.size w w' := by
  have P := put_at w
  have E := enc_at
  obtain ⟨a, ha⟩ : ∃ a, w.heap.size = a := ⟨_, rfl⟩
  have HV : Hid (Mv w ∧ a ≤ w.heap.size) := ⟨hv, by omega⟩
  rw [ha] at P ⊢
  clear hv
  go_enter Tryd.func8, Tryd.ntmps8
  go_wp2_with (go_at_call 10; refine P.mono ?_; rintro e w2 ⟨v1, rfl, ho1, hb1⟩)
  refine (E w2 (HV.out.1.on (by rw [ha]; exact hb1))).mono ?_
  rintro e w3 ⟨v2, rfl, ho2, hb2⟩
  have q1 : (convert 23 9 v1).run Tryd.prog w3 = .ok (.string ⟨#[0, 0, 0, 4, 1, 97, 116, 1]⟩) w3 := conv_any (ho1.on hb2).rd
  have q2 : (convert 23 9 v2).run Tryd.prog w3 = .ok (.string ⟨#[0, 60, 0, 80, 0, 0, 0, 0, 0, 0, 0, 5, 0]⟩) w3 := conv_any ho2.rd
  have HB : Hid (Below a w w3) := hb1.trans (hb2.mono (Nat.le_trans HV.out.2 (by have := hb1.size; omega)))
  clear P E HV ho1 ho2 hb1 hb2 ha
  go_wp2_with fail
  go_ret
  exact ⟨rfl, HB.out⟩
end Go.Proofs.YtmaaacaifpgpaaaDoor

namespace Go.Proofs.YtmaaacaifpgpaaaDoor
open Go.RowKit Go.Lib
set_option maxRecDepth 100000
set_option linter.unusedSimpArgs false

theorem longR_yes {s : List UInt8} (h : 4 ≤ s.length) : longR (s, false) = takeR (s.drop 4, false) (numL (s.take 4)) := by
  unfold longR
  rw [numR_yes h]
theorem longR_no {s : List UInt8} (h : s.length < 4) : longR (s, false) = ([], (s, true)) := by
  unfold longR
  rw [numR_no h]
  exact takeR_bad s 0
theorem rtab_some {s r : List UInt8} {L : List Pr} (h : ctab s = some (L, r)) : rtab (s, false) = (L, (r, false)) := by
  unfold ctab at h
  split at h
  · cases h
  · rename_i h4
    split at h
    · cases h
    · rename_i t r' hc
      unfold cutP at hc
      split at hc
      · rename_i hn
        injection hc with hc
        obtain ⟨rfl, rfl⟩ := Prod.mk.inj hc
        cases ht : tabO (List.take (numL (s.take 4)) (s.drop 4)) with
        | none => rw [ht] at h; cases h
        | some M =>
          rw [ht] at h
          simp only [Option.map_some, Option.some.injEq, Prod.mk.injEq] at h
          obtain ⟨rfl, rfl⟩ := h
          unfold rtab
          rw [longR_yes (by omega), takeR_yes hn]
          simp only [ht]
      · cases hc
theorem rtab_none {s : List UInt8} (h : ctab s = none) : (rtab (s, false)).2.2 = true := by
  unfold ctab at h
  unfold rtab
  split at h
  · rename_i h4
    rw [longR_no h4]
    cases tabO ([] : List UInt8) <;> rfl
  · rename_i h4
    rw [longR_yes (by omega)]
    split at h
    · rename_i hc
      unfold cutP at hc
      split at hc
      · cases hc
      · rename_i hn
        rw [takeR_no (by omega)]
        cases tabO ([] : List UInt8) <;> rfl
    · rename_i t r' hc
      unfold cutP at hc
      split at hc
      · rename_i hn
        injection hc with hc
        obtain ⟨rfl, rfl⟩ := Prod.mk.inj hc
        rw [takeR_yes hn]
        cases ht : tabO (List.take (numL (s.take 4)) (s.drop 4)) with
        | none => rfl
        | some M => rw [ht] at h; cases h
      · cases hc
set_option maxHeartbeats 2000000 in
theorem rtake_any (w : World) (s : List UInt8) (hs : s.length ≤ 140737488355328) :
    Calls Tryd.prog 13 #[str s] w fun e w' => ∃ v z n, e = .returned (.tuple #[v, .int .i64 z, .int .i64 n]) ∧ TkP w' w.heap.size s v z n ∧ Below w.heap.size w w' := by
  obtain ⟨a, ha⟩ : ∃ a, w.heap.size = a := ⟨_, rfl⟩
  obtain ⟨w1, hw1⟩ : ∃ w1, w.alloc (Obj.cells #[str s, .bool false] 67) = w1 := ⟨_, rfl⟩
  have k1 : Blk w1 a #[str s, .bool false] 67 := by rw [← hw1, ← ha]; exact Blk.new w _ _
  have b1 : Below a w w1 := by rw [← hw1, ← ha]; exact below_new w _
  have T := rtable_any w1 a (s, false) ⟨k1.cell 0, k1.cell 1, k1.frozen 0, k1.frozen 1⟩ k1.lt
  rw [ha]
  go_enter Tryd.func13, Tryd.ntmps13
  go_wp2_with fail
  refine T.mono ?_
  rintro e w2 ⟨v, rfl, ho, hr, hA⟩
  have B2 : Below a w w2 := b1.trans ⟨hA.os, hA.tape, hA.output, hA.size, fun k hk => hA.block k (by have := k1.lt; omega) (by omega)⟩
  obtain ⟨ad, cp, rfl⟩ := ho.rd.shape
  have la : a ≤ w1.heap.size := Nat.le_of_lt k1.lt
  clear T hA b1 k1 hw1 ha
  cases hct : ctab s with
  | none =>
    have hb := rtab_none hct
    have HT : Hid (ctab s = none) := hct
    have HB : Hid (Below a w w2) := B2
    have c1 := hr.c1
    rw [hb] at c1
    clear hct B2 ho hr hb
    go_wp2
    go_ret3
    exact ⟨_, _, _, rfl, .inr ⟨HT.out, rfl, rfl, rfl⟩, HB.out⟩
  | some LR =>
    obtain ⟨L, r⟩ := LR
    have hb := rtab_some hct
    have hl := ctab_left hct
    rw [hb] at ho hr
    rw [hb]
    have HT : Hid (ctab s = some (L, r)) := hct
    have HB : Hid (Below a w w2) := B2
    have HO : Hid (OwnP w2 w1.heap.size (.slice ad L.length cp) L) := ho
    have c0 := hr.c0
    have c1 := hr.c1
    simp only at c0 c1
    have hS : w2.drew.cell? ⟨a, 0, none⟩ = some (str r) := c0
    have e1 : (s.length : Int) - (r.length : Int) = ((s.length - r.length : Nat) : Int) := by omega
    have hlz : (r.length : Int) ≤ (s.length : Int) := by omega
    generalize L.length = n at *
    clear hct B2 ho hr hb
    go_upto_region 5 with fail
    clear c0 c1
    refine wp_region_held (S := fun W => W = w2.drew) hmix ?_
    show wpAnyH _ _ _ _ _ _ _ _ (World.drew _)
    refine tks [0, 1, 2, 3, 4, 5, 6, 7, 8] [.slice ad n cp, str s, .int .i64 s.length, .pointer (some ⟨a, 0, none⟩), .pointer (some ⟨a, 0, none⟩), .pointer (some ⟨a, 0, none⟩), str r, .int .i64 r.length, .int .i64 ((s.length - r.length : Nat) : Int)] 3 ?_ rfl ?_
    · simp only [tkY, tkf]
      refine ⟨.yes ?_, .yes ?_, .yes ?_, .yes ?_, .yes ?_, .yes ?_, .yes ?_, .yes ?_, .yes ?_, trivial⟩
      all_goals
        rintro W' rfl
        go_simp
      all_goals (rw [IntKind.wrap_i64]; omega)
    simp only [tkA, tkf]
    refine ak 9 (fun K hK => ?_)
    go_wp2_with fail
    refine hK _ _ rfl ?_
    clear hK K
    refine ak 10 (fun K hK => ?_)
    go_wp2_with fail
    refine hK _ _ rfl ?_
    clear hK K
    refine ak 11 (fun K hK => ?_)
    go_wp2_with fail
    refine hK _ _ rfl ?_
    clear hK K
    refine wpAnyH_done (by kernel_rfl) ?_ _
    go_wp2_with fail
    go_ret3
    exact ⟨_, _, _, rfl, .inl ⟨L, r, HT.out, rfl, HO.out.low la, rfl⟩, HB.out.drew⟩
end Go.Proofs.YtmaaacaifpgpaaaDoor

namespace Go.Proofs.YtmaaacaifpgpaaaDoor
open Go.RowKit Go.Lib
set_option maxRecDepth 100000
set_option linter.unusedSimpArgs false

/-- What long answers. -/
def LoB (e : Ending) : Prop := ∃ r : Bool, e = .returned (.bool r)
theorem long_some (w : World) (l : List Pr) (b o c : Nat) (h : ∀ i (h : i < l.length), PrAt w b (o + i * 5) l[i]) (h16 : l.length ≤ 9223372036854775806) :
    Calls Tryd.prog 9 #[.slice (some ⟨b, o, none⟩) l.length c] w fun e w' => LoB e ∧ Below w.heap.size w w' := by
  have H : Hid (∀ i (h : i < l.length), PrAt w b (o + i * 5) l[i]) := h
  clear h
  go_enter Tryd.func9, Tryd.ntmps9
  go_wp2_with fail
  go_loopw [3, 8] (fun s i wr => ∃ (k : Nat) (z : Int), k ≤ l.length ∧ i = .int .i64 k ∧ s = .int .i64 z ∧ Below w.heap.size w wr) (fun _ i _ => l.length - (RowKit.intOf i).toNat)
  case atStart => exact ⟨0, 0, by omega, rfl, rfl, Below.refl _ _⟩
  case round =>
    obtain ⟨k, z, hk, rfl, rfl, hbr⟩ := hrel
    have hwr := hbr.size
    by_cases hlt : k < l.length
    · obtain ⟨a0, a1, a2, a3, a4⟩ := (H.out k hlt).on hbr
      obtain ⟨pk, hpk⟩ : ∃ pk, pk = l[k] := ⟨_, rfl⟩
      rw [← hpk] at a0 a1 a2 a3 a4
      clear hpk
      go_wp2
      · go_ret
        exact ⟨⟨_, rfl⟩, hbr.alloc hwr _⟩
      · go_roundw
        case rel => exact ⟨k + 1, _, by omega, by go_num, rfl, hbr.alloc hwr _⟩
        case measure => simp [RowKit.intOf]; omega
    · go_wp2
      go_ret
      exact ⟨⟨_, rfl⟩, hbr⟩
theorem long_nil (w : World) (a : Option Addr) (c : Nat) : Calls Tryd.prog 9 #[.slice a 0 c] w fun e w' => LoB e ∧ Below w.heap.size w w' := by
  go_enter Tryd.func9, Tryd.ntmps9
  go_wp2_with fail
  go_loopw [3, 8] (fun s i wr => i = .int .i64 0 ∧ s = .int .i64 0 ∧ wr = w) (fun _ _ _ => 0)
  case atStart => exact ⟨rfl, rfl, rfl⟩
  case round =>
    obtain ⟨rfl, rfl, rfl⟩ := hrel
    go_wp2
    go_ret
    exact ⟨⟨_, rfl⟩, Below.refl _ _⟩
theorem alllong_any (w : World) (v : Value) (l : List Pr) (h : RdP w v l) (h16 : l.length ≤ 9223372036854775806) : Calls Tryd.prog 9 #[v] w fun e w' => LoB e ∧ Below w.heap.size w w' := by
  rcases h with ⟨⟨a, c, rfl⟩, rfl⟩ | ⟨b, o, c, rfl, _, h⟩
  · exact long_nil w a c
  · exact long_some w l b o c h h16
end Go.Proofs.YtmaaacaifpgpaaaDoor

namespace Go.Proofs.YtmaaacaifpgpaaaDoor
open Go.RowKit Go.Lib
set_option maxRecDepth 100000
set_option linter.unusedSimpArgs false

set_option maxHeartbeats 4000000 in
theorem heavy_any (w : World) (ca cb : Int) (vn vt vp : Value) (ns : List Int) (ts : List (List UInt8)) (ps : List Pr) (hm : RdM w w.heap.size vn vt vp ns ts ps) :
    Calls Tryd.prog 15 #[.agg (mtA ca cb vn vt vp)] w fun e w' => LoB e ∧ Below w.heap.size w w' := by
  obtain ⟨na, nc, rfl⟩ := hm.n.shape
  have hsz := hm.sz
  have htl : ts.length ≤ 4000000000000000000 := by omega
  have hnl : ns.length ≤ 4000000000000000000 := by omega
  obtain ⟨ta, tc, hvt, HT⟩ : ∃ ta tc, vt = .slice ta ts.length tc ∧ Hid (∀ k (h : k < ts.length), ∃ g o, ta = some ⟨g, o, none⟩ ∧ g < w.heap.size ∧ w.cell? ⟨g, o + k, none⟩ = some (str ts[k])) := by
    rcases hm.t with ⟨⟨a, c, rfl⟩, rfl⟩ | ⟨g, o, c, rfl, hc, hg, hx⟩
    · exact ⟨_, _, rfl, fun k h => absurd h (Nat.not_lt_zero k)⟩
    · exact ⟨_, _, rfl, fun k h => ⟨g, o, rfl, hg, hx k h⟩⟩
  subst hvt
  obtain ⟨pa, pc, rfl⟩ := hm.p.shape
  have b0 := below_new w (.cells (mtA ca cb (.slice na ns.length nc) (.slice ta ts.length tc) (.slice pa ps.length pc)) 36)
  have k0 := Blk.new w (mtA ca cb (.slice na ns.length nc) (.slice ta ts.length tc) (.slice pa ps.length pc)) 36
  have hpl : ps.length ≤ 9223372036854775806 := by omega
  have HL := fun w' (hb : Below w.heap.size w w') => alllong_any w' _ ps (hm.p.on hb).rd hpl
  clear hm hsz
  go_enter Tryd.func15, Tryd.ntmps15
  go_upto_region 1 with fail
  generalize w.alloc (.cells (mtA ca cb (.slice na ns.length nc) (.slice ta ts.length tc) (.slice pa ps.length pc)) 36) = w1 at *
  have c2 := k0.cell 2
  have c3 := k0.cell 3
  simp only [List.getElem?_toArray, List.getElem?_cons_zero, List.getElem?_cons_succ] at c2 c3
  go_wp2_with fail
  go_loopw [3, 12] (fun s i wr => ∃ (k : Nat) (z : Int), k ≤ ts.length ∧ i = .int .i64 k ∧ s = .int .i64 z ∧ w1 = wr) (fun _ i _ => ts.length - (RowKit.intOf i).toNat)
  case atStart => exact ⟨0, _, Nat.zero_le _, rfl, rfl, rfl⟩
  case round =>
    obtain ⟨k, z, hk, rfl, rfl, rfl⟩ := hrel
    by_cases hlt : k < ts.length
    · obtain ⟨g, o, rfl, hg, hc⟩ := HT.out k hlt
      have c0 : w1.cell? ⟨g, o + k, none⟩ = some (str ts[k]) := by rw [b0.cell (p := ⟨g, o + k, none⟩) hg]; exact hc
      have hkz : (k : Int) < (ts.length : Int) := by omega
      generalize ts[k] = y at *
      clear hc
      go_wp2
      · go_ret
        exact ⟨⟨_, rfl⟩, b0⟩
      · go_roundw
        case rel => exact ⟨k + 1, _, by omega, by go_num, rfl, by trivial⟩
        case measure => simp [RowKit.intOf]; omega
    · obtain rfl : k = ts.length := by omega
      have hkz : ¬ (ts.length : Int) < (ts.length : Int) := by omega
      have c4 := k0.cell 4
      simp only [List.getElem?_toArray, List.getElem?_cons_zero, List.getElem?_cons_succ] at c4
      have HL1 := HL w1 b0
      by_cases hz : 16384 < z
      · have hz1 : decide ((16384 : Int) < z) = true := decide_eq_true hz
        go_wp2_with fail
        go_ret
        exact ⟨⟨_, rfl⟩, b0⟩
      · have hz1 : decide ((16384 : Int) < z) = false := decide_eq_false hz
        go_wp2_with (go_at_call 9; refine HL1.mono ?_; rintro e w2 ⟨⟨r, rfl⟩, b2⟩)
        go_ret
        exact ⟨⟨_, rfl⟩, b0.trans (b2.mono b0.size)⟩
end Go.Proofs.YtmaaacaifpgpaaaDoor

namespace Go.Proofs.YtmaaacaifpgpaaaDoor
open Go.RowKit Go.Lib
set_option maxRecDepth 100000
set_option linter.unusedSimpArgs false

theorem beq_l (l m : List UInt8) : (l == m) = decide (l = m) := by
  rw [Bool.eq_iff_iff, beq_iff_eq, decide_eq_true_iff]
/-- What Same answers. -/
def sameM (ca cb : Int) (ns : List Int) (ts : List (List UInt8)) (ps : List Pr) (ca' cb' : Int) (ns' : List Int) (ts' : List (List UInt8)) (ps' : List Pr) : Bool :=
  decide (ca = ca') && (decide (cb = cb') && (decide (ns = ns') && (decide (ts = ts') && sameL ps ps')))
theorem neZ_t {a b : Int} (h : a = b) : (a != b) = false := by subst h; simp
theorem neZ_f {a b : Int} (h : ¬ a = b) : (a != b) = true := by simp [h]
set_option maxHeartbeats 4000000 in
theorem same_no15 (w : World) (ca cb ca' cb' : Int) (na nt np na' nt' np' : Option Addr) (n t p n' t' p' nc tc pc nc' tc' pc' : Nat) (h : ca ≠ ca' ∨ (ca = ca' ∧ cb ≠ cb') ∨ (ca = ca' ∧ cb = cb' ∧ n ≠ n') ∨ (ca = ca' ∧ cb = cb' ∧ n = n' ∧ t ≠ t')) :
    Calls Tryd.prog 19 #[.agg (mtA ca cb (.slice na n nc) (.slice nt t tc) (.slice np p pc)), .agg (mtA ca' cb' (.slice na' n' nc') (.slice nt' t' tc') (.slice np' p' pc'))] w fun e w' => e = .returned (.bool false) ∧ Below w.heap.size w w' := by
  have b1 := below_new w (.cells (mtA ca cb (.slice na n nc) (.slice nt t tc) (.slice np p pc)) 36)
  have b2 := b1.trans ((below_new (w.alloc (.cells (mtA ca cb (.slice na n nc) (.slice nt t tc) (.slice np p pc)) 36)) (.cells (mtA ca' cb' (.slice na' n' nc') (.slice nt' t' tc') (.slice np' p' pc')) 36)).mono b1.size)
  rcases h with h | ⟨h1, h⟩ | ⟨h1, h2, h⟩ | ⟨h1, h2, h3, h⟩
  · have z1 := neZ_f h
    clear h
    go_enter Tryd.func19, Tryd.ntmps19
    go_wp2
    go_ret
    exact ⟨rfl, b2⟩
  · have z1 := neZ_t h1
    have z2 := neZ_f h
    clear h h1
    go_enter Tryd.func19, Tryd.ntmps19
    go_wp2
    go_ret
    exact ⟨rfl, b2⟩
  · have z1 := neZ_t h1
    have z2 := neZ_t h2
    have z3 : ((n : Int) != (n' : Int)) = true := neZ_f (by omega)
    clear h h1 h2
    go_enter Tryd.func19, Tryd.ntmps19
    go_wp2
    go_ret
    exact ⟨rfl, b2⟩
  · have z1 := neZ_t h1
    have z2 := neZ_t h2
    have z3 : ((n : Int) != (n' : Int)) = false := neZ_t (by omega)
    have z4 : ((t : Int) != (t' : Int)) = true := neZ_f (by omega)
    clear h h1 h2 h3
    go_enter Tryd.func19, Tryd.ntmps19
    go_wp2
    go_ret
    exact ⟨rfl, b2⟩
set_option maxHeartbeats 8000000 in
theorem same_len15 (w : World) (ca cb : Int) (na ta na' ta' : Option Addr) (n m nc tc nc' tc' : Nat) (vp vp' : Value) (ns ns' : List Int) (ts ts' : List (List UInt8)) (ps ps' : List Pr)
    (hn : ns.length = n) (hn' : ns'.length = n) (hm : ts.length = m) (hm' : ts'.length = m) (hnm : n + m ≤ 4000000000000000000) (hp : ps.length ≤ 4000000000000000000)
    (h1 : ∀ k (h : k < ns.length), ∃ g o, na = some ⟨g, o, none⟩ ∧ g < w.heap.size ∧ w.cell? ⟨g, o + k, none⟩ = some (.int .i64 ns[k])) (h1' : ∀ k (h : k < ns'.length), ∃ g o, na' = some ⟨g, o, none⟩ ∧ g < w.heap.size ∧ w.cell? ⟨g, o + k, none⟩ = some (.int .i64 ns'[k]))
    (h2 : ∀ k (h : k < ts.length), ∃ g o, ta = some ⟨g, o, none⟩ ∧ g < w.heap.size ∧ w.cell? ⟨g, o + k, none⟩ = some (str ts[k])) (h2' : ∀ k (h : k < ts'.length), ∃ g o, ta' = some ⟨g, o, none⟩ ∧ g < w.heap.size ∧ w.cell? ⟨g, o + k, none⟩ = some (str ts'[k]))
    (hv : RdV w w.heap.size vp ps) (hv' : RdV w w.heap.size vp' ps') :
    Calls Tryd.prog 19 #[.agg (mtA ca cb (.slice na n nc) (.slice ta m tc) vp), .agg (mtA ca cb (.slice na' n nc') (.slice ta' m tc') vp')] w fun e w' => e = .returned (.bool (decide (ns = ns') && (decide (ts = ts') && sameL ps ps'))) ∧ Below w.heap.size w w' := by
  have gn : ∀ (l : List Int) (i : Nat) (h : i < l.length), l.getD i 0 = l[i] := fun m i h => by simp [List.getD_eq_getElem?_getD, h]
  have gt : ∀ (l : List (List UInt8)) (i : Nat) (h : i < l.length), l.getD i [] = l[i] := fun m i h => by simp [List.getD_eq_getElem?_getD, h]
  have H1 : Hid (∀ k, k < n → ∃ g o, na = some ⟨g, o, none⟩ ∧ g < w.heap.size ∧ w.cell? ⟨g, o + k, none⟩ = some (.int .i64 (ns.getD k 0))) := fun k hk => by rw [gn ns k (by omega)]; exact h1 k (by omega)
  have H1' : Hid (∀ k, k < n → ∃ g o, na' = some ⟨g, o, none⟩ ∧ g < w.heap.size ∧ w.cell? ⟨g, o + k, none⟩ = some (.int .i64 (ns'.getD k 0))) := fun k hk => by rw [gn ns' k (by omega)]; exact h1' k (by omega)
  have H2 : Hid (∀ k, k < m → ∃ g o, ta = some ⟨g, o, none⟩ ∧ g < w.heap.size ∧ w.cell? ⟨g, o + k, none⟩ = some (str (ts.getD k []))) := fun k hk => by rw [gt ts k (by omega)]; exact h2 k (by omega)
  have H2' : Hid (∀ k, k < m → ∃ g o, ta' = some ⟨g, o, none⟩ ∧ g < w.heap.size ∧ w.cell? ⟨g, o + k, none⟩ = some (str (ts'.getD k []))) := fun k hk => by rw [gt ts' k (by omega)]; exact h2' k (by omega)
  have F1 : Hid (∀ i, i < n → ns.getD i 0 ≠ ns'.getD i 0 → decide (ns = ns') = false) := fun i hi hne => decide_eq_false (fun e => by subst e; exact hne rfl)
  have T1 : Hid ((∀ i, i < n → ns.getD i 0 = ns'.getD i 0) → decide (ns = ns') = true) := fun h => decide_eq_true (List.ext_getElem (by omega) (fun i h1 h2 => by rw [← gn ns i h1, ← gn ns' i h2]; exact h i (by omega)))
  have F2 : Hid (∀ i, i < m → ts.getD i [] ≠ ts'.getD i [] → decide (ts = ts') = false) := fun i hi hne => decide_eq_false (fun e => by subst e; exact hne rfl)
  have T2 : Hid ((∀ i, i < m → ts.getD i [] = ts'.getD i []) → decide (ts = ts') = true) := fun h => decide_eq_true (List.ext_getElem (by omega) (fun i h1 h2 => by rw [← gt ts i h1, ← gt ts' i h2]; exact h i (by omega)))
  have SL := fun w' (hb : Below w.heap.size w w') => all7 w' vp vp' ps ps' (hv.on hb).rd (hv'.on hb).rd (by omega)
  obtain ⟨pa, pc, e1⟩ := hv.shape
  obtain ⟨pa', pc', e2⟩ := hv'.shape
  subst e1 e2
  clear h1 h1' h2 h2' hn hn' hm hm' gn gt hv hv'
  generalize decide (ns = ns') = D1 at *
  generalize decide (ts = ts') = D2 at *
  have b1 := below_new w (.cells (mtA ca cb (.slice na n nc) (.slice ta m tc) (.slice pa ps.length pc)) 36)
  have k1 := Blk.new w (mtA ca cb (.slice na n nc) (.slice ta m tc) (.slice pa ps.length pc)) 36
  have s1 : (w.alloc (.cells (mtA ca cb (.slice na n nc) (.slice ta m tc) (.slice pa ps.length pc)) 36)).heap.size = w.heap.size + 1 := by simp
  generalize hw1 : w.alloc (.cells (mtA ca cb (.slice na n nc) (.slice ta m tc) (.slice pa ps.length pc)) 36) = w1 at *
  have b2 := b1.trans ((below_new w1 (.cells (mtA ca cb (.slice na' n nc') (.slice ta' m tc') (.slice pa' ps'.length pc')) 36)).mono b1.size)
  have k2 := Blk.new w1 (mtA ca cb (.slice na' n nc') (.slice ta' m tc') (.slice pa' ps'.length pc')) 36
  have k12 := k1.alloc (.cells (mtA ca cb (.slice na' n nc') (.slice ta' m tc') (.slice pa' ps'.length pc')) 36)
  rw [s1] at k2
  generalize hw2 : w1.alloc (.cells (mtA ca cb (.slice na' n nc') (.slice ta' m tc') (.slice pa' ps'.length pc')) 36) = w2 at *
  have e0 := k12.cell 0
  have e1 := k12.cell 1
  have e2 := k12.cell 2
  have e3 := k12.cell 3
  have f0 := k2.cell 0
  have f1 := k2.cell 1
  have f2 := k2.cell 2
  have f3 := k2.cell 3
  simp only [List.getElem?_toArray, List.getElem?_cons_zero, List.getElem?_cons_succ] at e0 e1 e2 e3 f0 f1 f2 f3
  clear k1
  go_enter Tryd.func19, Tryd.ntmps19
  go_upto_region 4 with fail
  clear e0 e1 e2 e3 f0 f1 f2 f3
  go_wp2_with fail
  go_loopw [40] (fun i wr => ∃ k : Nat, k ≤ n ∧ i = .int .i64 k ∧ (∃ q, wr = w2.drewN q) ∧ Hid (∀ j, j < n → j < k → ns.getD j 0 = ns'.getD j 0)) (fun i _ => n - (RowKit.intOf i).toNat)
  case atStart => exact ⟨0, by omega, rfl, ⟨0, rfl⟩, fun j _ h => absurd h (Nat.not_lt_zero _)⟩
  case round =>
    obtain ⟨k, hk, rfl, ⟨q, rfl⟩, HB⟩ := hrel
    by_cases hlt : k < n
    · have bq := below_drewN b2 q
      obtain ⟨g, o, rfl, hg, hc⟩ := H1.out k hlt
      obtain ⟨g', o', rfl, hg', hc'⟩ := H1'.out k hlt
      have a0 : (w2.drewN q).cell? ⟨g, o + k, none⟩ = some (.int .i64 (ns.getD k 0)) := by rw [bq.cell (p := ⟨g, o + k, none⟩) hg]; exact hc
      have a0' : (w2.drewN q).cell? ⟨g', o' + k, none⟩ = some (.int .i64 (ns'.getD k 0)) := by rw [bq.cell (p := ⟨g', o' + k, none⟩) hg']; exact hc'
      have hF := F1.out k hlt
      have HY : Hid (ns.getD k 0 = ns'.getD k 0 → (∀ j, j < n → j < k + 1 → ns.getD j 0 = ns'.getD j 0)) := fun h j hj hj2 => by
        rcases Nat.lt_or_ge j k with h3 | h3
        · exact HB.out j hj h3
        · have : j = k := by omega
          subst this; exact h
      clear hc hc' HB
      generalize ns.getD k 0 = x at *
      generalize ns'.getD k 0 = y at *
      have hkz : (k : Int) < (n : Int) := by omega
      have e1 := (k12.on (below_drewN (Below.refl _ w2) q)).cell 2
      have f1 := (k2.on (below_drewN (Below.refl _ w2) q)).cell 2
      simp only [List.getElem?_toArray, List.getElem?_cons_zero, List.getElem?_cons_succ] at e1 f1
      generalize hwq : w2.drewN q = wq at *
      by_cases hs : x = y
      · have z1 : (x != y) = false := neZ_t hs
        have HY2 := HY.out hs
        clear HY hF hs
        go_upto_region 6 with fail
        go_quiet (fail)
        go_wp2_with fail
        go_roundw
        case rel => exact ⟨k + 1, by omega, by go_num, ⟨q + nq, by rw [← hwq]; simp [World.drewN, Nat.add_assoc]⟩, HY2⟩
        case measure => simp [RowKit.intOf]; omega
      · have hD := hF hs
        have z1 : (x != y) = true := neZ_f hs
        clear HY hF hs
        go_upto_region 6 with fail
        go_quiet (fail)
        go_wp2
        go_ret
        exact ⟨by rw [hD]; first | rfl | simp, below_drewN bq nq⟩
    · obtain rfl : k = n := by omega
      have hD1 := T1.out (fun j hj => HB.out j hj hj)
      subst hD1
      clear HB T1 F1 H1 H1'
      obtain ⟨q0, hq0⟩ : ∃ q0, q0 = q := ⟨_, rfl⟩
      have hkz : ¬ (k : Int) < (k : Int) := by omega
      have e3 := (k12.on (below_drewN (Below.refl _ w2) q)).cell 3
      simp only [List.getElem?_toArray, List.getElem?_cons_zero, List.getElem?_cons_succ] at e3
      go_wp2_with fail
      clear e3 hq0 q0
      go_loopw [58] (fun i wr => ∃ j : Nat, j ≤ m ∧ i = .int .i64 j ∧ (∃ q, wr = w2.drewN q) ∧ Hid (∀ i, i < m → i < j → ts.getD i [] = ts'.getD i [])) (fun i _ => m - (RowKit.intOf i).toNat)
      case atStart => exact ⟨0, by omega, rfl, ⟨q, rfl⟩, fun j _ h => absurd h (Nat.not_lt_zero _)⟩
      case round =>
        clear hlt hk hkz
        obtain ⟨k, hk, rfl, ⟨q, rfl⟩, HB⟩ := hrel
        by_cases hlt : k < m
        · have bq := below_drewN b2 q
          obtain ⟨g, o, rfl, hg, hc⟩ := H2.out k hlt
          obtain ⟨g', o', rfl, hg', hc'⟩ := H2'.out k hlt
          have a0 : (w2.drewN q).cell? ⟨g, o + k, none⟩ = some (str (ts.getD k [])) := by rw [bq.cell (p := ⟨g, o + k, none⟩) hg]; exact hc
          have a0' : (w2.drewN q).cell? ⟨g', o' + k, none⟩ = some (str (ts'.getD k [])) := by rw [bq.cell (p := ⟨g', o' + k, none⟩) hg']; exact hc'
          have hF := F2.out k hlt
          have HY : Hid (ts.getD k [] = ts'.getD k [] → (∀ j, j < m → j < k + 1 → ts.getD j [] = ts'.getD j [])) := fun h j hj hj2 => by
            rcases Nat.lt_or_ge j k with h3 | h3
            · exact HB.out j hj h3
            · have : j = k := by omega
              subst this; exact h
          clear hc hc' HB
          generalize ts.getD k [] = x at *
          generalize ts'.getD k [] = y at *
          have hkz : (k : Int) < (m : Int) := by omega
          have e1 := (k12.on (below_drewN (Below.refl _ w2) q)).cell 3
          have f1 := (k2.on (below_drewN (Below.refl _ w2) q)).cell 3
          simp only [List.getElem?_toArray, List.getElem?_cons_zero, List.getElem?_cons_succ] at e1 f1
          generalize hwq : w2.drewN q = wq at *
          by_cases hs : x = y
          · have z1 : (x == y) = true := by rw [beq_l]; exact decide_eq_true hs
            have HY2 := HY.out hs
            clear HY hF hs
            go_upto_region 12 with fail
            go_quiet (fail)
            go_wp2_with fail
            go_roundw
            case rel => exact ⟨k + 1, by omega, by go_num, ⟨q + nq, by rw [← hwq]; simp [World.drewN, Nat.add_assoc]⟩, HY2⟩
            case measure => simp [RowKit.intOf]; omega
          · have hD := hF hs
            have z1 : (x == y) = false := by rw [beq_l]; exact decide_eq_false hs
            clear HY hF hs
            go_upto_region 12 with fail
            go_quiet (fail)
            go_wp2
            go_ret
            exact ⟨by rw [hD]; first | rfl | simp, below_drewN bq nq⟩
        · obtain rfl : k = m := by omega
          have hD2 := T2.out (fun j hj => HB.out j hj hj)
          subst hD2
          have bq := below_drewN b2 q
          have e4 := (k12.on (below_drewN (Below.refl _ w2) q)).cell 4
          have f4 := (k2.on (below_drewN (Below.refl _ w2) q)).cell 4
          simp only [List.getElem?_toArray, List.getElem?_cons_zero, List.getElem?_cons_succ] at e4 f4
          have SL1 := SL (w2.drewN q) bq
          generalize w2.drewN q = w5 at *
          have hkz : ¬ (k : Int) < (k : Int) := by omega
          go_wp2_with (go_at_call 14; refine SL1.mono ?_; rintro e w6 ⟨rfl, b6⟩)
          go_ret
          exact ⟨by first | rfl | simp, bq.trans (b6.mono bq.size)⟩
theorem same15_any (w : World) (ca cb : Int) (vn vt vp : Value) (ns : List Int) (ts : List (List UInt8)) (ps : List Pr) (ca' cb' : Int) (vn' vt' vp' : Value) (ns' : List Int) (ts' : List (List UInt8)) (ps' : List Pr) (h : RdM w w.heap.size vn vt vp ns ts ps) (h' : RdM w w.heap.size vn' vt' vp' ns' ts' ps') :
    Calls Tryd.prog 19 #[.agg (mtA ca cb vn vt vp), .agg (mtA ca' cb' vn' vt' vp')] w fun e w' => e = .returned (.bool (sameM ca cb ns ts ps ca' cb' ns' ts' ps')) ∧ Below w.heap.size w w' := by
  unfold sameM
  by_cases c1 : ca = ca' ∧ cb = cb' ∧ ns.length = ns'.length ∧ ts.length = ts'.length
  · obtain ⟨rfl, rfl, c3, c4⟩ := c1
    rw [decide_eq_true (rfl : ca = ca), decide_eq_true (rfl : cb = cb), Bool.true_and, Bool.true_and]
    have key : ∀ {v : Value} {l : List Int}, RdN w w.heap.size v l → ∃ a c, v = .slice a l.length c ∧ ∀ k (h : k < l.length), ∃ g o, a = some ⟨g, o, none⟩ ∧ g < w.heap.size ∧ w.cell? ⟨g, o + k, none⟩ = some (.int .i64 l[k]) := fun h => by
      rcases h with ⟨⟨a, c, rfl⟩, rfl⟩ | ⟨g, o, c, rfl, hc, hg, hx⟩
      · exact ⟨_, _, rfl, fun k h => absurd h (Nat.not_lt_zero k)⟩
      · exact ⟨_, _, rfl, fun k h => ⟨g, o, rfl, hg, hx k h⟩⟩
    have keyT : ∀ {v : Value} {l : List (List UInt8)}, RdT w w.heap.size v l → ∃ a c, v = .slice a l.length c ∧ ∀ k (h : k < l.length), ∃ g o, a = some ⟨g, o, none⟩ ∧ g < w.heap.size ∧ w.cell? ⟨g, o + k, none⟩ = some (str l[k]) := fun h => by
      rcases h with ⟨⟨a, c, rfl⟩, rfl⟩ | ⟨g, o, c, rfl, hc, hg, hx⟩
      · exact ⟨_, _, rfl, fun k h => absurd h (Nat.not_lt_zero k)⟩
      · exact ⟨_, _, rfl, fun k h => ⟨g, o, rfl, hg, hx k h⟩⟩
    obtain ⟨na, nc, rfl, hn⟩ := key h.n
    obtain ⟨na', nc', rfl, hn'⟩ := key h'.n
    obtain ⟨ta, tc, rfl, ht⟩ := keyT h.t
    obtain ⟨ta', tc', rfl, ht'⟩ := keyT h'.t
    have hs := h.sz
    rw [← c3, ← c4]
    exact same_len15 w ca cb na ta na' ta' ns.length ts.length nc tc nc' tc' vp vp' ns ns' ts ts' ps ps' rfl c3.symm rfl c4.symm (by omega) (by omega) hn hn' ht ht' h.p h'.p
  · have hf : (decide (ca = ca') && (decide (cb = cb') && (decide (ns = ns') && (decide (ts = ts') && sameL ps ps')))) = false := by
      by_cases d1 : ca = ca'
      · by_cases d2 : cb = cb'
        · by_cases d3 : ns = ns'
          · by_cases d4 : ts = ts'
            · exact absurd ⟨d1, d2, by rw [d3], by rw [d4]⟩ c1
            · rw [decide_eq_false d4]; simp
          · rw [decide_eq_false d3]; simp
        · rw [decide_eq_false d2]; simp
      · rw [decide_eq_false d1]; simp
    rw [hf]
    obtain ⟨na, nc, rfl⟩ := h.n.shape
    obtain ⟨na', nc', rfl⟩ := h'.n.shape
    obtain ⟨ta, tc, rfl⟩ := h.t.shape
    obtain ⟨ta', tc', rfl⟩ := h'.t.shape
    obtain ⟨pa, pc, rfl⟩ := h.p.shape
    obtain ⟨pa', pc', rfl⟩ := h'.p.shape
    refine same_no15 w ca cb ca' cb' na ta pa na' ta' pa' ns.length ts.length ps.length ns'.length ts'.length ps'.length nc tc pc nc' tc' pc' ?_
    by_cases d1 : ca = ca'
    · by_cases d2 : cb = cb'
      · by_cases d3 : ns.length = ns'.length
        · exact .inr (.inr (.inr ⟨d1, d2, d3, fun d4 => c1 ⟨d1, d2, d3, d4⟩⟩))
        · exact .inr (.inr (.inl ⟨d1, d2, d3⟩))
      · exact .inr (.inl ⟨d1, d2⟩)
    · exact .inl d1
end Go.Proofs.YtmaaacaifpgpaaaDoor

namespace Go.Proofs.YtmaaacaifpgpaaaDoor
open Go.RowKit Go.Lib
set_option maxRecDepth 100000
set_option linter.unusedSimpArgs false

theorem rd_byte {w : World} {a : Option Addr} {c : Nat} {l : List UInt8} (h : RdB w (.slice a l.length c) l) (h0 : 0 < l.length) : ∃ g o, a = some ⟨g, o, none⟩ ∧ ∀ i, i < l.length → w.cell? ⟨g, o + i, none⟩ = some (.int .u8 ((l.getD i 0).toNat : Int)) := by
  rcases h with ⟨h1, rfl⟩ | ⟨b, o, c', h1, _, hc⟩
  · simp at h0
  · injection h1 with h2 h3 h4
    subst h2
    exact ⟨b, o, rfl, hc⟩
theorem sameM_x {a b a' b' : Int} {ns ns' : List Int} {ts ts' : List (List UInt8)} {ps ps' : List Pr} {x y : List UInt8} (h : payP a b ns ts ps = some x) (h' : payP a' b' ns' ts' ps' = some y) (n1 : ∀ r ∈ ps, Nums r) (n2 : ∀ r ∈ ps', Nums r) : sameM a b ns ts ps a' b' ns' ts' ps' = (x == y) := by
  rw [beq_l]
  unfold sameM
  by_cases hxy : x = y
  · subst hxy
    obtain ⟨rfl, rfl, rfl, rfl, rfl⟩ := payP_inj h h' n1 n2
    rw [(sameL_eq ps ps).2 rfl]
    simp
  · rw [decide_eq_false hxy]
    by_cases d1 : a = a'
    · by_cases d2 : b = b'
      · by_cases d3 : ns = ns'
        · by_cases d4 : ts = ts'
          · by_cases d5 : ps = ps'
            · subst d1 d2 d3 d4 d5
              rw [h] at h'
              injection h' with h'
              exact absurd h' hxy
            · have : sameL ps ps' = false := by
                cases hs : sameL ps ps' with
                | false => rfl
                | true => exact absurd ((sameL_eq ps ps').1 hs) d5
              rw [this]; simp
          · rw [decide_eq_false d4]; simp
        · rw [decide_eq_false d3]; simp
      · rw [decide_eq_false d2]; simp
    · rw [decide_eq_false d1]; simp
set_option maxHeartbeats 8000000 in
theorem tells_law (w : World) (ca cb : Int) (vn vt vp : Value) (ns : List Int) (ts : List (List UInt8)) (ps : List Pr) (ca' cb' : Int) (vn' vt' vp' : Value) (ns' : List Int) (ts' : List (List UInt8)) (ps' : List Pr) (hv : Mv w) (h : RdM w w.heap.size vn vt vp ns ts ps) (h' : RdM w w.heap.size vn' vt' vp' ns' ts' ps') (n1 : ∀ r ∈ ps, Nums r) (n2 : ∀ r ∈ ps', Nums r) :
    Calls Tryd.prog 7 #[.agg (mtA ca cb vn vt vp), .agg (mtA ca' cb' vn' vt' vp')] w fun e w' => e = .returned (.bool true) ∧ Below w.heap.size w w' := by
  obtain ⟨na, nc, e1⟩ := h.n.shape
  obtain ⟨ta, tc, e2⟩ := h.t.shape
  obtain ⟨pa, pc, e3⟩ := h.p.shape
  obtain ⟨na', nc', e4⟩ := h'.n.shape
  obtain ⟨ta', tc', e5⟩ := h'.t.shape
  obtain ⟨pa', pc', e6⟩ := h'.p.shape
  subst e1 e2 e3 e4 e5 e6
  have b1 := below_new w (.cells (mtA ca cb (.slice na ns.length nc) (.slice ta ts.length tc) (.slice pa ps.length pc)) 36)
  have k1 := Blk.new w (mtA ca cb (.slice na ns.length nc) (.slice ta ts.length tc) (.slice pa ps.length pc)) 36
  have s1 : (w.alloc (.cells (mtA ca cb (.slice na ns.length nc) (.slice ta ts.length tc) (.slice pa ps.length pc)) 36)).heap.size = w.heap.size + 1 := by simp
  generalize hw1 : w.alloc (.cells (mtA ca cb (.slice na ns.length nc) (.slice ta ts.length tc) (.slice pa ps.length pc)) 36) = w1 at *
  have b2 := b1.trans ((below_new w1 (.cells (mtA ca' cb' (.slice na' ns'.length nc') (.slice ta' ts'.length tc') (.slice pa' ps'.length pc')) 36)).mono b1.size)
  have k2 := Blk.new w1 (mtA ca' cb' (.slice na' ns'.length nc') (.slice ta' ts'.length tc') (.slice pa' ps'.length pc')) 36
  have k12 := k1.alloc (.cells (mtA ca' cb' (.slice na' ns'.length nc') (.slice ta' ts'.length tc') (.slice pa' ps'.length pc')) 36)
  rw [s1] at k2
  generalize hw2 : w1.alloc (.cells (mtA ca' cb' (.slice na' ns'.length nc') (.slice ta' ts'.length tc') (.slice pa' ps'.length pc')) 36) = w2 at *
  have W := wakes_any w2 (hv.on b2)
  clear k1 b1
  go_enter Tryd.func7, Tryd.ntmps7
  go_wp2_with fail
  refine W.mono ?_
  rintro e w3 ⟨rfl, b3⟩
  have B3 := b2.trans (b3.mono b2.size)
  have K3 := k12.on b3
  have L3 := k2.on b3
  have m3 : RdM w3 w3.heap.size _ _ _ ns ts ps := (h.on B3).up B3.size
  have m3' : RdM w3 w3.heap.size _ _ _ ns' ts' ps' := (h'.on B3).up B3.size
  have M3 : Mv w3 := hv.on B3
  have H1 := heavy_any w3 ca cb _ _ _ ns ts ps m3
  clear W b3 b2 k12 k2 h h' hv
  have c0 := K3.cell 0
  have c1 := K3.cell 1
  have c2 := K3.cell 2
  have c3 := K3.cell 3
  have c4 := K3.cell 4
  simp only [List.getElem?_toArray, List.getElem?_cons_zero, List.getElem?_cons_succ] at c0 c1 c2 c3 c4
  go_wp2_with fail
  refine H1.mono ?_
  rintro e w4 ⟨⟨r1, rfl⟩, b4⟩
  have B4 := B3.trans (b4.mono B3.size)
  have K4 := K3.on b4
  have L4 := L3.on b4
  have m4 : RdM w4 w4.heap.size _ _ _ ns ts ps := (m3.on b4).up b4.size
  have m4' : RdM w4 w4.heap.size _ _ _ ns' ts' ps' := (m3'.on b4).up b4.size
  have M4 := M3.on b4
  have H2 := heavy_any w4 ca' cb' _ _ _ ns' ts' ps' m4'
  clear H1 K3 L3 m3 m3' M3 b4 c0 c1 c2 c3 c4
  have d0 := L4.cell 0
  have d1 := L4.cell 1
  have d2 := L4.cell 2
  have d3 := L4.cell 3
  have d4 := L4.cell 4
  simp only [List.getElem?_toArray, List.getElem?_cons_zero, List.getElem?_cons_succ] at d0 d1 d2 d3 d4
  cases r1 with
  | true =>
    go_wp2_with fail
    go_ret
    exact ⟨rfl, B4⟩
  | false =>
  go_wp2_with fail
  refine H2.mono ?_
  rintro e w5 ⟨⟨r2, rfl⟩, b5⟩
  have B5 := B4.trans (b5.mono B4.size)
  have K5 := K4.on b5
  have L5 := L4.on b5
  have m5 : RdM w5 w5.heap.size _ _ _ ns ts ps := (m4.on b5).up b5.size
  have m5' : RdM w5 w5.heap.size _ _ _ ns' ts' ps' := (m4'.on b5).up b5.size
  have M5 := M4.on b5
  have E1 := encode_any w5 ca cb _ _ _ ns ts ps M5 m5
  clear H2 K4 L4 m4 m4' M4 b5 d0 d1 d2 d3 d4
  have c0 := K5.cell 0
  have c1 := K5.cell 1
  have c2 := K5.cell 2
  have c3 := K5.cell 3
  have c4 := K5.cell 4
  simp only [List.getElem?_toArray, List.getElem?_cons_zero, List.getElem?_cons_succ] at c0 c1 c2 c3 c4
  cases r2 with
  | true =>
    go_wp2_with fail
    go_ret
    exact ⟨rfl, B5⟩
  | false =>
  go_wp2_with fail
  refine E1.mono ?_
  rintro e w6 ⟨hE, b6⟩
  have B6 := B5.trans (b6.mono B5.size)
  have K6 := K5.on b6
  have L6 := L5.on b6
  have m6 : RdM w6 w6.heap.size _ _ _ ns ts ps := (m5.on b6).up b6.size
  have m6' : RdM w6 w6.heap.size _ _ _ ns' ts' ps' := (m5'.on b6).up b6.size
  have M6 := M5.on b6
  have E2 := encode_any w6 ca' cb' _ _ _ ns' ts' ps' M6 m6'
  clear E1 K5 L5 m5 m5' M5 b6 c0 c1 c2 c3 c4
  have d0 := L6.cell 0
  have d1 := L6.cell 1
  have d2 := L6.cell 2
  have d3 := L6.cell 3
  have d4 := L6.cell 4
  simp only [List.getElem?_toArray, List.getElem?_cons_zero, List.getElem?_cons_succ] at d0 d1 d2 d3 d4
  rcases hE with ⟨x, xa, xc, hx, rfl, ox⟩ | ⟨hx, rfl⟩
  · obtain ⟨m, n, z, rfl, rfl, hm, hn, hxz⟩ := payP_head hx
    have hl4 : 4 ≤ x.length := by rw [hxz]; simp
    obtain ⟨g, o, rfl, hcell⟩ := rd_byte ox.rd (by omega)
    have x0 := hcell 0 (by omega)
    have x1 := hcell 1 (by omega)
    have x2 := hcell 2 (by omega)
    have x3 := hcell 3 (by omega)
    have g0 : x.getD 0 0 = 0 := by rw [hxz]; rfl
    have g1 : x.getD 1 0 = UInt8.ofNat m := by rw [hxz]; rfl
    have g2 : x.getD 2 0 = 0 := by rw [hxz]; rfl
    have g3 : x.getD 3 0 = UInt8.ofNat n := by rw [hxz]; rfl
    have t1 : (UInt8.ofNat m).toNat = m := by rw [UInt8.toNat_ofNat']; omega
    have t2 : (UInt8.ofNat n).toNat = n := by rw [UInt8.toNat_ofNat']; omega
    have t0 : (((0 : UInt8).toNat : Nat) : Int) = 0 := rfl
    rw [g0, t0] at x0
    rw [g1, t1] at x1
    rw [g2, t0] at x2
    rw [g3, t2] at x3
    have rx := ox.rd
    have HX : Hid (payP m n ns ts ps = some x) := hx
    clear g0 g1 g2 g3 t0 t1 t2 hxz hcell ox hx z
    go_wp2_with fail
    refine E2.mono ?_
    rintro e w7 ⟨hE2, b7⟩
    have B7 := B6.trans (b7.mono B6.size)
    have K7 := K6.on b7
    have L7 := L6.on b7
    have m7 : RdM w7 w7.heap.size _ _ _ ns ts ps := (m6.on b7).up b7.size
    have m7' : RdM w7 w7.heap.size _ _ _ ns' ts' ps' := (m6'.on b7).up b7.size
    have y0 : w7.cell? ⟨g, o + 0, none⟩ = _ := (b7.cell (p := ⟨g, o + 0, none⟩) (World.block_lt_of_cell? w6 _ x0)).trans x0
    have y1 : w7.cell? ⟨g, o + 1, none⟩ = _ := (b7.cell (p := ⟨g, o + 1, none⟩) (World.block_lt_of_cell? w6 _ x1)).trans x1
    have y2 : w7.cell? ⟨g, o + 2, none⟩ = _ := (b7.cell (p := ⟨g, o + 2, none⟩) (World.block_lt_of_cell? w6 _ x2)).trans x2
    have y3 : w7.cell? ⟨g, o + 3, none⟩ = _ := (b7.cell (p := ⟨g, o + 3, none⟩) (World.block_lt_of_cell? w6 _ x3)).trans x3
    simp only [Nat.add_zero] at y0
    have rx7 := rx.on b7
    clear E2 K6 L6 m6 m6' M6 x0 x1 x2 x3 rx d0 d1 d2 d3 d4
    have hz4 : decide ((x.length : Int) < 4) = false := decide_eq_false (by omega)
    have p0 : (0 : Int) < (x.length : Int) := by omega
    have p1 : (1 : Int) < (x.length : Int) := by omega
    have p2 : (2 : Int) < (x.length : Int) := by omega
    have p3 : (3 : Int) < (x.length : Int) := by omega
    have w256 : (0 : Int) * 256 = 0 := rfl
    have zm : ((m : Int) != (m : Int)) = false := by simp
    have zn : ((n : Int) != (n : Int)) = false := by simp
    have c0 := K7.cell 0
    have c1 := K7.cell 1
    simp only [List.getElem?_toArray, List.getElem?_cons_zero, List.getElem?_cons_succ] at c0 c1
    rcases hE2 with ⟨y, ya, yc, hy, rfl, oy⟩ | ⟨hy, rfl⟩
    · have hs : sameM m n ns ts ps ca' cb' ns' ts' ps' = (x == y) := sameM_x HX.out hy n1 n2
      have ry := oy.rd
      clear hy oy HX
      go_upto_region 7 with fail
      go_quiet (fail)
      clear y0 y1 y2 y3 c0 c1
      go_upto_region 9 with fail
      have bq := below_drewN (Below.refl w7.heap.size w7) nq
      have B8 := below_drewN B7 nq
      have K8 := K7.on bq
      have L8 := L7.on bq
      have m8 : RdM (w7.drewN nq) (w7.drewN nq).heap.size _ _ _ ns ts ps := (m7.on bq).up bq.size
      have m8' : RdM (w7.drewN nq) (w7.drewN nq).heap.size _ _ _ ns' ts' ps' := (m7'.on bq).up bq.size
      have rx8 := rx7.on bq
      have ry8 := ry.on bq
      clear K7 L7 m7 m7' rx7 ry bq B7
      generalize w7.drewN nq = w8 at *
      have SM := fun w' (hb : Below w8.heap.size w8 w') => same15_any w' m n _ _ _ ns ts ps ca' cb' _ _ _ ns' ts' ps' ((m8.on hb).up hb.size) ((m8'.on hb).up hb.size)
      rw [hs] at SM
      refine wp_region_held (S := fun W => Blk W w.heap.size (mtA m n (.slice na ns.length nc) (.slice ta ts.length tc) (.slice pa ps.length pc)) 36 ∧ Blk W (w.heap.size + 1) (mtA ca' cb' (.slice na' ns'.length nc') (.slice ta' ts'.length tc') (.slice pa' ps'.length pc')) 36 ∧ RdB W (.slice (some ⟨g, o, none⟩) x.length xc) x ∧ RdB W (.slice ya y.length yc) y) hmix ?_
      show wpAnyH _ _ _ _ _ _ _ _ (World.drew _)
      have b9 : Below w8.heap.size w8 w8.drew := (Below.refl _ _).drew
      have hS : Blk w8.drew w.heap.size (mtA m n (.slice na ns.length nc) (.slice ta ts.length tc) (.slice pa ps.length pc)) 36 ∧ Blk w8.drew (w.heap.size + 1) (mtA ca' cb' (.slice na' ns'.length nc') (.slice ta' ts'.length tc') (.slice pa' ps'.length pc')) 36 ∧ RdB w8.drew (.slice (some ⟨g, o, none⟩) x.length xc) x ∧ RdB w8.drew (.slice ya y.length yc) y := ⟨K8.on b9, L8.on b9, rx8.on b9, ry8.on b9⟩
      have SM9 := SM _ b9
      have B9 : Below w.heap.size w w8.drew := B8.trans (b9.mono B8.size)
      clear K8 L8 rx8 ry8 m8 m8' SM hs
      generalize w8.drew = w9 at *
      generalize hxy : (x == y) = bxy at *
      refine tks [0, 1, 2, 3, 4, 5, 6, 7, 8, 9, 10, 11, 12, 13] [.int .i64 0, .bool false, .bool false, .int .i64 0, .bool false, .bool false, .bool false, (.slice (some ⟨g, o, none⟩) x.length xc), str x, (.slice ya y.length yc), str y, .bool bxy, .agg (mtA m n (.slice na ns.length nc) (.slice ta ts.length tc) (.slice pa ps.length pc)), .agg (mtA ca' cb' (.slice na' ns'.length nc') (.slice ta' ts'.length tc') (.slice pa' ps'.length pc'))] 4 ?_ hS ?_
      · simp only [tkY, tkf]
        refine ⟨.yes ?_, .yes ?_, .yes ?_, .yes ?_, .yes ?_, .yes ?_, .yes ?_, .yes ?_, .yes ?_, .yes ?_, .yes ?_, .yes ?_, .yes ?_, .yes ?_, trivial⟩
        all_goals
          rintro W' ⟨hW1, hW2, hW3, hW4⟩
          have c0 := hW1.cell 0
          have c1 := hW1.cell 1
          have c2 := hW1.cell 2
          have c3 := hW1.cell 3
          have c4 := hW1.cell 4
          have d0 := hW2.cell 0
          have d1 := hW2.cell 1
          have d2 := hW2.cell 2
          have d3 := hW2.cell 3
          have d4 := hW2.cell 4
          simp only [List.getElem?_toArray, List.getElem?_cons_zero, List.getElem?_cons_succ] at c0 c1 c2 c3 c4 d0 d1 d2 d3 d4
          have v1 := conv_any hW3
          have v2 := conv_any hW4
          go_simp
      simp only [tkA, tkf]
      refine ak 14 (fun K hK => ?_)
      go_wp2_with (go_at_call 19; refine SM9.mono ?_; rintro e w10 ⟨rfl, b10⟩)
      have hS10 : Blk w10 w.heap.size (mtA m n (.slice na ns.length nc) (.slice ta ts.length tc) (.slice pa ps.length pc)) 36 ∧ Blk w10 (w.heap.size + 1) (mtA ca' cb' (.slice na' ns'.length nc') (.slice ta' ts'.length tc') (.slice pa' ps'.length pc')) 36 ∧ RdB w10 (.slice (some ⟨g, o, none⟩) x.length xc) x ∧ RdB w10 (.slice ya y.length yc) y := ⟨hS.1.on b10, hS.2.1.on b10, hS.2.2.1.on b10, hS.2.2.2.on b10⟩
      have B10 : Below w.heap.size w w10 := B9.trans (b10.mono B9.size)
      refine hK _ _ hS10 ?_
      clear hK K hS SM9 b10 B9
      have zb : (bxy == bxy) = true := by simp
      refine ak 15 (fun K hK => ?_)
      go_wp2_with fail
      refine hK _ _ hS10 ?_
      clear hK K
      refine ak 16 (fun K hK => ?_)
      go_wp2_with fail
      refine hK _ _ hS10 ?_
      clear hK K
      refine ak 17 (fun K hK => ?_)
      go_wp2_with fail
      refine hK _ _ hS10 ?_
      clear hK K
      refine wpAnyH_done (by kernel_rfl) ?_ _
      go_wp2_with fail
      go_ret
      exact ⟨by first | rfl | simp, B10⟩
    · go_upto_region 7 with fail
      go_quiet (fail)
      clear y0 y1 y2 y3 c0 c1
      go_upto_region 9 with fail
      go_quiet (fail)
      go_wp2_with fail
      go_ret
      exact ⟨by first | rfl | simp, below_drewN (below_drewN B7 _) _⟩
  · go_wp2_with fail
    refine E2.mono ?_
    rintro e w7 ⟨hE2, b7⟩
    have B7 := B6.trans (b7.mono B6.size)
    clear E2 K6 L6 m6 m6' M6 d0 d1 d2 d3 d4
    rcases hE2 with ⟨y, ya, yc, hy, rfl, oy⟩ | ⟨hy, rfl⟩
    · go_upto_region 7 with fail
      go_quiet (fail)
      go_upto_region 9 with fail
      go_quiet (fail)
      go_wp2_with fail
      go_ret
      exact ⟨by first | rfl | simp, below_drewN (below_drewN B7 _) _⟩
    · go_upto_region 7 with fail
      go_quiet (fail)
      go_upto_region 9 with fail
      go_quiet (fail)
      go_wp2_with fail
      go_ret
      exact ⟨by first | rfl | simp, below_drewN (below_drewN B7 _) _⟩
end Go.Proofs.YtmaaacaifpgpaaaDoor

namespace Go.Proofs.YtmaaacaifpgpaaaDoor
open Go.RowKit Go.Lib
set_option maxRecDepth 100000
set_option linter.unusedSimpArgs false

theorem ctab_len {s r : List UInt8} {L : List Pr} (h : ctab s = some (L, r)) : L.length ≤ 16 := by
  unfold ctab at h
  split at h
  · cases h
  · split at h
    · cases h
    · rename_i t r' hc
      unfold tabO at h
      split at h
      · rename_i ho
        simp only [Option.map_some] at h
        injection h with h
        injection h with h _
        rw [← h]
        exact (valid_parts (okO_true ho).2).1
      · cases h
/-- What Put gives. -/
def putL (l : List UInt8) (ps : List Pr) : List UInt8 := if validL ps = true then l ++ tabL ps else []
def putE (ps : List Pr) : Int := if validL ps = true then 0 else 36
theorem put_any (w : World) (v va : Value) (l : List UInt8) (ps : List Pr) (h : RdA w v l) (hl : l.length ≤ 100000000) (hr : RdP w va ps) (hf : ∀ q ∈ ps, Fits q) :
    Calls Tryd.prog 10 #[v, va] w fun e w' => ∃ v', e = .returned (.tuple #[v', .int .i64 (putE ps)]) ∧ Own w' w.heap.size v' (putL l ps) ∧ Below w.heap.size w w' := by
  unfold putL putE
  by_cases hv : validL ps = true
  · rw [if_pos hv, if_pos hv]
    exact put_ok w v va l ps h hl hr hv (fun q hq => (hf q hq).2)
  · rw [if_neg hv, if_neg hv]
    refine (put_bad w v va ps hr (by simpa using hv)).mono ?_
    rintro e w' ⟨rfl, hb⟩
    exact ⟨_, rfl, Own.nil _ _, hb⟩
theorem rput_any (w : World) (v va : Value) (l : List UInt8) (ps : List Pr) (h : RdA w v l) (hl : l.length ≤ 100000000) (hr : RdP w va ps) (hf : ∀ q ∈ ps, Fits q) (h63 : ps.length ≤ 9223372036854775806) :
    Calls Tryd.prog 11 #[v, va] w fun e w' => ∃ v', e = .returned (.tuple #[v', .int .i64 (putE ps)]) ∧ Own w' w.heap.size v' (putL l ps) ∧ Below w.heap.size w w' := by
  unfold putL putE
  by_cases hv : validL ps = true
  · rw [if_pos hv, if_pos hv]
    exact rput_ok w v va l ps h hl hr hv hf h63
  · rw [if_neg hv, if_neg hv]
    refine (rput_bad w v va ps hr (by simpa using hv) hf h63).mono ?_
    rintro e w' ⟨rfl, hb⟩
    exact ⟨_, rfl, Own.nil _ _, hb⟩
/-- What Take gives. -/
def tkPs (s : List UInt8) : List Pr := match ctab s with
  | some (L, _) => L
  | none => []
def tkZ (s : List UInt8) : Int := match ctab s with
  | some (_, r) => ((s.length - r.length : Nat) : Int)
  | none => 0
def tkE (s : List UInt8) : Int := match ctab s with
  | some _ => 0
  | none => 11
theorem tkPs_len (s : List UInt8) : (tkPs s).length ≤ 9223372036854775806 := by
  unfold tkPs
  cases h : ctab s with
  | none => simp
  | some LR =>
    obtain ⟨L, r⟩ := LR
    have := ctab_len h
    simp only
    omega
theorem TkP.un {w : World} {B : Nat} {s : List UInt8} {v : Value} {z n : Int} (h : TkP w B s v z n) : RdP w v (tkPs s) ∧ z = tkZ s ∧ n = tkE s := by
  unfold tkPs tkZ tkE
  rcases h with ⟨L, r, h1, rfl, h3, rfl⟩ | ⟨h1, rfl, rfl, rfl⟩
  · rw [h1]
    exact ⟨h3.rd, rfl, rfl⟩
  · rw [h1]
    exact ⟨.inl ⟨⟨_, _, rfl⟩, rfl⟩, rfl, rfl⟩
theorem sameL_self (l : List Pr) : sameL l l = true := (sameL_eq l l).2 rfl
set_option maxHeartbeats 2000000 in
theorem tables_law (w : World) (hv : Mv w) (va vb : Value) (ps : List Pr) (l s : List UInt8) (hr : RdP w va ps) (hb : RdA w vb l) (hf : ∀ q ∈ ps, Fits q) (h63 : ps.length ≤ 9223372036854775806) :
    Calls Tryd.prog 3 #[va, vb, str s] w fun e w' => e = .returned (.bool true) ∧ Below w.heap.size w w' := by
  obtain ⟨cb, xb, hvb⟩ : ∃ a c, vb = .slice a l.length c := by
    rcases hb with (⟨rfl, rfl⟩ | ⟨b, o, c, rfl, _⟩) | ⟨⟨a, c, rfl⟩, rfl⟩
    · exact ⟨_, _, rfl⟩
    · exact ⟨_, _, rfl⟩
    · exact ⟨_, _, rfl⟩
  subst hvb
  have HR : Hid (RdP w va ps) := hr
  have HB : Hid (RdA w (.slice cb l.length xb) l) := hb
  have LO := fun w (h : RdP w va ps) => alllong_any w va ps h h63
  have WA := wakes_any w hv
  have P1 := fun w hb hl (h : RdP w va ps) => put_any w (.slice cb l.length xb) va l ps hb hl h hf
  have P2 := fun w hb hl (h : RdP w va ps) => rput_any w (.slice cb l.length xb) va l ps hb hl h hf h63
  clear hr hf h63 hb hv
  go_enter Tryd.func3, Tryd.ntmps3
  go_wp2_with fail
  refine WA.mono ?_
  rintro e w1 ⟨rfl, b1⟩
  clear WA
  go_wp2_with fail
  refine (LO _ (HR.out.on b1)).mono ?_
  rintro e w2 ⟨⟨x, rfl⟩, b2⟩
  have B2 := b1.trans (b2.mono b1.size)
  clear b1 b2 LO
  cases x with
  | true =>
    go_wp2_with fail
    go_ret
    exact ⟨rfl, B2⟩
  | false =>
    by_cases hl : 16384 < l.length
    · have d1 : decide ((16384 : Int) < (l.length : Int)) = true := by simp; omega
      go_wp2_with fail
      go_ret
      exact ⟨rfl, B2⟩
    have d1 : decide ((16384 : Int) < (l.length : Int)) = false := by simp; omega
    by_cases hs : 16384 < s.length
    · have d2 : decide ((16384 : Int) < (s.length : Int)) = true := by simp; omega
      go_wp2_with fail
      go_ret
      exact ⟨rfl, B2⟩
    have d2 : decide ((16384 : Int) < (s.length : Int)) = false := by simp; omega
    have T1 := fun w => ttake_any w s (by omega)
    have T2 := fun w => rtake_any w s (by omega)
    have E1 := P1 w2 (HB.out.on B2) (by omega) (HR.out.on B2)
    have E2 := fun w h1 h2 => P2 w h1 (by omega) h2
    have EL := tkPs_len s
    clear P1 P2 hl hs
    generalize putL l ps = ob at *
    generalize putE ps = oe at *
    go_wp2_with fail
    refine E1.mono ?_
    rintro e w3 ⟨v3, rfl, o3, b3⟩
    have B3 := B2.trans (b3.mono B2.size)
    clear E1
    go_wp2_with fail
    refine (E2 _ (HB.out.on B3) (HR.out.on B3)).mono ?_
    rintro e w4 ⟨v4, rfl, o4, b4⟩
    have B4 := B3.trans (b4.mono B3.size)
    have o34 := o3.on b4
    clear E2 B3 b3 b4 o3
    go_wp2_with fail
    refine (T1 _).mono ?_
    rintro e w5 ⟨v5, z5, n5, rfl, t5, b5⟩
    obtain ⟨r5, rfl, rfl⟩ := t5.un
    have B5 := B4.trans (b5.mono B4.size)
    have o35 := o34.on b5
    have o45 := o4.on b5
    clear T1 B4 b5 o34 o4 t5
    go_wp2_with fail
    refine (T2 _).mono ?_
    rintro e w6 ⟨v6, z6, n6, rfl, t6, b6⟩
    obtain ⟨r6, rfl, rfl⟩ := t6.un
    have B6 := B5.trans (b6.mono B5.size)
    have cv3 := conv_any (o35.on b6).rd
    have cv4 := conv_any (o45.on b6).rd
    have A := all7 w6 v5 v6 (tkPs s) (tkPs s) (r5.on b6) r6 EL
    rw [sameL_self] at A
    clear T2 B5 b6 o35 o45 r5 r6 t6 EL
    generalize tkPs s = L at *
    generalize tkZ s = z at *
    generalize tkE s = n at *
    go_wp2_with (go_at_call 14; refine A.mono ?_; rintro e w7 ⟨rfl, b7⟩)
    go_ret
    exact ⟨rfl, B6.trans (b7.mono B6.size)⟩
end Go.Proofs.YtmaaacaifpgpaaaDoor

namespace Go.Proofs.YtmaaacaifpgpaaaDoor
open Go.ChangeShapes Go.WideShapes Go.ChangeAt Go.RowKit Go.Lib Go.Deep
set_option maxRecDepth 100000
set_option linter.unusedSimpArgs false

theorem own : ownKnob Tryd.prog.godebug = none := by kernel_rfl
theorem laidOut : laidOutB Tryd.prog = true := by kernel_rfl
theorem cells3 : Tryd.prog.cellsOf 3 = 1 := by kernel_rfl
theorem cells9 : Tryd.prog.cellsOf 9 = 1 := by kernel_rfl
theorem i64b {z : Int} (h : (Lit.int .i64 z).wf = true) : -9223372036854775808 ≤ z ∧ z ≤ 9223372036854775807 := by
  simpa [Lit.wf, IntKind.min, IntKind.max, IntKind.signed, IntKind.bits] using h
theorem str_of (s : ByteArray) : Value.string s = str s.data.toList := by simp [str]

theorem cells44 : Tryd.prog.cellsOf 44 = 1 := by kernel_rfl
theorem cells49 : Tryd.prog.cellsOf 49 = 4 := by kernel_rfl
theorem f64b {z : Nat} (h : (Lit.float .f64 z).wf = true) : z < 2 ^ 64 := by
  simpa [Lit.wf] using h

theorem flt_cell {H : Type} {enc : TypeId × Value → H} {W : World} {c : Value} {fuel : Nat} {x : DataW H × List MemPlace} (h : DataW.trod enc Tryd.prog W 0 (fun _ => true) true fuel 44 [c] = some x) : ∃ r, [c] = [Value.float .f64 r] ∧ r < 2 ^ 64 := by
  cases fuel with
  | zero => simp [DataW.trod] at h
  | succ n =>
    simp only [DataW.trod, Tryd.underlying44] at h
    cases c with
    | float k b =>
      simp at h
      obtain ⟨⟨rfl, hw⟩, _⟩ := h
      exact ⟨b, rfl, f64b hw⟩
    | _ => simp at h
theorem val_cells {H : Type} {enc : TypeId × Value → H} {W : World} {cs : List Value} {fuel : Nat} {x : DataW H × List MemPlace} (h : DataW.trod enc Tryd.prog W 0 (fun _ => true) true fuel 49 cs = some x) :
    ∃ y : Val, cs = [.int .i64 y.kind, .int .i64 y.num, .string y.text, .float .f64 y.real] ∧ (-9223372036854775808 ≤ y.kind ∧ y.kind ≤ 9223372036854775807) ∧ (-9223372036854775808 ≤ y.num ∧ y.num ≤ 9223372036854775807) ∧ y.text.size ≤ maxLen ∧ y.real < 2 ^ 64 := by
  obtain ⟨xs, n, _, rfl, hl, hlen, hf⟩ := DataW.trod_struct Tryd.underlying49 h
  rw [cells49] at hl
  match xs, hlen with
  | [y0, y1, y2, y3], _ =>
    have t0 : DataW.trod enc Tryd.prog W 0 (fun _ => true) true n 3 ((cs.drop 0).take (Tryd.prog.cellsOf 3)) = some y0 := by simpa using hf 0 _ rfl
    have t1 : DataW.trod enc Tryd.prog W 0 (fun _ => true) true n 3 ((cs.drop 1).take (Tryd.prog.cellsOf 3)) = some y1 := by simpa using hf 1 _ rfl
    have t2 : DataW.trod enc Tryd.prog W 0 (fun _ => true) true n 9 ((cs.drop 2).take (Tryd.prog.cellsOf 9)) = some y2 := by simpa using hf 2 _ rfl
    have t3 : DataW.trod enc Tryd.prog W 0 (fun _ => true) true n 44 ((cs.drop 3).take (Tryd.prog.cellsOf 44)) = some y3 := by simpa using hf 3 _ rfl
    match cs, hl with
    | [c0, c1, c2, c3], _ =>
      simp only [cells3, cells9, cells44, List.drop, List.take] at t0 t1 t2 t3
      obtain ⟨k, e0, _, wk⟩ := DataW.trod_int Tryd.underlying3 t0
      obtain ⟨m, e1, _, wm⟩ := DataW.trod_int Tryd.underlying3 t1
      obtain ⟨s, e2, _, ws⟩ := DataW.trod_string Tryd.underlying9 t2
      obtain ⟨r, e3, wr⟩ := flt_cell t3
      simp only [List.cons.injEq, and_true] at e0 e1 e2 e3
      subst e0 e1 e2 e3
      exact ⟨⟨k, m, s, r⟩, rfl, i64b wk, i64b wm, ws, wr⟩
theorem cells51 : Tryd.prog.cellsOf 51 = 5 := by kernel_rfl
theorem bytes51 : Tryd.prog.bytesOf 51 = 56 := by kernel_rfl

/-- What is told of a value that came in. -/
def InV (y : Val) : Prop := (-9223372036854775808 ≤ y.kind ∧ y.kind ≤ 9223372036854775807) ∧ (-9223372036854775808 ≤ y.num ∧ y.num ≤ 9223372036854775807) ∧ y.text.size ≤ maxLen ∧ y.real < 2 ^ 64
def InP (p : Pr) : Prop := p.name.size ≤ maxLen ∧ InV p.val

theorem prop_cells {H : Type} {enc : TypeId × Value → H} {W : World} {cs : List Value} {fuel : Nat} {x : DataW H × List MemPlace} (h : DataW.trod enc Tryd.prog W 0 (fun _ => true) true fuel 51 cs = some x) :
    ∃ y : Pr, cs = [.string y.name, .int .i64 y.val.kind, .int .i64 y.val.num, .string y.val.text, .float .f64 y.val.real] ∧ InP y := by
  obtain ⟨xs, n, _, rfl, hl, hlen, hf⟩ := DataW.trod_struct Tryd.underlying51 h
  rw [cells51] at hl
  match xs, hlen with
  | [y0, y1], _ =>
    have t0 : DataW.trod enc Tryd.prog W 0 (fun _ => true) true n 9 ((cs.drop 0).take (Tryd.prog.cellsOf 9)) = some y0 := by simpa using hf 0 _ rfl
    have t1 : DataW.trod enc Tryd.prog W 0 (fun _ => true) true n 49 ((cs.drop 1).take (Tryd.prog.cellsOf 49)) = some y1 := by simpa using hf 1 _ rfl
    match cs, hl with
    | [c0, c1, c2, c3, c4], _ =>
      simp only [cells9, cells49, List.drop, List.take] at t0 t1
      obtain ⟨s, e0, _, ws⟩ := DataW.trod_string Tryd.underlying9 t0
      obtain ⟨y, e1, hy⟩ := val_cells t1
      simp only [List.cons.injEq, and_true] at e0 e1
      obtain ⟨rfl, rfl, rfl, rfl⟩ := e1
      subst e0
      exact ⟨⟨s, y⟩, rfl, ws, hy⟩

theorem prop_at {H : Type} {enc : TypeId × Value → H} {W : World} {a : Addr} {cs : List Value} {fuel : Nat} {x : DataW H × List MemPlace}
    (hc : W.cells? 0 a (Tryd.prog.cellsOf 51) = some cs) (h : DataW.trod enc Tryd.prog W 0 (fun _ => true) true fuel 51 cs = some x) :
    ∃ (b o : Nat) (y : Pr), a = ⟨b, o, none⟩ ∧ PrAt W b o y ∧ InP y := by
  obtain ⟨y, rfl, hy⟩ := prop_cells h
  rw [cells51] at hc
  obtain ⟨b, o, sp⟩ := a
  obtain ⟨_, _, hh⟩ := World.cells?_some hc
  have h0 := hh 0 (by omega)
  have h1 := hh 1 (by omega)
  have h2 := hh 2 (by omega)
  have h3 := hh 3 (by omega)
  have h4 := hh 4 (by omega)
  simp only [Addr.add, List.getElem?_cons_zero, List.getElem?_cons_succ] at h0 h1 h2 h3 h4
  have hsp : sp = none := by simpa [Addr.add] using World.cell?_spot h0
  subst hsp
  exact ⟨b, o, y, rfl, ⟨h0, h1, h2, h3, h4⟩, hy⟩

theorem rd_props {H : Type} {enc : TypeId × Value → H} {W : World} {a : Option Addr} {n c : Nat} {d : DataW H} {p : List MemPlace}
    (h : DataW.Trod enc Tryd.prog W 0 (fun _ => true) true 22 (.slice a n c) d p) :
    ∃ l : List Pr, RdP W (.slice a n c) l ∧ l.length = n ∧ (∀ q ∈ l, InP q) ∧ (n = 0 ∨ ∃ E S, d = .slice E S ∧ n ≤ E.length + S.length) := by
  obtain ⟨fuel, hf⟩ := h
  rcases open_slice Tryd.underlying22 hf with ⟨hcs, _⟩ | ⟨x, l, cp, m, f, D, Pl, hcs, _, hl, hm, hmm, hx, hel⟩
  · simp [Value.cells] at hcs
    obtain ⟨rfl, rfl, rfl⟩ := hcs
    exact ⟨[], .inl ⟨⟨_, _, rfl⟩, rfl⟩, rfl, fun q hq => by simp at hq, .inl rfl⟩
  · simp [Value.cells] at hcs
    obtain ⟨rfl, rfl, rfl⟩ := hcs
    have hmc : m = c := by simpa using hmm
    subst hmc
    have hd := (Prod.mk.inj hx).1
    rcases Nat.eq_zero_or_pos n with h0 | h0
    · subst h0
      exact ⟨[], .inl ⟨⟨_, _, rfl⟩, rfl⟩, rfl, fun q hq => by simp at hq, .inl rfl⟩
    · have key : ∀ i, i < n → ∃ (b o : Nat) (y : Pr), x.add (i * 5) = ⟨b, o, none⟩ ∧ PrAt W b o y ∧ InP y := fun i hi => by
        obtain ⟨cs', h1, h2⟩ := hel i (by omega)
        have := prop_at h1 h2
        rwa [cells51] at this
      obtain ⟨b, o, _, e0, _⟩ := key 0 (by omega)
      have ex : x = ⟨b, o, none⟩ := by simpa [Addr.add] using e0
      subst ex
      have key2 : ∀ i, i < n → ∃ y : Pr, PrAt W b (o + i * 5) y ∧ InP y := fun i hi => by
        obtain ⟨b', o', y, e, g, hy⟩ := key i hi
        rw [Addr.add_lit] at e
        cases e
        exact ⟨y, g, hy⟩
      have hall : ∀ k, k ≤ n → ∃ l : List Pr, l.length = k ∧ ∀ i (h : i < l.length), PrAt W b (o + i * 5) l[i] ∧ InP l[i] := by
        intro k
        induction k with
        | zero => exact fun _ => ⟨[], rfl, fun i h => by simp at h⟩
        | succ k ih =>
          intro hk
          obtain ⟨l, hl, hh⟩ := ih (by omega)
          obtain ⟨y, hy⟩ := key2 k (by omega)
          refine ⟨l ++ [y], by simp [hl], fun i hi => ?_⟩
          by_cases e : i < l.length
          · rw [List.getElem_append_left e]; exact hh i e
          · have : i = k := by simp at hi; omega
            subst this
            rw [List.getElem_append_right (by omega)]
            simpa using hy
      obtain ⟨l, hl2, hh⟩ := hall n (Nat.le_refl _)
      refine ⟨l, .inr ⟨b, o, m, by rw [hl2], by omega, fun i hi => (hh i hi).1⟩, hl2, fun q hq => ?_, .inr ⟨_, _, hd, by simp⟩⟩
      obtain ⟨i, hi, rfl⟩ := List.mem_iff_getElem.1 hq
      exact (hh i hi).2

theorem InP.fits {q : Pr} (h : InP q) : Fits q := by
  refine ⟨?_, h.2.2.2.2⟩
  have := h.1
  unfold maxLen at this
  omega
end Go.Proofs.YtmaaacaifpgpaaaDoor

namespace Go.Proofs.YtmaaacaifpgpaaaDoor
open Go.ChangeShapes Go.WideShapes Go.ChangeAt Go.RowKit Go.Lib Go.Deep
set_option maxRecDepth 100000
set_option linter.unusedSimpArgs false

theorem cells33 : Tryd.prog.cellsOf 33 = 1 := by kernel_rfl
theorem cells34 : Tryd.prog.cellsOf 34 = 1 := by kernel_rfl
theorem cells22 : Tryd.prog.cellsOf 22 = 1 := by kernel_rfl
theorem bytes3 : Tryd.prog.bytesOf 3 = 8 := by kernel_rfl
theorem bytes9 : Tryd.prog.bytesOf 9 = 16 := by kernel_rfl
theorem weigh33 {H : Type} (E S : List (DataW H)) : DataW.weights Tryd.prog 33 (.slice E S) = (E.length + S.length) * Tryd.prog.bytesOf 3 :: (DataW.weightsAll Tryd.prog 3 E ++ DataW.weightsAll Tryd.prog 3 S) := by
  simp only [DataW.weights, Tryd.underlying33]
theorem weigh34 {H : Type} (E S : List (DataW H)) : DataW.weights Tryd.prog 34 (.slice E S) = (E.length + S.length) * Tryd.prog.bytesOf 9 :: (DataW.weightsAll Tryd.prog 9 E ++ DataW.weightsAll Tryd.prog 9 S) := by
  simp only [DataW.weights, Tryd.underlying34]
theorem weigh22 {H : Type} (E S : List (DataW H)) : DataW.weights Tryd.prog 22 (.slice E S) = (E.length + S.length) * Tryd.prog.bytesOf 51 :: (DataW.weightsAll Tryd.prog 51 E ++ DataW.weightsAll Tryd.prog 51 S) := by
  simp only [DataW.weights, Tryd.underlying22]
theorem weigh36 {H : Type} (a b c d e : DataW H) : DataW.weights Tryd.prog 36 (.agg [a, b, c, d, e]) = a.weights Tryd.prog 3 ++ (b.weights Tryd.prog 3 ++ (c.weights Tryd.prog 33 ++ (d.weights Tryd.prog 34 ++ (e.weights Tryd.prog 22 ++ [])))) := by
  simp only [DataW.weights, Tryd.underlying36]
  rfl
theorem cells36 : Tryd.prog.cellsOf 36 = 5 := by kernel_rfl
theorem rd_ints33 {H : Type} {enc : TypeId × Value → H} {W : World} {v : Value} {fuel : Nat} {x : DataW H × List MemPlace} (h : DataW.trod enc Tryd.prog W 0 (fun _ => true) true fuel 33 [v] = some x) :
    ∃ l : List Int, RdN W W.heap.size v l ∧ (l.length = 0 ∨ ∃ k ∈ DataW.weights Tryd.prog 33 x.1, l.length ≤ k) ∧ ∀ y ∈ l, y < 9223372036854775808 := by
  rcases open_slice1 Tryd.underlying33 cells3 h with ⟨hcs, _⟩ | ⟨a, len, cap, m, n, V, D, Pl, hcs, _, hl, hm, hmm, hx, hel⟩
  · simp only [List.cons.injEq, and_true] at hcs
    subst hcs
    exact ⟨[], .inl ⟨⟨_, _, rfl⟩, rfl⟩, .inl rfl, fun y hy => by cases hy⟩
  · simp only [List.cons.injEq, and_true] at hcs
    subst hcs
    have hmc : m = cap := by simpa using hmm
    subst hmc
    rcases Nat.eq_zero_or_pos len with h0 | h0
    · subst h0
      exact ⟨[], .inl ⟨⟨_, _, rfl⟩, rfl⟩, .inl rfl, fun y hy => by cases hy⟩
    · have key : ∀ i, i < len → ∃ z : Int, W.cell? (a.add i) = some (.int .i64 z) ∧ z < 9223372036854775808 := fun i hi => by
        obtain ⟨h1, h2⟩ := hel i (by omega)
        obtain ⟨z, e, _, wz⟩ := DataW.trod_int Tryd.underlying3 h2
        simp only [List.cons.injEq, and_true] at e
        rw [e] at h1
        exact ⟨z, h1, by have := (i64b wz).2; omega⟩
      obtain ⟨f, hf⟩ := choose_lt (α := Int) (p := fun i z => W.cell? (a.add i) = some (.int .i64 z) ∧ z < 9223372036854775808) key
      obtain ⟨b, o, sp⟩ := a
      have hsp : sp = none := by simpa [Addr.add] using World.cell?_spot (hf 0 h0).1
      subst hsp
      have hb : b < W.heap.size := by
        have := (hf 0 h0).1
        rw [Addr.add_lit] at this
        exact World.block_lt_of_cell? W _ this
      refine ⟨(List.range len).map f, .inr ⟨b, o, m, by simp, by simpa using hl, hb, fun i hi => ?_⟩, by subst hx; exact .inr ⟨_, by rw [weigh33]; exact List.mem_cons_self .., by rw [bytes3]; simp; omega⟩, fun y hy => ?_⟩
      · have hi2 : i < len := by simpa using hi
        have := (hf i hi2).1
        rw [Addr.add_lit] at this
        simpa using this
      · obtain ⟨i, hi, rfl⟩ := List.mem_map.1 hy
        exact (hf i (List.mem_range.1 hi)).2
theorem rd_texts34 {H : Type} {enc : TypeId × Value → H} {W : World} {v : Value} {fuel : Nat} {x : DataW H × List MemPlace} (h : DataW.trod enc Tryd.prog W 0 (fun _ => true) true fuel 34 [v] = some x) :
    ∃ l : List (List UInt8), RdT W W.heap.size v l ∧ (l.length = 0 ∨ ∃ k ∈ DataW.weights Tryd.prog 34 x.1, l.length ≤ k) ∧ ∀ y ∈ l, True := by
  rcases open_slice1 Tryd.underlying34 cells9 h with ⟨hcs, _⟩ | ⟨a, len, cap, m, n, V, D, Pl, hcs, _, hl, hm, hmm, hx, hel⟩
  · simp only [List.cons.injEq, and_true] at hcs
    subst hcs
    exact ⟨[], .inl ⟨⟨_, _, rfl⟩, rfl⟩, .inl rfl, fun y hy => by cases hy⟩
  · simp only [List.cons.injEq, and_true] at hcs
    subst hcs
    have hmc : m = cap := by simpa using hmm
    subst hmc
    rcases Nat.eq_zero_or_pos len with h0 | h0
    · subst h0
      exact ⟨[], .inl ⟨⟨_, _, rfl⟩, rfl⟩, .inl rfl, fun y hy => by cases hy⟩
    · have key : ∀ i, i < len → ∃ z : (List UInt8), W.cell? (a.add i) = some (str z) ∧ True := fun i hi => by
        obtain ⟨h1, h2⟩ := hel i (by omega)
        obtain ⟨s, e, _, wz⟩ := DataW.trod_string Tryd.underlying9 h2
        simp only [List.cons.injEq, and_true] at e
        rw [e] at h1
        exact ⟨s.data.toList, by rw [← str_of]; exact h1, trivial⟩
      obtain ⟨f, hf⟩ := choose_lt (α := (List UInt8)) (p := fun i z => W.cell? (a.add i) = some (str z) ∧ True) key
      obtain ⟨b, o, sp⟩ := a
      have hsp : sp = none := by simpa [Addr.add] using World.cell?_spot (hf 0 h0).1
      subst hsp
      have hb : b < W.heap.size := by
        have := (hf 0 h0).1
        rw [Addr.add_lit] at this
        exact World.block_lt_of_cell? W _ this
      refine ⟨(List.range len).map f, .inr ⟨b, o, m, by simp, by simpa using hl, hb, fun i hi => ?_⟩, by subst hx; exact .inr ⟨_, by rw [weigh34]; exact List.mem_cons_self .., by rw [bytes9]; simp; omega⟩, fun y hy => ?_⟩
      · have hi2 : i < len := by simpa using hi
        have := (hf i hi2).1
        rw [Addr.add_lit] at this
        simpa using this
      · obtain ⟨i, hi, rfl⟩ := List.mem_map.1 hy
        trivial
theorem rd_props22 {H : Type} {enc : TypeId × Value → H} {W : World} {v : Value} {fuel : Nat} {x : DataW H × List MemPlace} (h : DataW.trod enc Tryd.prog W 0 (fun _ => true) true fuel 22 [v] = some x) :
    ∃ l : List Pr, RdV W W.heap.size v l ∧ (l.length = 0 ∨ ∃ k ∈ DataW.weights Tryd.prog 22 x.1, l.length ≤ k) ∧ ∀ q ∈ l, Nums q := by
  have hs : ∃ a n c, v = .slice a n c := by
    rcases open_slice Tryd.underlying22 h with ⟨hcs, _⟩ | ⟨a, len, cap, m, n, D, Pl, hcs, _, hl, hm, _⟩
    · simp only [List.cons.injEq, and_true] at hcs
      exact ⟨_, _, _, hcs⟩
    · simp only [List.cons.injEq, and_true] at hcs
      exact ⟨_, _, _, hcs⟩
  obtain ⟨a, n, c, rfl⟩ := hs
  obtain ⟨l, hr, hl, hin, hw⟩ := rd_props (d := x.1) (p := x.2) ⟨fuel, by simpa [Value.cells] using h⟩
  have hw2 : l.length = 0 ∨ ∃ k ∈ DataW.weights Tryd.prog 22 x.1, l.length ≤ k := by
    rcases hw with h | ⟨E, S, he, h⟩
    · exact .inl (by omega)
    · rw [he]
      exact .inr ⟨_, by rw [weigh22]; exact List.mem_cons_self .., by rw [bytes51]; omega⟩
  refine ⟨l, ?_, hw2, fun q hq => ⟨(hin q hq).2.2.1, (hin q hq).2.2.2.2⟩⟩
  rcases hr with hr | ⟨b, o, c, e, hc, hx⟩
  · exact .inl hr
  · by_cases h0 : l = []
    · subst h0
      exact .inl ⟨⟨_, _, e⟩, rfl⟩
    · have h1 : 0 < l.length := List.length_pos_iff.2 h0
      have := (hx 0 h1).1
      exact .inr ⟨b, o, c, e, hc, World.block_lt_of_cell? W _ this, hx⟩
theorem weights_le {H : Type} {ts : List TypeId} {ds : List (DataW H)} (hsz : (DataW.weightsEach Tryd.prog ts ds).all (· ≤ reachBytes) = true) {j : Nat} {t : TypeId} {d : DataW H} (ht : ts[j]? = some t) (hd : ds[j]? = some d) :
    ∀ n ∈ DataW.weights Tryd.prog t d, n ≤ 140737488355328 := fun n hn => by
  have h1 := DataW.weights_mem_each ht hd n hn
  have h2 := List.all_eq_true.1 hsz n h1
  have h3 := reachBytes_lt
  simp at h2
  omega
theorem open_method {H : Type} {enc : TypeId × Value → H} {W : World} {v : Value} {d : DataW H} {p : List MemPlace} (h : DataW.Trod enc Tryd.prog W 0 (fun _ => true) true 36 v d p) :
    ∃ (a b : Int) (vn vt vp : Value) (ns : List Int) (ts : List (List UInt8)) (ps : List Pr), v = .agg (mtA a b vn vt vp) ∧ ((∀ k ∈ DataW.weights Tryd.prog 36 d, k ≤ 140737488355328) → RdM W W.heap.size vn vt vp ns ts ps) ∧ ∀ q ∈ ps, Nums q := by
  obtain ⟨fuel, hf⟩ := h
  obtain ⟨xs, n, _, hx, hl, hlen, hf⟩ := DataW.trod_struct Tryd.underlying36 hf
  rw [cells36] at hl
  match xs, hlen with
  | [y0, y1, y2, y3, y4], _ =>
    have t0 : DataW.trod enc Tryd.prog W 0 (fun _ => true) true n 3 ((v.cells.toList.drop 0).take (Tryd.prog.cellsOf 3)) = some y0 := by simpa using hf 0 _ rfl
    have t1 : DataW.trod enc Tryd.prog W 0 (fun _ => true) true n 3 ((v.cells.toList.drop 1).take (Tryd.prog.cellsOf 3)) = some y1 := by simpa using hf 1 _ rfl
    have t2 : DataW.trod enc Tryd.prog W 0 (fun _ => true) true n 33 ((v.cells.toList.drop 2).take (Tryd.prog.cellsOf 33)) = some y2 := by simpa using hf 2 _ rfl
    have t3 : DataW.trod enc Tryd.prog W 0 (fun _ => true) true n 34 ((v.cells.toList.drop 3).take (Tryd.prog.cellsOf 34)) = some y3 := by simpa using hf 3 _ rfl
    have t4 : DataW.trod enc Tryd.prog W 0 (fun _ => true) true n 22 ((v.cells.toList.drop 4).take (Tryd.prog.cellsOf 22)) = some y4 := by simpa using hf 4 _ rfl
    generalize hcs : v.cells.toList = cs at *
    match cs, hl with
    | [c0, c1, c2, c3, c4], _ =>
      simp only [cells3, cells33, cells34, cells22, List.drop, List.take] at t0 t1 t2 t3 t4
      obtain ⟨a, e0, _, _⟩ := DataW.trod_int Tryd.underlying3 t0
      obtain ⟨b, e1, _, _⟩ := DataW.trod_int Tryd.underlying3 t1
      obtain ⟨ns, rn, ln, bn⟩ := rd_ints33 t2
      obtain ⟨ts, rt, lt, _⟩ := rd_texts34 t3
      obtain ⟨ps, rp, lp, np⟩ := rd_props22 t4
      simp only [List.cons.injEq, and_true] at e0 e1
      subst e0 e1
      refine ⟨a, b, c2, c3, c4, ns, ts, ps, ?_, fun hk => ⟨rn, rt, rp, bn, fun q hq => (np q hq).2, ?_⟩, np⟩
      rotate_left
      · have hw : DataW.weights Tryd.prog 36 d = y0.1.weights Tryd.prog 3 ++ (y1.1.weights Tryd.prog 3 ++ (y2.1.weights Tryd.prog 33 ++ (y3.1.weights Tryd.prog 34 ++ (y4.1.weights Tryd.prog 22 ++ [])))) := by
          rw [← weigh36, (Prod.mk.inj hx).1]
          rfl
        rw [hw] at hk
        have q1 : ns.length ≤ 140737488355328 := by
          rcases ln with h | ⟨k, h1, h2⟩
          · omega
          · have := hk k (by simp [h1]); omega
        have q2 : ts.length ≤ 140737488355328 := by
          rcases lt with h | ⟨k, h1, h2⟩
          · omega
          · have := hk k (by simp [h1]); omega
        have q3 : ps.length ≤ 140737488355328 := by
          rcases lp with h | ⟨k, h1, h2⟩
          · omega
          · have := hk k (by simp [h1]); omega
        omega
      cases v with
      | agg u =>
        simp only [Value.cells] at hcs
        rw [show u = mtA a b c2 c3 c4 from Array.ext' (by simpa using hcs)]
      | _ => simp [Value.cells] at hcs
end Go.Proofs.YtmaaacaifpgpaaaDoor
