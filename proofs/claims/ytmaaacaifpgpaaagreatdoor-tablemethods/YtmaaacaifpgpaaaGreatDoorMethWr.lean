/- What is put is read as it (pure). table's writer: width, num. Conditions: those that each row states. table's writer: text. Conditions: those that each row states. table's writer: part, where the letter is a number's. Conditions: those that each row states. table's writer: part, where the letter is a text's. Conditions: those that each row states. table's writer: part, where the letter is a table's, and of any letter. Conditions: those that each row states. table's writer: part of any letter. Conditions: those that each row states. table.payload of one method. Conditions: those that each row states. table.Encode of one method. Conditions: those that each row states. table.payload and Encode of any method. Conditions: those that each row states. trivetlaw15.wakes. Conditions: those that each row states. trivetref15.Take. Conditions: those that each row states. trivetlaw15.long. Conditions: those that each row states. -/
import Derived.Test.YtmaaacaifpgpaaaGreatDoorMethTk
import Derived.Test.YtmaaacaifpgpaaaGreatDoorTi
import Derived.Test.YtmaaacaifpgpaaaGreatDoorFo
import Derived.Test.YtmaaacaifpgpaaaGreatDoorTd
namespace Go.Proofs.YtmaaacaifpgpaaaGreatDoor
open Go.RowKit Go.Lib Ieee
set_option maxRecDepth 100000
set_option linter.unusedSimpArgs false

def Nums (q : Pr) : Prop := (-9223372036854775808 ≤ q.val.num ∧ q.val.num ≤ 9223372036854775807) ∧ q.val.real < 2 ^ 64
theorem numR_be (k n : Nat) (r : List UInt8) (hn : n < 256 ^ k) : numR (beN k n ++ r, false) k = (n, (r, false)) := by
  rw [numR_yes (by rw [List.length_append, beN_len]; omega)]
  have e1 : (beN k n ++ r).take k = beN k n := by
    rw [List.take_append_of_le_length (by rw [beN_len]; omega)]
    exact List.take_of_length_le (by rw [beN_len]; omega)
  have e2 : (beN k n ++ r).drop k = r := by
    rw [List.drop_append_of_le_length (by rw [beN_len]; omega), List.drop_of_length_le (by rw [beN_len]; omega)]
    rfl
  rw [e1, e2, numL_be k n hn]
theorem takeR_app (t r : List UInt8) : takeR (t ++ r, false) t.length = (t, (r, false)) := by
  rw [takeR_yes (by rw [List.length_append]; omega)]
  rw [List.take_left, List.drop_left]
theorem shortR_put (t r : List UInt8) (h : t.length < 256) : shortR (shortL t ++ r, false) = (t, (r, false)) := by
  unfold shortR shortL
  rw [List.append_assoc, numR_be 1 t.length (t ++ r) (by simpa using h)]
  exact takeR_app t r
theorem longR_put (t r : List UInt8) (h : t.length < 4294967296) : longR (longL t ++ r, false) = (t, (r, false)) := by
  unfold longR longL
  rw [List.append_assoc, numR_be 4 t.length (t ++ r) (by simpa using h)]
  exact takeR_app t r
theorem take_cons (c : UInt8) (r : List UInt8) : takeR (c :: r, false) 1 = ([c], (r, false)) := by
  rw [takeR_yes (by simp)]
  rfl
theorem sgn_u64 (z : Int) (h1 : -9223372036854775808 ≤ z) (h2 : z ≤ 9223372036854775807) : sgnZ (u64L z) 64 = z := by
  unfold sgnZ
  rw [if_neg (fun hh => absurd hh.1 (by decide)), IntKind.wrap_i64]
  unfold u64L
  omega
theorem u64L_lt (z : Int) : u64L z < 256 ^ 8 := by
  unfold u64L
  have : z % 18446744073709551616 < 18446744073709551616 := Int.emod_lt_of_pos _ (by decide)
  have h0 : 0 ≤ z % 18446744073709551616 := Int.emod_nonneg _ (by decide)
  have e : (256 : Nat) ^ 8 = 18446744073709551616 := by decide
  omega
theorem flt_put (r : Nat) (x : List UInt8) (hr : r < 2 ^ 64) (hc : canonB r = r) : vaR (fltL r ++ x, false) = (⟨4, 0, ⟨#[]⟩, r⟩, (x, false)) := by
  unfold fltL
  by_cases hn : (narB r).2 = true
  · rw [if_pos hn, List.cons_append]
    unfold vaR
    rw [take_cons]
    simp (decide := true) only [List.cons.injEq, if_false, if_true]
    rw [numR_be 4 (narB r).1 x (by have := narB_lt r hr; simpa using this)]
    have hw : widB (narB r).1 = r := by
      unfold narB at hn ⊢
      by_cases hN : isN double r
      · rw [if_pos hN]
        unfold canonB at hc
        rw [if_pos hN] at hc
        rw [← hc]
        decide +kernel
      · rw [if_neg hN] at hn ⊢
        cases hg : nar r with
        | none => rw [hg] at hn; cases hn
        | some g =>
          obtain ⟨h1, h2, _⟩ := nar_some_wide hr hg
          simp only
          unfold widB
          rw [if_neg h2, h1]
    rw [hw]
  · rw [if_neg hn, List.cons_append]
    unfold vaR
    rw [take_cons]
    simp (decide := true) only [List.cons.injEq, if_false, if_true]
    rw [numR_be 8 r x (Nat.lt_of_lt_of_le hr (by decide)), hc]
theorem val_put (v : Val) (x : List UInt8) (hg : goodV v = true) (hn : -9223372036854775808 ≤ v.num ∧ v.num ≤ 9223372036854775807) (hr : v.real < 2 ^ 64) : vaR (valT v ++ x, false) = (v, (x, false)) := by
  unfold goodV at hg
  unfold valT
  by_cases h1 : v.kind = 1
  · rw [if_pos h1, sameV_eq] at hg
    have hv : v = ⟨1, v.num, ⟨#[]⟩, 0⟩ := hg
    rw [if_neg (by omega), if_neg (by omega), if_neg (by omega), List.cons_append]
    unfold vaR
    rw [take_cons]
    simp (decide := true) only [List.cons.injEq, if_false, if_true]
    rw [numR_be 8 (u64L v.num) x (u64L_lt _), sgn_u64 _ hn.1 hn.2, ← hv]
  rw [if_neg h1] at hg
  by_cases h2 : v.kind = 2
  · rw [if_pos h2, Bool.and_eq_true, sameV_eq] at hg
    have hv : v = ⟨2, v.num, ⟨#[]⟩, 0⟩ := hg.2
    have hb : v.num = 0 ∨ v.num = 1 := by simpa using hg.1
    rw [if_pos h2, List.cons_append]
    unfold vaR
    rw [take_cons]
    simp only [if_true]
    have hu : u64L v.num < 256 ^ 1 := by
      unfold u64L
      rcases hb with h | h <;> rw [h] <;> decide
    rw [numR_be 1 (u64L v.num) x hu]
    have e : ((u64L v.num : Nat) : Int) = v.num := by
      unfold u64L
      rcases hb with h | h <;> rw [h] <;> decide
    rw [e, ← hv]
  rw [if_neg h2] at hg
  by_cases h3 : v.kind = 3
  · rw [if_pos h3, Bool.and_eq_true, sameV_eq] at hg
    have hv : v = ⟨3, 0, v.text, 0⟩ := hg.2
    have hl : v.text.data.toList.length ≤ 256 := by
      have := hg.1
      simp only [decide_eq_true_eq] at this
      rw [size_data] at this
      omega
    rw [if_neg h2, if_pos h3, List.cons_append]
    unfold vaR
    rw [take_cons]
    simp (decide := true) only [List.cons.injEq, if_false, if_true]
    rw [longR_put _ x (by omega)]
    have e : (⟨v.text.data.toList.toArray⟩ : ByteArray) = v.text := by simp
    rw [e, ← hv]
  rw [if_neg h3] at hg
  by_cases h4 : v.kind = 4
  · rw [if_pos h4, sameV_eq] at hg
    have hv : v = ⟨4, 0, ⟨#[]⟩, canonB v.real⟩ := hg
    have hc : canonB v.real = v.real := (congrArg Val.real hv).symm
    rw [if_neg h2, if_neg h3, if_pos h4, flt_put v.real x hr hc]
    rw [hc] at hv
    rw [← hv]
  rw [if_neg h4] at hg
  exact absurd hg (by decide)
theorem fld_put (p : Pr) (x : List UInt8) (hc : canB p = true) (hn : Nums p) : fldR (prT p ++ x, false) = (p, (x, false)) := by
  have hs := sm_of hc hn.2
  unfold canB at hc
  rw [Bool.and_eq_true] at hc
  unfold fldR prT
  rw [List.append_assoc, shortR_put _ _ (by have := hs.nm; omega), val_put p.val x hc.2 hn.1 hn.2]
theorem insP_last (p : Pr) : ∀ L : List Pr, (∀ x ∈ L, ltP x p) → insP p L = L ++ [p]
  | [], _ => rfl
  | x :: L, h => by
    unfold insP
    have hx := h x (List.mem_cons_self ..)
    rw [if_neg (by unfold lessP; rw [bl_asymm _ _ hx]; simp), insP_last p L (fun y hy => h y (List.mem_cons_of_mem _ hy))]
    rfl
theorem tab_put : ∀ (k : Nat) (qs L : List Pr), (flatT qs).length ≤ k → (L ++ qs).Pairwise ltP → (L ++ qs).length ≤ 16 → (∀ q ∈ qs, canB q = true ∧ Nums q) → tabR k (flatT qs, false) L = (L ++ qs, false)
  | k, [], L, _, _, _, _ => by
    rw [List.append_nil]
    exact (tab_nil (R := tabR k (flatT [], false) L) rfl)
  | k, p :: qs, L, hk, hp, hl, hq => by
    have hc := hq p (List.mem_cons_self ..)
    have e : flatT (p :: qs) = prT p ++ flatT qs := by simp [flatT]
    have hne : prT p ++ flatT qs ≠ [] := by
      unfold prT shortL
      intro h
      have := congrArg List.length h
      simp [beN_len] at this
    rw [e] at hk ⊢
    cases k with
    | zero =>
      have : 0 < (prT p ++ flatT qs).length := by
        cases h : prT p ++ flatT qs with
        | nil => exact absurd h hne
        | cons a b => simp
      omega
    | succ k =>
      have hF := fld_put p (flatT qs) hc.1 hc.2
      have hlt : ∀ x ∈ L, ltP x p := fun x hx => (List.pairwise_append.1 hp).2.2 x hx p (List.mem_cons_self ..)
      have hno : hasN L p.name = false := by
        cases h : hasN L p.name with
        | false => rfl
        | true =>
          obtain ⟨x, hx, he⟩ := hasN_iff.1 h
          exact absurd he (ne_of_lt (hlt x hx))
      unfold tabR
      rw [if_neg (by simp [hne]), hF, if_neg (by simp [hno]), if_neg (by simp at hl; omega), insP_last p L hlt]
      have ih := tab_put k qs (L ++ [p]) (by
        have h1 : 0 < (prT p).length := by unfold prT shortL; simp [beN_len]; omega
        rw [List.length_append] at hk
        omega) (by simpa using hp) (by simpa using hl) (fun q h => hq q (List.mem_cons_of_mem _ h))
      rw [ih, List.append_assoc]
      rfl
theorem tabO_put {ps : List Pr} (hv : validL ps = true) (hn : ∀ q ∈ ps, Nums q) : tabO (flatT ps) = some ps := by
  obtain ⟨h16, hc, hri⟩ := valid_parts hv
  have h := tab_put (flatT ps).length ps [] (Nat.le_refl _) (by simpa using pairs_of ps hri) (by simpa using h16) (fun q hq => ⟨hc q hq, hn q hq⟩)
  rw [List.nil_append] at h
  unfold tabO
  rw [h, if_pos (by unfold okO; simp [hv])]
theorem flat_small {ps : List Pr} (hv : validL ps = true) (hn : ∀ q ∈ ps, Nums q) : (flatT ps).length ≤ 5000 := by
  obtain ⟨h16, hs⟩ := sm_all hv (fun q hq => (hn q hq).2)
  have := flatT_len hs
  omega
theorem ctab_put {ps : List Pr} (x : List UInt8) (hv : validL ps = true) (hn : ∀ q ∈ ps, Nums q) : ctab (tabL ps ++ x) = some (ps, x) := by
  have hf := flat_small hv hn
  have e1 : (tabL ps ++ x).take 4 = beN 4 (flatT ps).length := by
    unfold tabL longL
    rw [List.append_assoc, List.take_append_of_le_length (by rw [beN_len]; omega)]
    exact List.take_of_length_le (by rw [beN_len]; omega)
  have e2 : (tabL ps ++ x).drop 4 = flatT ps ++ x := by
    unfold tabL longL
    rw [List.append_assoc, List.drop_append_of_le_length (by rw [beN_len]; omega), List.drop_of_length_le (by rw [beN_len]; omega)]
    rfl
  unfold ctab
  rw [if_neg (by unfold tabL longL; simp [beN_len]), e1, e2, numL_be 4 _ (Nat.lt_of_le_of_lt hf (by decide))]
  unfold cutP
  rw [if_pos (by rw [List.length_append]; omega), List.take_left, List.drop_left]
  simp only
  rw [tabO_put hv hn]
  rfl
end Go.Proofs.YtmaaacaifpgpaaaGreatDoor

namespace Go.Proofs.YtmaaacaifpgpaaaGreatDoor
open Go.RowKit Go.Lib
set_option maxRecDepth 100000
set_option linter.unusedSimpArgs false

/-- Of how many bytes a letter's number is. -/
def wid (c : Nat) : Nat := if c = 104 then 2 else if c = 108 then 4 else if c = 76 then 8 else 1
theorem width_any (w : World) (c : Nat) : Calls Tryz.prog 49 #[.int .u8 (c : Int)] w fun e w' => e = .returned (.int .i64 (wid c : Nat)) ∧ w' = w := by
  by_cases h1 : c = 104
  · subst h1
    go_enter Tryz.func49, Tryz.ntmps49
    go_wp2
    go_ret
    exact ⟨rfl, rfl⟩
  by_cases h2 : c = 108
  · subst h2
    go_enter Tryz.func49, Tryz.ntmps49
    go_wp2
    go_ret
    exact ⟨rfl, rfl⟩
  by_cases h3 : c = 76
  · subst h3
    go_enter Tryz.func49, Tryz.ntmps49
    go_wp2
    go_ret
    exact ⟨rfl, rfl⟩
  have e : wid c = 1 := by unfold wid; rw [if_neg h1, if_neg h2, if_neg h3]
  rw [e]
  have b1 : ((c : Int) == 104) = false := by simp; omega
  have b2 : ((c : Int) == 108) = false := by simp; omega
  have b3 : ((c : Int) == 76) = false := by simp; omega
  clear h1 h2 h3 e
  go_enter Tryz.func49, Tryz.ntmps49
  go_wp2
  go_ret
  exact ⟨rfl, rfl⟩

/-- Numbers that can be read, in a block below b. -/
def RdN (w : World) (b : Nat) (v : Value) (l : List Int) : Prop :=
  ((∃ a c, v = .slice a 0 c) ∧ l = []) ∨ ∃ (g o c : Nat), v = .slice (some ⟨g, o, none⟩) l.length c ∧ l.length ≤ c ∧ g < b ∧ ∀ i (h : i < l.length), w.cell? ⟨g, o + i, none⟩ = some (.int .i64 l[i])
theorem RdN.on {w w' : World} {b : Nat} {v : Value} {l : List Int} (h : RdN w b v l) (hb : Below b w w') : RdN w' b v l := by
  rcases h with h | ⟨g, o, c, rfl, hc, hg, hx⟩
  · exact .inl h
  · exact .inr ⟨g, o, c, rfl, hc, hg, fun i hi => by rw [hb.cell hg]; exact hx i hi⟩
/-- Whether a number has room in so many bytes. -/
def fitN (n : Int) (k : Nat) : Bool := decide (0 ≤ n) && decide (n < 256 ^ k)
/-- The writer at its block. -/
abbrev wrA (o n t p : Value) : Array Value := #[o, n, t, p]
set_option maxHeartbeats 1000000 in
theorem wnum_no (w : World) (b k : Nat) (o t p : Value) (ad : Option Addr) (cp : Nat) (hw : Blk w b (wrA o (.slice ad 0 cp) t p) 70) :
    Calls Tryz.prog 50 #[.pointer (some ⟨b, 0, none⟩), .int .i64 (k : Int)] w fun e w' => e = .panicked (gup 1) ∧ w' = w := by
  obtain ⟨g, hg⟩ : ∃ g, gup 1 = g := ⟨_, rfl⟩
  have I := fun w => insist_no w 1
  rw [hg] at I ⊢
  have c1 := hw.cell 1
  simp only [List.getElem?_toArray, List.getElem?_cons_zero, List.getElem?_cons_succ] at c1
  clear hw
  go_enter Tryz.func50, Tryz.ntmps50
  go_wp2_with fail
  refine (I _).mono ?_
  rintro e w' ⟨rfl, rfl⟩
  exact ⟨rfl, rfl, rfl⟩
/-- What num answers of a number that is there. -/
def WnP (w w' : World) (b k : Nat) (o t p : Value) (n : Int) (rest : List Int) (e : Ending) : Prop :=
  w.grownBy w' (some b) ∧ w'.heap.size = w.heap.size ∧ ((fitN n k = true ∧ ∃ v', e = .returned (.int .u64 n) ∧ Blk w' b (wrA o v' t p) 70 ∧ RdN w' b v' rest) ∨ (fitN n k = false ∧ e = .panicked (gup 1)))
theorem rdN_rest {w w' : World} {b g q len cap : Nat} {rest : List Int} (hb : Below b w w') (hg : g < b) (hl : rest.length = len) (hc : len ≤ cap) (hx : ∀ i (h : i < rest.length), w.cell? ⟨g, q + i, none⟩ = some (.int .i64 rest[i])) : RdN w' b (.slice (some ⟨g, q, none⟩) len cap) rest := by
  subst hl
  exact (RdN.on (.inr ⟨g, q, cap, rfl, hc, hg, hx⟩) hb)
set_option maxHeartbeats 2000000 in
theorem wnum_neg (w : World) (b k : Nat) (o t p : Value) (g q cp len : Nat) (n : Int) (rest : List Int) (hw : Blk w b (wrA o (.slice (some ⟨g, q, none⟩) (len + 1) cp) t p) 70) (hn : w.cell? ⟨g, q, none⟩ = some (.int .i64 n)) (hc : len + 1 ≤ cp) (hneg : n < 0) :
    Calls Tryz.prog 50 #[.pointer (some ⟨b, 0, none⟩), .int .i64 (k : Int)] w fun e w' => WnP w w' b k o t p n rest e := by
  have hf : fitN n k = false := by unfold fitN; simp; omega
  obtain ⟨gu, hg⟩ : ∃ gu, gup 1 = gu := ⟨_, rfl⟩
  have I := fun w => insist_no w 1
  unfold WnP
  rw [hg] at I ⊢
  have c1 := hw.cell 1
  simp only [List.getElem?_toArray, List.getElem?_cons_zero, List.getElem?_cons_succ] at c1
  have hnz : ¬ (0 ≤ n) := by omega
  have HF : Hid (fitN n k = false) := hf
  clear hf hneg
  by_cases hcp : cp = 1
  · obtain rfl : len = 0 := by omega
    subst hcp
    go_enter Tryz.func50, Tryz.ntmps50
    go_wp2_with (first | (go_at_call 33; refine (insist_ok _ _).mono ?_; rintro e w' ⟨rfl, rfl⟩) | (refine wpl_set rfl (.tmp 26) (.tmp 24) rfl b 1 _ rfl rfl hw (by kernel_rfl) rfl rfl (by simp) ?_))
    intro W' kW gW sW
    go_wp2_with fail
    refine (I _).mono ?_
    rintro e w' ⟨rfl, rfl⟩
    exact ⟨rfl, gW, sW, .inr ⟨HF.out, rfl⟩⟩
  · have hcp2 : ¬ (cp = 1) := hcp
    go_enter Tryz.func50, Tryz.ntmps50
    go_wp2_with (first | (go_at_call 33; refine (insist_ok _ _).mono ?_; rintro e w' ⟨rfl, rfl⟩) | (refine wpl_set rfl (.tmp 26) (.tmp 24) rfl b 1 _ rfl rfl hw (by kernel_rfl) rfl rfl (by simp) ?_))
    intro W' kW gW sW
    go_wp2_with fail
    refine (I _).mono ?_
    rintro e w' ⟨rfl, rfl⟩
    exact ⟨rfl, gW, sW, .inr ⟨HF.out, rfl⟩⟩
theorem fitT_1 {m : Nat} (h : ((m : Int) / 256 == 0) = true) : fitN (m : Int) 1 = true := by
  have h1 : (m : Int) / 256 = 0 := by simpa using h
  unfold fitN
  have h2 : (m : Int) < 256 := by omega
  have e : ((256 : Int) ^ 1) = 256 := by decide
  rw [e]; simp; omega
theorem fitF_1 {m : Nat} (h : ((m : Int) / 256 == 0) = false) : fitN (m : Int) 1 = false := by
  have h1 : ¬ ((m : Int) / 256 = 0) := by simpa using h
  unfold fitN
  have e : ((256 : Int) ^ 1) = 256 := by decide
  rw [e]; simp; omega
set_option maxHeartbeats 2000000 in
theorem wnum_1 (w : World) (b : Nat) (o t p : Value) (g q cp len m : Nat) (rest : List Int) (hw : Blk w b (wrA o (.slice (some ⟨g, q, none⟩) (len + 1) cp) t p) 70) (hn : w.cell? ⟨g, q, none⟩ = some (.int .i64 (m : Int))) (hc : len + 1 ≤ cp) (hlt : m < 9223372036854775808) (hl : rest.length = len) (hgb : g < b) (hx : ∀ i (h : i < rest.length), w.cell? ⟨g, q + 1 + i, none⟩ = some (.int .i64 rest[i])) :
    Calls Tryz.prog 50 #[.pointer (some ⟨b, 0, none⟩), .int .i64 1] w fun e w' => WnP w w' b 1 o t p m rest e := by
  obtain ⟨gu, hg⟩ : ∃ gu, gup 1 = gu := ⟨_, rfl⟩
  have I := fun w => insist_no w 1
  unfold WnP
  rw [hg] at I ⊢
  have c1 := hw.cell 1
  simp only [List.getElem?_toArray, List.getElem?_cons_zero, List.getElem?_cons_succ] at c1
  have u1 : IntKind.u64.wrap (m : Int) = (m : Int) := by rw [IntKind.wrap_u64]; omega
  have HX : Hid (∀ i (h : i < rest.length), w.cell? ⟨g, q + 1 + i, none⟩ = some (.int .i64 rest[i])) := hx
  have HL : Hid (m < 9223372036854775808) := hlt
  have F0 := @fitF_1 m
  have F1 := @fitT_1 m
  clear hx hlt
  by_cases hcp : cp = 1
  · obtain rfl : len = 0 := by omega
    subst hcp
    go_enter Tryz.func50, Tryz.ntmps50
    go_wp2_with (first | (go_at_call 33; refine (insist_ok _ _).mono ?_; rintro e w' ⟨rfl, rfl⟩) | (refine wpl_set rfl (.tmp 26) (.tmp 24) rfl b 1 _ rfl rfl hw (by kernel_rfl) rfl rfl (by simp) ?_))
    intro W' kW gW sW
    go_wp2_with fail
    cases hd : ((m : Int) / 256 == 0)
    · refine (I _).mono ?_
      rintro e w' ⟨rfl, rfl⟩
      exact ⟨rfl, gW, sW, .inr ⟨F0 hd, rfl⟩⟩
    · refine (insist_ok _ _).mono ?_
      rintro e w' ⟨rfl, rfl⟩
      go_wp2_with fail
      go_ret
      exact ⟨gW, sW, .inl ⟨F1 hd, _, rfl, kW, .inl ⟨⟨_, _, rfl⟩, List.length_eq_zero_iff.mp hl⟩⟩⟩
  · have hcp2 : ¬ (cp = 1) := hcp
    go_enter Tryz.func50, Tryz.ntmps50
    go_wp2_with (first | (go_at_call 33; refine (insist_ok _ _).mono ?_; rintro e w' ⟨rfl, rfl⟩) | (refine wpl_set rfl (.tmp 26) (.tmp 24) rfl b 1 _ rfl rfl hw (by kernel_rfl) rfl rfl (by simp) ?_))
    intro W' kW gW sW
    go_wp2_with fail
    cases hd : ((m : Int) / 256 == 0)
    · refine (I _).mono ?_
      rintro e w' ⟨rfl, rfl⟩
      exact ⟨rfl, gW, sW, .inr ⟨F0 hd, rfl⟩⟩
    · refine (insist_ok _ _).mono ?_
      rintro e w' ⟨rfl, rfl⟩
      go_wp2_with fail
      go_ret
      exact ⟨gW, sW, .inl ⟨F1 hd, _, rfl, kW, rdN_rest ((Below.refl _ _).grown gW (Nat.le_of_lt hw.lt) (fun k hk => by cases hk; exact Nat.le_refl _)) hgb hl (by omega) HX.out⟩⟩
theorem fitT_2 {m : Nat} (h : ((m : Int) / 65536 == 0) = true) : fitN (m : Int) 2 = true := by
  have h1 : (m : Int) / 65536 = 0 := by simpa using h
  unfold fitN
  have h2 : (m : Int) < 65536 := by omega
  have e : ((256 : Int) ^ 2) = 65536 := by decide
  rw [e]; simp; omega
theorem fitF_2 {m : Nat} (h : ((m : Int) / 65536 == 0) = false) : fitN (m : Int) 2 = false := by
  have h1 : ¬ ((m : Int) / 65536 = 0) := by simpa using h
  unfold fitN
  have e : ((256 : Int) ^ 2) = 65536 := by decide
  rw [e]; simp; omega
set_option maxHeartbeats 2000000 in
theorem wnum_2 (w : World) (b : Nat) (o t p : Value) (g q cp len m : Nat) (rest : List Int) (hw : Blk w b (wrA o (.slice (some ⟨g, q, none⟩) (len + 1) cp) t p) 70) (hn : w.cell? ⟨g, q, none⟩ = some (.int .i64 (m : Int))) (hc : len + 1 ≤ cp) (hlt : m < 9223372036854775808) (hl : rest.length = len) (hgb : g < b) (hx : ∀ i (h : i < rest.length), w.cell? ⟨g, q + 1 + i, none⟩ = some (.int .i64 rest[i])) :
    Calls Tryz.prog 50 #[.pointer (some ⟨b, 0, none⟩), .int .i64 2] w fun e w' => WnP w w' b 2 o t p m rest e := by
  obtain ⟨gu, hg⟩ : ∃ gu, gup 1 = gu := ⟨_, rfl⟩
  have I := fun w => insist_no w 1
  unfold WnP
  rw [hg] at I ⊢
  have c1 := hw.cell 1
  simp only [List.getElem?_toArray, List.getElem?_cons_zero, List.getElem?_cons_succ] at c1
  have u1 : IntKind.u64.wrap (m : Int) = (m : Int) := by rw [IntKind.wrap_u64]; omega
  have HX : Hid (∀ i (h : i < rest.length), w.cell? ⟨g, q + 1 + i, none⟩ = some (.int .i64 rest[i])) := hx
  have HL : Hid (m < 9223372036854775808) := hlt
  have F0 := @fitF_2 m
  have F1 := @fitT_2 m
  clear hx hlt
  by_cases hcp : cp = 1
  · obtain rfl : len = 0 := by omega
    subst hcp
    go_enter Tryz.func50, Tryz.ntmps50
    go_wp2_with (first | (go_at_call 33; refine (insist_ok _ _).mono ?_; rintro e w' ⟨rfl, rfl⟩) | (refine wpl_set rfl (.tmp 26) (.tmp 24) rfl b 1 _ rfl rfl hw (by kernel_rfl) rfl rfl (by simp) ?_))
    intro W' kW gW sW
    go_wp2_with fail
    cases hd : ((m : Int) / 65536 == 0)
    · refine (I _).mono ?_
      rintro e w' ⟨rfl, rfl⟩
      exact ⟨rfl, gW, sW, .inr ⟨F0 hd, rfl⟩⟩
    · refine (insist_ok _ _).mono ?_
      rintro e w' ⟨rfl, rfl⟩
      go_wp2_with fail
      go_ret
      exact ⟨gW, sW, .inl ⟨F1 hd, _, rfl, kW, .inl ⟨⟨_, _, rfl⟩, List.length_eq_zero_iff.mp hl⟩⟩⟩
  · have hcp2 : ¬ (cp = 1) := hcp
    go_enter Tryz.func50, Tryz.ntmps50
    go_wp2_with (first | (go_at_call 33; refine (insist_ok _ _).mono ?_; rintro e w' ⟨rfl, rfl⟩) | (refine wpl_set rfl (.tmp 26) (.tmp 24) rfl b 1 _ rfl rfl hw (by kernel_rfl) rfl rfl (by simp) ?_))
    intro W' kW gW sW
    go_wp2_with fail
    cases hd : ((m : Int) / 65536 == 0)
    · refine (I _).mono ?_
      rintro e w' ⟨rfl, rfl⟩
      exact ⟨rfl, gW, sW, .inr ⟨F0 hd, rfl⟩⟩
    · refine (insist_ok _ _).mono ?_
      rintro e w' ⟨rfl, rfl⟩
      go_wp2_with fail
      go_ret
      exact ⟨gW, sW, .inl ⟨F1 hd, _, rfl, kW, rdN_rest ((Below.refl _ _).grown gW (Nat.le_of_lt hw.lt) (fun k hk => by cases hk; exact Nat.le_refl _)) hgb hl (by omega) HX.out⟩⟩
theorem fitT_4 {m : Nat} (h : ((m : Int) / 4294967296 == 0) = true) : fitN (m : Int) 4 = true := by
  have h1 : (m : Int) / 4294967296 = 0 := by simpa using h
  unfold fitN
  have h2 : (m : Int) < 4294967296 := by omega
  have e : ((256 : Int) ^ 4) = 4294967296 := by decide
  rw [e]; simp; omega
theorem fitF_4 {m : Nat} (h : ((m : Int) / 4294967296 == 0) = false) : fitN (m : Int) 4 = false := by
  have h1 : ¬ ((m : Int) / 4294967296 = 0) := by simpa using h
  unfold fitN
  have e : ((256 : Int) ^ 4) = 4294967296 := by decide
  rw [e]; simp; omega
set_option maxHeartbeats 2000000 in
theorem wnum_4 (w : World) (b : Nat) (o t p : Value) (g q cp len m : Nat) (rest : List Int) (hw : Blk w b (wrA o (.slice (some ⟨g, q, none⟩) (len + 1) cp) t p) 70) (hn : w.cell? ⟨g, q, none⟩ = some (.int .i64 (m : Int))) (hc : len + 1 ≤ cp) (hlt : m < 9223372036854775808) (hl : rest.length = len) (hgb : g < b) (hx : ∀ i (h : i < rest.length), w.cell? ⟨g, q + 1 + i, none⟩ = some (.int .i64 rest[i])) :
    Calls Tryz.prog 50 #[.pointer (some ⟨b, 0, none⟩), .int .i64 4] w fun e w' => WnP w w' b 4 o t p m rest e := by
  obtain ⟨gu, hg⟩ : ∃ gu, gup 1 = gu := ⟨_, rfl⟩
  have I := fun w => insist_no w 1
  unfold WnP
  rw [hg] at I ⊢
  have c1 := hw.cell 1
  simp only [List.getElem?_toArray, List.getElem?_cons_zero, List.getElem?_cons_succ] at c1
  have u1 : IntKind.u64.wrap (m : Int) = (m : Int) := by rw [IntKind.wrap_u64]; omega
  have HX : Hid (∀ i (h : i < rest.length), w.cell? ⟨g, q + 1 + i, none⟩ = some (.int .i64 rest[i])) := hx
  have HL : Hid (m < 9223372036854775808) := hlt
  have F0 := @fitF_4 m
  have F1 := @fitT_4 m
  clear hx hlt
  by_cases hcp : cp = 1
  · obtain rfl : len = 0 := by omega
    subst hcp
    go_enter Tryz.func50, Tryz.ntmps50
    go_wp2_with (first | (go_at_call 33; refine (insist_ok _ _).mono ?_; rintro e w' ⟨rfl, rfl⟩) | (refine wpl_set rfl (.tmp 26) (.tmp 24) rfl b 1 _ rfl rfl hw (by kernel_rfl) rfl rfl (by simp) ?_))
    intro W' kW gW sW
    go_wp2_with fail
    cases hd : ((m : Int) / 4294967296 == 0)
    · refine (I _).mono ?_
      rintro e w' ⟨rfl, rfl⟩
      exact ⟨rfl, gW, sW, .inr ⟨F0 hd, rfl⟩⟩
    · refine (insist_ok _ _).mono ?_
      rintro e w' ⟨rfl, rfl⟩
      go_wp2_with fail
      go_ret
      exact ⟨gW, sW, .inl ⟨F1 hd, _, rfl, kW, .inl ⟨⟨_, _, rfl⟩, List.length_eq_zero_iff.mp hl⟩⟩⟩
  · have hcp2 : ¬ (cp = 1) := hcp
    go_enter Tryz.func50, Tryz.ntmps50
    go_wp2_with (first | (go_at_call 33; refine (insist_ok _ _).mono ?_; rintro e w' ⟨rfl, rfl⟩) | (refine wpl_set rfl (.tmp 26) (.tmp 24) rfl b 1 _ rfl rfl hw (by kernel_rfl) rfl rfl (by simp) ?_))
    intro W' kW gW sW
    go_wp2_with fail
    cases hd : ((m : Int) / 4294967296 == 0)
    · refine (I _).mono ?_
      rintro e w' ⟨rfl, rfl⟩
      exact ⟨rfl, gW, sW, .inr ⟨F0 hd, rfl⟩⟩
    · refine (insist_ok _ _).mono ?_
      rintro e w' ⟨rfl, rfl⟩
      go_wp2_with fail
      go_ret
      exact ⟨gW, sW, .inl ⟨F1 hd, _, rfl, kW, rdN_rest ((Below.refl _ _).grown gW (Nat.le_of_lt hw.lt) (fun k hk => by cases hk; exact Nat.le_refl _)) hgb hl (by omega) HX.out⟩⟩
theorem fitT_8 {m : Nat} (h : ((m : Int) / 18446744073709551616 == 0) = true) : fitN (m : Int) 8 = true := by
  have h1 : (m : Int) / 18446744073709551616 = 0 := by simpa using h
  unfold fitN
  have h2 : (m : Int) < 18446744073709551616 := by omega
  have e : ((256 : Int) ^ 8) = 18446744073709551616 := by decide
  rw [e]; simp; omega
theorem fitF_8 {m : Nat} (h : ((m : Int) / 18446744073709551616 == 0) = false) : fitN (m : Int) 8 = false := by
  have h1 : ¬ ((m : Int) / 18446744073709551616 = 0) := by simpa using h
  unfold fitN
  have e : ((256 : Int) ^ 8) = 18446744073709551616 := by decide
  rw [e]; simp; omega
set_option maxHeartbeats 2000000 in
theorem wnum_8 (w : World) (b : Nat) (o t p : Value) (g q cp len m : Nat) (rest : List Int) (hw : Blk w b (wrA o (.slice (some ⟨g, q, none⟩) (len + 1) cp) t p) 70) (hn : w.cell? ⟨g, q, none⟩ = some (.int .i64 (m : Int))) (hc : len + 1 ≤ cp) (hlt : m < 9223372036854775808) (hl : rest.length = len) (hgb : g < b) (hx : ∀ i (h : i < rest.length), w.cell? ⟨g, q + 1 + i, none⟩ = some (.int .i64 rest[i])) :
    Calls Tryz.prog 50 #[.pointer (some ⟨b, 0, none⟩), .int .i64 8] w fun e w' => WnP w w' b 8 o t p m rest e := by
  obtain ⟨gu, hg⟩ : ∃ gu, gup 1 = gu := ⟨_, rfl⟩
  have I := fun w => insist_no w 1
  unfold WnP
  rw [hg] at I ⊢
  have c1 := hw.cell 1
  simp only [List.getElem?_toArray, List.getElem?_cons_zero, List.getElem?_cons_succ] at c1
  have u1 : IntKind.u64.wrap (m : Int) = (m : Int) := by rw [IntKind.wrap_u64]; omega
  have HX : Hid (∀ i (h : i < rest.length), w.cell? ⟨g, q + 1 + i, none⟩ = some (.int .i64 rest[i])) := hx
  have HL : Hid (m < 9223372036854775808) := hlt
  have F0 := @fitF_8 m
  have F1 := @fitT_8 m
  clear hx hlt
  by_cases hcp : cp = 1
  · obtain rfl : len = 0 := by omega
    subst hcp
    go_enter Tryz.func50, Tryz.ntmps50
    go_wp2_with (first | (go_at_call 33; refine (insist_ok _ _).mono ?_; rintro e w' ⟨rfl, rfl⟩) | (refine wpl_set rfl (.tmp 26) (.tmp 24) rfl b 1 _ rfl rfl hw (by kernel_rfl) rfl rfl (by simp) ?_))
    intro W' kW gW sW
    go_wp2_with fail
    cases hd : ((m : Int) / 18446744073709551616 == 0)
    · refine (I _).mono ?_
      rintro e w' ⟨rfl, rfl⟩
      exact ⟨rfl, gW, sW, .inr ⟨F0 hd, rfl⟩⟩
    · refine (insist_ok _ _).mono ?_
      rintro e w' ⟨rfl, rfl⟩
      go_wp2_with fail
      go_ret
      exact ⟨gW, sW, .inl ⟨F1 hd, _, rfl, kW, .inl ⟨⟨_, _, rfl⟩, List.length_eq_zero_iff.mp hl⟩⟩⟩
  · have hcp2 : ¬ (cp = 1) := hcp
    go_enter Tryz.func50, Tryz.ntmps50
    go_wp2_with (first | (go_at_call 33; refine (insist_ok _ _).mono ?_; rintro e w' ⟨rfl, rfl⟩) | (refine wpl_set rfl (.tmp 26) (.tmp 24) rfl b 1 _ rfl rfl hw (by kernel_rfl) rfl rfl (by simp) ?_))
    intro W' kW gW sW
    go_wp2_with fail
    cases hd : ((m : Int) / 18446744073709551616 == 0)
    · refine (I _).mono ?_
      rintro e w' ⟨rfl, rfl⟩
      exact ⟨rfl, gW, sW, .inr ⟨F0 hd, rfl⟩⟩
    · refine (insist_ok _ _).mono ?_
      rintro e w' ⟨rfl, rfl⟩
      go_wp2_with fail
      go_ret
      exact ⟨gW, sW, .inl ⟨F1 hd, _, rfl, kW, rdN_rest ((Below.refl _ _).grown gW (Nat.le_of_lt hw.lt) (fun k hk => by cases hk; exact Nat.le_refl _)) hgb hl (by omega) HX.out⟩⟩
/-- What num answers of any numbers. -/
def WnA (w w' : World) (b k : Nat) (o t p : Value) (ns : List Int) (e : Ending) : Prop :=
  (ns = [] ∧ e = .panicked (gup 1) ∧ w' = w) ∨ ∃ n rest, ns = n :: rest ∧ WnP w w' b k o t p n rest e
theorem wnum_any (w : World) (b k : Nat) (o v t p : Value) (ns : List Int) (hk : k = 1 ∨ k = 2 ∨ k = 4 ∨ k = 8) (hw : Blk w b (wrA o v t p) 70) (hv : RdN w b v ns) (hr : ∀ x ∈ ns, x < 9223372036854775808) :
    Calls Tryz.prog 50 #[.pointer (some ⟨b, 0, none⟩), .int .i64 (k : Int)] w fun e w' => WnA w w' b k o t p ns e := by
  rcases hv with ⟨⟨a, c, rfl⟩, rfl⟩ | ⟨g, q, cp, rfl, hc, hg, hx⟩
  · exact (wnum_no w b k o t p a c hw).mono (fun e w' h => .inl ⟨rfl, h⟩)
  · cases ns with
    | nil => exact (wnum_no w b k o t p _ cp hw).mono (fun e w' h => .inl ⟨rfl, h⟩)
    | cons n rest =>
      have hn : w.cell? ⟨g, q, none⟩ = some (.int .i64 n) := hx 0 (by simp)
      have hx1 : ∀ i (h : i < rest.length), w.cell? ⟨g, q + 1 + i, none⟩ = some (.int .i64 rest[i]) := fun i h => by
        have := hx (i + 1) (by simp; omega)
        simpa [Nat.add_assoc, Nat.add_comm 1 i] using this
      have hlt := hr n (by simp)
      simp only [List.length_cons] at hw hc
      have H : Calls Tryz.prog 50 #[.pointer (some ⟨b, 0, none⟩), .int .i64 (k : Int)] w fun e w' => WnP w w' b k o t p n rest e := by
        by_cases h0 : n < 0
        · exact wnum_neg w b k o t p g q cp rest.length n rest hw hn hc h0
        · obtain ⟨m, rfl⟩ : ∃ m : Nat, n = (m : Int) := ⟨n.toNat, by omega⟩
          have hm : m < 9223372036854775808 := by omega
          rcases hk with rfl | rfl | rfl | rfl
          · exact wnum_1 w b o t p g q cp rest.length m rest hw hn hc hm rfl hg hx1
          · exact wnum_2 w b o t p g q cp rest.length m rest hw hn hc hm rfl hg hx1
          · exact wnum_4 w b o t p g q cp rest.length m rest hw hn hc hm rfl hg hx1
          · exact wnum_8 w b o t p g q cp rest.length m rest hw hn hc hm rfl hg hx1
      exact H.mono (fun e w' h => .inr ⟨n, rest, rfl, h⟩)
end Go.Proofs.YtmaaacaifpgpaaaGreatDoor

namespace Go.Proofs.YtmaaacaifpgpaaaGreatDoor
open Go.RowKit Go.Lib
set_option maxRecDepth 100000
set_option linter.unusedSimpArgs false

/-- Texts that can be read, in a block below b. -/
def RdT (w : World) (b : Nat) (v : Value) (l : List (List UInt8)) : Prop :=
  ((∃ a c, v = .slice a 0 c) ∧ l = []) ∨ ∃ (g o c : Nat), v = .slice (some ⟨g, o, none⟩) l.length c ∧ l.length ≤ c ∧ g < b ∧ ∀ i (h : i < l.length), w.cell? ⟨g, o + i, none⟩ = some (str l[i])
theorem RdT.on {w w' : World} {b : Nat} {v : Value} {l : List (List UInt8)} (h : RdT w b v l) (hb : Below b w w') : RdT w' b v l := by
  rcases h with h | ⟨g, o, c, rfl, hc, hg, hx⟩
  · exact .inl h
  · exact .inr ⟨g, o, c, rfl, hc, hg, fun i hi => by rw [hb.cell hg]; exact hx i hi⟩
set_option maxHeartbeats 1000000 in
theorem wtext_no (w : World) (b k : Nat) (o n p : Value) (ad : Option Addr) (cp : Nat) (hw : Blk w b (wrA o n (.slice ad 0 cp) p) 70) :
    Calls Tryz.prog 48 #[.pointer (some ⟨b, 0, none⟩), .int .i64 (k : Int)] w fun e w' => e = .panicked (gup 1) ∧ w' = w := by
  obtain ⟨g, hg⟩ : ∃ g, gup 1 = g := ⟨_, rfl⟩
  have I := fun w => insist_no w 1
  rw [hg] at I ⊢
  have c2 := hw.cell 2
  simp only [List.getElem?_toArray, List.getElem?_cons_zero, List.getElem?_cons_succ] at c2
  clear hw
  go_enter Tryz.func48, Tryz.ntmps48
  go_wp2_with fail
  refine (I _).mono ?_
  rintro e w' ⟨rfl, rfl⟩
  exact ⟨rfl, rfl, rfl⟩
/-- What text answers of a text that is there. -/
def WtP (w w' : World) (b k : Nat) (o n p : Value) (s : List UInt8) (rest : List (List UInt8)) (e : Ending) : Prop :=
  w.grownBy w' (some b) ∧ w'.heap.size = w.heap.size ∧ ((s.length ≤ k ∧ ∃ v', e = .returned (str s) ∧ Blk w' b (wrA o n v' p) 70 ∧ RdT w' b v' rest) ∨ (k < s.length ∧ e = .panicked (gup 1)))
theorem rdT_rest {w w' : World} {b g q len cap : Nat} {rest : List (List UInt8)} (hb : Below b w w') (hg : g < b) (hl : rest.length = len) (hc : len ≤ cap) (hx : ∀ i (h : i < rest.length), w.cell? ⟨g, q + i, none⟩ = some (str rest[i])) : RdT w' b (.slice (some ⟨g, q, none⟩) len cap) rest := by
  subst hl
  exact (RdT.on (.inr ⟨g, q, cap, rfl, hc, hg, hx⟩) hb)
set_option maxHeartbeats 2000000 in
theorem wtext_is (w : World) (b k : Nat) (o n p : Value) (g q cp len : Nat) (s : List UInt8) (rest : List (List UInt8)) (hw : Blk w b (wrA o n (.slice (some ⟨g, q, none⟩) (len + 1) cp) p) 70) (hn : w.cell? ⟨g, q, none⟩ = some (str s)) (hc : len + 1 ≤ cp) (hl : rest.length = len) (hgb : g < b) (hx : ∀ i (h : i < rest.length), w.cell? ⟨g, q + 1 + i, none⟩ = some (str rest[i])) :
    Calls Tryz.prog 48 #[.pointer (some ⟨b, 0, none⟩), .int .i64 (k : Int)] w fun e w' => WtP w w' b k o n p s rest e := by
  obtain ⟨gu, hg⟩ : ∃ gu, gup 1 = gu := ⟨_, rfl⟩
  have I := fun w => insist_no w 1
  unfold WtP
  rw [hg] at I ⊢
  have c2 := hw.cell 2
  simp only [List.getElem?_toArray, List.getElem?_cons_zero, List.getElem?_cons_succ] at c2
  have HX : Hid (∀ i (h : i < rest.length), w.cell? ⟨g, q + 1 + i, none⟩ = some (str rest[i])) := hx
  clear hx
  by_cases hcp : cp = 1
  · obtain rfl : len = 0 := by omega
    subst hcp
    go_enter Tryz.func48, Tryz.ntmps48
    go_wp2_with (first | (go_at_call 33; refine (insist_ok _ _).mono ?_; rintro e w' ⟨rfl, rfl⟩) | (refine wpl_set rfl (.tmp 26) (.tmp 24) rfl b 2 _ rfl rfl hw (by kernel_rfl) rfl rfl (by simp) ?_))
    intro W' kW gW sW
    go_wp2_with fail
    cases hd : decide (s.length ≤ k)
    · refine (I _).mono ?_
      rintro e w' ⟨rfl, rfl⟩
      exact ⟨rfl, gW, sW, .inr ⟨by have := of_decide_eq_false hd; omega, rfl⟩⟩
    · refine (insist_ok _ _).mono ?_
      rintro e w' ⟨rfl, rfl⟩
      go_wp2_with fail
      go_ret
      exact ⟨gW, sW, .inl ⟨of_decide_eq_true hd, _, rfl, kW, .inl ⟨⟨_, _, rfl⟩, List.length_eq_zero_iff.mp hl⟩⟩⟩
  · have hcp2 : ¬ (cp = 1) := hcp
    go_enter Tryz.func48, Tryz.ntmps48
    go_wp2_with (first | (go_at_call 33; refine (insist_ok _ _).mono ?_; rintro e w' ⟨rfl, rfl⟩) | (refine wpl_set rfl (.tmp 26) (.tmp 24) rfl b 2 _ rfl rfl hw (by kernel_rfl) rfl rfl (by simp) ?_))
    intro W' kW gW sW
    go_wp2_with fail
    cases hd : decide (s.length ≤ k)
    · refine (I _).mono ?_
      rintro e w' ⟨rfl, rfl⟩
      exact ⟨rfl, gW, sW, .inr ⟨by have := of_decide_eq_false hd; omega, rfl⟩⟩
    · refine (insist_ok _ _).mono ?_
      rintro e w' ⟨rfl, rfl⟩
      go_wp2_with fail
      go_ret
      exact ⟨gW, sW, .inl ⟨of_decide_eq_true hd, _, rfl, kW, rdT_rest ((Below.refl _ _).grown gW (Nat.le_of_lt hw.lt) (fun k hk => by cases hk; exact Nat.le_refl _)) hgb hl (by omega) HX.out⟩⟩
/-- What text answers of any texts. -/
def WtA (w w' : World) (b k : Nat) (o n p : Value) (ts : List (List UInt8)) (e : Ending) : Prop :=
  (ts = [] ∧ e = .panicked (gup 1) ∧ w' = w) ∨ ∃ s rest, ts = s :: rest ∧ WtP w w' b k o n p s rest e
theorem wtext_any (w : World) (b k : Nat) (o n v p : Value) (ts : List (List UInt8)) (hw : Blk w b (wrA o n v p) 70) (hv : RdT w b v ts) :
    Calls Tryz.prog 48 #[.pointer (some ⟨b, 0, none⟩), .int .i64 (k : Int)] w fun e w' => WtA w w' b k o n p ts e := by
  rcases hv with ⟨⟨a, c, rfl⟩, rfl⟩ | ⟨g, q, cp, rfl, hc, hg, hx⟩
  · exact (wtext_no w b k o n p a c hw).mono (fun e w' h => .inl ⟨rfl, h⟩)
  · cases ts with
    | nil => exact (wtext_no w b k o n p _ cp hw).mono (fun e w' h => .inl ⟨rfl, h⟩)
    | cons s rest =>
      have hn : w.cell? ⟨g, q, none⟩ = some (str s) := hx 0 (by simp)
      have hx1 : ∀ i (h : i < rest.length), w.cell? ⟨g, q + 1 + i, none⟩ = some (str rest[i]) := fun i h => by
        have := hx (i + 1) (by simp; omega)
        simpa [Nat.add_assoc, Nat.add_comm 1 i] using this
      simp only [List.length_cons] at hw hc
      exact (wtext_is w b k o n p g q cp rest.length s rest hw hn hc rfl hg hx1).mono (fun e w' h => .inr ⟨s, rest, rfl, h⟩)
end Go.Proofs.YtmaaacaifpgpaaaGreatDoor

namespace Go.Proofs.YtmaaacaifpgpaaaGreatDoor
open Go.RowKit Go.Lib
set_option maxRecDepth 100000
set_option linter.unusedSimpArgs false

theorem wid_is (c : Nat) : wid c = 1 ∨ wid c = 2 ∨ wid c = 4 ∨ wid c = 8 := by
  unfold wid
  by_cases h1 : c = 104
  · simp [h1]
  · by_cases h2 : c = 108
    · simp [h2]
    · by_cases h3 : c = 76 <;> simp [h1, h2, h3]
theorem ak2 {P : Program} {md : Region.Mode} {ops : Array Oper} {Q : Exit → Act → World → Prop} {S : World → Prop} (i j : Nat) {o o' : Oper} {fuel : Nat} {listed : Array Bool} {a : Act} {w : World}
    (h : ∀ K : Act → World → Prop, (∀ a' w', S w' → wpAnyH P md ops Q S fuel (listed.setIfInBounds i true) a' w' → K a' w') → o.wp P a w K Q)
    (h' : ∀ K : Act → World → Prop, (∀ a' w', S w' → wpAnyH P md ops Q S fuel (listed.setIfInBounds j true) a' w' → K a' w') → o'.wp P a w K Q) (hr : Region.ready md ops listed = [i, j] := by kernel_rfl) (ho : ops[i]? = some o := by exact rfl) (ho' : ops[j]? = some o' := by exact rfl) (hw : Region.wanted o (yielded ops a.tmps) = true := by rfl) (hw' : Region.wanted o' (yielded ops a.tmps) = true := by rfl) : wpAnyH P md ops Q S (fuel + 1) listed a w :=
  wpAnyH_all hr (by simp) (fun x hx => by
    simp only [List.mem_cons, List.not_mem_nil, or_false] at hx
    rcases hx with rfl | rfl
    · unfold wpOp
      simp only [ho]
      rw [if_pos hw]
      exact .inl (h _ (fun _ _ h1 h2 => ⟨h1, h2⟩))
    · unfold wpOp
      simp only [ho']
      rw [if_pos hw']
      exact .inl (h' _ (fun _ _ h1 h2 => ⟨h1, h2⟩)))
theorem Own.grown {w w' : World} {B : Nat} {v : Value} {l : List UInt8} {row : Option Nat} (h : Own w B v l) (hg : w.grownBy w' row) (hr : ∀ k, row = some k → k < B) : Own w' B v l := by
  obtain ⟨hl, ho⟩ := h
  refine ⟨hl, ?_⟩
  rcases ho with h | ⟨g, cap, cur, hv, hgB, hc, h⟩
  · exact .inl h
  · refine .inr ⟨g, cap, cur, hv, hgB, ?_, h⟩
    rw [hg.block g (Array.getElem?_eq_some_iff.1 hc).1 (fun e => by have := hr g e.symm; omega)]
    exact hc
theorem Own.shape {w : World} {B : Nat} {v : Value} {l : List UInt8} (h : Own w B v l) : ∃ a n c, v = .slice a n c := by
  rcases h.2 with ⟨rfl, _⟩ | ⟨g, cap, cur, rfl, _⟩
  · exact ⟨_, _, _, rfl⟩
  · exact ⟨_, _, _, rfl⟩
theorem fitN_pos {n : Int} {k : Nat} (h : fitN n k = true) : 0 ≤ n := by
  unfold fitN at h
  simp only [Bool.and_eq_true, decide_eq_true_eq] at h
  exact h.1
/-- What part answers where the letter is a number's. -/
def WpN (w w' : World) (b c : Nat) (t p : Value) (out : List UInt8) (ns : List Int) (e : Ending) : Prop :=
  Below b w w' ∧ ((e = .returned (.tuple #[]) ∧ ∃ n rest o' v', ns = n :: rest ∧ fitN n (wid c) = true ∧ Blk w' b (wrA o' v' t p) 70 ∧ Own w' (b + 1) o' (out ++ beN (wid c) n.toNat) ∧ RdN w' b v' rest) ∨
    (e = .panicked (gup 1) ∧ (ns = [] ∨ ∃ n rest, ns = n :: rest ∧ fitN n (wid c) = false)))
set_option maxHeartbeats 4000000 in
theorem wpart_num (w : World) (b c : Nat) (o v t p : Value) (out : List UInt8) (ns : List Int) (h1 : c ≠ 115) (h2 : c ≠ 83) (h3 : c ≠ 84) (hw : Blk w b (wrA o v t p) 70) (ho : Own w (b + 1) o out) (hl : out.length + 8 ≤ 140737488355328) (hv : RdN w b v ns) (hr : ∀ x ∈ ns, x < 9223372036854775808) :
    Calls Tryz.prog 35 #[.pointer (some ⟨b, 0, none⟩), .int .u8 (c : Int)] w fun e w' => WpN w w' b c t p out ns e := by
  obtain ⟨k, hk⟩ : ∃ k, wid c = k := ⟨_, rfl⟩
  have hk1 := wid_is c
  have WD := fun w => width_any w c
  obtain ⟨gu, hg⟩ : ∃ gu, gup 1 = gu := ⟨_, rfl⟩
  have HT : Hid (∀ (w : World) (v : Value) (n : Nat), Own w (b + 1) v out → b + 1 ≤ w.heap.size → Calls Tryz.prog 34 #[v, .int .i64 k, .int .u64 n] w fun e w' => ∃ v', e = .returned v' ∧ Own w' (b + 1) v' (out ++ beN k n) ∧ Bn (b + 1) w w') := fun w v n ho hB => tput_any w (b + 1) v out k n (by rw [← hk]; rcases hk1 with h | h | h | h <;> omega) ho hB hl
  rw [hk] at hk1 WD
  have N : Calls Tryz.prog 50 #[.pointer (some ⟨b, 0, none⟩), .int .i64 (k : Int)] w.drew fun e w' => WnA w.drew w' b k o t p ns e := wnum_any w.drew b k o v t p ns hk1 ⟨hw.h⟩ hv hr
  have b1 : ((c : Int) == 115) = false := by simp; omega
  have b2 : ((c : Int) == 83) = false := by simp; omega
  have b3 : ((c : Int) == 84) = false := by simp; omega
  unfold WnA WnP at N
  rw [hg] at N
  have HF : Hid (∀ w w' ns e, (Below b w w' ∧ ((e = .returned (.tuple #[]) ∧ ∃ n rest o' v', ns = n :: rest ∧ fitN n k = true ∧ Blk w' b (wrA o' v' t p) 70 ∧ Own w' (b + 1) o' (out ++ beN k n.toNat) ∧ RdN w' b v' rest) ∨ (e = .panicked gu ∧ (ns = [] ∨ ∃ n rest, ns = n :: rest ∧ fitN n k = false)))) → WpN w w' b c t p out ns e) := by rw [← hk, ← hg]; exact fun w w' ns e h => h
  clear h1 h2 h3 hk hg
  have hwd : Blk w.drew b (wrA o v t p) 70 := ⟨hw.h⟩
  have hod : Own w.drew (b + 1) o out := ho
  have HW : Hid (Below b w w.drew) := (Below.refl _ _).drew
  have HOD : Hid (Own w.drew (b + 1) o out) := hod
  have LB : Hid (∀ W, w.drew.grownBy W (some b) → Below b w.drew W) := fun W gW => (Below.refl _ _).grown gW (Nat.le_of_lt hwd.lt) (fun k hk => by cases hk; exact Nat.le_refl _)
  have c0 := hwd.cell 0
  simp only [List.getElem?_toArray, List.getElem?_cons_zero, List.getElem?_cons_succ] at c0
  go_enter Tryz.func35, Tryz.ntmps35
  go_wp2_with (first | (go_at_call 49; refine (WD _).mono ?_; rintro e w' ⟨rfl, rfl⟩) | fail)
  refine wp_region_held (S := fun _ => True) hmix ?_
  show wpAnyH _ _ _ _ _ _ _ _ (World.drew _)
  generalize World.drew _ = Wd at *
  refine tks [0, 1, 2, 3, 5, 6, 7] [.pointer (some ⟨b, 0, none⟩), .pointer (some ⟨b, 0, none⟩), .pointer (some ⟨b, 0, none⟩), .pointer (some ⟨b, 0, none⟩), .int .i64 k, .pointer (some ⟨b, 0, none⟩), .int .i64 k] 6 ?_ trivial ?_
  · simp only [tkY, tkf]
    refine ⟨.yes ?_, .yes ?_, .yes ?_, .yes ?_, .yes ?_, .yes ?_, .yes ?_, trivial⟩
    all_goals
      intro W' hW'
      go_simp
  simp only [tkA, tkf]
  refine ak2 4 8 (fun K hK => ?_) (fun K hK => ?_)
  · go_wp2_with fail
    refine hK _ _ trivial ?_
    clear hK K
    refine ak 8 (fun K hK => ?_)
    go_wp2_with (go_at_call 50; refine N.mono ?_; rintro e W (⟨rfl, rfl, rfl⟩ | ⟨n, rest, rfl, gW, sW, (⟨hf, v', rfl, kW, rW⟩ | ⟨hf, rfl⟩)⟩))
    · exact ⟨rfl, HF.out _ _ _ _ ⟨HW.out, .inr ⟨rfl, .inl rfl⟩⟩⟩
    rotate_left
    · exact ⟨rfl, HF.out _ _ _ _ ⟨HW.out.trans (LB.out W gW), .inr ⟨rfl, .inr ⟨_, _, rfl, hf⟩⟩⟩⟩
    obtain ⟨m, rfl⟩ : ∃ m : Nat, n = (m : Int) := ⟨n.toNat, by have := fitN_pos hf; omega⟩
    have HO : Hid (Own W (b + 1) o out) := HOD.out.grown gW (fun k hk => by cases hk; exact Nat.lt_succ_self _)
    have HW2 : Hid _ := HW.out.trans (LB.out W gW)
    refine hK _ _ trivial ?_
    clear hK K
    refine ak 9 (fun K hK => ?_)
    have sz : b + 1 ≤ W.heap.size := by have := kW.lt; omega
    go_wp2_with (go_at_call 34; refine (HT.out W o m HO.out sz).mono ?_; rintro e W3 ⟨o3, rfl, ho3, hb3⟩)
    refine hK _ _ trivial ?_
    clear hK K
    refine ak 10 (fun K hK => ?_)
    go_wp2_with fail
    refine hK _ _ trivial ?_
    clear hK K
    refine ak 11 (fun K hK => ?_)
    go_wp2_with fail
    refine hK _ _ trivial ?_
    clear hK K
    refine ak 12 (fun K hK => ?_)
    have k3 : Blk W3 b (wrA o v' t p) 70 := kW.below hb3.b (Nat.lt_succ_self b)
    have r3 : RdN W3 b v' rest := rW.on (hb3.b.mono (Nat.le_succ b))
    obtain ⟨oa, on, oc, rfl⟩ := Own.shape ho3
    refine opw_set (.tmp 19) (.tmp 17) rfl b 0 _ rfl rfl k3 (by kernel_rfl) rfl rfl (by simp) ?_
    intro W4 k4 g4 s4
    refine hK _ _ trivial ?_
    clear hK K
    refine wpAnyH_done (by kernel_rfl) ?_ _
    go_wp2_with fail
    go_end0
    have l4 : Below b W3 W4 := (Below.refl _ _).grown g4 (Nat.le_of_lt k3.lt) (fun k hk => by cases hk; exact Nat.le_refl _)
    exact HF.out _ _ _ _ ⟨HW2.out.trans (hb3.b.mono (Nat.le_succ b)) |>.trans l4, .inl ⟨rfl, _, rest, _, v', rfl, hf, k4, ho3.grown g4 (fun k hk => by cases hk; exact Nat.lt_succ_self _), r3.on l4⟩⟩
  · go_wp2_with (go_at_call 50; refine N.mono ?_; rintro e W (⟨rfl, rfl, rfl⟩ | ⟨n, rest, rfl, gW, sW, (⟨hf, v', rfl, kW, rW⟩ | ⟨hf, rfl⟩)⟩))
    · exact ⟨rfl, HF.out _ _ _ _ ⟨HW.out, .inr ⟨rfl, .inl rfl⟩⟩⟩
    rotate_left
    · exact ⟨rfl, HF.out _ _ _ _ ⟨HW.out.trans (LB.out W gW), .inr ⟨rfl, .inr ⟨_, _, rfl, hf⟩⟩⟩⟩
    obtain ⟨m, rfl⟩ : ∃ m : Nat, n = (m : Int) := ⟨n.toNat, by have := fitN_pos hf; omega⟩
    have HO : Hid (Own W (b + 1) o out) := HOD.out.grown gW (fun k hk => by cases hk; exact Nat.lt_succ_self _)
    have HW2 : Hid _ := HW.out.trans (LB.out W gW)
    refine hK _ _ trivial ?_
    clear hK K
    have c0 := kW.cell 0
    simp only [List.getElem?_toArray, List.getElem?_cons_zero, List.getElem?_cons_succ] at c0
    refine ak 4 (fun K hK => ?_)
    go_wp2_with fail
    refine hK _ _ trivial ?_
    clear hK K
    refine ak 9 (fun K hK => ?_)
    have sz : b + 1 ≤ W.heap.size := by have := kW.lt; omega
    go_wp2_with (go_at_call 34; refine (HT.out W o m HO.out sz).mono ?_; rintro e W3 ⟨o3, rfl, ho3, hb3⟩)
    refine hK _ _ trivial ?_
    clear hK K
    refine ak 10 (fun K hK => ?_)
    go_wp2_with fail
    refine hK _ _ trivial ?_
    clear hK K
    refine ak 11 (fun K hK => ?_)
    go_wp2_with fail
    refine hK _ _ trivial ?_
    clear hK K
    refine ak 12 (fun K hK => ?_)
    have k3 : Blk W3 b (wrA o v' t p) 70 := kW.below hb3.b (Nat.lt_succ_self b)
    have r3 : RdN W3 b v' rest := rW.on (hb3.b.mono (Nat.le_succ b))
    obtain ⟨oa, on, oc, rfl⟩ := Own.shape ho3
    refine opw_set (.tmp 19) (.tmp 17) rfl b 0 _ rfl rfl k3 (by kernel_rfl) rfl rfl (by simp) ?_
    intro W4 k4 g4 s4
    refine hK _ _ trivial ?_
    clear hK K
    refine wpAnyH_done (by kernel_rfl) ?_ _
    go_wp2_with fail
    go_end0
    have l4 : Below b W3 W4 := (Below.refl _ _).grown g4 (Nat.le_of_lt k3.lt) (fun k hk => by cases hk; exact Nat.le_refl _)
    exact HF.out _ _ _ _ ⟨HW2.out.trans (hb3.b.mono (Nat.le_succ b)) |>.trans l4, .inl ⟨rfl, _, rest, _, v', rfl, hf, k4, ho3.grown g4 (fun k hk => by cases hk; exact Nat.lt_succ_self _), r3.on l4⟩⟩
end Go.Proofs.YtmaaacaifpgpaaaGreatDoor

namespace Go.Proofs.YtmaaacaifpgpaaaGreatDoor
open Go.RowKit Go.Lib
set_option maxRecDepth 100000
set_option linter.unusedSimpArgs false

/-- What part answers where the letter is a text's. -/
def WpT (w w' : World) (b k : Nat) (f : List UInt8 → List UInt8) (n p : Value) (out : List UInt8) (ts : List (List UInt8)) (e : Ending) : Prop :=
  Below b w w' ∧ ((e = .returned (.tuple #[]) ∧ ∃ s rest o' v', ts = s :: rest ∧ s.length ≤ k ∧ Blk w' b (wrA o' n v' p) 70 ∧ Own w' (b + 1) o' (out ++ f s) ∧ RdT w' b v' rest) ∨
    (e = .panicked (gup 1) ∧ (ts = [] ∨ ∃ s rest, ts = s :: rest ∧ k < s.length)))
set_option maxHeartbeats 4000000 in
theorem wpart_s (w : World) (b : Nat) (o n t p : Value) (out : List UInt8) (ts : List (List UInt8)) (hw : Blk w b (wrA o n t p) 70) (ho : Own w (b + 1) o out) (hl : out.length + 2000 ≤ 140737488355328) (hv : RdT w b t ts) :
    Calls Tryz.prog 35 #[.pointer (some ⟨b, 0, none⟩), .int .u8 115] w fun e w' => WpT w w' b 255 shortL n p out ts e := by
  obtain ⟨gu, hg⟩ : ∃ gu, gup 1 = gu := ⟨_, rfl⟩
  have HT : Hid (∀ (w : World) (v : Value) (s : List UInt8), Own w (b + 1) v out → s.length ≤ 255 → b + 1 ≤ w.heap.size → Calls Tryz.prog 46 #[v, str s] w fun e w' => ∃ v', e = .returned v' ∧ Own w' (b + 1) v' (out ++ shortL s) ∧ Bn (b + 1) w w') := fun w v s ho hs hB => short_any w (b + 1) v out s ho hB (by omega)
  have N : Calls Tryz.prog 48 #[.pointer (some ⟨b, 0, none⟩), .int .i64 ((255 : Nat) : Int)] w.drew fun e w' => WtA w.drew w' b 255 o n p ts e := wtext_any w.drew b 255 o n t p ts ⟨hw.h⟩ hv
  have b1 : ((115 : Int) == 115) = true := rfl
  unfold WtA WtP at N
  rw [hg] at N
  have HF : Hid (∀ w w' ts e, (Below b w w' ∧ ((e = .returned (.tuple #[]) ∧ ∃ s rest o' v', ts = s :: rest ∧ s.length ≤ 255 ∧ Blk w' b (wrA o' n v' p) 70 ∧ Own w' (b + 1) o' (out ++ shortL s) ∧ RdT w' b v' rest) ∨ (e = .panicked gu ∧ (ts = [] ∨ ∃ s rest, ts = s :: rest ∧ 255 < s.length)))) → WpT w w' b 255 shortL n p out ts e) := by rw [← hg]; exact fun w w' ns e h => h
  clear hg
  have hwd : Blk w.drew b (wrA o n t p) 70 := ⟨hw.h⟩
  have hod : Own w.drew (b + 1) o out := ho
  have HW : Hid (Below b w w.drew) := (Below.refl _ _).drew
  have HOD : Hid (Own w.drew (b + 1) o out) := hod
  have LB : Hid (∀ W, w.drew.grownBy W (some b) → Below b w.drew W) := fun W gW => (Below.refl _ _).grown gW (Nat.le_of_lt hwd.lt) (fun k hk => by cases hk; exact Nat.le_refl _)
  have c0 := hwd.cell 0
  simp only [List.getElem?_toArray, List.getElem?_cons_zero, List.getElem?_cons_succ] at c0
  go_enter Tryz.func35, Tryz.ntmps35
  go_wp2_with fail
  refine wp_region_held (S := fun _ => True) hmix ?_
  show wpAnyH _ _ _ _ _ _ _ _ (World.drew _)
  generalize World.drew _ = Wd at *
  refine tks [0, 1, 2, 3, 5] [.pointer (some ⟨b, 0, none⟩), .pointer (some ⟨b, 0, none⟩), .pointer (some ⟨b, 0, none⟩), .pointer (some ⟨b, 0, none⟩), .pointer (some ⟨b, 0, none⟩)] 6 ?_ trivial ?_
  · simp only [tkY, tkf]
    refine ⟨.yes ?_, .yes ?_, .yes ?_, .yes ?_, .yes ?_, trivial⟩
    all_goals
      intro W' hW'
      go_simp
  simp only [tkA, tkf]
  refine ak2 4 6 (fun K hK => ?_) (fun K hK => ?_)
  · go_wp2_with fail
    refine hK _ _ trivial ?_
    clear hK K
    refine ak 6 (fun K hK => ?_)
    go_wp2_with (go_at_call 48; refine N.mono ?_; rintro e W (⟨rfl, rfl, rfl⟩ | ⟨s, rest, rfl, gW, sW, (⟨hf, v', rfl, kW, rW⟩ | ⟨hf, rfl⟩)⟩))
    · exact ⟨rfl, HF.out _ _ _ _ ⟨HW.out, .inr ⟨rfl, .inl rfl⟩⟩⟩
    rotate_left
    · exact ⟨rfl, HF.out _ _ _ _ ⟨HW.out.trans (LB.out W gW), .inr ⟨rfl, .inr ⟨_, _, rfl, hf⟩⟩⟩⟩
    have HO : Hid (Own W (b + 1) o out) := HOD.out.grown gW (fun k hk => by cases hk; exact Nat.lt_succ_self _)
    have HW2 : Hid _ := HW.out.trans (LB.out W gW)
    refine hK _ _ trivial ?_
    clear hK K
    refine ak 7 (fun K hK => ?_)
    have sz : b + 1 ≤ W.heap.size := by have := kW.lt; omega
    go_wp2_with (go_at_call 46; refine (HT.out W o s HO.out hf sz).mono ?_; rintro e W3 ⟨o3, rfl, ho3, hb3⟩)
    refine hK _ _ trivial ?_
    clear hK K
    refine ak 8 (fun K hK => ?_)
    go_wp2_with fail
    refine hK _ _ trivial ?_
    clear hK K
    refine ak 9 (fun K hK => ?_)
    go_wp2_with fail
    refine hK _ _ trivial ?_
    clear hK K
    refine ak 10 (fun K hK => ?_)
    have k3 : Blk W3 b (wrA o n v' p) 70 := kW.below hb3.b (Nat.lt_succ_self b)
    have r3 : RdT W3 b v' rest := rW.on (hb3.b.mono (Nat.le_succ b))
    obtain ⟨oa, on, oc, rfl⟩ := Own.shape ho3
    refine opw_set (.tmp 31) (.tmp 29) rfl b 0 _ rfl rfl k3 (by kernel_rfl) rfl rfl (by simp) ?_
    intro W4 k4 g4 s4
    refine hK _ _ trivial ?_
    clear hK K
    refine wpAnyH_done (by kernel_rfl) ?_ _
    go_wp2_with fail
    go_end0
    have l4 : Below b W3 W4 := (Below.refl _ _).grown g4 (Nat.le_of_lt k3.lt) (fun k hk => by cases hk; exact Nat.le_refl _)
    exact HF.out _ _ _ _ ⟨HW2.out.trans (hb3.b.mono (Nat.le_succ b)) |>.trans l4, .inl ⟨rfl, _, rest, _, v', rfl, hf, k4, ho3.grown g4 (fun k hk => by cases hk; exact Nat.lt_succ_self _), r3.on l4⟩⟩
  · go_wp2_with (go_at_call 48; refine N.mono ?_; rintro e W (⟨rfl, rfl, rfl⟩ | ⟨s, rest, rfl, gW, sW, (⟨hf, v', rfl, kW, rW⟩ | ⟨hf, rfl⟩)⟩))
    · exact ⟨rfl, HF.out _ _ _ _ ⟨HW.out, .inr ⟨rfl, .inl rfl⟩⟩⟩
    rotate_left
    · exact ⟨rfl, HF.out _ _ _ _ ⟨HW.out.trans (LB.out W gW), .inr ⟨rfl, .inr ⟨_, _, rfl, hf⟩⟩⟩⟩
    have HO : Hid (Own W (b + 1) o out) := HOD.out.grown gW (fun k hk => by cases hk; exact Nat.lt_succ_self _)
    have HW2 : Hid _ := HW.out.trans (LB.out W gW)
    refine hK _ _ trivial ?_
    clear hK K
    have c0 := kW.cell 0
    simp only [List.getElem?_toArray, List.getElem?_cons_zero, List.getElem?_cons_succ] at c0
    refine ak 4 (fun K hK => ?_)
    go_wp2_with fail
    refine hK _ _ trivial ?_
    clear hK K
    refine ak 7 (fun K hK => ?_)
    have sz : b + 1 ≤ W.heap.size := by have := kW.lt; omega
    go_wp2_with (go_at_call 46; refine (HT.out W o s HO.out hf sz).mono ?_; rintro e W3 ⟨o3, rfl, ho3, hb3⟩)
    refine hK _ _ trivial ?_
    clear hK K
    refine ak 8 (fun K hK => ?_)
    go_wp2_with fail
    refine hK _ _ trivial ?_
    clear hK K
    refine ak 9 (fun K hK => ?_)
    go_wp2_with fail
    refine hK _ _ trivial ?_
    clear hK K
    refine ak 10 (fun K hK => ?_)
    have k3 : Blk W3 b (wrA o n v' p) 70 := kW.below hb3.b (Nat.lt_succ_self b)
    have r3 : RdT W3 b v' rest := rW.on (hb3.b.mono (Nat.le_succ b))
    obtain ⟨oa, on, oc, rfl⟩ := Own.shape ho3
    refine opw_set (.tmp 31) (.tmp 29) rfl b 0 _ rfl rfl k3 (by kernel_rfl) rfl rfl (by simp) ?_
    intro W4 k4 g4 s4
    refine hK _ _ trivial ?_
    clear hK K
    refine wpAnyH_done (by kernel_rfl) ?_ _
    go_wp2_with fail
    go_end0
    have l4 : Below b W3 W4 := (Below.refl _ _).grown g4 (Nat.le_of_lt k3.lt) (fun k hk => by cases hk; exact Nat.le_refl _)
    exact HF.out _ _ _ _ ⟨HW2.out.trans (hb3.b.mono (Nat.le_succ b)) |>.trans l4, .inl ⟨rfl, _, rest, _, v', rfl, hf, k4, ho3.grown g4 (fun k hk => by cases hk; exact Nat.lt_succ_self _), r3.on l4⟩⟩
set_option maxHeartbeats 4000000 in
theorem wpart_l (w : World) (b : Nat) (o n t p : Value) (out : List UInt8) (ts : List (List UInt8)) (hw : Blk w b (wrA o n t p) 70) (ho : Own w (b + 1) o out) (hl : out.length + 2000 ≤ 140737488355328) (hv : RdT w b t ts) :
    Calls Tryz.prog 35 #[.pointer (some ⟨b, 0, none⟩), .int .u8 83] w fun e w' => WpT w w' b 1024 longL n p out ts e := by
  obtain ⟨gu, hg⟩ : ∃ gu, gup 1 = gu := ⟨_, rfl⟩
  have HT : Hid (∀ (w : World) (v : Value) (s : List UInt8), Own w (b + 1) v out → s.length ≤ 1024 → b + 1 ≤ w.heap.size → Calls Tryz.prog 47 #[v, str s] w fun e w' => ∃ v', e = .returned v' ∧ Own w' (b + 1) v' (out ++ longL s) ∧ Bn (b + 1) w w') := fun w v s ho hs hB => long_any w (b + 1) v out s ho hB (by omega)
  have N : Calls Tryz.prog 48 #[.pointer (some ⟨b, 0, none⟩), .int .i64 ((1024 : Nat) : Int)] w.drew fun e w' => WtA w.drew w' b 1024 o n p ts e := wtext_any w.drew b 1024 o n t p ts ⟨hw.h⟩ hv
  have b1 : ((83 : Int) == 115) = false := rfl
  have b2 : ((83 : Int) == 83) = true := rfl
  unfold WtA WtP at N
  rw [hg] at N
  have HF : Hid (∀ w w' ts e, (Below b w w' ∧ ((e = .returned (.tuple #[]) ∧ ∃ s rest o' v', ts = s :: rest ∧ s.length ≤ 1024 ∧ Blk w' b (wrA o' n v' p) 70 ∧ Own w' (b + 1) o' (out ++ longL s) ∧ RdT w' b v' rest) ∨ (e = .panicked gu ∧ (ts = [] ∨ ∃ s rest, ts = s :: rest ∧ 1024 < s.length)))) → WpT w w' b 1024 longL n p out ts e) := by rw [← hg]; exact fun w w' ns e h => h
  clear hg
  have hwd : Blk w.drew b (wrA o n t p) 70 := ⟨hw.h⟩
  have hod : Own w.drew (b + 1) o out := ho
  have HW : Hid (Below b w w.drew) := (Below.refl _ _).drew
  have HOD : Hid (Own w.drew (b + 1) o out) := hod
  have LB : Hid (∀ W, w.drew.grownBy W (some b) → Below b w.drew W) := fun W gW => (Below.refl _ _).grown gW (Nat.le_of_lt hwd.lt) (fun k hk => by cases hk; exact Nat.le_refl _)
  have c0 := hwd.cell 0
  simp only [List.getElem?_toArray, List.getElem?_cons_zero, List.getElem?_cons_succ] at c0
  go_enter Tryz.func35, Tryz.ntmps35
  go_wp2_with fail
  refine wp_region_held (S := fun _ => True) hmix ?_
  show wpAnyH _ _ _ _ _ _ _ _ (World.drew _)
  generalize World.drew _ = Wd at *
  refine tks [0, 1, 2, 3, 5] [.pointer (some ⟨b, 0, none⟩), .pointer (some ⟨b, 0, none⟩), .pointer (some ⟨b, 0, none⟩), .pointer (some ⟨b, 0, none⟩), .pointer (some ⟨b, 0, none⟩)] 6 ?_ trivial ?_
  · simp only [tkY, tkf]
    refine ⟨.yes ?_, .yes ?_, .yes ?_, .yes ?_, .yes ?_, trivial⟩
    all_goals
      intro W' hW'
      go_simp
  simp only [tkA, tkf]
  refine ak2 4 6 (fun K hK => ?_) (fun K hK => ?_)
  · go_wp2_with fail
    refine hK _ _ trivial ?_
    clear hK K
    refine ak 6 (fun K hK => ?_)
    go_wp2_with (go_at_call 48; refine N.mono ?_; rintro e W (⟨rfl, rfl, rfl⟩ | ⟨s, rest, rfl, gW, sW, (⟨hf, v', rfl, kW, rW⟩ | ⟨hf, rfl⟩)⟩))
    · exact ⟨rfl, HF.out _ _ _ _ ⟨HW.out, .inr ⟨rfl, .inl rfl⟩⟩⟩
    rotate_left
    · exact ⟨rfl, HF.out _ _ _ _ ⟨HW.out.trans (LB.out W gW), .inr ⟨rfl, .inr ⟨_, _, rfl, hf⟩⟩⟩⟩
    have HO : Hid (Own W (b + 1) o out) := HOD.out.grown gW (fun k hk => by cases hk; exact Nat.lt_succ_self _)
    have HW2 : Hid _ := HW.out.trans (LB.out W gW)
    refine hK _ _ trivial ?_
    clear hK K
    refine ak 7 (fun K hK => ?_)
    have sz : b + 1 ≤ W.heap.size := by have := kW.lt; omega
    go_wp2_with (go_at_call 47; refine (HT.out W o s HO.out hf sz).mono ?_; rintro e W3 ⟨o3, rfl, ho3, hb3⟩)
    refine hK _ _ trivial ?_
    clear hK K
    refine ak 8 (fun K hK => ?_)
    go_wp2_with fail
    refine hK _ _ trivial ?_
    clear hK K
    refine ak 9 (fun K hK => ?_)
    go_wp2_with fail
    refine hK _ _ trivial ?_
    clear hK K
    refine ak 10 (fun K hK => ?_)
    have k3 : Blk W3 b (wrA o n v' p) 70 := kW.below hb3.b (Nat.lt_succ_self b)
    have r3 : RdT W3 b v' rest := rW.on (hb3.b.mono (Nat.le_succ b))
    obtain ⟨oa, on, oc, rfl⟩ := Own.shape ho3
    refine opw_set (.tmp 43) (.tmp 41) rfl b 0 _ rfl rfl k3 (by kernel_rfl) rfl rfl (by simp) ?_
    intro W4 k4 g4 s4
    refine hK _ _ trivial ?_
    clear hK K
    refine wpAnyH_done (by kernel_rfl) ?_ _
    go_wp2_with fail
    go_end0
    have l4 : Below b W3 W4 := (Below.refl _ _).grown g4 (Nat.le_of_lt k3.lt) (fun k hk => by cases hk; exact Nat.le_refl _)
    exact HF.out _ _ _ _ ⟨HW2.out.trans (hb3.b.mono (Nat.le_succ b)) |>.trans l4, .inl ⟨rfl, _, rest, _, v', rfl, hf, k4, ho3.grown g4 (fun k hk => by cases hk; exact Nat.lt_succ_self _), r3.on l4⟩⟩
  · go_wp2_with (go_at_call 48; refine N.mono ?_; rintro e W (⟨rfl, rfl, rfl⟩ | ⟨s, rest, rfl, gW, sW, (⟨hf, v', rfl, kW, rW⟩ | ⟨hf, rfl⟩)⟩))
    · exact ⟨rfl, HF.out _ _ _ _ ⟨HW.out, .inr ⟨rfl, .inl rfl⟩⟩⟩
    rotate_left
    · exact ⟨rfl, HF.out _ _ _ _ ⟨HW.out.trans (LB.out W gW), .inr ⟨rfl, .inr ⟨_, _, rfl, hf⟩⟩⟩⟩
    have HO : Hid (Own W (b + 1) o out) := HOD.out.grown gW (fun k hk => by cases hk; exact Nat.lt_succ_self _)
    have HW2 : Hid _ := HW.out.trans (LB.out W gW)
    refine hK _ _ trivial ?_
    clear hK K
    have c0 := kW.cell 0
    simp only [List.getElem?_toArray, List.getElem?_cons_zero, List.getElem?_cons_succ] at c0
    refine ak 4 (fun K hK => ?_)
    go_wp2_with fail
    refine hK _ _ trivial ?_
    clear hK K
    refine ak 7 (fun K hK => ?_)
    have sz : b + 1 ≤ W.heap.size := by have := kW.lt; omega
    go_wp2_with (go_at_call 47; refine (HT.out W o s HO.out hf sz).mono ?_; rintro e W3 ⟨o3, rfl, ho3, hb3⟩)
    refine hK _ _ trivial ?_
    clear hK K
    refine ak 8 (fun K hK => ?_)
    go_wp2_with fail
    refine hK _ _ trivial ?_
    clear hK K
    refine ak 9 (fun K hK => ?_)
    go_wp2_with fail
    refine hK _ _ trivial ?_
    clear hK K
    refine ak 10 (fun K hK => ?_)
    have k3 : Blk W3 b (wrA o n v' p) 70 := kW.below hb3.b (Nat.lt_succ_self b)
    have r3 : RdT W3 b v' rest := rW.on (hb3.b.mono (Nat.le_succ b))
    obtain ⟨oa, on, oc, rfl⟩ := Own.shape ho3
    refine opw_set (.tmp 43) (.tmp 41) rfl b 0 _ rfl rfl k3 (by kernel_rfl) rfl rfl (by simp) ?_
    intro W4 k4 g4 s4
    refine hK _ _ trivial ?_
    clear hK K
    refine wpAnyH_done (by kernel_rfl) ?_ _
    go_wp2_with fail
    go_end0
    have l4 : Below b W3 W4 := (Below.refl _ _).grown g4 (Nat.le_of_lt k3.lt) (fun k hk => by cases hk; exact Nat.le_refl _)
    exact HF.out _ _ _ _ ⟨HW2.out.trans (hb3.b.mono (Nat.le_succ b)) |>.trans l4, .inl ⟨rfl, _, rest, _, v', rfl, hf, k4, ho3.grown g4 (fun k hk => by cases hk; exact Nat.lt_succ_self _), r3.on l4⟩⟩
end Go.Proofs.YtmaaacaifpgpaaaGreatDoor

namespace Go.Proofs.YtmaaacaifpgpaaaGreatDoor
open Go.RowKit Go.Lib
set_option maxRecDepth 100000
set_option linter.unusedSimpArgs false

/-- Properties that can be read, in a block below b. -/
def RdV (w : World) (b : Nat) (v : Value) (l : List Pr) : Prop :=
  ((∃ a c, v = .slice a 0 c) ∧ l = []) ∨ ∃ (g o c : Nat), v = .slice (some ⟨g, o, none⟩) l.length c ∧ l.length ≤ c ∧ g < b ∧ ∀ i (h : i < l.length), PrAt w g (o + i * 5) l[i]
theorem RdV.rd {w : World} {b : Nat} {v : Value} {l : List Pr} (h : RdV w b v l) : RdP w v l := by
  rcases h with h | ⟨g, o, c, rfl, hc, _, h⟩
  · exact .inl h
  · exact .inr ⟨g, o, c, rfl, hc, h⟩
theorem RdV.on {w w' : World} {b : Nat} {v : Value} {l : List Pr} (h : RdV w b v l) (hb : Below b w w') : RdV w' b v l := by
  rcases h with h | ⟨g, o, c, rfl, hc, hg, h⟩
  · exact .inl h
  · exact .inr ⟨g, o, c, rfl, hc, hg, fun i hi => by
      obtain ⟨h0, h1, h2, h3, h4⟩ := h i hi
      exact ⟨by rw [hb.cell hg]; exact h0, by rw [hb.cell hg]; exact h1, by rw [hb.cell hg]; exact h2, by rw [hb.cell hg]; exact h3, by rw [hb.cell hg]; exact h4⟩⟩
theorem RdV.nil (w : World) (b : Nat) : RdV w b (.slice none 0 0) [] := .inl ⟨⟨_, _, rfl⟩, rfl⟩
/-- What part answers where the letter is a table's. -/
def WpV (w w' : World) (b : Nat) (n t : Value) (out : List UInt8) (ps : List Pr) (e : Ending) : Prop :=
  Below b w w' ∧ ((e = .returned (.tuple #[]) ∧ validL ps = true ∧ ∃ o', Blk w' b (wrA o' n t (.slice none 0 0)) 70 ∧ Own w' (b + 1) o' (out ++ tabL ps)) ∨ (e = .panicked (gup 1) ∧ validL ps = false))
set_option maxHeartbeats 4000000 in
theorem wpart_t (w : World) (b : Nat) (o n t p : Value) (out : List UInt8) (ps : List Pr) (hw : Blk w b (wrA o n t p) 70) (ho : Own w (b + 1) o out) (hl : out.length ≤ 100000000) (hv : RdV w b p ps) (hf : ∀ q ∈ ps, q.val.real < 2 ^ 64) :
    Calls Tryz.prog 35 #[.pointer (some ⟨b, 0, none⟩), .int .u8 84] w fun e w' => WpV w w' b n t out ps e := by
  obtain ⟨gu, hg⟩ : ∃ gu, gup 1 = gu := ⟨_, rfl⟩
  have V := valid7 w p ps hv.rd
  have hvs : Hid (∀ w', Below w.heap.size w w' → validL ps = true → ∀ (w2 : World) (v : Value), Own w2 (b + 1) v out → b + 1 ≤ w2.heap.size → Below b w w2 → Calls Tryz.prog 30 #[v, p] w2 fun e w' => ∃ v', e = .returned v' ∧ Own w' (b + 1) v' (out ++ tabL ps) ∧ Bn (b + 1) w2 w') := fun w' _ h w2 v ho hB hb => table_any w2 (b + 1) v p out ps ho hB hl (hv.on hb).rd (sm_all h hf).1 (sm_all h hf).2
  obtain ⟨vp, hvp⟩ : ∃ x, validL ps = x := ⟨_, rfl⟩
  obtain ⟨pa, pn, pc, rfl⟩ : ∃ a n c, p = .slice a n c := by
    rcases hv with ⟨⟨a, c, rfl⟩, _⟩ | ⟨_, _, _, rfl, _⟩
    · exact ⟨_, _, _, rfl⟩
    · exact ⟨_, _, _, rfl⟩
  have HF : Hid (∀ w', (Below b w w' → vp = true → ∀ o', Blk w' b (wrA o' n t (.slice none 0 0)) 70 → Own w' (b + 1) o' (out ++ tabL ps) → WpV w w' b n t out ps (.returned (.tuple #[]))) ∧ (Below b w w' → vp = false → WpV w w' b n t out ps (.panicked gu))) := fun w' => by
    rw [← hvp, ← hg]
    exact ⟨fun h1 h2 o' h3 h4 => ⟨h1, .inl ⟨rfl, h2, o', h3, h4⟩⟩, fun h1 h2 => ⟨h1, .inr ⟨rfl, h2⟩⟩⟩
  have I := fun w => insist_no w 1
  rw [hvp] at V hvs
  rw [hg] at I
  have b1 : ((84 : Int) == 115) = false := rfl
  have b2 : ((84 : Int) == 83) = false := rfl
  have b3 : ((84 : Int) == 84) = true := rfl
  clear hg hvp hf hv
  have c3 := hw.cell 3
  simp only [List.getElem?_toArray, List.getElem?_cons_zero, List.getElem?_cons_succ] at c3
  go_enter Tryz.func35, Tryz.ntmps35
  go_wp2_with (go_at_call 29; refine V.mono ?_; rintro e w1 ⟨rfl, hb1⟩)
  have B1 : Below b w w1 := hb1.mono (Nat.le_of_lt hw.lt)
  cases vp with
  | false =>
    go_wp2_with (go_at_call 33; refine (I _).mono ?_; rintro e w' ⟨rfl, rfl⟩)
    exact ⟨rfl, (HF.out _).2 B1 (by trivial)⟩
  | true =>
  have T := hvs.out w1 hb1 (by trivial)
  have k1 := hw.on hb1
  have ho1 : Own w1 (b + 1) o out := ho.on hb1
  clear hvs V I c3 hw ho hb1
  go_wp2_with (go_at_call 33; refine (insist_ok _ _).mono ?_; rintro e w1 ⟨rfl, rfl⟩)
  refine wp_region_held (S := fun _ => True) hmix ?_
  show wpAnyH _ _ _ _ _ _ _ _ (World.drew _)
  have k2 : Blk w1.drew b (wrA o n t (.slice pa pn pc)) 70 := ⟨k1.h⟩
  have ho2 : Own w1.drew (b + 1) o out := ho1
  have B2 : Below b w w1.drew := B1.drew
  clear k1 ho1 B1
  generalize w1.drew = w2 at *
  refine tks [0, 1, 2, 3, 5, 6, 7] [.pointer (some ⟨b, 0, none⟩), .pointer (some ⟨b, 0, none⟩), .pointer (some ⟨b, 0, none⟩), .pointer (some ⟨b, 0, none⟩), .pointer (some ⟨b, 0, none⟩), .pointer (some ⟨b, 0, none⟩), .pointer (some ⟨b, 3, none⟩)] 6 ?_ trivial ?_
  · simp only [tkY, tkf]
    refine ⟨.yes ?_, .yes ?_, .yes ?_, .yes ?_, .yes ?_, .yes ?_, .yes ?_, trivial⟩
    all_goals
      intro W' hW'
      go_simp
  simp only [tkA, tkf]
  have sz := k2.lt
  have d0 := k2.cell 0
  have d3 := k2.cell 3
  simp only [List.getElem?_toArray, List.getElem?_cons_zero, List.getElem?_cons_succ] at d0 d3
  refine ak2 4 8 (fun K hK => ?_) (fun K hK => ?_)
  · go_wp2_with fail
    refine hK _ _ trivial ?_
    clear hK K
    refine ak 8 (fun K hK => ?_)
    go_wp2_with fail
    refine hK _ _ trivial ?_
    clear hK K d0 d3
    refine ak 9 (fun K hK => ?_)
    go_wp2_with (go_at_call 30; refine (T _ _ ho2 sz B2).mono ?_; rintro e w3 ⟨o3, rfl, ho3, hb3⟩)
    have k3 : Blk w3 b (wrA o n t (.slice pa pn pc)) 70 := k2.below hb3.b (Nat.lt_succ_self b)
    have B3 : Below b w w3 := B2.trans (hb3.b.mono (Nat.le_succ b))
    refine hK _ _ trivial ?_
    clear hK K k2 ho2 B2 T hb3
    refine ak 10 (fun K hK => ?_)
    go_wp2_with fail
    refine hK _ _ trivial ?_
    clear hK K
    refine ak 11 (fun K hK => ?_)
    go_wp2_with fail
    refine hK _ _ trivial ?_
    clear hK K
    refine ak 12 (fun K hK => ?_)
    obtain ⟨oa, on, oc, rfl⟩ := Own.shape ho3
    refine opw_set (.tmp 63) (.tmp 61) rfl b 0 _ rfl rfl k3 (by kernel_rfl) rfl rfl (by simp) ?_
    intro w4 k4 g4 s4
    have k4 : Blk w4 b (wrA (.slice oa on oc) n t (.slice pa pn pc)) 70 := k4
    have B4 := B3.grown g4 (by have := k3.lt; omega) (fun k hk => by cases hk; omega)
    have ho4 := ho3.grown g4 (fun k hk => by cases hk; exact Nat.lt_succ_self _)
    refine hK _ _ trivial ?_
    clear hK K k3 B3 ho3 g4
    refine wpAnyH_done (by kernel_rfl) ?_ _
    go_wp2_with (refine wpl_set rfl (.tmp 66) (.const (.slice none 0 0)) rfl b 3 _ rfl rfl k4 (by kernel_rfl) rfl rfl (by simp) ?_)
    intro w5 k5 g5 s5
    have k5 : Blk w5 b (wrA (.slice oa on oc) n t (.slice none 0 0)) 70 := k5
    have B5 := B4.grown g5 (by have := k4.lt; omega) (fun k hk => by cases hk; omega)
    have ho5 := ho4.grown g5 (fun k hk => by cases hk; exact Nat.lt_succ_self _)
    go_wp2_with fail
    go_end0
    exact (HF.out _).1 B5 (by trivial) _ k5 ho5
  · go_wp2_with fail
    refine hK _ _ trivial ?_
    clear hK K
    refine ak 4 (fun K hK => ?_)
    go_wp2_with fail
    refine hK _ _ trivial ?_
    clear hK K d0 d3
    refine ak 9 (fun K hK => ?_)
    go_wp2_with (go_at_call 30; refine (T _ _ ho2 sz B2).mono ?_; rintro e w3 ⟨o3, rfl, ho3, hb3⟩)
    have k3 : Blk w3 b (wrA o n t (.slice pa pn pc)) 70 := k2.below hb3.b (Nat.lt_succ_self b)
    have B3 : Below b w w3 := B2.trans (hb3.b.mono (Nat.le_succ b))
    refine hK _ _ trivial ?_
    clear hK K k2 ho2 B2 T hb3
    refine ak 10 (fun K hK => ?_)
    go_wp2_with fail
    refine hK _ _ trivial ?_
    clear hK K
    refine ak 11 (fun K hK => ?_)
    go_wp2_with fail
    refine hK _ _ trivial ?_
    clear hK K
    refine ak 12 (fun K hK => ?_)
    obtain ⟨oa, on, oc, rfl⟩ := Own.shape ho3
    refine opw_set (.tmp 63) (.tmp 61) rfl b 0 _ rfl rfl k3 (by kernel_rfl) rfl rfl (by simp) ?_
    intro w4 k4 g4 s4
    have k4 : Blk w4 b (wrA (.slice oa on oc) n t (.slice pa pn pc)) 70 := k4
    have B4 := B3.grown g4 (by have := k3.lt; omega) (fun k hk => by cases hk; omega)
    have ho4 := ho3.grown g4 (fun k hk => by cases hk; exact Nat.lt_succ_self _)
    refine hK _ _ trivial ?_
    clear hK K k3 B3 ho3 g4
    refine wpAnyH_done (by kernel_rfl) ?_ _
    go_wp2_with (refine wpl_set rfl (.tmp 66) (.const (.slice none 0 0)) rfl b 3 _ rfl rfl k4 (by kernel_rfl) rfl rfl (by simp) ?_)
    intro w5 k5 g5 s5
    have k5 : Blk w5 b (wrA (.slice oa on oc) n t (.slice none 0 0)) 70 := k5
    have B5 := B4.grown g5 (by have := k4.lt; omega) (fun k hk => by cases hk; omega)
    have ho5 := ho4.grown g5 (fun k hk => by cases hk; exact Nat.lt_succ_self _)
    go_wp2_with fail
    go_end0
    exact (HF.out _).1 B5 (by trivial) _ k5 ho5
end Go.Proofs.YtmaaacaifpgpaaaGreatDoor

namespace Go.Proofs.YtmaaacaifpgpaaaGreatDoor
open Go.RowKit Go.Lib
set_option maxRecDepth 100000
set_option linter.unusedSimpArgs false

/-- What is written, and what isn't yet. -/
structure Wq where
  out : List UInt8
  ns : List Int
  ts : List (List UInt8)
  ps : List Pr
def partP (c : Nat) (q : Wq) : Option Wq :=
  if c = 115 then (match q.ts with
    | [] => none
    | s :: r => if s.length ≤ 255 then some ⟨q.out ++ shortL s, q.ns, r, q.ps⟩ else none)
  else if c = 83 then (match q.ts with
    | [] => none
    | s :: r => if s.length ≤ 1024 then some ⟨q.out ++ longL s, q.ns, r, q.ps⟩ else none)
  else if c = 84 then (if validL q.ps = true then some ⟨q.out ++ tabL q.ps, q.ns, q.ts, []⟩ else none)
  else match q.ns with
    | [] => none
    | n :: r => if fitN n (wid c) = true then some ⟨q.out ++ beN (wid c) n.toNat, r, q.ts, q.ps⟩ else none
def partsP : List UInt8 → Wq → Option Wq
  | [], q => some q
  | c :: l, q => (partP c.toNat q).bind (partsP l)
/-- A method's payload; none: it has none. -/
def payP (a b : Int) (ns : List Int) (ts : List (List UInt8)) (ps : List Pr) : Option (List UInt8) :=
  if (formL a b mL).2 = true then
    (partsP (formL a b mL).1 ⟨beN 2 a.toNat ++ beN 2 b.toNat, ns, ts, ps⟩).bind fun q => if q.ns = [] ∧ q.ts = [] ∧ q.ps = [] then some q.out else none
  else none
/-- All that isn't written has room. -/
structure Wok (m : Nat) (q : Wq) : Prop where
  l : q.out.length ≤ m
  n : ∀ x ∈ q.ns, x < 9223372036854775808
  p : ∀ x ∈ q.ps, x.val.real < 2 ^ 64
theorem partP_ok {c m : Nat} {q q' : Wq} (h : partP c q = some q') (hk : Wok m q) : Wok (m + 6000) q' := by
  obtain ⟨h1, h2, h3⟩ := hk
  unfold partP at h
  split at h
  · split at h
    · cases h
    · rename_i s r _
      split at h
      · rename_i hs
        injection h with h
        subst h
        exact ⟨by simp only [shortL, List.length_append, beN_len]; omega, h2, h3⟩
      · cases h
  · split at h
    · split at h
      · cases h
      · rename_i s r _
        split at h
        · rename_i hs
          injection h with h
          subst h
          exact ⟨by simp only [longL, List.length_append, beN_len]; omega, h2, h3⟩
        · cases h
    · split at h
      · split at h
        · rename_i hv
          injection h with h
          subst h
          obtain ⟨h16, hs⟩ := sm_all hv h3
          have := flatT_len hs
          exact ⟨by simp only [tabL, longL, List.length_append, beN_len]; omega, h2, fun x hx => by cases hx⟩
        · cases h
      · split at h
        · cases h
        · rename_i n r hq
          split at h
          · injection h with h
            subst h
            have hw : wid c ≤ 8 := by rcases wid_is c with h | h | h | h <;> omega
            exact ⟨by simp only [List.length_append, beN_len]; omega, fun x hx => h2 x (by rw [hq]; exact List.mem_cons_of_mem _ hx), h3⟩
          · cases h
/-- The writer in memory. -/
def Wst (W : World) (b : Nat) (q : Wq) : Prop := ∃ vo vn vt vp, Blk W b (wrA vo vn vt vp) 70 ∧ Own W (b + 1) vo q.out ∧ RdN W b vn q.ns ∧ RdT W b vt q.ts ∧ RdV W b vp q.ps
theorem part_any (w : World) (b c : Nat) (q : Wq) (hW : Wst w b q) (hk : Wok 90000000 q) :
    Calls Tryz.prog 35 #[.pointer (some ⟨b, 0, none⟩), .int .u8 (c : Int)] w fun e w' => Below b w w' ∧ ((∃ q', partP c q = some q' ∧ e = .returned (.tuple #[]) ∧ Wst w' b q') ∨ (partP c q = none ∧ e = .panicked (gup 1))) := by
  obtain ⟨vo, vn, vt, vp, kW, ho, rn, rt, rv⟩ := hW
  obtain ⟨h1, h2, h3⟩ := hk
  unfold partP
  by_cases c1 : c = 115
  · subst c1
    rw [if_pos rfl]
    refine (wpart_s w b vo vn vt vp q.out q.ts kW ho (by omega) rt).mono ?_
    rintro e w' ⟨hb, ⟨rfl, s, rest, o', v', he, hs, k', ho', r'⟩ | ⟨rfl, h⟩⟩
    · rw [he]
      exact ⟨hb, .inl ⟨_, if_pos hs, rfl, o', vn, v', vp, k', ho', rn.on hb, r', rv.on hb⟩⟩
    · refine ⟨hb, .inr ⟨?_, rfl⟩⟩
      rcases h with h | ⟨s, rest, he, hs⟩
      · rw [h]
      · rw [he]; exact if_neg (by omega)
  rw [if_neg c1]
  by_cases c2 : c = 83
  · subst c2
    rw [if_pos rfl]
    refine (wpart_l w b vo vn vt vp q.out q.ts kW ho (by omega) rt).mono ?_
    rintro e w' ⟨hb, ⟨rfl, s, rest, o', v', he, hs, k', ho', r'⟩ | ⟨rfl, h⟩⟩
    · rw [he]
      exact ⟨hb, .inl ⟨_, if_pos hs, rfl, o', vn, v', vp, k', ho', rn.on hb, r', rv.on hb⟩⟩
    · refine ⟨hb, .inr ⟨?_, rfl⟩⟩
      rcases h with h | ⟨s, rest, he, hs⟩
      · rw [h]
      · rw [he]; exact if_neg (by omega)
  rw [if_neg c2]
  by_cases c3 : c = 84
  · subst c3
    rw [if_pos rfl]
    refine (wpart_t w b vo vn vt vp q.out q.ps kW ho (by omega) rv h3).mono ?_
    rintro e w' ⟨hb, ⟨rfl, hv, o', k', ho'⟩ | ⟨rfl, hv⟩⟩
    · exact ⟨hb, .inl ⟨_, if_pos hv, rfl, o', vn, vt, _, k', ho', rn.on hb, rt.on hb, RdV.nil _ _⟩⟩
    · exact ⟨hb, .inr ⟨if_neg (by rw [hv]; decide), rfl⟩⟩
  rw [if_neg c3]
  refine (wpart_num w b c vo vn vt vp q.out q.ns c1 c2 c3 kW ho (by omega) rn h2).mono ?_
  rintro e w' ⟨hb, ⟨rfl, n, rest, o', v', he, hf, k', ho', r'⟩ | ⟨rfl, h⟩⟩
  · rw [he]
    exact ⟨hb, .inl ⟨_, if_pos hf, rfl, o', v', vt, vp, k', ho', r', rt.on hb, rv.on hb⟩⟩
  · refine ⟨hb, .inr ⟨?_, rfl⟩⟩
    rcases h with h | ⟨n, rest, he, hf⟩
    · rw [h]
    · rw [he]; exact if_neg (by rw [hf]; decide)
theorem form_some_aux (a b : Int) : ∀ l : List (Nat × Nat × List UInt8), (l.all fun x => decide (x.1 < 256) && (decide (x.2.1 < 256) && decide (x.2.2.length ≤ 6))) = true → (formL a b l).2 = true → 0 ≤ a ∧ a < 256 ∧ 0 ≤ b ∧ b < 256 ∧ (formL a b l).1.length ≤ 6
  | [], _, h => by cases h
  | x :: l, hl, h => by
    simp only [List.all_cons, Bool.and_eq_true, decide_eq_true_eq] at hl
    unfold formL at h ⊢
    split at h
    · rename_i hx
      rw [if_pos hx]
      obtain ⟨⟨h1, h2, h3⟩, _⟩ := hl
      exact ⟨by omega, by omega, by omega, by omega, h3⟩
    · rename_i hx
      rw [if_neg hx]
      exact form_some_aux a b l (by simpa [Bool.and_eq_true, decide_eq_true_eq] using hl.2) h
theorem form_some {a b : Int} (h : (formL a b mL).2 = true) : 0 ≤ a ∧ a < 256 ∧ 0 ≤ b ∧ b < 256 ∧ (formL a b mL).1.length ≤ 6 := form_some_aux a b mL (by decide) h
end Go.Proofs.YtmaaacaifpgpaaaGreatDoor

namespace Go.Proofs.YtmaaacaifpgpaaaGreatDoor
open Go.RowKit Go.Lib
set_option maxRecDepth 100000
set_option linter.unusedSimpArgs false

theorem part_step (w : World) (b c : Nat) (o v t p : Value) (out : List UInt8) (n : Int) (rest : List Int) (h1 : c ≠ 115) (h2 : c ≠ 83) (h3 : c ≠ 84) (hf : fitN n (wid c) = true) (hw : Blk w b (wrA o v t p) 70) (ho : Own w (b + 1) o out) (hl : out.length + 8 ≤ 140737488355328) (hv : RdN w b v (n :: rest)) (hr : ∀ x ∈ n :: rest, x < 9223372036854775808) :
    Calls Tryz.prog 35 #[.pointer (some ⟨b, 0, none⟩), .int .u8 (c : Int)] w fun e w' => e = .returned (.tuple #[]) ∧ ∃ o' v', Blk w' b (wrA o' v' t p) 70 ∧ Own w' (b + 1) o' (out ++ beN (wid c) n.toNat) ∧ RdN w' b v' rest ∧ Below b w w' := by
  refine (wpart_num w b c o v t p out (n :: rest) h1 h2 h3 hw ho hl hv hr).mono ?_
  rintro e w' ⟨hb, ⟨rfl, n', rest', o', v', he, _, k, ho', rv⟩ | ⟨_, h | ⟨n', rest', he, hf'⟩⟩⟩
  · obtain ⟨rfl, rfl⟩ := List.cons.inj he
    exact ⟨rfl, o', v', k, ho', rv, hb⟩
  · exact absurd h (by simp)
  · obtain ⟨rfl, rfl⟩ := List.cons.inj he
    rw [hf] at hf'
    cases hf'
def outj : Nat → List UInt8
  | 0 => [0, 60, 0, 80]
  | 1 => [0, 60, 0, 80, 0, 0, 0, 0, 0, 0, 0, 5]
  | _ => [0, 60, 0, 80, 0, 0, 0, 0, 0, 0, 0, 5, 0]
abbrev mA (g : Nat) : Array Value := #[.int .i64 60, .int .i64 80, .slice (some ⟨g, 0, none⟩) 2 2, .slice none 0 0, .slice none 0 0]
theorem fl_is : formL 60 80 mL = ([76, 98], true) := by decide
set_option maxHeartbeats 4000000 in
theorem payload_w (w : World) (g : Nat) (hv : Mv w) (hg : g < w.heap.size) (h0 : w.cell? ⟨g, 0, none⟩ = some (.int .i64 5)) (h1 : w.cell? ⟨g, 1, none⟩ = some (.int .i64 0)) :
    Calls Tryz.prog 18 #[.agg (mA g)] w fun e w' => ∃ v, e = .returned v ∧ Own w' w.heap.size v [0, 60, 0, 80, 0, 0, 0, 0, 0, 0, 0, 5, 0] ∧ Below w.heap.size w w' := by
  obtain ⟨a, ha⟩ : ∃ a, w.heap.size = a := ⟨_, rfl⟩
  have F : ∀ w : World, Mv w → Calls Tryz.prog 6 #[.int .i64 60, .int .i64 80] w fun e w' => e = .returned (.tuple #[str [76, 98], .bool true]) ∧ Below w.heap.size w w' := fun w hv => by
    have := form_any w 60 80 hv
    rw [fl_is] at this
    exact this
  obtain ⟨W1, hW1⟩ : ∃ W1, w.alloc (Obj.cells (mA g) 26) = W1 := ⟨_, rfl⟩
  have B1 : Below a w W1 := by rw [← hW1, ← ha]; exact below_new w _
  have K1 : Blk W1 a (mA g) 26 := by rw [← hW1, ← ha]; exact Blk.new w _ _
  have M1 : Mv W1 := hv.on (by rw [ha]; exact B1)
  have hga : g < a := by rw [← ha]; exact hg
  have HN : Hid (w.cell? ⟨g, 0, none⟩ = some (.int .i64 5) ∧ w.cell? ⟨g, 1, none⟩ = some (.int .i64 0)) := ⟨h0, h1⟩
  rw [ha]
  clear h0 h1 hv hg
  have c0 := K1.cell 0
  have c1 := K1.cell 1
  simp only [List.getElem?_toArray, List.getElem?_cons_zero, List.getElem?_cons_succ] at c0 c1
  go_enter Tryz.func18, Tryz.ntmps18
  go_upto_region 1 with fail

  clear hW1 ha
  go_wp2_with (go_at_call 6; refine (F _ M1).mono ?_; rintro e W2 ⟨rfl, hb2⟩)
  have K2 : Blk W2 a (mA g) 26 := K1.on hb2
  have B2 : Below a w W2 := B1.trans (hb2.mono (Nat.le_of_lt K1.lt))
  clear c0 c1 K1 B1 M1 hb2 F
  have c0 := K2.cell 0
  have c1 := K2.cell 1
  have c2 := K2.cell 2
  have c3 := K2.cell 3
  have c4 := K2.cell 4
  simp only [List.getElem?_toArray, List.getElem?_cons_zero, List.getElem?_cons_succ] at c0 c1 c2 c3 c4
  obtain ⟨b, hb⟩ : ∃ b, W2.heap.size = b := ⟨_, rfl⟩
  refine (insist_ok _ _).mono ?_
  rintro e w' ⟨rfl, hw'⟩
  rw [hw']
  clear hw' w'
  go_upto_region 4 with fail
  obtain ⟨W3, hW3⟩ : ∃ W3, W2.alloc (Obj.cells #[Value.slice none 0 0, Value.slice (some ⟨g, 0, none⟩) 2 2, Value.slice none 0 0, Value.slice none 0 0] 70) = W3 := ⟨_, rfl⟩
  have hab : a < b := by rw [← hb]; exact K2.lt
  have hb2 : Below b W2 W3 := by rw [← hW3, ← hb]; exact below_new W2 _
  have B3 : Below a w W3 := B2.trans (hb2.mono (Nat.le_of_lt hab))
  have K3 : Blk W3 a (mA g) 26 := K2.below hb2 hab
  have k3 : Blk W3 b (wrA (.slice none 0 0) (.slice (some ⟨g, 0, none⟩) 2 2) (.slice none 0 0) (.slice none 0 0)) 70 := by rw [← hW3, ← hb]; exact Blk.new W2 _ _
  rw [hW3]
  clear hW3 hb hb2 K2 B2 c0 c1 c2 c3 c4
  refine wp_region_held (S := fun W => Blk W a (mA g) 26) hmix ?_
  show wpAnyH _ _ _ _ _ _ _ _ (World.drew _)
  have hS : Blk W3.drew a (mA g) 26 := ⟨K3.h⟩
  have kd : Blk W3.drew b (wrA (.slice none 0 0) (.slice (some ⟨g, 0, none⟩) 2 2) (.slice none 0 0) (.slice none 0 0)) 70 := ⟨k3.h⟩
  have Bd : Below a w W3.drew := B3.drew
  clear K3 k3 B3
  generalize W3.drew = Wd at *
  refine tks [0, 2, 3, 4, 6, 7, 8] [.pointer (some ⟨b, 0, none⟩), .pointer (some ⟨a, 0, none⟩), .int .i64 60, .int .u64 60, .pointer (some ⟨a, 1, none⟩), .int .i64 80, .int .u64 80] 5 ?_ hS ?_
  · simp only [tkY, tkf]
    refine ⟨.yes ?_, .yes ?_, .yes ?_, .yes ?_, .yes ?_, .yes ?_, .yes ?_, trivial⟩
    all_goals
      intro W' hW'
      have c0 := hW'.cell 0
      have c1 := hW'.cell 1
      simp only [List.getElem?_toArray, List.getElem?_cons_zero, List.getElem?_cons_succ] at c0 c1
      go_simp
      try (rw [IntKind.wrap_u64]; rfl)
  simp only [tkA, tkf]
  have d0 := kd.cell 0
  simp only [List.getElem?_toArray, List.getElem?_cons_zero, List.getElem?_cons_succ] at d0
  refine ak 1 (fun K hK => ?_)
  go_wp2_with fail
  refine hK _ _ hS ?_
  clear hK K d0
  refine ak 5 (fun K hK => ?_)
  have sd := kd.lt
  go_wp2_with (go_at_call 34; refine (tput_any Wd (b + 1) _ [] 2 60 (by omega) (Own.nil _ _) sd (by simp)).mono ?_; rintro e W4 ⟨o4, rfl, ho4, hb4⟩)
  have hS4 : Blk W4 a (mA g) 26 := hS.below hb4.b (by omega)
  have k4 := kd.below hb4.b (Nat.lt_succ_self b)
  have B4 : Below a w W4 := Bd.trans (hb4.b.mono (by omega))
  refine hK _ _ hS4 ?_
  clear hK K sd hS kd Bd hb4
  refine ak 9 (fun K hK => ?_)
  have s4 := k4.lt
  go_wp2_with (go_at_call 34; refine (tput_any W4 (b + 1) _ _ 2 80 (by omega) ho4 s4 (by simp [beN_len])).mono ?_; rintro e W5 ⟨o5, rfl, ho5, hb5⟩)
  have hS5 : Blk W5 a (mA g) 26 := hS4.below hb5.b (by omega)
  have k5 := k4.below hb5.b (Nat.lt_succ_self b)
  have B5 : Below a w W5 := B4.trans (hb5.b.mono (by omega))
  refine hK _ _ hS5 ?_
  clear hK K s4 hS4 k4 B4 hb5 ho4
  refine ak 10 (fun K hK => ?_)
  go_wp2_with fail
  refine hK _ _ hS5 ?_
  clear hK K
  refine ak 11 (fun K hK => ?_)
  obtain ⟨oa, on, oc, rfl⟩ := Own.shape ho5
  refine opw_set (.tmp 34) (.tmp 33) rfl b 0 _ rfl rfl k5 (by kernel_rfl) rfl rfl (by simp) ?_
  intro W6 k6 g6 s6
  have k7 : Blk W6 b (wrA (.slice oa on oc) (.slice (some ⟨g, 0, none⟩) 2 2) (.slice none 0 0) (.slice none 0 0)) 70 := k6
  clear k6
  have hS6 : Blk W6 a (mA g) 26 := hS5.grown g6 (by simp; omega)
  have B6 : Below a w W6 := B5.grown g6 (by have := k5.lt; omega) (fun k hk => by cases hk; omega)
  have ho6 : Own W6 (b + 1) _ (outj 0) := ho5.grown g6 (fun k hk => by cases hk; exact Nat.lt_succ_self _)
  have r6 : RdN W6 b (.slice (some ⟨g, 0, none⟩) 2 2) [5, 0] := .inr ⟨g, 0, 2, rfl, by decide, by omega, fun i hi => by
    rw [B6.cell hga]
    match i, hi with
    | 0, _ => exact HN.out.1
    | 1, _ => exact HN.out.2⟩
  refine hK _ _ hS6 ?_
  clear hK K hS5 k5 B5 g6 s6 ho5
  refine wpAnyH_done (by kernel_rfl) ?_ _
  go_wp2_with fail
  clear hS6 HN
  go_loopw [6, 37] (fun _ i wr => ∃ (z : Int) (o v : Value), (z = 0 ∨ z = 1 ∨ z = 2) ∧ i = .int .i64 z ∧ Blk wr b (wrA o v (.slice none 0 0) (.slice none 0 0)) 70 ∧ Own wr (b + 1) o (outj z.toNat) ∧ RdN wr b v (([5, 0] : List Int).drop z.toNat) ∧ Below a w wr) (fun _ i _ => 2 - (RowKit.intOf i).toNat)
  case atStart => exact ⟨0, _, _, .inl rfl, rfl, k7, ho6, r6, B6⟩
  case round =>
    clear k7 ho6 r6 B6
    obtain ⟨z, o, v, hz, rfl, k, ho, rv, hB⟩ := hrel
    rcases hz with rfl | rfl | rfl
    · have P := part_step wr b 76 o v (.slice none 0 0) (.slice none 0 0) (outj 0) 5 [0] (by decide) (by decide) (by decide) (by decide) k ho (by decide) rv (by decide)
      clear k ho rv
      go_wp2_with (go_at_call 35; refine P.mono ?_; rintro e w7 ⟨rfl, o', v', k', ho', rv', hb'⟩)
      clear P
      go_roundw
      case rel => exact ⟨1, o', v', .inr (.inl rfl), rfl, k', ho', rv', hB.trans (hb'.mono (by omega))⟩
      case measure => simp [RowKit.intOf]
    · have P := part_step wr b 98 o v (.slice none 0 0) (.slice none 0 0) (outj 1) 0 [] (by decide) (by decide) (by decide) (by decide) k ho (by decide) rv (by decide)
      clear k ho rv
      go_wp2_with (go_at_call 35; refine P.mono ?_; rintro e w7 ⟨rfl, o', v', k', ho', rv', hb'⟩)
      clear P
      go_roundw
      case rel => exact ⟨2, o', v', .inr (.inr rfl), rfl, k', ho', rv', hB.trans (hb'.mono (by omega))⟩
      case measure => simp [RowKit.intOf]
    · obtain ⟨va, vc, rfl⟩ : ∃ va vc, v = .slice va 0 vc := by
        rcases rv with ⟨⟨a, c, rfl⟩, _⟩ | ⟨_, _, _, rfl, _⟩
        · exact ⟨_, _, rfl⟩
        · exact ⟨_, _, rfl⟩
      have c0 := k.cell 0
      have c1 := k.cell 1
      have c2 := k.cell 2
      have c3 := k.cell 3
      simp only [List.getElem?_toArray, List.getElem?_cons_zero, List.getElem?_cons_succ] at c0 c1 c2 c3
      obtain ⟨oa', on', oc', rfl⟩ := Own.shape ho
      go_wp2_with (go_at_call 33; refine (insist_ok _ _).mono ?_; rintro e w' ⟨rfl, rfl⟩)
      go_ret
      exact ⟨_, rfl, Own.lower ho (by omega), hB⟩
end Go.Proofs.YtmaaacaifpgpaaaGreatDoor

namespace Go.Proofs.YtmaaacaifpgpaaaGreatDoor
open Go.RowKit Go.Lib
set_option maxRecDepth 100000
set_option linter.unusedSimpArgs false

abbrev outW : List UInt8 := [0, 60, 0, 80, 0, 0, 0, 0, 0, 0, 0, 5, 0]
theorem enc1_w (w : World) (a r q g : Nat) (K : Blk w a (mA g) 26) (R : Blk w r #[.slice none 0 0] 31) (E : Blk w q #[.int .i64 0] 32) (hne : q ≠ r) (hv : Mv w) (hg : g < w.heap.size) (h0 : w.cell? ⟨g, 0, none⟩ = some (.int .i64 5)) (h1 : w.cell? ⟨g, 1, none⟩ = some (.int .i64 0)) :
    Calls Tryz.prog 17 #[.pointer (some ⟨a, 0, none⟩), .pointer (some ⟨r, 0, none⟩)] w fun e w' => e = .returned (.tuple #[]) ∧ ∃ v, Blk w' r #[v] 31 ∧ Own w' w.heap.size v outW ∧ Blk w' q #[.int .i64 0] 32 ∧ Below r w w' := by
  obtain ⟨n, hn⟩ : ∃ n, w.heap.size = n := ⟨_, rfl⟩
  have P : Calls Tryz.prog 18 #[.agg (mA g)] w fun e w' => ∃ va vn vc, e = .returned (.slice va vn vc) ∧ Own w' w.heap.size (.slice va vn vc) outW ∧ Below w.heap.size w w' := (payload_w w g hv hg h0 h1).mono fun e w' ⟨v, h1, h2, h3⟩ => by
    obtain ⟨oa, on, oc, rfl⟩ := Own.shape h2
    exact ⟨_, _, _, h1, h2, h3⟩
  have hr := R.lt
  have hq := E.lt
  rw [hn] at P hr hq ⊢
  have c0 := K.cell 0
  have c1 := K.cell 1
  have c2 := K.cell 2
  have c3 := K.cell 3
  have c4 := K.cell 4
  simp only [List.getElem?_toArray, List.getElem?_cons_zero, List.getElem?_cons_succ] at c0 c1 c2 c3 c4
  clear hv hg h0 h1 K
  go_enter Tryz.func17, Tryz.ntmps17
  go_wp2_with (first | (go_at_call 18; refine P.mono ?_; rintro e w1 ⟨va, vn, vc, rfl, ho, hb⟩) | (refine wpl_set rfl (.tmp 1) (.tmp 3) rfl r 0 _ rfl rfl (R.below hb hr) (by kernel_rfl) rfl rfl (by simp) ?_))
  have R1 := R.below hb hr
  have E1 := E.below hb hq
  intro w2 R2 g2 s2
  go_wp2_with fail
  go_end0
  exact ⟨rfl, _, R2, ho.grown g2 (fun k hk => by cases hk; exact hr), E1.grown g2 (by simpa using hne), (hb.mono (Nat.le_of_lt hr)).grown g2 (Nat.le_of_lt R1.lt) (fun k hk => by cases hk; exact Nat.le_refl _)⟩
set_option maxHeartbeats 1000000 in
theorem encode_w (w : World) (g : Nat) (hv : Mv w) (hg : g < w.heap.size) (h0 : w.cell? ⟨g, 0, none⟩ = some (.int .i64 5)) (h1 : w.cell? ⟨g, 1, none⟩ = some (.int .i64 0)) :
    Calls Tryz.prog 8 #[.agg (mA g)] w fun e w' => ∃ v, e = .returned (.tuple #[v, .int .i64 0]) ∧ Own w' w.heap.size v outW ∧ Below w.heap.size w w' := by
  obtain ⟨a, ha⟩ : ∃ a, w.heap.size = a := ⟨_, rfl⟩
  obtain ⟨w3, hw3⟩ : ∃ w3, ((w.alloc (Obj.cells (mA g) 26)).alloc (Obj.cells #[Value.slice none 0 0] 31)) = w3 := ⟨_, rfl⟩
  have hb3 : Below a w w3 := by
    rw [← hw3, ← ha]
    exact (below_new w _).trans ((below_new _ _).mono (by simp))
  have hs3 : w3.heap.size = a + 2 := by rw [← hw3]; simp; omega
  have K3 : Blk w3 a (mA g) 26 := by rw [← hw3, ← ha]; exact (Blk.new w _ _).alloc _
  have R3 : Blk w3 (a + 1) #[.slice none 0 0] 31 := by
    have := Blk.new (w.alloc (Obj.cells (mA g) 26)) #[Value.slice none 0 0] 31
    rw [World.size_alloc, ha, hw3] at this
    exact this
  have hb4 := below_new w3 (.cells #[.int .i64 0] 32)
  have b04 : Below a w (w3.alloc (.cells #[.int .i64 0] 32)) := hb3.trans (hb4.mono (by omega))
  have E4 : Blk (w3.alloc (.cells #[.int .i64 0] 32)) (a + 2) #[.int .i64 0] 32 := by
    have := Blk.new w3 #[Value.int .i64 0] 32
    rw [hs3] at this
    exact this
  have hga : g < a := by omega
  have T := enc1_w (w3.alloc (.cells #[.int .i64 0] 32)) a (a + 1) (a + 2) g (K3.alloc _) (R3.alloc _) E4 (by omega) (hv.on (by rw [ha]; exact b04)) (by simp; omega) (by rw [b04.cell hga]; exact h0) (by rw [b04.cell hga]; exact h1)
  have G := guarded_any 17 (enters_of Tryz.func17 (by kernel_rfl) rfl) #[.pointer (some ⟨a, 0, none⟩), .pointer (some ⟨a + 1, 0, none⟩)] w3
    (fun w2 => Below a w w2 ∧ ∃ v, Blk w2 (a + 1) #[v] 31 ∧ Blk w2 (a + 2) #[.int .i64 0] 32 ∧ Own w2 (a + 3) v outW)
    (fun n w2 => False) (T.mono fun e w2 ⟨h1, v, h2, h3, h4, h5⟩ => ⟨by
      rw [hs3]
      exact ⟨h4.cell 0, h4.frozen 0⟩, .inl ⟨h1, b04.trans (h5.mono (by omega)), v, h2, h4, h3.lower (by simp; omega)⟩⟩)
  have G2 : Calls Tryz.prog 16 #[.func (.func 17) #[] #[.pointer (some ⟨a, 0, none⟩), .pointer (some ⟨a + 1, 0, none⟩)]] w3 fun e w' => ∃ va vn vc, e = .returned (.int .i64 0) ∧ Blk w' (a + 1) #[.slice va vn vc] 31 ∧ Own w' (a + 3) (.slice va vn vc) outW ∧ Below a w w' := by
    refine G.mono ?_
    rintro e w' (⟨rfl, w2, ⟨hbA, v, h2, h4, h3⟩, rfl⟩ | ⟨n, rfl, w2, hF, rfl⟩)
    · rw [hs3]
      have hg : w2.grownBy (w2.setCell ⟨a + 2, 0, none⟩ (.int .i64 0)) (some (a + 2)) := ⟨rfl, rfl, rfl, by simp, fun k hk hne => Below.heap_setCell w2 ⟨a + 2, 0, none⟩ _ k (by intro e; exact hne (by simp [e]))⟩
      obtain ⟨oa, on, oc, rfl⟩ := Own.shape h3
      exact ⟨_, _, _, rfl, h2.grown hg (by simp), h3.grown hg (fun k hk => by cases hk; omega), hbA.grown hg (by have := h2.lt; omega) (fun k hk => by cases hk; omega)⟩
    · exact hF.elim
  clear G T hb4 hb3 K3 R3 b04 E4 hv hg h0 h1 hga
  rw [ha]
  go_enter Tryz.func8, Tryz.ntmps8
  go_wp2_with fail
  refine G2.mono ?_
  rintro e W ⟨va, vn, vc, rfl, kR, hO, hB⟩
  clear G2 hw3
  have k0 := kR.cell 0
  simp only [List.getElem?_toArray, List.getElem?_cons_zero] at k0
  go_wp2_with (refine wpl_set rfl (.tmp 2) (.tmp 6) rfl (a + 1) 0 _ rfl rfl kR (by kernel_rfl) rfl rfl (by simp) ?_)
  intro W2 k2 g2 s2
  have hS2 : Blk W2 (a + 1) #[.slice va vn vc] 31 := k2
  have hB2 : Below a w W2 := hB.grown g2 (by have := kR.lt; omega) (fun k hk => by cases hk; omega)
  have hO2 := hO.grown g2 (fun k hk => by cases hk; omega)
  clear k0
  have k0 := hS2.cell 0
  simp only [List.getElem?_toArray, List.getElem?_cons_zero] at k0
  go_wp2_with fail
  refine bodyPost_ret (v := .tuple #[.slice va vn vc, .int .i64 0]) (by simp [results, Tryz.results8, go_sem, k0]) rfl ?_
  exact ⟨_, rfl, hO2.lower (by omega), hB2⟩
end Go.Proofs.YtmaaacaifpgpaaaGreatDoor

namespace Go.Proofs.YtmaaacaifpgpaaaGreatDoor
open Go.RowKit Go.Lib
set_option maxRecDepth 100000
set_option linter.unusedSimpArgs false

theorem RdN.up {w : World} {a b : Nat} {v : Value} {l : List Int} (h : RdN w a v l) (hab : a ≤ b) : RdN w b v l := by
  rcases h with h | ⟨g, o, c, rfl, hc, hg, hx⟩
  · exact .inl h
  · exact .inr ⟨g, o, c, rfl, hc, by omega, hx⟩
theorem RdT.up {w : World} {a b : Nat} {v : Value} {l : List (List UInt8)} (h : RdT w a v l) (hab : a ≤ b) : RdT w b v l := by
  rcases h with h | ⟨g, o, c, rfl, hc, hg, hx⟩
  · exact .inl h
  · exact .inr ⟨g, o, c, rfl, hc, by omega, hx⟩
theorem RdV.up {w : World} {a b : Nat} {v : Value} {l : List Pr} (h : RdV w a v l) (hab : a ≤ b) : RdV w b v l := by
  rcases h with h | ⟨g, o, c, rfl, hc, hg, hx⟩
  · exact .inl h
  · exact .inr ⟨g, o, c, rfl, hc, by omega, hx⟩
theorem RdN.shape {w : World} {b : Nat} {v : Value} {l : List Int} (h : RdN w b v l) : ∃ a c, v = .slice a l.length c := by
  rcases h with ⟨⟨a, c, rfl⟩, rfl⟩ | ⟨g, o, c, rfl, _⟩
  · exact ⟨_, _, rfl⟩
  · exact ⟨_, _, rfl⟩
theorem RdT.shape {w : World} {b : Nat} {v : Value} {l : List (List UInt8)} (h : RdT w b v l) : ∃ a c, v = .slice a l.length c := by
  rcases h with ⟨⟨a, c, rfl⟩, rfl⟩ | ⟨g, o, c, rfl, _⟩
  · exact ⟨_, _, rfl⟩
  · exact ⟨_, _, rfl⟩
theorem RdV.shape {w : World} {b : Nat} {v : Value} {l : List Pr} (h : RdV w b v l) : ∃ a c, v = .slice a l.length c := by
  rcases h with ⟨⟨a, c, rfl⟩, rfl⟩ | ⟨g, o, c, rfl, _⟩
  · exact ⟨_, _, rfl⟩
  · exact ⟨_, _, rfl⟩
/-- A method that can be read: its numbers, texts and properties, in blocks below b. -/
structure RdM (w : World) (b : Nat) (vn vt vp : Value) (ns : List Int) (ts : List (List UInt8)) (ps : List Pr) : Prop where
  n : RdN w b vn ns
  t : RdT w b vt ts
  p : RdV w b vp ps
  ln : ∀ x ∈ ns, x < 9223372036854775808
  lp : ∀ x ∈ ps, x.val.real < 2 ^ 64
  sz : ns.length + ts.length + ps.length ≤ 4000000000000000000
theorem RdM.on {w w' : World} {b : Nat} {vn vt vp : Value} {ns : List Int} {ts : List (List UInt8)} {ps : List Pr} (h : RdM w b vn vt vp ns ts ps) (hb : Below b w w') : RdM w' b vn vt vp ns ts ps :=
  ⟨h.n.on hb, h.t.on hb, h.p.on hb, h.ln, h.lp, h.sz⟩
theorem RdM.up {w : World} {a b : Nat} {vn vt vp : Value} {ns : List Int} {ts : List (List UInt8)} {ps : List Pr} (h : RdM w a vn vt vp ns ts ps) (hab : a ≤ b) : RdM w b vn vt vp ns ts ps :=
  ⟨h.n.up hab, h.t.up hab, h.p.up hab, h.ln, h.lp, h.sz⟩
abbrev mtA (a b : Int) (vn vt vp : Value) : Array Value := #[.int .i64 a, .int .i64 b, vn, vt, vp]
/-- How much room the parts have, one behind the other. -/
theorem partP_less {c : Nat} {q q' : Wq} (h : partP c q = some q') : q'.ns.length ≤ q.ns.length ∧ q'.ts.length ≤ q.ts.length ∧ q'.ps.length ≤ q.ps.length := by
  unfold partP at h
  split at h
  · split at h
    · cases h
    · rename_i s r hq
      split at h
      · injection h with h
        subst h
        rw [hq]
        exact ⟨Nat.le_refl _, by simp, Nat.le_refl _⟩
      · cases h
  · split at h
    · split at h
      · cases h
      · rename_i s r hq
        split at h
        · injection h with h
          subst h
          rw [hq]
          exact ⟨Nat.le_refl _, by simp, Nat.le_refl _⟩
        · cases h
    · split at h
      · split at h
        · injection h with h
          subst h
          exact ⟨Nat.le_refl _, Nat.le_refl _, Nat.zero_le _⟩
        · cases h
      · split at h
        · cases h
        · rename_i n r hq
          split at h
          · injection h with h
            subst h
            rw [hq]
            exact ⟨by simp, Nat.le_refl _, Nat.le_refl _⟩
          · cases h
theorem partsP_get {f : List UInt8} {q q0 : Wq} {k : Nat} (h : k < f.length) (hq : partsP f q0 = partsP (f.drop k) q) : partsP f q0 = (partP f[k].toNat q).bind (partsP (f.drop (k + 1))) := by
  rw [hq, List.drop_eq_getElem_cons h, partsP]
set_option maxHeartbeats 8000000 in
theorem payload_any (w : World) (ca cb : Int) (vn vt vp : Value) (ns : List Int) (ts : List (List UInt8)) (ps : List Pr) (hv : Mv w) (hm : RdM w w.heap.size vn vt vp ns ts ps) :
    Calls Tryz.prog 18 #[.agg (mtA ca cb vn vt vp)] w fun e w' => Below w.heap.size w w' ∧ ((∃ x v, payP ca cb ns ts ps = some x ∧ e = .returned v ∧ Own w' w.heap.size v x) ∨ (payP ca cb ns ts ps = none ∧ e = .panicked (gup 1))) := by
  obtain ⟨a, ha⟩ : ∃ a, w.heap.size = a := ⟨_, rfl⟩
  obtain ⟨gu, hg⟩ : ∃ gu, gup 1 = gu := ⟨_, rfl⟩
  have I := fun w => insist_no w 1
  rw [hg] at I ⊢
  have F := fun w (hv : Mv w) => form_any w ca cb hv
  obtain ⟨W1, hW1⟩ : ∃ W1, w.alloc (Obj.cells (mtA ca cb vn vt vp) 26) = W1 := ⟨_, rfl⟩
  have B1 : Below a w W1 := by rw [← hW1, ← ha]; exact below_new w _
  have K1 : Blk W1 a (mtA ca cb vn vt vp) 26 := by rw [← hW1, ← ha]; exact Blk.new w _ _
  have M1 : Mv W1 := hv.on (by rw [ha]; exact B1)
  have HM : Hid (RdM w a vn vt vp ns ts ps) := by rw [← ha]; exact hm
  obtain ⟨na, nc, e1⟩ := hm.n.shape
  obtain ⟨ta, tc, e2⟩ := hm.t.shape
  obtain ⟨pa, pc, e3⟩ := hm.p.shape
  subst e1 e2 e3
  have HP : Hid (payP ca cb ns ts ps = if (formL ca cb mL).2 = true then
    (partsP (formL ca cb mL).1 ⟨beN 2 ca.toNat ++ beN 2 cb.toNat, ns, ts, ps⟩).bind fun q => if q.ns = [] ∧ q.ts = [] ∧ q.ps = [] then some q.out else none
  else none) := rfl
  have FS := @form_some ca cb
  generalize payP ca cb ns ts ps = PP at *
  rw [ha]
  clear hv hm
  generalize (formL ca cb mL).1 = f at *
  generalize (formL ca cb mL).2 = ok at *
  have c0 := K1.cell 0
  have c1 := K1.cell 1
  simp only [List.getElem?_toArray, List.getElem?_cons_zero, List.getElem?_cons_succ] at c0 c1
  go_enter Tryz.func18, Tryz.ntmps18
  go_upto_region 1 with fail
  clear hW1 ha
  go_wp2_with (go_at_call 6; refine (F _ M1).mono ?_; rintro e W2 ⟨rfl, hb2⟩)
  have K2 : Blk W2 a (mtA ca cb _ _ _) 26 := K1.on hb2
  have B2 : Below a w W2 := B1.trans (hb2.mono (Nat.le_of_lt K1.lt))
  clear c0 c1 K1 B1 M1 hb2 F
  cases ok with
  | false =>
    refine (I _).mono ?_
    rintro e w' ⟨rfl, rfl⟩
    exact ⟨rfl, B2, .inr ⟨by rw [HP.out]; rfl, rfl⟩⟩
  | true =>
  obtain ⟨f1, f2, f3, f4, f5⟩ := FS (by trivial)
  obtain ⟨na', rfl⟩ : ∃ n : Nat, ca = (n : Int) := ⟨ca.toNat, by omega⟩
  obtain ⟨nb', rfl⟩ : ∃ n : Nat, cb = (n : Int) := ⟨cb.toNat, by omega⟩
  have HP : Hid (PP = (partsP f ⟨beN 2 na' ++ beN 2 nb', ns, ts, ps⟩).bind fun q => if q.ns = [] ∧ q.ts = [] ∧ q.ps = [] then some q.out else none) := HP.out
  have hwa : IntKind.u64.wrap (na' : Int) = (na' : Int) := by rw [IntKind.wrap_u64]; omega
  have hwb : IntKind.u64.wrap (nb' : Int) = (nb' : Int) := by rw [IntKind.wrap_u64]; omega
  clear FS f1 f3
  have c0 := K2.cell 0
  have c1 := K2.cell 1
  have c2 := K2.cell 2
  have c3 := K2.cell 3
  have c4 := K2.cell 4
  simp only [List.getElem?_toArray, List.getElem?_cons_zero, List.getElem?_cons_succ] at c0 c1 c2 c3 c4
  obtain ⟨b, hb⟩ : ∃ b, W2.heap.size = b := ⟨_, rfl⟩
  refine (insist_ok _ _).mono ?_
  rintro e w' ⟨rfl, hw'⟩
  rw [hw']
  clear hw' w'
  go_upto_region 4 with fail
  obtain ⟨W3, hW3⟩ : ∃ W3, W2.alloc (Obj.cells #[Value.slice none 0 0, Value.slice na ns.length nc, Value.slice ta ts.length tc, Value.slice pa ps.length pc] 70) = W3 := ⟨_, rfl⟩
  have hab : a < b := by rw [← hb]; exact K2.lt
  have hb2 : Below b W2 W3 := by rw [← hW3, ← hb]; exact below_new W2 _
  have B3 : Below a w W3 := B2.trans (hb2.mono (Nat.le_of_lt hab))
  have K3 : Blk W3 a (mtA na' nb' (Value.slice na ns.length nc) (Value.slice ta ts.length tc) (Value.slice pa ps.length pc)) 26 := K2.below hb2 hab
  have k3 : Blk W3 b (wrA (.slice none 0 0) (Value.slice na ns.length nc) (Value.slice ta ts.length tc) (Value.slice pa ps.length pc)) 70 := by rw [← hW3, ← hb]; exact Blk.new W2 _ _
  rw [hW3]
  clear hW3 hb hb2 K2 B2 c0 c1 c2 c3 c4
  refine wp_region_held (S := fun W => Blk W a (mtA na' nb' (Value.slice na ns.length nc) (Value.slice ta ts.length tc) (Value.slice pa ps.length pc)) 26) hmix ?_
  show wpAnyH _ _ _ _ _ _ _ _ (World.drew _)
  have hS : Blk W3.drew a (mtA na' nb' (Value.slice na ns.length nc) (Value.slice ta ts.length tc) (Value.slice pa ps.length pc)) 26 := ⟨K3.h⟩
  have kd : Blk W3.drew b (wrA (.slice none 0 0) (Value.slice na ns.length nc) (Value.slice ta ts.length tc) (Value.slice pa ps.length pc)) 70 := ⟨k3.h⟩
  have Bd : Below a w W3.drew := B3.drew
  clear K3 k3 B3
  generalize W3.drew = Wd at *
  refine tks [0, 2, 3, 4, 6, 7, 8] [.pointer (some ⟨b, 0, none⟩), .pointer (some ⟨a, 0, none⟩), .int .i64 na', .int .u64 na', .pointer (some ⟨a, 1, none⟩), .int .i64 nb', .int .u64 nb'] 5 ?_ hS ?_
  · simp only [tkY, tkf]
    refine ⟨.yes ?_, .yes ?_, .yes ?_, .yes ?_, .yes ?_, .yes ?_, .yes ?_, trivial⟩
    all_goals
      intro W' hW'
      have c0 := hW'.cell 0
      have c1 := hW'.cell 1
      simp only [List.getElem?_toArray, List.getElem?_cons_zero, List.getElem?_cons_succ] at c0 c1
      go_simp
      try (first | rw [hwa] | rw [hwb])
  simp only [tkA, tkf]
  have d0 := kd.cell 0
  simp only [List.getElem?_toArray, List.getElem?_cons_zero, List.getElem?_cons_succ] at d0
  refine ak 1 (fun K hK => ?_)
  go_wp2_with fail
  refine hK _ _ hS ?_
  clear hK K d0
  refine ak 5 (fun K hK => ?_)
  have sd := kd.lt
  go_wp2_with (go_at_call 34; refine (tput_any Wd (b + 1) _ [] 2 na' (by omega) (Own.nil _ _) sd (by simp)).mono ?_; rintro e W4 ⟨o4, rfl, ho4, hb4⟩)
  have hS4 := hS.below hb4.b (by omega)
  have k4 := kd.below hb4.b (Nat.lt_succ_self b)
  have B4 : Below a w W4 := Bd.trans (hb4.b.mono (by omega))
  refine hK _ _ hS4 ?_
  clear hK K sd hS kd Bd hb4
  refine ak 9 (fun K hK => ?_)
  have s4 := k4.lt
  go_wp2_with (go_at_call 34; refine (tput_any W4 (b + 1) _ _ 2 nb' (by omega) ho4 s4 (by simp [beN_len])).mono ?_; rintro e W5 ⟨o5, rfl, ho5, hb5⟩)
  have hS5 := hS4.below hb5.b (by omega)
  have k5 := k4.below hb5.b (Nat.lt_succ_self b)
  have B5 : Below a w W5 := B4.trans (hb5.b.mono (by omega))
  refine hK _ _ hS5 ?_
  clear hK K s4 hS4 k4 B4 hb5 ho4
  refine ak 10 (fun K hK => ?_)
  go_wp2_with fail
  refine hK _ _ hS5 ?_
  clear hK K
  refine ak 11 (fun K hK => ?_)
  obtain ⟨oa, on, oc, rfl⟩ := Own.shape ho5
  refine opw_set (.tmp 34) (.tmp 33) rfl b 0 _ rfl rfl k5 (by kernel_rfl) rfl rfl (by simp) ?_
  intro W6 k6 g6 s6
  have k7 : Blk W6 b (wrA (.slice oa on oc) (Value.slice na ns.length nc) (Value.slice ta ts.length tc) (Value.slice pa ps.length pc)) 70 := k6
  clear k6
  have hS6 := hS5.grown g6 (by simp; omega)
  have B6 : Below a w W6 := B5.grown g6 (by have := k5.lt; omega) (fun k hk => by cases hk; omega)
  have ho6 : Own W6 (b + 1) (.slice oa on oc) (beN 2 na' ++ beN 2 nb') := by
    have := ho5.grown g6 (fun k hk => by cases hk; exact Nat.lt_succ_self _)
    rw [List.nil_append] at this
    exact this
  have M6 := (HM.out.on B6).up (Nat.le_of_lt hab)
  have st6 : Wst W6 b ⟨beN 2 na' ++ beN 2 nb', ns, ts, ps⟩ := ⟨_, _, _, _, k7, ho6, M6.n, M6.t, M6.p⟩
  have ok6 : Wok 4 ⟨beN 2 na' ++ beN 2 nb', ns, ts, ps⟩ := ⟨by simp [beN_len], HM.out.ln, HM.out.lp⟩
  refine hK _ _ hS6 ?_
  clear hK K hS5 k5 B5 g6 s6 ho5 hS6 k7 ho6 M6
  refine wpAnyH_done (by kernel_rfl) ?_ _
  go_wp2_with fail
  have HSZ : Hid (ns.length + ts.length + ps.length ≤ 4000000000000000000) := HM.out.sz
  have HL : Hid (ns.length + ts.length + ps.length ≤ 4000000000000000000) := HSZ.out
  have NL : Hid (∀ q : Wq, q.ns.length + q.ts.length + q.ps.length ≤ 4000000000000000000 → ∀ c q', partP c q = some q' → q'.ns.length + q'.ts.length + q'.ps.length ≤ 4000000000000000000) := fun q hq c q' h => by have := partP_less h; omega
  have hq0 : (⟨beN 2 na' ++ beN 2 nb', ns, ts, ps⟩ : Wq).ns.length + (⟨beN 2 na' ++ beN 2 nb', ns, ts, ps⟩ : Wq).ts.length + (⟨beN 2 na' ++ beN 2 nb', ns, ts, ps⟩ : Wq).ps.length ≤ 4000000000000000000 := HSZ.out
  clear HSZ HL HM
  generalize (⟨beN 2 na' ++ beN 2 nb', ns, ts, ps⟩ : Wq) = q0 at *
  have HQ0 : Hid (Wst W6 b q0 ∧ Wok 4 q0 ∧ q0.ns.length + q0.ts.length + q0.ps.length ≤ 4000000000000000000) := ⟨st6, ok6, hq0⟩
  clear st6 ok6 hq0 hwa hwb
  go_loopw [6, 37] (fun _ i wr => ∃ (k : Nat) (q : Wq), k ≤ f.length ∧ i = .int .i64 (k : Int) ∧ Hid (Wst wr b q ∧ Wok (4 + 6000 * k) q ∧ q.ns.length + q.ts.length + q.ps.length ≤ 4000000000000000000) ∧ Hid (partsP f q0 = partsP (f.drop k) q) ∧ Below a w wr) (fun _ i _ => f.length - (RowKit.intOf i).toNat)
  case atStart => exact ⟨0, q0, Nat.zero_le _, rfl, HQ0, rfl, B6⟩
  case round =>
    clear HQ0 B6
    obtain ⟨k, q, hk, rfl, HQ, HB, hB⟩ := hrel
    by_cases hlt : k < f.length
    · have gk := get_str f k
      have hgk : f.getD k 0 = f[k] := by simp [List.getD_eq_getElem?_getD, hlt]
      rw [hgk] at gk
      have hkz : (k : Int) < (f.length : Int) := by omega
      have HE : Hid (partsP f q0 = (partP f[k].toNat q).bind (partsP (f.drop (k + 1)))) := partsP_get hlt HB.out
      have P := part_any wr b f[k].toNat q HQ.out.1 ⟨by have := HQ.out.2.1.l; omega, HQ.out.2.1.n, HQ.out.2.1.p⟩
      have HOK : Hid (∀ q', partP f[k].toNat q = some q' → Wok (4 + 6000 * (k + 1)) q') := fun q' h => by
        have := partP_ok h HQ.out.2.1
        rw [show 4 + 6000 * (k + 1) = 4 + 6000 * k + 6000 by omega]
        exact this
      have HNL : Hid (∀ q', partP f[k].toNat q = some q' → q'.ns.length + q'.ts.length + q'.ps.length ≤ 4000000000000000000) := fun q' h => NL.out q HQ.out.2.2 _ q' h
      rw [hg] at P
      clear HB HQ hgk
      generalize f[k] = y at *
      go_wp2_with (go_at_call 35; refine P.mono ?_; rintro e w7 ⟨hb7, ⟨q', hq, rfl, st7⟩ | ⟨hq, rfl⟩⟩)
      · have HQ7 : Hid (Wst w7 b q' ∧ Wok (4 + 6000 * (k + 1)) q' ∧ q'.ns.length + q'.ts.length + q'.ps.length ≤ 4000000000000000000) := ⟨st7, HOK.out _ hq, HNL.out _ hq⟩
        have HB7 : Hid (partsP f q0 = partsP (f.drop (k + 1)) q') := by show _ = _; rw [HE.out, hq]; rfl
        clear P HOK HNL HE hq st7
        go_wp2_with fail
        go_roundw
        case rel => exact ⟨k + 1, q', by omega, by go_num, HQ7, HB7, hB.trans (hb7.mono (by omega))⟩
        case measure => simp [RowKit.intOf]; omega
      · exact ⟨rfl, hB.trans (hb7.mono (by omega)), .inr ⟨by rw [HP.out, HE.out, hq]; rfl, rfl⟩⟩
    · obtain rfl : k = f.length := by omega
      have HB2 : Hid (PP = if q.ns = [] ∧ q.ts = [] ∧ q.ps = [] then some q.out else none) := by
        show _ = _
        rw [HP.out, HB.out, List.drop_length]
        rfl
      obtain ⟨⟨vo, vn, vt, vp, kW, ho, rn, rt, rv⟩, okq, hqs⟩ := HQ.out
      obtain ⟨na1, nc1, rfl⟩ := rn.shape
      obtain ⟨ta1, tc1, rfl⟩ := rt.shape
      obtain ⟨pa1, pc1, rfl⟩ := rv.shape
      obtain ⟨oa', on', oc', rfl⟩ := Own.shape ho
      have c0 := kW.cell 0
      have c1 := kW.cell 1
      have c2 := kW.cell 2
      have c3 := kW.cell 3
      simp only [List.getElem?_toArray, List.getElem?_cons_zero, List.getElem?_cons_succ] at c0 c1 c2 c3
      have hkz : ¬ (f.length : Int) < (f.length : Int) := by omega
      clear HB HQ rn rt rv okq NL HP
      by_cases hz : q.ns = [] ∧ q.ts = [] ∧ q.ps = []
      · have hpp : PP = some q.out := by rw [HB2.out, if_pos hz]
        have hs0 : (((q.ns.length : Int) + (q.ts.length : Int) + (q.ps.length : Int)) == 0) = true := by rw [hz.1, hz.2.1, hz.2.2]; rfl
        have hl1 : q.ns.length = 0 := by rw [hz.1]; rfl
        have hl2 : q.ts.length = 0 := by rw [hz.2.1]; rfl
        have hl3 : q.ps.length = 0 := by rw [hz.2.2]; rfl
        clear hz HB2
        go_wp2_with (go_at_call 33; refine (insist_ok _ _).mono ?_; rintro e w' ⟨rfl, rfl⟩)
        go_ret
        exact ⟨hB, .inl ⟨_, _, hpp, rfl, Own.lower ho (by omega)⟩⟩
      · have hpp : PP = none := by rw [HB2.out, if_neg hz]
        have hs0 : (((q.ns.length : Int) + (q.ts.length : Int) + (q.ps.length : Int)) == 0) = false := by
          rw [beq_eq_false_iff_ne]
          intro h
          exact hz ⟨List.length_eq_zero_iff.1 (by omega), List.length_eq_zero_iff.1 (by omega), List.length_eq_zero_iff.1 (by omega)⟩
        clear hz HB2
        go_wp2_with (go_at_call 33; refine (I _).mono ?_; rintro e w' ⟨rfl, rfl⟩)
        exact ⟨rfl, hB, .inr ⟨hpp, rfl⟩⟩
end Go.Proofs.YtmaaacaifpgpaaaGreatDoor

namespace Go.Proofs.YtmaaacaifpgpaaaGreatDoor
open Go.RowKit Go.Lib
set_option maxRecDepth 100000
set_option linter.unusedSimpArgs false

theorem enc_at (w : World) (hv : Mv w) : Calls Tryz.prog 8 #[.agg #[.int .i64 60, .int .i64 80, .slice (some ⟨w.heap.size, 0, none⟩) 2 2, .slice none 0 0, .slice none 0 0]] (w.alloc (.cells #[.int .i64 5, .int .i64 0] 3)) fun e w' => ∃ v, e = .returned (.tuple #[v, .int .i64 0]) ∧ Own w' w.heap.size v outW ∧ Below w.heap.size w w' := by
  have N := Blk.new w #[.int .i64 5, .int .i64 0] 3
  refine (encode_w (w.alloc (.cells #[.int .i64 5, .int .i64 0] 3)) w.heap.size (hv.on (below_new w _)) (by simp) (N.cell 0) (N.cell 1)).mono ?_
  rintro e w' ⟨v, h1, h2, h3⟩
  exact ⟨v, h1, h2.lower (by simp), (below_new w _).trans (h3.mono (by simp))⟩
def pA : Pr := ⟨⟨#[97]⟩, ⟨2, 1, ⟨#[]⟩, 0⟩⟩
theorem pA_tab : tabL [pA] = [0, 0, 0, 4, 1, 97, 116, 1] := by kernel_rfl
theorem pA_valid : validL [pA] = true := by kernel_rfl
theorem put_at (w : World) : Calls Tryz.prog 13 #[.slice none 0 0, .slice (some ⟨w.heap.size, 0, none⟩) 1 1] (w.alloc (.cells #[.string ⟨#[97]⟩, .int .i64 2, .int .i64 1, .string ⟨#[]⟩, .float .f64 0] 44)) fun e w' => ∃ v, e = .returned (.tuple #[v, .int .i64 0]) ∧ Own w' w.heap.size v [0, 0, 0, 4, 1, 97, 116, 1] ∧ Below w.heap.size w w' := by
  have N := Blk.new w #[.string ⟨#[97]⟩, .int .i64 2, .int .i64 1, .string ⟨#[]⟩, .float .f64 0] 44
  refine (put_ok _ (.slice none 0 0) (.slice (some ⟨w.heap.size, 0, none⟩) 1 1) [] [pA] (.inl (Own.nil _ 0).rd) (by simp) (.inr ⟨w.heap.size, 0, 1, rfl, by decide, fun i hi => ?_⟩) pA_valid (by intro q hq; simp at hq; subst hq; decide)).mono ?_
  · obtain rfl : i = 0 := by simpa using hi
    exact ⟨N.cell 0, N.cell 1, N.cell 2, N.cell 3, N.cell 4⟩
  · rintro e w' ⟨v, h1, h2, h3⟩
    rw [pA_tab, List.nil_append] at h2
    exact ⟨v, h1, h2.lower (by simp), (below_new w _).trans (h3.mono (by simp))⟩
set_option maxHeartbeats 2000000 in
theorem wakes_any (w : World) (hv : Mv w) : Calls Tryz.prog 4 #[] w fun e w' => e = .returned (.bool true) ∧ Below w.heap.size w w' := by
  have P := put_at w
  have E := enc_at
  obtain ⟨a, ha⟩ : ∃ a, w.heap.size = a := ⟨_, rfl⟩
  have HV : Hid (Mv w ∧ a ≤ w.heap.size) := ⟨hv, by omega⟩
  rw [ha] at P ⊢
  clear hv
  go_enter Tryz.func4, Tryz.ntmps4
  go_wp2_with (go_at_call 13; refine P.mono ?_; rintro e w2 ⟨v1, rfl, ho1, hb1⟩)
  refine (E w2 (HV.out.1.on (by rw [ha]; exact hb1))).mono ?_
  rintro e w3 ⟨v2, rfl, ho2, hb2⟩
  have q1 : (convert 31 9 v1).run Tryz.prog w3 = .ok (.string ⟨#[0, 0, 0, 4, 1, 97, 116, 1]⟩) w3 := conv_any (ho1.on hb2).rd
  have q2 : (convert 31 9 v2).run Tryz.prog w3 = .ok (.string ⟨#[0, 60, 0, 80, 0, 0, 0, 0, 0, 0, 0, 5, 0]⟩) w3 := conv_any ho2.rd
  have HB : Hid (Below a w w3) := hb1.trans (hb2.mono (Nat.le_trans HV.out.2 (by have := hb1.size; omega)))
  clear P E HV ho1 ho2 hb1 hb2 ha
  go_wp2_with fail
  go_ret
  exact ⟨rfl, HB.out⟩
end Go.Proofs.YtmaaacaifpgpaaaGreatDoor

namespace Go.Proofs.YtmaaacaifpgpaaaGreatDoor
open Go.RowKit Go.Lib
set_option maxRecDepth 100000
set_option linter.unusedSimpArgs false

theorem longR_yes {s : List UInt8} (h : 4 ≤ s.length) : longR (s, false) = takeR (s.drop 4, false) (numL (s.take 4)) := by
  unfold longR
  rw [numR_yes h]
theorem longR_no {s : List UInt8} (h : s.length < 4) : longR (s, false) = ([], (s, true)) := by
  unfold longR
  rw [numR_no h]
  exact takeR_bad s 0
theorem rtab_some {s r : List UInt8} {L : List Pr} (h : ctab s = some (L, r)) : rtab (s, false) = (L, (r, false)) := by
  unfold ctab at h
  split at h
  · cases h
  · rename_i h4
    split at h
    · cases h
    · rename_i t r' hc
      unfold cutP at hc
      split at hc
      · rename_i hn
        injection hc with hc
        obtain ⟨rfl, rfl⟩ := Prod.mk.inj hc
        cases ht : tabO (List.take (numL (s.take 4)) (s.drop 4)) with
        | none => rw [ht] at h; cases h
        | some M =>
          rw [ht] at h
          simp only [Option.map_some, Option.some.injEq, Prod.mk.injEq] at h
          obtain ⟨rfl, rfl⟩ := h
          unfold rtab
          rw [longR_yes (by omega), takeR_yes hn]
          simp only [ht]
      · cases hc
theorem rtab_none {s : List UInt8} (h : ctab s = none) : (rtab (s, false)).2.2 = true := by
  unfold ctab at h
  unfold rtab
  split at h
  · rename_i h4
    rw [longR_no h4]
    cases tabO ([] : List UInt8) <;> rfl
  · rename_i h4
    rw [longR_yes (by omega)]
    split at h
    · rename_i hc
      unfold cutP at hc
      split at hc
      · cases hc
      · rename_i hn
        rw [takeR_no (by omega)]
        cases tabO ([] : List UInt8) <;> rfl
    · rename_i t r' hc
      unfold cutP at hc
      split at hc
      · rename_i hn
        injection hc with hc
        obtain ⟨rfl, rfl⟩ := Prod.mk.inj hc
        rw [takeR_yes hn]
        cases ht : tabO (List.take (numL (s.take 4)) (s.drop 4)) with
        | none => rfl
        | some M => rw [ht] at h; cases h
      · cases hc
end Go.Proofs.YtmaaacaifpgpaaaGreatDoor

namespace Go.Proofs.YtmaaacaifpgpaaaGreatDoor
open Go.RowKit Go.Lib
set_option maxRecDepth 100000
set_option linter.unusedSimpArgs false

/-- What long answers. -/
def LoB (e : Ending) : Prop := ∃ r : Bool, e = .returned (.bool r)
theorem long_some (w : World) (l : List Pr) (b o c : Nat) (h : ∀ i (h : i < l.length), PrAt w b (o + i * 5) l[i]) (h16 : l.length ≤ 9223372036854775806) :
    Calls Tryz.prog 14 #[.slice (some ⟨b, o, none⟩) l.length c] w fun e w' => LoB e ∧ Below w.heap.size w w' := by
  have H : Hid (∀ i (h : i < l.length), PrAt w b (o + i * 5) l[i]) := h
  clear h
  go_enter Tryz.func14, Tryz.ntmps14
  go_wp2_with fail
  go_loopw [3, 8] (fun s i wr => ∃ (k : Nat) (z : Int), k ≤ l.length ∧ i = .int .i64 k ∧ s = .int .i64 z ∧ Below w.heap.size w wr) (fun _ i _ => l.length - (RowKit.intOf i).toNat)
  case atStart => exact ⟨0, 0, by omega, rfl, rfl, Below.refl _ _⟩
  case round =>
    obtain ⟨k, z, hk, rfl, rfl, hbr⟩ := hrel
    have hwr := hbr.size
    by_cases hlt : k < l.length
    · obtain ⟨a0, a1, a2, a3, a4⟩ := (H.out k hlt).on hbr
      obtain ⟨pk, hpk⟩ : ∃ pk, pk = l[k] := ⟨_, rfl⟩
      rw [← hpk] at a0 a1 a2 a3 a4
      clear hpk
      go_wp2
      · go_ret
        exact ⟨⟨_, rfl⟩, hbr.alloc hwr _⟩
      · go_roundw
        case rel => exact ⟨k + 1, _, by omega, by go_num, rfl, hbr.alloc hwr _⟩
        case measure => simp [RowKit.intOf]; omega
    · go_wp2
      go_ret
      exact ⟨⟨_, rfl⟩, hbr⟩
theorem long_nil (w : World) (a : Option Addr) (c : Nat) : Calls Tryz.prog 14 #[.slice a 0 c] w fun e w' => LoB e ∧ Below w.heap.size w w' := by
  go_enter Tryz.func14, Tryz.ntmps14
  go_wp2_with fail
  go_loopw [3, 8] (fun s i wr => i = .int .i64 0 ∧ s = .int .i64 0 ∧ wr = w) (fun _ _ _ => 0)
  case atStart => exact ⟨rfl, rfl, rfl⟩
  case round =>
    obtain ⟨rfl, rfl, rfl⟩ := hrel
    go_wp2
    go_ret
    exact ⟨⟨_, rfl⟩, Below.refl _ _⟩
theorem alllong_any (w : World) (v : Value) (l : List Pr) (h : RdP w v l) (h16 : l.length ≤ 9223372036854775806) : Calls Tryz.prog 14 #[v] w fun e w' => LoB e ∧ Below w.heap.size w w' := by
  rcases h with ⟨⟨a, c, rfl⟩, rfl⟩ | ⟨b, o, c, rfl, _, h⟩
  · exact long_nil w a c
  · exact long_some w l b o c h h16
end Go.Proofs.YtmaaacaifpgpaaaGreatDoor
