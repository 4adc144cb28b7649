
/- The document's Same. Conditions: those that each row states. -/
import Derived.Test.YtfdbekfbbihdgaaDoorSo
import Derived.Laws.StructEq
namespace Go.Proofs.YtfdbekfbbihdgaaDoor
open Go.RowKit Go.Lib
set_option maxRecDepth 100000
set_option linter.unusedSimpArgs false

/-- Whether two frames are the same. -/
def sameB (c b : Bs) (H : List Hd) (c' b' : Bs) (H' : List Hd) : Bool := decide (c = c') && (decide (b = b') && decide (H = H'))
theorem same_no (w : World) (c b c' b' : Bs) (hv hv' : Value) (n n' : Nat) (a a' : Option Addr) (cp cp' : Nat) (h1 : hv = .slice a n cp) (h2 : hv' = .slice a' n' cp') (hne : (c == c') = false ∨ ((c == c') = true ∧ (b == b') = false) ∨ ((c == c') = true ∧ (b == b') = true ∧ n ≠ n')) :
    Calls Tryd.prog 16 #[frV c hv b, frV c' hv' b'] w fun e w' => e = .returned (.bool false) ∧ Below w.heap.size w w' := by
  subst h1 h2
  have b1 := below_new w (.cells #[str c, .slice a n cp, str b] 24)
  have b2 := b1.trans ((below_new (w.alloc (.cells #[str c, .slice a n cp, str b] 24)) (.cells #[str c', .slice a' n' cp', str b'] 24)).mono b1.size)
  rcases hne with h | ⟨h, h'⟩ | ⟨h, h', hn⟩
  · go_enter Tryd.func16, Tryd.ntmps16
    go_wp2
    go_ret
    exact ⟨rfl, b2⟩
  · go_enter Tryd.func16, Tryd.ntmps16
    go_wp2
    go_ret
    exact ⟨rfl, b2⟩
  · have hz : ((n : Int) == (n' : Int)) = false := by rw [beq_eq_false_iff_ne]; omega
    go_enter Tryd.func16, Tryd.ntmps16
    go_wp2
    go_ret
    exact ⟨rfl, b2⟩
@[go_sem] theorem guard42 (op : BinOp) (x y : Operand) (xs ys : Array Value) (w : World) : (eqGuard op 42 x y (.agg xs) (.agg ys)).run Tryd.prog w = .ok () w :=
  run_eqGuard_agg w op 42 x y xs ys (by kernel_rfl)
theorem tl (l : Bs) : (⟨l.toArray⟩ : ByteArray).toList = l := by rw [ByteArray.toList_eq]
@[go_sem] theorem eq42 (n t n' t' : Bs) (w : World) : (Op.equalIn 10000 42 (.agg #[str n, str t]) (.agg #[str n', str t'])).run Tryd.prog w = .ok ((n == n') && (t == t')) w := by
  rw [run_equalIn_agg w 9999 42 _ _ (by rfl) (by kernel_rfl)]
  by_cases h1 : n = n' <;> by_cases h2 : t = t' <;> simp [go_sem, Program.fieldsOf, Tryd.underlying42, Op.eqFields, h1, h2, Result.andThen]
set_option maxHeartbeats 2000000 in
theorem same_some (w : World) (c b : Bs) (l l' : List Hd) (g o cp g' o' cp' n : Nat) (h : ∀ i (h : i < l.length), HdAt w g (o + i * 2) l[i]) (h' : ∀ i (h : i < l'.length), HdAt w g' (o' + i * 2) l'[i]) (hl : l.length = n) (hl' : l'.length = n) (hll : n ≤ 9000000000000000000) :
    Calls Tryd.prog 16 #[frV c (.slice (some ⟨g, o, none⟩) n cp) b, frV c (.slice (some ⟨g', o', none⟩) n cp') b] w fun e w' => e = .returned (.bool (decide (l = l'))) ∧ Below w.heap.size w w' := by
  have gd : ∀ (m : List Hd) (i : Nat) (h : i < m.length), m.getD i ([], []) = m[i] := fun m i h => by simp [List.getD_eq_getElem?_getD, h]
  have H : Hid (∀ i, i < n → HdAt w g (o + i * 2) (l.getD i ([], []))) := fun i hi => by rw [gd l i (by omega)]; exact h i (by omega)
  have H' : Hid (∀ i, i < n → HdAt w g' (o' + i * 2) (l'.getD i ([], []))) := fun i hi => by rw [gd l' i (by omega)]; exact h' i (by omega)
  have HF : Hid (∀ i, i < n → l.getD i ([], []) ≠ l'.getD i ([], []) → decide (l = l') = false) := fun i hi hne => decide_eq_false (fun e => by subst e; exact hne rfl)
  have HT : Hid ((∀ i, i < n → l.getD i ([], []) = l'.getD i ([], [])) → decide (l = l') = true) := fun h => decide_eq_true (List.ext_getElem (by omega) (fun i h1 h2 => by rw [← gd l i h1, ← gd l' i h2]; exact h i (by omega)))
  clear h h' hl hl' gd
  generalize decide (l = l') = D at *
  have b1 := below_new w (.cells #[str c, .slice (some ⟨g, o, none⟩) n cp, str b] 24)
  have k1 := Blk.new w #[str c, .slice (some ⟨g, o, none⟩) n cp, str b] 24
  have s1 : (w.alloc (.cells #[str c, .slice (some ⟨g, o, none⟩) n cp, str b] 24)).heap.size = w.heap.size + 1 := by simp
  generalize hw1 : w.alloc (.cells #[str c, .slice (some ⟨g, o, none⟩) n cp, str b] 24) = w1 at *
  have b2 := b1.trans ((below_new w1 (.cells #[str c, .slice (some ⟨g', o', none⟩) n cp', str b] 24)).mono b1.size)
  have k2 := Blk.new w1 #[str c, .slice (some ⟨g', o', none⟩) n cp', str b] 24
  have k12 := k1.alloc (.cells #[str c, .slice (some ⟨g', o', none⟩) n cp', str b] 24)
  have s2 : (w1.alloc (.cells #[str c, .slice (some ⟨g', o', none⟩) n cp', str b] 24)).heap.size = w.heap.size + 2 := by simp [s1]
  rw [s1] at k2
  generalize hw2 : w1.alloc (.cells #[str c, .slice (some ⟨g', o', none⟩) n cp', str b] 24) = w2 at *
  have e0 := k12.cell 0
  have e1 := k12.cell 1
  have e2 := k12.cell 2
  have f0 := k2.cell 0
  have f1 := k2.cell 1
  have f2 := k2.cell 2
  simp only [List.getElem?_toArray, List.getElem?_cons_zero, List.getElem?_cons_succ] at e0 e1 e2 f0 f1 f2
  clear k1
  go_enter Tryd.func16, Tryd.ntmps16
  go_wp2_with fail
  clear e0 e1 e2 f0 f1 f2
  go_loopw [30] (fun i wr => ∃ k : Nat, k ≤ n ∧ i = .int .i64 k ∧ (∃ q, wr = w2.drewN q) ∧ Hid (∀ j, j < n → j < k → l.getD j ([], []) = l'.getD j ([], []))) (fun i _ => n - (RowKit.intOf i).toNat)
  case atStart => exact ⟨0, by omega, rfl, ⟨0, rfl⟩, fun j _ h => absurd h (Nat.not_lt_zero _)⟩
  case round =>
    obtain ⟨k, hk, rfl, ⟨q, rfl⟩, HB⟩ := hrel
    by_cases hlt : k < n
    · have bq := below_drewN b2 q
      have Bq := below_drewN (Below.refl w2.heap.size w2) q
      obtain ⟨a0, a1⟩ := (H.out k hlt).on bq
      obtain ⟨a0', a1'⟩ := (H'.out k hlt).on bq
      have hF := HF.out k hlt
      have HY : Hid (l.getD k ([], []) = l'.getD k ([], []) → (∀ j, j < n → j < k + 1 → l.getD j ([], []) = l'.getD j ([], []))) := fun h j hj hj2 => by
        rcases Nat.lt_or_ge j k with h3 | h3
        · exact HB.out j hj h3
        · have : j = k := by omega
          subst this; exact h
      obtain ⟨⟨pn, pt⟩, hp⟩ : ∃ p, p = l.getD k ([], []) := ⟨_, rfl⟩
      obtain ⟨⟨pn', pt'⟩, hp'⟩ : ∃ p, p = l'.getD k ([], []) := ⟨_, rfl⟩
      rw [← hp] at a0 a1 hF HY
      rw [← hp'] at a0' a1' hF HY
      dsimp only at a0 a1 a0' a1'
      clear hp hp' HB H H' HT HF
      have hkz : (k : Int) < (n : Int) := by omega
      have e1 := (k12.on (below_drewN (Below.refl _ w2) q)).cell 1
      have f1 := (k2.on (below_drewN (Below.refl _ w2) q)).cell 1
      simp only [List.getElem?_toArray, List.getElem?_cons_zero, List.getElem?_cons_succ] at e1 f1
      generalize hwq : w2.drewN q = wq at *
      by_cases hs : pn = pn' ∧ pt = pt'
      · obtain ⟨rfl, rfl⟩ := hs
        have HY2 := HY.out rfl
        go_upto_region 6 with fail
        go_quiet (fail)
        go_wp2_with fail
        go_roundw
        case rel => exact ⟨k + 1, by omega, by go_num, ⟨q + nq, by rw [← hwq]; simp [World.drewN, Nat.add_assoc]⟩, HY2⟩
        case measure => simp [RowKit.intOf]; omega
      · have hD := hF (fun e => hs ⟨congrArg Prod.fst e, congrArg Prod.snd e⟩)
        subst hD
        by_cases hp : pn = pn'
        · subst hp
          have hq : ¬ pt = pt' := fun e => hs ⟨rfl, e⟩
          have hq2 : (pt == pt') = false := by rw [beq_l]; exact decide_eq_false hq
          go_upto_region 6 with fail
          go_quiet (fail)
          go_wp2
          go_ret
          exact ⟨rfl, below_drewN bq nq⟩
        · have hq2 : (pn == pn') = false := by rw [beq_l]; exact decide_eq_false hp
          go_upto_region 6 with fail
          go_quiet (fail)
          go_wp2
          go_ret
          exact ⟨rfl, below_drewN bq nq⟩
    · obtain rfl : k = n := by omega
      have hD := HT.out (fun j hj => HB.out j hj hj)
      subst hD
      go_wp2
      go_ret
      exact ⟨rfl, below_drewN b2 q⟩
theorem same_zero (w : World) (c b : Bs) (a a' : Option Addr) (cp cp' : Nat) :
    Calls Tryd.prog 16 #[frV c (.slice a 0 cp) b, frV c (.slice a' 0 cp') b] w fun e w' => e = .returned (.bool true) ∧ Below w.heap.size w w' := by
  have b1 := below_new w (.cells #[str c, .slice a 0 cp, str b] 24)
  have b2 := b1.trans ((below_new (w.alloc (.cells #[str c, .slice a 0 cp, str b] 24)) (.cells #[str c, .slice a' 0 cp', str b] 24)).mono b1.size)
  go_enter Tryd.func16, Tryd.ntmps16
  go_wp2_with fail
  go_loopw [30] (fun i wr => i = .int .i64 0 ∧ wr = (w.alloc (.cells #[str c, .slice a 0 cp, str b] 24)).alloc (.cells #[str c, .slice a' 0 cp', str b] 24)) (fun _ _ => 0)
  case atStart => exact ⟨rfl, rfl⟩
  case round =>
    obtain ⟨rfl, rfl⟩ := hrel
    go_wp2
    go_ret
    exact ⟨rfl, b2⟩
theorem same_any (w : World) (c b c' b' : Bs) (hv hv' : Value) (H H' : List Hd) (h : RdH w hv H) (h' : RdH w hv' H') (hl : H.length ≤ 9000000000000000000) :
    Calls Tryd.prog 16 #[frV c hv b, frV c' hv' b'] w fun e w' => e = .returned (.bool (sameB c b H c' b' H')) ∧ Below w.heap.size w w' := by
  obtain ⟨a, cp, e⟩ : ∃ a cp, hv = .slice a H.length cp := by
    rcases h with ⟨⟨a, cp, rfl⟩, rfl⟩ | ⟨g, o, cp, rfl, _⟩
    · exact ⟨_, _, rfl⟩
    · exact ⟨_, _, rfl⟩
  obtain ⟨a', cp', e'⟩ : ∃ a cp, hv' = .slice a H'.length cp := by
    rcases h' with ⟨⟨a, cp, rfl⟩, rfl⟩ | ⟨g, o, cp, rfl, _⟩
    · exact ⟨_, _, rfl⟩
    · exact ⟨_, _, rfl⟩
  unfold sameB
  by_cases h1 : c = c'
  · by_cases h2 : b = b'
    · by_cases h3 : H.length = H'.length
      · subst h1 h2
        rw [decide_eq_true rfl, decide_eq_true rfl, Bool.true_and, Bool.true_and]
        rcases h with ⟨⟨x, y, rfl⟩, rfl⟩ | ⟨g, o, cpp, rfl, _, hc⟩
        · obtain rfl : H' = [] := List.length_eq_zero_iff.1 h3.symm
          subst e'
          exact same_zero w c b x a' y cp'
        · rcases h' with ⟨⟨x, y, rfl⟩, rfl⟩ | ⟨g', o', cpp', rfl, _, hc'⟩
          · obtain rfl : H = [] := List.length_eq_zero_iff.1 h3
            exact same_zero w c b _ _ _ _
          · have := same_some w c b H H' g o cpp g' o' cpp' H.length hc hc' rfl h3.symm hl
            rw [← h3]
            exact this
      · have : decide (H = H') = false := decide_eq_false (fun e => h3 (by rw [e]))
        rw [this, Bool.and_false, Bool.and_false]
        exact same_no w c b c' b' hv hv' _ _ a a' cp cp' e e' (.inr (.inr ⟨by rw [beq_l]; simpa using h1, by rw [beq_l]; simpa using h2, h3⟩))
    · rw [decide_eq_false h2, Bool.false_and, Bool.and_false]
      exact same_no w c b c' b' hv hv' _ _ a a' cp cp' e e' (.inr (.inl ⟨by rw [beq_l]; simpa using h1, by rw [beq_l]; simpa using h2⟩))
  · rw [decide_eq_false h1, Bool.false_and]
    exact same_no w c b c' b' hv hv' _ _ a a' cp cp' e e' (.inl (by rw [beq_l]; simpa using h1))
end Go.Proofs.YtfdbekfbbihdgaaDoor
