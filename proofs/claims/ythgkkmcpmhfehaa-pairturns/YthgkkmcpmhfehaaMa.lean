/- What is laid on a stretch, and what is found there. -/
import Derived.Test.YthgkkmcpmhfehaaLt
namespace Go.Proofs.Ythgkkmcpmhfehaa
open Go.RowKit Go.Lib
set_option maxRecDepth 100000

theorem splice_len (P : List UInt8) (o : Nat) (a : List UInt8) (h : o + a.length ≤ P.length) : (splice P o a).length = P.length := by
  simp [splice]; omega
theorem splice_next (P : List UInt8) (o : Nat) (a b : List UInt8) (h : o + a.length + b.length ≤ P.length) : splice (splice P o a) (o + a.length) b = splice P o (a ++ b) := by
  apply List.ext_getElem?
  intro k
  rw [splice_get _ _ _ (by rw [splice_len _ _ _ (by omega)]; omega), splice_get _ _ _ (by omega), splice_get _ _ _ (by rw [List.length_append]; omega), List.length_append]
  by_cases h1 : o ≤ k ∧ k < o + a.length
  · rw [if_neg (by omega), if_pos h1, if_pos (by omega), List.getElem?_append_left (by omega)]
  · by_cases h2 : o + a.length ≤ k ∧ k < o + a.length + b.length
    · rw [if_pos h2, if_pos (by omega), List.getElem?_append_right (by omega)]
      congr 1; omega
    · rw [if_neg h2, if_neg h1, if_neg (by omega)]
theorem splice_over (P : List UInt8) (o : Nat) (a b : List UInt8) (h : o + a.length ≤ P.length) (hb : b.length ≤ a.length) : splice (splice P o a) o b = splice P o (b ++ a.drop b.length) := by
  have hl : (b ++ a.drop b.length).length = a.length := by rw [List.length_append, List.length_drop]; omega
  apply List.ext_getElem?
  intro k
  rw [splice_get _ _ _ (by rw [splice_len _ _ _ h]; omega), splice_get _ _ _ h, splice_get _ _ _ (by rw [hl]; exact h), hl]
  by_cases h1 : o ≤ k ∧ k < o + b.length
  · rw [if_pos h1, if_pos (by omega), List.getElem?_append_left (by omega)]
  · rw [if_neg h1]
    by_cases h2 : o ≤ k ∧ k < o + a.length
    · rw [if_pos h2, if_pos h2, List.getElem?_append_right (by omega), List.getElem?_drop]
      congr 1; omega
    · rw [if_neg h2, if_neg h2]

theorem runW0 (i : Nat) (I : List UInt8) (S : DS) (N : Nat) (hI : I.length = N * 256) (hP : (i + N) * 256 ≤ S.P.length) (ha : S.armed = 0) : ∀ k, k ≤ N → (runW i I S k).2 = 0 ∧ (runW i I S k).1.P = splice S.P (i * 256) (I.take (k * 256)) ∧ (runW i I S k).1.armed = 0 ∧ (runW i I S k).1.keep = S.keep
  | 0, _ => ⟨rfl, by rw [Nat.zero_mul, List.take_zero, splice_nil]; rfl, ha, rfl⟩
  | k + 1, hk => by
    obtain ⟨e1, e2, e3, e4⟩ := runW0 i I S N hI hP ha k (by omega)
    have hr : runW i I S (k + 1) = ((runW i I S k).1.put (i + k) (pgI I k)).oper := by rw [runW, if_pos e1]
    have ho : ((runW i I S k).1.put (i + k) (pgI I k)).oper = ({ (runW i I S k).1.put (i + k) (pgI I k) with ops := ((runW i I S k).1.put (i + k) (pgI I k)).ops + 1 }, 0) := by
      unfold DS.oper; rw [if_pos (show ((runW i I S k).1.put (i + k) (pgI I k)).armed = 0 from e3)]
    rw [hr, ho]
    have hk9 := Nat.mul_le_mul_right 256 hk
    refine ⟨rfl, ?_, e3, e4⟩
    show splice (runW i I S k).1.P ((i + k) * 256) (pgI I k) = _
    have hl : (I.take (k * 256)).length = k * 256 := by rw [List.length_take]; omega
    have hpl : (pgI I k).length = 256 := by unfold pgI; rw [List.length_take, List.length_drop]; omega
    rw [e2, show (i + k) * 256 = i * 256 + (I.take (k * 256)).length by rw [hl]; omega, splice_next _ _ _ _ (by rw [hl, hpl]; omega)]
    congr 1
    unfold pgI
    rw [show (k + 1) * 256 = k * 256 + 256 by omega, List.take_add]

theorem layE0 (S : DS) (i N pf : Nat) (I : List UInt8) (hI : I.length = N * 256) (hN : 1 ≤ N) (hpf : pf < 256) (hP : (i + N) * 256 ≤ S.P.length) (ha : S.armed = 0) (hd : S.down = false) :
    (layE S i I N pf).2 = 0 ∧ (layE S i I N pf).1.P = splice S.P (i * 256) (I.set pf 1) ∧ (layE S i I N pf).1.armed = 0 ∧ (layE S i I N pf).1.down = false ∧ (layE S i I N pf).1.W = [] ∧ (layE S i I N pf).1.ops = S.ops + N + 3 ∧ (layE S i I N pf).1.keep = S.keep := by
  obtain ⟨e1, e2, e3, e4⟩ := runW0 i I S N hI hP ha N (Nat.le_refl _)
  obtain ⟨d1, d2, d3⟩ := runW_zero i I S hd N e1
  have hf : ∀ D : DS, D.armed = 0 → D.down = false → D.flush = ({ D with ops := D.ops + 1, W := [] }, 0) := fun D h1 h2 => by
    unfold DS.flush DS.oper; rw [h2, if_pos h1]; rfl
  have hr := hf _ e3 d1
  have ho : ((runW i I S N).1.flush.1.put i (pgI (I.set pf 1) 0)).oper = ({ (runW i I S N).1.flush.1.put i (pgI (I.set pf 1) 0) with ops := ((runW i I S N).1.flush.1.put i (pgI (I.set pf 1) 0)).ops + 1 }, 0) := by
    unfold DS.oper; rw [if_pos (by rw [hr]; exact e3)]
  have hg := hf ((runW i I S N).1.flush.1.put i (pgI (I.set pf 1) 0)).oper.1 (by rw [ho, hr]; exact e3) (by rw [ho, hr]; exact d1)
  have hall : layE S i I N pf = ((runW i I S N).1.flush.1.put i (pgI (I.set pf 1) 0)).oper.1.flush := by
    unfold layE
    rw [if_neg (by simp [e1]), if_neg (by rw [hr]; simp), if_neg (by rw [ho]; simp)]
  rw [hall, hg]
  refine ⟨rfl, ?_, ?_, ?_, rfl, ?_, ?_⟩
  · rw [ho, hr]
    show splice (runW i I S N).1.P (i * 256) (pgI (I.set pf 1) 0) = _
    have hpl : (pgI (I.set pf 1) 0).length = 256 := by unfold pgI; rw [List.length_take, List.length_drop, List.length_set]; omega
    rw [e2, show I.take (N * 256) = I from List.take_of_length_le (by omega), splice_over _ _ _ _ (by omega) (by omega), hpl]
    congr 1
    unfold pgI
    rw [Nat.zero_mul, List.drop_zero]
    apply List.ext_getElem?
    intro k
    by_cases h1 : k < 256
    · rw [List.getElem?_append_left (by rw [List.length_take, List.length_set]; omega), List.getElem?_take, if_pos h1]
    · rw [List.getElem?_append_right (by rw [List.length_take, List.length_set]; omega), List.length_take, List.length_set, List.getElem?_drop, List.getElem?_set, if_neg (by omega)]
      congr 1; omega
  · rw [ho, hr]; exact e3
  · rw [ho, hr]; exact d1
  · rw [ho, hr]; show (runW i I S N).1.ops + 1 + 1 + 1 = _; omega
  · rw [ho, hr]; exact e4

/-- A list is laid at a place: what is there then. -/
theorem cut_get (P : List UInt8) (lo p m k : Nat) (h : k < m) : (cutB P lo p m)[k]? = P[lo * 256 + p + k]? := by
  unfold cutB; rw [List.getElem?_take, if_pos h, List.getElem?_drop]
theorem frB_mark (c : Nat) (r : List UInt8) : (frB 0 c r).set 0 1 = frB 1 c r := rfl
/-- How many raw operations a record takes. -/
def opsN (p l size : Nat) : Nat := (tillOf p (12 + l) size - p / 256 * 256) / 256 + 3
theorem opsN_le (p l size : Nat) : opsN p l size ≤ l + 300 := by unfold opsN tillOf; omega
/-- What lay makes of a drum's bytes where nothing is armed. -/
theorem layD0 (S : DS) (lo hi p c : Nat) (r : List UInt8) (n : Nat) (hP : S.P.length = n * 256) (hlh : lo ≤ hi) (hh : hi ≤ n) (hpl : p + (12 + r.length) ≤ (hi - lo) * 256) (ha : S.armed = 0) (hd : S.down = false) :
    (layD S lo p (frB 0 c r) ((hi - lo) * 256)).2 = 0 ∧ (layD S lo p (frB 0 c r) ((hi - lo) * 256)).1.armed = 0 ∧ (layD S lo p (frB 0 c r) ((hi - lo) * 256)).1.down = false ∧ (layD S lo p (frB 0 c r) ((hi - lo) * 256)).1.W = [] ∧ (layD S lo p (frB 0 c r) ((hi - lo) * 256)).1.ops = S.ops + opsN p r.length ((hi - lo) * 256) ∧
    (layD S lo p (frB 0 c r) ((hi - lo) * 256)).1.P.length = n * 256 ∧
    (∀ k, k < lo * 256 + p → (layD S lo p (frB 0 c r) ((hi - lo) * 256)).1.P[k]? = S.P[k]?) ∧
    (∀ k, k < 12 + r.length → (layD S lo p (frB 0 c r) ((hi - lo) * 256)).1.P[lo * 256 + p + k]? = (frB 1 c r)[k]?) ∧
    (p + (12 + r.length) < (hi - lo) * 256 → (layD S lo p (frB 0 c r) ((hi - lo) * 256)).1.P[lo * 256 + p + (12 + r.length)]? = some 0) ∧
    (∀ k, hi * 256 ≤ k → (layD S lo p (frB 0 c r) ((hi - lo) * 256)).1.P[k]? = S.P[k]?) := by
  have hfl := frB_length 0 c r
  obtain ⟨F, hF⟩ : ∃ F, F = frB 0 c r := ⟨_, rfl⟩
  have hF1 : F.set 0 1 = frB 1 c r := by rw [hF]; exact frB_mark c r
  rw [← hF] at hfl ⊢
  obtain ⟨T, hT⟩ : ∃ T, T = tillOf p F.length ((hi - lo) * 256) := ⟨_, rfl⟩
  have hT9 : p + F.length ≤ T ∧ T ≤ (hi - lo) * 256 ∧ T % 256 = 0 ∧ p / 256 * 256 ≤ T ∧ T ≤ p + F.length + 256 ∧ (p + F.length < (hi - lo) * 256 → p + F.length < T) := by rw [hT]; unfold tillOf; omega
  obtain ⟨A, hA⟩ : ∃ A, A = cutB S.P lo (p / 256 * 256) (p - p / 256 * 256) := ⟨_, rfl⟩
  have hAl : A.length = p - p / 256 * 256 := by rw [hA]; exact cutB_length _ _ _ _ (by omega)
  have hIl : (imgOf S.P lo p F T).length = (T - p / 256 * 256) / 256 * 256 := by
    unfold imgOf; rw [← hA, List.length_append, List.length_append, List.length_replicate, hAl]; omega
  have hlay : layD S lo p F ((hi - lo) * 256) = layE S (lo + p / 256) (imgOf S.P lo p F T) ((T - p / 256 * 256) / 256) (p - p / 256 * 256) := by unfold layD; rw [← hT]
  rw [hlay]
  obtain ⟨g1, g2, g3, g4, g5, g6, g7⟩ := layE0 S (lo + p / 256) ((T - p / 256 * 256) / 256) (p - p / 256 * 256) (imgOf S.P lo p F T) hIl (by omega) (by omega) (by omega) ha hd
  have hset : (imgOf S.P lo p F T).set (p - p / 256 * 256) 1 = A ++ frB 1 c r ++ List.replicate (T - (p + F.length)) 0 := by
    unfold imgOf
    rw [← hA, ← hF1, List.append_assoc, List.append_assoc, List.set_append_right _ _ (by omega), hAl, Nat.sub_self, List.set_append_left _ _ (by omega)]
  have hf1l : (frB 1 c r).length = 12 + r.length := frB_length 1 c r
  rw [hset] at g2
  have hle : (lo + p / 256) * 256 + (A ++ frB 1 c r ++ List.replicate (T - (p + F.length)) 0).length ≤ S.P.length := by
    rw [List.length_append, List.length_append, List.length_replicate, hAl, hf1l]; omega
  have hget := fun k => splice_get S.P ((lo + p / 256) * 256) (A ++ frB 1 c r ++ List.replicate (T - (p + F.length)) 0) hle k
  have hll : (A ++ frB 1 c r ++ List.replicate (T - (p + F.length)) (0 : UInt8)).length = T - p / 256 * 256 := by
    rw [List.length_append, List.length_append, List.length_replicate, hAl, hf1l]; omega
  refine ⟨g1, g3, g4, g5, by rw [g6, opsN, ← hfl, ← hT]; omega, by rw [g2, splice_len _ _ _ hle, hP], fun k hk => ?_, fun k hk => ?_, fun hk => ?_, fun k hk => ?_⟩
  · rw [g2, hget]
    by_cases h1 : (lo + p / 256) * 256 ≤ k ∧ k < (lo + p / 256) * 256 + (A ++ frB 1 c r ++ List.replicate (T - (p + F.length)) 0).length
    · rw [if_pos h1, List.append_assoc, List.getElem?_append_left (by omega), hA, cut_get _ _ _ _ _ (by omega)]
      congr 1; omega
    · rw [if_neg h1]
  · rw [g2, hget, if_pos (by rw [hll]; omega), List.append_assoc, List.getElem?_append_right (by omega), List.getElem?_append_left (by omega)]
    congr 1; omega
  · rw [g2, hget, if_pos (by rw [hll]; omega), List.getElem?_append_right (by rw [List.length_append]; omega), List.getElem?_replicate, if_pos (by rw [List.length_append]; omega)]
  · rw [g2, hget, if_neg (by rw [hll]; omega)]
end Go.Proofs.Ythgkkmcpmhfehaa
