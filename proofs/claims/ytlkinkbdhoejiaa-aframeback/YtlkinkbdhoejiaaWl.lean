/- aframe.Encode and Next, and the document's own, of any frame and any bytes; what stands ahead of each statement of the layer. Conditions: those that each row states. -/
import Derived.Test.YtlkinkbdhoejiaaWk
import Derived.Test.YtlkinkbdhoejiaaMrd
namespace Go.Proofs.Ytlkinkbdhoejiaa
open Go.RowKit Go.Lib
set_option maxRecDepth 100000

theorem next_any (w : World) (l : List UInt8) (hl : l.length ≤ 140000000000000) : Calls Try.prog 11 #[str l] w fun e w' => e = .returned (nrV (nextL l)) ∧ Below w.heap.size w w' := by
  by_cases h0 : l = []
  · subst h0
    exact next_nil w
  · have h1 : 0 < l.length := List.length_pos_iff.2 h0
    cases ht : tyZ ((l.getD 0 0).toNat : Int) with
    | false =>
      have e : nextL l = ⟨0, 0, [], 0, 40⟩ := by unfold nextL; rw [if_pos ⟨h0, ht⟩]
      rw [e]
      exact next_odd w l hl h1 ht
    | true =>
      have n1 : ¬ (l ≠ [] ∧ tyZ ((l.getD 0 0).toNat : Int) = false) := by rw [ht]; simp
      by_cases h7 : l.length < 7
      · have e : nextL l = ⟨0, 0, [], 0, 41⟩ := by unfold nextL; rw [if_neg n1, if_pos h7]
        rw [e]
        exact next_short w l h1 h7 ht
      · by_cases hn : 16384 < numL ((l.drop 3).take 4)
        · have e : nextL l = ⟨0, 0, [], 0, 40⟩ := by unfold nextL; rw [if_neg n1, if_neg h7, if_pos hn]
          rw [e]
          exact next_far w l hl (by omega) ht hn
        · by_cases hle : l.length ≤ 7 + numL ((l.drop 3).take 4)
          · have e : nextL l = ⟨0, 0, [], 0, 41⟩ := by unfold nextL; rw [if_neg n1, if_neg h7, if_neg hn, if_pos hle]
            rw [e]
            exact next_less w l hl (by omega) ht (by omega) hle
          · by_cases hd : l.getD (7 + numL ((l.drop 3).take 4)) 0 ≠ 206
            · have e : nextL l = ⟨0, 0, [], 0, 40⟩ := by unfold nextL; rw [if_neg n1, if_neg h7, if_neg hn, if_neg hle, if_pos hd]
              rw [e]
              exact next_mark w l hl (by omega) ht (by omega) (by omega) hd
            · have e : nextL l = ⟨(l.getD 0 0).toNat, numL ((l.drop 1).take 2), (l.drop 7).take (numL ((l.drop 3).take 4)), numL ((l.drop 3).take 4) + 8, 0⟩ := by unfold nextL; rw [if_neg n1, if_neg h7, if_neg hn, if_neg hle, if_neg hd]
              rw [e]
              exact next_ok w l hl (by omega) ht (by omega) (by omega) (by simpa using hd)

theorem rnext_any (w : World) (l : List UInt8) (hl : l.length ≤ 140000000000000) : Calls Try.prog 12 #[str l] w fun e w' => e = .returned (nrV (nextL l)) ∧ Below w.heap.size w w' := by
  by_cases h0 : l = []
  · subst h0
    exact rnext_nil w
  · have h1 : 0 < l.length := List.length_pos_iff.2 h0
    cases ht : tyZ ((l.getD 0 0).toNat : Int) with
    | false =>
      have e : nextL l = ⟨0, 0, [], 0, 40⟩ := by unfold nextL; rw [if_pos ⟨h0, ht⟩]
      rw [e]
      exact rnext_odd w l h1 ht
    | true =>
      by_cases h7 : l.length < 7
      · have e : nextL l = ⟨0, 0, [], 0, 41⟩ := by unfold nextL; rw [if_neg (by rw [ht]; simp), if_pos h7]
        rw [e]
        exact rnext_short w l h1 h7 ht
      · exact rnext_long w l hl (by omega) ht

/-- What both encoders answer of a frame: its bytes and the error's number. -/
def encB (t c : Int) (p : List UInt8) : List UInt8 := if okF t c p = true then frL t.toNat c.toNat p else []
def encE (t c : Int) (p : List UInt8) : Int := if okF t c p = true then 0 else 1
theorem enc_any (w : World) (t c : Int) (p : List UInt8) (hp : p.length ≤ 140000000000000) : Calls Try.prog 9 #[frV t c p] w fun e w' => ∃ v, e = .returned (.tuple #[v, .int .i64 (encE t c p)]) ∧ Own w' w.heap.size v (encB t c p) ∧ Below w.heap.size w w' := by
  cases h : okF t c p with
  | true =>
    obtain ⟨a, b, rfl, rfl, h1, h2, h3, h4⟩ := okF_nat t c p h
    simp only [encB, encE, h, if_true, Int.toNat_natCast]
    exact enc_ok w a b p h1 h3 h4
  | false =>
    simp only [encB, encE, h]
    refine (enc_bad w t c p hp h).mono ?_
    rintro e w' ⟨rfl, hb⟩
    exact ⟨_, rfl, Own.nil _ _, hb⟩
theorem renc_any (w : World) (t c : Int) (p : List UInt8) (hp : p.length ≤ 140000000000000) : Calls Try.prog 10 #[frV t c p] w fun e w' => ∃ v, e = .returned (.tuple #[v, .int .i64 (encE t c p)]) ∧ Own w' w.heap.size v (encB t c p) ∧ Below w.heap.size w w' := by
  cases h : okF t c p with
  | true =>
    obtain ⟨a, b, rfl, rfl, h1, h2, h3, h4⟩ := okF_nat t c p h
    simp only [encB, encE, h, if_true, Int.toNat_natCast]
    exact renc_ok w a b p h1 h2 h3 h4
  | false =>
    simp only [encB, encE, h]
    refine (renc_bad w t c p hp h).mono ?_
    rintro e w' ⟨rfl, hb⟩
    exact ⟨_, rfl, Own.nil _ _, hb⟩

set_option maxHeartbeats 400000 in
theorem wakes_any (w : World) : Calls Try.prog 8 #[] w fun e w' => e = .returned (.bool true) ∧ Below w.heap.size w w' := by
  have E : ∀ w, Calls Try.prog 9 #[.agg #[.int .i64 8, .int .i64 0, .string { data := #[] }]] w fun e w' => ∃ v, e = .returned (.tuple #[v, .int .i64 0]) ∧ Own w' w.heap.size v [8, 0, 0, 0, 0, 0, 0, 206] ∧ Below w.heap.size w w' := fun w => enc_ok w 8 0 [] (by decide) (by decide) (by decide)
  have H : ∀ w, Calls Try.prog 14 #[.int .i64 5, .slice none 0 0, .bool true] w fun e w' => ∃ v, e = .returned (.tuple #[v, .int .i64 0]) ∧ Own w' w.heap.size v [0, 60, 0, 0, 0, 0, 0, 0, 0, 0, 0, 5, 16, 0, 2] ∧ Below w.heap.size w w' := fun w => head_none w 5 true 2 rfl (by decide)
  have X : ∀ w, Calls Try.prog 11 #[.string { data := #[71, 69, 84, 32, 47] }] w fun e w' => e = .returned (.tuple #[.agg #[.int .i64 0, .int .i64 0, .string { data := #[] }], .int .i64 0, .int .i64 40]) ∧ Below w.heap.size w w' := fun w => next_odd w [71, 69, 84, 32, 47] (by decide) (by decide) (by decide)
  go_enter Try.func8, Try.ntmps8
  go_wp2_with fail
  refine (E _).mono ?_
  rintro e w1 ⟨v1, rfl, ho1, hb1⟩
  go_wp2_with fail
  refine (H _).mono ?_
  rintro e w2 ⟨v2, rfl, ho2, hb2⟩
  have ho1' := ho1.on hb2
  have hB2 := hb1.trans (hb2.mono hb1.size)
  clear ho1 hb1 hb2 E H
  go_wp2_with fail
  refine (X _).mono ?_
  rintro e w3 ⟨rfl, hb3⟩
  have hbn := below_new w3 (.cells #[.int .i64 0, .int .i64 0, .string { data := #[] }] 23)
  have q1 := conv_any ((ho1'.on hb3).on hbn).rd
  have q2 := conv_any ((ho2.on hb3).on hbn).rd
  have hB3 := hB2.trans ((hb3.mono hB2.size).trans (hbn.mono (Nat.le_trans hB2.size hb3.size)))
  clear ho1' ho2 hb3 hB2 X hbn
  go_wp2_with fail
  go_ret
  exact ⟨rfl, hB3⟩
end Go.Proofs.Ytlkinkbdhoejiaa
