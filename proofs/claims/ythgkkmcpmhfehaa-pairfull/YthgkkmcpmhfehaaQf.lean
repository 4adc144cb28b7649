/- PairFull walked. -/
import Derived.Test.YthgkkmcpmhfehaaPv
namespace Go.Proofs.Ythgkkmcpmhfehaa
open Go.RowKit Go.Lib Go.Shelf
set_option maxRecDepth 100000

theorem tot_rep (k : Nat) (r : List UInt8) : tot (List.replicate k r) = k * (12 + r.length) := by
  induction k with
  | zero => simp [tot]
  | succ k ih => rw [List.replicate_succ', tot_snoc, ih, Nat.succ_mul]

set_option maxHeartbeats 8000000 in
theorem full_any (w : World) (z : Int) (vr vs : Value) (r s : List UInt8) (hr : Sl.RdA w vr r) (hs : Sl.RdA w vs s) (hrl : r.length ≤ 140737488355328) (hsl : s.length ≤ 140737488355328) :
    Calls Try.prog 5 #[.int .i64 z, vr, vs] w fun e w' => e = .returned (.bool true) ∧ Below w.heap.size w w' := by
  have hmix : Try.prog.follows .mixedOrders = true := by kernel_rfl
  obtain ⟨ra, rc, rfl⟩ := hr.len
  obtain ⟨sa, sc, rfl⟩ := hs.len
  have HR : Hid _ := hr
  have HS : Hid _ := hs
  clear hr hs
  have hnot : ∀ (b : Bool) (w : World), (Op.unary .not (.bool b)).run Try.prog w = .ok (.bool (!b)) w := fun _ _ => rfl
  go_enter Try.func5, Try.ntmps5
  go_wp2_with fail
  refine (wakes_any w).mono ?_
  rintro e w0 ⟨rfl, hb0⟩
  by_cases hbig : z < 5 ∨ 60 < z ∨ 2048 < r.length ∨ 8192 < s.length
  · rcases hbig with h1 | h1 | h1 | h1
    · go_wp2_with fail
      go_ret
      exact ⟨rfl, hb0⟩
    · by_cases h0 : z < 5
      · go_wp2_with fail
        go_ret
        exact ⟨rfl, hb0⟩
      · go_wp2_with fail
        go_ret
        exact ⟨rfl, hb0⟩
    · have h1' : (2048 : Int) < (r.length : Int) := by omega
      by_cases h0 : z < 5
      · go_wp2_with fail
        go_ret
        exact ⟨rfl, hb0⟩
      · by_cases h00 : 60 < z
        · go_wp2_with fail
          go_ret
          exact ⟨rfl, hb0⟩
        · go_wp2_with fail
          go_ret
          exact ⟨rfl, hb0⟩
    · have h1' : (8192 : Int) < (s.length : Int) := by omega
      by_cases h0 : z < 5
      · go_wp2_with fail
        go_ret
        exact ⟨rfl, hb0⟩
      · by_cases h00 : 60 < z
        · go_wp2_with fail
          go_ret
          exact ⟨rfl, hb0⟩
        · by_cases h000 : (2048 : Int) < (r.length : Int)
          · go_wp2_with fail
            go_ret
            exact ⟨rfl, hb0⟩
          · go_wp2_with fail
            go_ret
            exact ⟨rfl, hb0⟩
  have i1 : ¬ z < 5 := by omega
  have i2 : ¬ 60 < z := by omega
  have i3 : ¬ (2048 : Int) < (r.length : Int) := by omega
  have i4 : ¬ (8192 : Int) < (s.length : Int) := by omega
  have hrl2 : r.length ≤ 2048 := by omega
  have hsl2 : s.length ≤ 8192 := by omega
  clear hbig hrl hsl
  obtain ⟨n, rfl⟩ : ∃ n : Nat, z = (n : Int) := ⟨z.toNat, by omega⟩
  have hn5 : 5 ≤ n := by omega
  have hn60 : n ≤ 60 := by omega
  have N10 := new_open w0 n hn5 (by omega)
  go_wp2_with fail
  refine N10.mono ?_
  rintro e w1 ⟨X0, q, S0, rfl, hdr0, hpp0, hW0, hops0, har0, hdn0, hb1, hX0⟩
  have hb01 : Below w.heap.size w w1 := hb0.trans (hb1.mono hb0.size)
  have N12 := first_pa w w1 X0 q n S0 hdr0 hpp0 hW0 har0 hdn0 hb01 (fun k hk => Nat.le_trans hb0.size (hX0 k hk)) hn5
  clear N10 i1 i2 i3 i4
  go_wp2_with fail
  refine N12.mono ?_
  rintro e w2 ⟨v1, v2, p, t, rfl, ⟨sa6, sc6, rfl⟩, ⟨ra6, rc6, rfl⟩, hpa⟩
  clear N12 hb01 hdr0 hpp0 hW0 har0 hdn0 hX0 hb1 hb0
  have HL : Hid (12 ≤ 12 + r.length ∧ r.length ≤ 2048) := by
    have : 12 ≤ 12 + r.length ∧ r.length ≤ 2048 := ⟨by omega, hrl2⟩
    exact this
  have hspn : spanN n ≤ 29 := by unfold spanN; omega
  have ht0 : takesN ([] : List UInt8).length = 1 := rfl
  have hms : ∀ (M m : Nat), M * (12 + r.length) ≤ m * 256 → m ≤ 29 → M ≤ 700 := fun M m h1 h2 => by
    have : M * 12 ≤ M * (12 + r.length) := Nat.mul_le_mul_left _ (by omega)
    omega
  have HMS : Hid _ := hms
  clear hms
  go_wp2_with fail
  go_loopw [12] (fun i wr => ∃ (k : Nat) (X : Nat → Prop) (S : DS), i = .int .i64 k ∧ PA w wr X p t q n S 0 [] (List.replicate k r) ∧ k * (12 + r.length) ≤ (spanN n - 1) * 256 ∧ S.ops ≤ 14 * k) (fun i _ => 1000 - (RowKit.intOf i).toNat)
  case atStart => exact ⟨0, X0, S0, rfl, hpa, by omega, by omega⟩
  case round =>
    obtain ⟨k, X, S, rfl, hpk, hk, hok⟩ := hrel
    have hk7 := HMS.out k (spanN n - 1) hk (by omega)
    by_cases hroom : (k + 1) * (12 + r.length) ≤ (spanN n - 1) * 256
    · have N14 := append_pa w wr X p t q n S 0 [] (List.replicate k r) hpk (by omega) (by rw [List.length_replicate]; omega) r _ (Sl.RdA.on HR.out hpk.bel) (by omega) (by rw [tot_rep, ht0, ← Nat.succ_mul]; exact hroom)
      rw [← List.replicate_succ'] at N14
      have hk8 := HMS.out (k + 1) (spanN n - 1) hroom (by omega)
      go_wp2_with fail
      refine N14.mono ?_
      rintro e w3 ⟨rfl, X3, S3, hp3, ho3, _, _, _⟩
      go_wp2
      exact ⟨⟨k + 1, X3, S3, by go_num, hp3, hroom, by omega⟩, by simp [RowKit.intOf]; omega⟩
    · have N14 := append_pafull w wr X p t q n S 0 [] (List.replicate k r) hpk r ra rc (by omega) (by rw [tot_rep, ht0, ← Nat.succ_mul]; exact Nat.lt_of_not_le hroom)
      go_wp2_with fail
      refine N14.mono ?_
      rintro e w3 ⟨rfl, hp3⟩
      have N31 := ops_pa w w3 X p t q n S 0 [] (List.replicate k r) hp3
      have N14b := append_pafull w w3 X p t q n S 0 [] (List.replicate k r) hp3 r ra rc (by omega) (by rw [tot_rep, ht0, ← Nat.succ_mul]; exact Nat.lt_of_not_le hroom)
      go_wp2_with (go_at_call 31; refine N31.mono ?_; rintro e w9 ⟨rfl, hw9⟩; have hw9 := hw9.symm; subst hw9)
      refine N14b.mono ?_
      rintro e w4 ⟨rfl, hp4⟩
      have N31b := ops_pa w w4 X p t q n S 0 [] (List.replicate k r) hp4
      have N28 := count_pa w w4 X p t q n S 0 [] (List.replicate k r) hp4
      rw [List.length_replicate] at N28
      have d1 : ((n : Int) - 1).tdiv 2 = ((spanN n : Nat) : Int) := by rw [Int.tdiv_eq_ediv_of_nonneg (by omega)]; unfold spanN; omega
      have d2 : (12 + (s.length : Int) + 255).tdiv 256 = ((takesN s.length : Nat) : Int) := by rw [Int.tdiv_eq_ediv_of_nonneg (by omega)]; unfold takesN; omega
      have hsn0 : takesN s.length ≤ 40 := by unfold takesN; omega
      have hnr : ¬ (k + 1) * (12 + r.length) ≤ (spanN n - 1) * 256 := hroom
      clear hroom N14 N14b N31
      by_cases hfit : takesN s.length < spanN n
      · have hfit' : ((takesN s.length : Nat) : Int) < ((spanN n : Nat) : Int) := by omega
        have N16 := save_pa w w4 X p t q n S 0 [] (List.replicate k r) hp4 (by omega) s _ (Sl.RdA.on HS.out hp4.bel) (by omega) hfit
        obtain ⟨tk, htk⟩ : ∃ tk, takesN s.length = tk := ⟨_, rfl⟩
        obtain ⟨sp, hsp⟩ : ∃ sp, spanN n = sp := ⟨_, rfl⟩
        rw [htk, hsp] at hfit'
        rw [htk] at d2
        rw [hsp] at d1
        go_wp2_with (first | (go_at_call 31; refine N31b.mono ?_; rintro e w9 ⟨rfl, hw9⟩; have hw9 := hw9.symm; subst hw9) | (go_at_call 28; refine N28.mono ?_; rintro e w9 ⟨rfl, hw9⟩; have hw9 := hw9.symm; subst hw9))
        refine N16.mono ?_
        rintro e w5 ⟨rfl, X5, S5, t5, hp5, ho5, _, _, _, _⟩
        have N28b := count_pa w w5 X5 p t5 q n S5 (1 - 0) s [] hp5
        have hc0 : (([] : List (List UInt8)).length : Int) = 0 := rfl
        rw [hc0] at N28b
        clear N31b N28 N16 hc0
        go_wp2_with (go_at_call 28; refine N28b.mono ?_; rintro e w9 ⟨rfl, hw9⟩; have hw9 := hw9.symm; subst hw9)
        go_loopw [16] (fun i wr => ∃ (k2 : Nat) (X : Nat → Prop) (S : DS), i = .int .i64 k2 ∧ PA w wr X p t5 q n S (1 - 0) s (List.replicate k2 r) ∧ k2 * (12 + r.length) ≤ (sp - tk) * 256 ∧ S.ops ≤ 14 * k2 + 20000) (fun i _ => 1000 - (RowKit.intOf i).toNat)
        case atStart => exact ⟨0, X5, S5, rfl, hp5, by omega, by omega⟩
        case round =>
          obtain ⟨k2, X6, S6, rfl, hpk2, hk2, hok2⟩ := hrel
          have hk27 := HMS.out k2 (sp - tk) hk2 (by omega)
          by_cases hroom : (k2 + 1) * (12 + r.length) ≤ (sp - tk) * 256
          · have N14 := append_pa w wr X6 p t5 q n S6 (1 - 0) s (List.replicate k2 r) hpk2 (by omega) (by rw [List.length_replicate]; omega) r _ (Sl.RdA.on HR.out hpk2.bel) (by omega) (by rw [tot_rep, htk, hsp, ← Nat.succ_mul]; exact hroom)
            rw [← List.replicate_succ'] at N14
            have hk28 := HMS.out (k2 + 1) (sp - tk) hroom (by omega)
            go_wp2_with fail
            refine N14.mono ?_
            rintro e w7 ⟨rfl, X7, S7, hp7, ho7, _, _, _⟩
            go_wp2
            exact ⟨⟨k2 + 1, X7, S7, by go_num, hp7, hroom, by omega⟩, by simp [RowKit.intOf]; omega⟩
          · have N14 := append_pafull w wr X6 p t5 q n S6 (1 - 0) s (List.replicate k2 r) hpk2 r ra rc (by omega) (by rw [tot_rep, htk, hsp, ← Nat.succ_mul]; exact Nat.lt_of_not_le hroom)
            go_wp2_with fail
            refine N14.mono ?_
            rintro e w7 ⟨rfl, hp7⟩
            have N28c := count_pa w w7 X6 p t5 q n S6 (1 - 0) s (List.replicate k2 r) hp7
            rw [List.length_replicate] at N28c
            have d3 : ((256 : Int) * ((sp : Int) - (tk : Int))).tdiv (12 + (r.length : Int)) = (k2 : Int) := by
              have e1 : (256 : Int) * ((sp : Int) - (tk : Int)) = (((sp - tk) * 256 : Nat) : Int) := by omega
              have e2 : (12 : Int) + (r.length : Int) = ((12 + r.length : Nat) : Int) := by omega
              rw [e1, e2, Int.tdiv_eq_ediv_of_nonneg (by omega)]
              have : (sp - tk) * 256 / (12 + r.length) = k2 := by
                apply Nat.div_eq_of_lt_le
                · exact hk2
                · exact Nat.lt_of_not_le hroom
              rw [← this]; rfl
            clear hfit hk2 hroom hnr hk
            go_wp2_with (go_at_call 28; refine N28c.mono ?_; rintro e w9 ⟨rfl, hw9⟩; have hw9 := hw9.symm; subst hw9)
            go_ret
            exact ⟨rfl, hp7.bel⟩
      · have hfit' : ¬ ((takesN s.length : Nat) : Int) < ((spanN n : Nat) : Int) := by omega
        have N16 := save_palong w w4 X p t q n S 0 [] (List.replicate k r) hp4 (by omega) s sa sc (by omega) hfit
        obtain ⟨tk, htk⟩ : ∃ tk, takesN s.length = tk := ⟨_, rfl⟩
        obtain ⟨sp, hsp⟩ : ∃ sp, spanN n = sp := ⟨_, rfl⟩
        rw [htk, hsp] at hfit'
        rw [htk] at d2
        rw [hsp] at d1
        go_wp2_with (first | (go_at_call 31; refine N31b.mono ?_; rintro e w9 ⟨rfl, hw9⟩; have hw9 := hw9.symm; subst hw9) | (go_at_call 28; refine N28.mono ?_; rintro e w9 ⟨rfl, hw9⟩; have hw9 := hw9.symm; subst hw9))
        refine N16.mono ?_
        rintro e w5 ⟨rfl, hp5, _⟩
        have N31c := ops_pa w w5 X p t q n S 0 [] (List.replicate k r) hp5
        have N28c := count_pa w w5 X p t q n S 0 [] (List.replicate k r) hp5
        rw [List.length_replicate] at N28c
        have hfn : ¬ tk < sp := by rw [← htk, ← hsp]; exact hfit
        have hfd : decide (tk < sp) = false := decide_eq_false hfn
        clear N31b N28 N16 hfn hfit' hfit
        go_wp2_with (first | (go_at_call 31; refine N31c.mono ?_; rintro e w9 ⟨rfl, hw9⟩; have hw9 := hw9.symm; subst hw9) | (go_at_call 28; refine N28c.mono ?_; rintro e w9 ⟨rfl, hw9⟩; have hw9 := hw9.symm; subst hw9))
        go_ret
        exact ⟨rfl, hp5.bel⟩
end Go.Proofs.Ythgkkmcpmhfehaa
