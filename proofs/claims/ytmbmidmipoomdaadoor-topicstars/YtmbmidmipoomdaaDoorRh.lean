/- The law TopicStars walked: it answers true of any text and any number. Condition: Vars, what the library's variables hold when the call begins. -/
import Derived.Test.YtmbmidmipoomdaaDoorRb
import Derived.Test.YtmbmidmipoomdaaDoorWd
import Derived.Deep.LoopGhost
import Derived.Laws.Concat
namespace Go.Proofs.YtmbmidmipoomdaaDoor
open Go.RowKit Go.Lib
set_option maxRecDepth 10000

/-- The words ahead of place k, the one at place i as a star, with dots between. -/
def starL (ws : List (List UInt8)) (i k : Nat) : List UInt8 := joinL ((ws.set i [42]).take k)
theorem join_snoc (ws : List (List UInt8)) (w : List UInt8) (h : ws ≠ []) : joinL (ws ++ [w]) = joinL ws ++ 46 :: w := by
  induction ws with
  | nil => exact absurd rfl h
  | cons a ws ih =>
    cases ws with
    | nil => rfl
    | cons b bs =>
      rw [List.cons_append, joinL_cons a _ (by simp), ih (by simp), joinL_cons a (b :: bs) (by simp)]
      simp
theorem head_join (ws : List (List UInt8)) (h : ws ≠ []) : headL ws = joinL ws ++ [46] := by
  induction ws with
  | nil => exact absurd rfl h
  | cons a ws ih =>
    cases ws with
    | nil => rfl
    | cons b bs =>
      rw [headL, ih (by simp), joinL_cons a (b :: bs) (by simp)]
      simp
theorem star_zero (ws : List (List UInt8)) (i : Nat) : starL ws i 0 = [] := rfl
theorem star_succ (ws : List (List UInt8)) (i k : Nat) (h : k < ws.length) : starL ws i (k + 1) = (if k = 0 then [] else starL ws i k ++ [46]) ++ (if i = k then [42] else ws[k]) := by
  unfold starL
  have hk : k < (ws.set i [42]).length := by rw [List.length_set]; exact h
  rw [List.take_succ_eq_append_getElem hk, List.getElem_set]
  by_cases h0 : k = 0
  · subst h0
    simp [joinL]
  · rw [join_snoc _ _ (List.length_pos_iff.1 (by rw [List.length_take, List.length_set]; omega)), if_neg h0, List.append_assoc]
    rfl
/-- What stands ahead of the star. -/
theorem star_head (ws : List (List UInt8)) (i : Nat) (h : i < ws.length) : (if i = 0 then [] else starL ws i i ++ [46]) = headL (ws.take i) := by
  by_cases h0 : i = 0
  · subst h0; rfl
  · rw [if_neg h0, head_join]
    · unfold starL
      rw [List.take_set_of_le (Nat.le_refl _)]
    · exact List.length_pos_iff.1 (by rw [List.length_take]; omega)
theorem star_all (ws : List (List UInt8)) (i : Nat) : starL ws i ws.length = joinL (ws.set i [42]) := by
  unfold starL
  rw [List.take_of_length_le (by rw [List.length_set]; exact Nat.le_refl _)]

theorem join_len_take (ws : List (List UInt8)) (i k : Nat) (hl : ∀ w ∈ ws, w.length ≤ 64) (hn : ws.length ≤ 8) : (starL ws i k).length ≤ 8000 := by
  have key : ∀ vs : List (List UInt8), (∀ w ∈ vs, w.length ≤ 64) → (joinL vs).length ≤ vs.length * 65 := by
    intro vs
    induction vs with
    | nil => intro _; simp [joinL]
    | cons a vs ih =>
      intro h
      have ha := h a (by simp)
      have hv := ih (fun w hw => h w (by simp [hw]))
      cases vs with
      | nil => simp [joinL]; omega
      | cons b bs =>
        rw [joinL_cons a _ (by simp), List.length_append, List.length_cons]
        simp only [List.length_cons] at *
        omega
  have h1 := key ((ws.set i [42]).take k) (fun w hw => by
    rcases List.mem_or_eq_of_mem_set (List.mem_of_mem_take hw) with h | rfl
    · exact hl w h
    · simp)
  rw [List.length_take, List.length_set] at h1
  unfold starL
  have : min k ws.length * 65 ≤ 8 * 65 := Nat.mul_le_mul_right _ (by omega)
  omega

attribute [-go_sem] run_string_add_if
set_option maxHeartbeats 4000000 in
theorem stars_law (w : World) (hv : Vars w) (l : List UInt8) (z : Int) (hz : -9223372036854775808 ≤ z ∧ z ≤ 9223372036854775807) : Calls Tryd.prog 7 #[str l, .int .i64 z] w fun e w' => e = .returned (.bool true) ∧ Below w.heap.size w w' := by
  have hs0 : St w w := ⟨hv, Below.refl _ _⟩
  have c9 := says9
  have cG := says10 l
  have cM := says14 l l
  rw [mat_self] at cM
  cases hg : good l with
  | false =>
    rw [hg] at cG cM
    go_enter Tryd.func7, Tryd.ntmps7
    go_wp2_with fail
    refine (c9 w _ hs0).mono ?_
    rintro e1 w1 ⟨rfl, hs1⟩
    go_wp2_with fail
    refine (cG w _ hs1).mono ?_
    rintro e2 w2 ⟨rfl, hs2⟩
    go_wp2_with fail
    refine (cM w _ hs2).mono ?_
    rintro e3 w3 ⟨rfl, hs3⟩
    go_wp2
    go_ret
    exact ⟨rfl, hs3.b⟩
  | true =>
    have hn := good_nums hg
    have cH := says14 [35] l
    rw [mat_hash] at cH
    rw [hg] at cG cM cH
    have cW := fun W => words_any W l (by omega)
    by_cases hneg : z < 0
    · obtain ⟨n, hn2⟩ : ∃ n, (wordsL l).length = n := ⟨_, rfl⟩
      simp only [hn2] at cW
      clear hn2
      go_enter Tryd.func7, Tryd.ntmps7
      go_wp2_with fail
      refine (c9 w _ hs0).mono ?_
      rintro e1 w1 ⟨rfl, hs1⟩
      go_wp2_with fail
      refine (cG w _ hs1).mono ?_
      rintro e2 w2 ⟨rfl, hs2⟩
      go_wp2_with fail
      refine (cW w2).mono ?_
      rintro e3 w3 ⟨b3, c3, rfl, _, hb3, _⟩
      have hs3 := hs2.go hb3
      go_wp2_with fail
      refine (cM w _ hs3).mono ?_
      rintro e4 w4 ⟨rfl, hs4⟩
      go_wp2_with fail
      refine (cH w _ hs4).mono ?_
      rintro e5 w5 ⟨rfl, hs5⟩
      go_wp2
      go_ret
      exact ⟨rfl, hs5.b⟩
    · obtain ⟨i, rfl⟩ : ∃ i : Nat, z = (i : Int) := ⟨z.toNat, by omega⟩
      by_cases hi : i < (wordsL l).length
      · have hneg : ¬ (i : Int) < 0 := by omega
        have hlt0 : ¬ (i : Int) ≥ ((wordsL l).length : Int) := by omega
        have cP := says14 (joinL ((wordsL l).set i [42])) l
        rw [mat_set l hg i hi] at cP
        have cX := says14 (l ++ [46, 97, 46, 35]) l
        rw [mat_more l hg] at cX
        have hX : ∀ W, _ := fun W => run_string_add_lists (P := Tryd.prog) (w := W) l [46, 97, 46, 35] (by omega) (by decide)
        have HQ : Hid ((headL ((wordsL l).take i)).length < 63 → Says 14 #[str (headL ((wordsL l).take i) ++ [35]), str l] (.bool true) ∧ ∀ W, (Op.stringOp .add ⟨(headL ((wordsL l).take i)).toArray⟩ ⟨[35].toArray⟩).run Tryd.prog W = .ok (.string ⟨(headL ((wordsL l).take i) ++ [35]).toArray⟩) W) := fun h => by
          refine ⟨?_, fun W => run_string_add_lists (P := Tryd.prog) (w := W) _ [35] (by omega) (by decide)⟩
          have := says14 (headL ((wordsL l).take i) ++ [35]) l
          rw [mat_head l hg i hi h] at this
          exact this
        have HD : Hid ((if i = 0 then [] else starL (wordsL l) i i ++ [46]) = headL ((wordsL l).take i)) := star_head _ i hi
        have HA : Hid (starL (wordsL l) i (wordsL l).length = joinL ((wordsL l).set i [42])) := star_all _ i
        have HS : Hid (∀ k (h : k < (wordsL l).length), starL (wordsL l) i (k + 1) = (if k = 0 then [] else starL (wordsL l) i k ++ [46]) ++ (if i = k then [42] else (wordsL l)[k])) := fun k h => star_succ _ i k h
        have H0 : Hid (starL (wordsL l) i 0 = []) := star_zero _ i
        have HL : Hid (∀ k, (starL (wordsL l) i k).length ≤ 8000) := fun k => join_len_take _ i k (fun x hx => Nat.le_trans (word_len l x hx) hn.1) hn.2
        have HY : Hid (∀ x ∈ wordsL l, x.length ≤ 64) := fun x hx => Nat.le_trans (word_len l x hx) hn.1
        have hn8 : Hid ((wordsL l).length ≤ 8) := hn.2
        obtain ⟨lx, hlx⟩ : ∃ lx, l ++ [46, 97, 46, 35] = lx := ⟨_, rfl⟩
        simp only [hlx] at cX hX
        clear hlx
        generalize joinL ((wordsL l).set i [42]) = pa at *
        generalize headL ((wordsL l).take i) = hd at *
        obtain ⟨sk, hsk⟩ : ∃ sk : Nat → List UInt8, ∀ k, starL (wordsL l) i k = sk k := ⟨_, fun _ => rfl⟩
        simp only [hsk] at HD HA HS H0 HL
        clear hsk
        clear hn hz
        generalize wordsL l = ws at *
        obtain ⟨n, hnn⟩ : ∃ n, ws.length = n := ⟨_, rfl⟩
        have HN : Hid (ws.length = n) := hnn
        simp only [hnn] at cW HA hn8 hlt0 hi
        clear hnn
        have hd1 : decide ((i : Int) < 0) = false := decide_eq_false hneg
        have hd2 : decide ((i : Int) ≥ (n : Int)) = false := decide_eq_false hlt0
        have hd3 : decide ((n : Int) ≤ (i : Int)) = false := decide_eq_false hlt0
        have hd4 : decide (n ≤ i) = false := decide_eq_false (by omega)
        go_enter Tryd.func7, Tryd.ntmps7
        go_wp2_with fail
        refine (c9 w _ hs0).mono ?_
        rintro e1 w1 ⟨rfl, hs1⟩
        go_wp2_with fail
        refine (cG w _ hs1).mono ?_
        rintro e2 w2 ⟨rfl, hs2⟩
        go_wp2_with fail
        refine (cW w2).mono ?_
        rintro e3 w3 ⟨b3, c3, rfl, hr3, hb3, _⟩
        have hs3 := hs2.go hb3
        have HR : Hid _ := hr3
        clear hr3
        go_wp2_with fail
        go_loopg [6, 7, 8, 9, 39] n (fun gg s6 s7 _ _ s39 wr => ∃ (k : Nat) (qq : List UInt8), k ≤ n ∧ n - k ≤ gg ∧ s39 = .int .i64 k ∧ s6 = str (sk k) ∧ s7 = str qq ∧ Hid (qq = if k ≤ i then [] else hd) ∧ wr = w3)
        case atStart => exact ⟨0, [], Nat.zero_le _, by omega, rfl, by rw [H0.out], rfl, by show [] = _; rw [if_pos (Nat.zero_le _)], rfl⟩
        case round =>
          obtain ⟨k, qq, hk, hgk, rfl, rfl, rfl, hqq, rfl⟩ := hrel
          by_cases hlt : k < n
          · have hltz : (k : Int) < (n : Int) := by omega
            have hkl : k < ws.length := by have := HN.out; omega
            have hcell := HR.out.2 k hkl
            have hst := HS.out k hkl
            have hyl := HY.out _ (List.getElem_mem hkl)
            obtain ⟨y, hy⟩ : ∃ y, ws[k] = y := ⟨_, rfl⟩
            rw [hy] at hcell hst hyl
            clear hy
            rw [Nat.zero_add] at hcell
            have hl1 := HL.out k
            have hl2 := HL.out (k + 1)
            obtain ⟨s0, hs0k⟩ : ∃ s0, sk k = s0 := ⟨_, rfl⟩
            rw [hs0k] at hst hl1
            obtain ⟨pr, hpr⟩ : ∃ pr, (if k = 0 then [] else s0 ++ [46]) = pr := ⟨_, rfl⟩
            rw [hpr] at hst
            have hpl : pr.length ≤ 8001 := by rw [← hpr]; split <;> simp <;> omega
            have hA1 : ∀ W, (Op.stringOp .add ⟨s0.toArray⟩ ⟨[46].toArray⟩).run Tryd.prog W = .ok (.string ⟨(s0 ++ [46]).toArray⟩) W := fun W => run_string_add_lists (P := Tryd.prog) (w := W) s0 [46] (by omega) (by decide)
            have hA2 : ∀ W, (Op.stringOp .add ⟨pr.toArray⟩ ⟨[42].toArray⟩).run Tryd.prog W = .ok (.string ⟨(pr ++ [42]).toArray⟩) W := fun W => run_string_add_lists (P := Tryd.prog) (w := W) pr [42] (by omega) (by decide)
            have hA3 : ∀ W, (Op.stringOp .add ⟨pr.toArray⟩ ⟨y.toArray⟩).run Tryd.prog W = .ok (.string ⟨(pr ++ y).toArray⟩) W := fun W => run_string_add_lists (P := Tryd.prog) (w := W) pr y (by omega) (by omega)
            have hs0k : Hid (sk k = s0) := hs0k
            have hst : Hid _ := hst
            rw [hs0k.out]
            have hpr : Hid ((if k = 0 then [] else s0 ++ [46]) = pr) := hpr
            have hD : Hid (k = i → pr = hd) := fun e => by
              subst e
              have := HD.out
              rw [hs0k.out, hpr.out] at this
              exact this
            clear hl1 hl2 hyl hpl
            have hnz : (n : Int) ≤ 9223372036854775807 := by have := hn8.out; omega
            by_cases hk0 : k = 0
            · have hk0z : ¬ (k : Int) > 0 := by omega
              have hp0 : pr = s0 := by
                have h1 := hpr.out
                rw [if_pos hk0] at h1
                rw [← h1, ← hs0k.out, hk0, H0.out]
              rw [hp0] at hA2 hA3 hst
              have hD : Hid (k = i → s0 = hd) := by rw [← hp0]; exact hD.out
              clear hp0 hpr
              generalize s0 ++ [46] = s1 at *
              by_cases hki : (k : Int) = (i : Int)
              · have hkb : ((k : Int) == (i : Int)) = true := by rw [beq_iff_eq]; exact hki
                have hnext : Hid (sk (k + 1) = s0 ++ [42]) := by have := hst.out; rw [if_pos (by omega)] at this; exact this
                have hD : Hid (s0 = hd) := hD.out (by omega)
                generalize s0 ++ [42] = nx at *
                have HK : Hid (k = i) := by show k = i; omega
                clear hki hst hk0
                go_wp2
                go_roundg (n - (k + 1))
                case measure => omega
                case rel => exact ⟨k + 1, s0, by omega, by omega, by go_num, by rw [hnext.out], rfl, by show s0 = _; rw [if_neg (by have := HK.out; omega)]; exact hD.out, rfl⟩
              · have hkb : ((k : Int) == (i : Int)) = false := by rw [beq_eq_false_iff_ne]; exact hki
                have hnext : Hid (sk (k + 1) = s0 ++ y) := by have := hst.out; rw [if_neg (by omega)] at this; exact this
                generalize s0 ++ y = nx at *
                have hqq2 : Hid (qq = if k + 1 ≤ i then [] else hd) := by
                  have := hqq.out
                  rw [this]
                  show (if k ≤ i then [] else hd) = _
                  by_cases h : k ≤ i
                  · rw [if_pos h, if_pos (by omega)]
                  · rw [if_neg h, if_neg (by omega)]
                clear hki hst hk0 hqq
                go_wp2
                go_roundg (n - (k + 1))
                case measure => omega
                case rel => exact ⟨k + 1, qq, by omega, by omega, by go_num, by rw [hnext.out], rfl, hqq2.out, rfl⟩
            · have hk0z : (k : Int) > 0 := by omega
              have hp0 : s0 ++ [46] = pr := by have h1 := hpr.out; rw [if_neg hk0] at h1; exact h1
              rw [hp0] at hA1
              clear hp0 hpr
              by_cases hki : (k : Int) = (i : Int)
              · have hkb : ((k : Int) == (i : Int)) = true := by rw [beq_iff_eq]; exact hki
                have hnext : Hid (sk (k + 1) = pr ++ [42]) := by have := hst.out; rw [if_pos (by omega)] at this; exact this
                have hD : Hid (pr = hd) := hD.out (by omega)
                generalize pr ++ [42] = nx at *
                have HK : Hid (k = i) := by show k = i; omega
                clear hki hst hk0
                go_wp2
                go_roundg (n - (k + 1))
                case measure => omega
                case rel => exact ⟨k + 1, pr, by omega, by omega, by go_num, by rw [hnext.out], rfl, by show pr = _; rw [if_neg (by have := HK.out; omega)]; exact hD.out, rfl⟩
              · have hkb : ((k : Int) == (i : Int)) = false := by rw [beq_eq_false_iff_ne]; exact hki
                have hnext : Hid (sk (k + 1) = pr ++ y) := by have := hst.out; rw [if_neg (by omega)] at this; exact this
                generalize pr ++ y = nx at *
                have hqq2 : Hid (qq = if k + 1 ≤ i then [] else hd) := by
                  have := hqq.out
                  rw [this]
                  show (if k ≤ i then [] else hd) = _
                  by_cases h : k ≤ i
                  · rw [if_pos h, if_pos (by omega)]
                  · rw [if_neg h, if_neg (by omega)]
                clear hki hst hk0 hqq
                go_wp2
                go_roundg (n - (k + 1))
                case measure => omega
                case rel => exact ⟨k + 1, qq, by omega, by omega, by go_num, by rw [hnext.out], rfl, hqq2.out, rfl⟩
          · have hkn : k = n := by omega
            have hltz : ¬ (k : Int) < (n : Int) := by omega
            have hq2 : qq = hd := by rw [show qq = _ from hqq.out, if_neg (by omega)]
            rw [hkn] at hltz ⊢
            rw [HA.out, hq2]
            clear hqq hq2 hkn
            by_cases h63 : (hd.length : Int) < 63
            · obtain ⟨cQ, hQ⟩ := HQ.out (by omega)
              obtain ⟨hq, hhq⟩ : ∃ hq, hd ++ [35] = hq := ⟨_, rfl⟩
              simp only [hhq] at cQ hQ
              clear HQ hhq HS HD HA HL HY H0 HR
              go_wp2_with fail
              refine (cP w _ hs3).mono ?_
              rintro e4 w4 ⟨rfl, hs4⟩
              go_wp2_with fail
              refine (cQ w _ hs4).mono ?_
              rintro e5 w5 ⟨rfl, hs5⟩
              go_wp2_with fail
              refine (cX w _ hs5).mono ?_
              rintro e6 w6 ⟨rfl, hs6⟩
              go_wp2
              go_ret
              exact ⟨rfl, hs6.b⟩
            · clear HQ HS HD HA HL HY H0 HR
              go_wp2_with fail
              refine (cP w _ hs3).mono ?_
              rintro e4 w4 ⟨rfl, hs4⟩
              go_wp2_with fail
              refine (cX w _ hs4).mono ?_
              rintro e6 w6 ⟨rfl, hs6⟩
              go_wp2
              go_ret
              exact ⟨rfl, hs6.b⟩
      · have hge : (i : Int) ≥ ((wordsL l).length : Int) := by omega
        obtain ⟨n, hn2⟩ : ∃ n, (wordsL l).length = n := ⟨_, rfl⟩
        simp only [hn2] at cW hge
        clear hn2 hi hneg
        have hneg : ¬ (i : Int) < 0 := by omega
        go_enter Tryd.func7, Tryd.ntmps7
        go_wp2_with fail
        refine (c9 w _ hs0).mono ?_
        rintro e1 w1 ⟨rfl, hs1⟩
        go_wp2_with fail
        refine (cG w _ hs1).mono ?_
        rintro e2 w2 ⟨rfl, hs2⟩
        go_wp2_with fail
        refine (cW w2).mono ?_
        rintro e3 w3 ⟨b3, c3, rfl, _, hb3, _⟩
        have hs3 := hs2.go hb3
        go_wp2_with fail
        refine (cM w _ hs3).mono ?_
        rintro e4 w4 ⟨rfl, hs4⟩
        go_wp2_with fail
        refine (cH w _ hs4).mono ?_
        rintro e5 w5 ⟨rfl, hs5⟩
        go_wp2
        go_ret
        exact ⟨rfl, hs5.b⟩
end Go.Proofs.YtmbmidmipoomdaaDoor
