/- (*turn).push. Conditions: those that each row states. -/
import Derived.Test.YtnpikgakpmkipabGreatDoorZ04
import Derived.Test.YtnpikgakpmkipabGreatDoorZ03
import Derived.Test.YtnpikgakpmkipabGreatDoorZ22
import Derived.Test.YtnpikgakpmkipabGreatDoorZ07
import Derived.Test.YtnpikgakpmkipabGreatDoorZ15
import Derived.Test.YtnpikgakpmkipabGreatDoorZ20
import Derived.Test.YtnpikgakpmkipabGreatDoorZ16
namespace Go.Proofs.YtnpikgakpmkipabGreatDoor
open Go.RowKit Go.Lib
set_option maxRecDepth 100000
set_option linter.unusedSimpArgs false
set_option linter.unusedVariables false
theorem mapE_snoc (f : Que → Except Int Que) (q : Que) : ∀ l : List Que, mapE f (l ++ [q]) = bnd (mapE f l) fun r => bnd (f q) fun r2 => .ok (r ++ [r2])
 | [] => by
  show bnd (f q) _ = bnd (f q) _
  cases f q <;> simp [bnd, mapE]
 | x :: l => by
  show bnd (f x) _ = bnd (bnd (f x) _) _
  cases h : f x with
  | error n => rfl
  | ok r =>
   show bnd (mapE f (l ++ [q])) _ = bnd (bnd (mapE f l) _) _
   rw [mapE_snoc f q l]
   cases h2 : mapE f l with
   | error n => rfl
   | ok r2 =>
    show bnd (bnd (f q) _) _ = bnd (f q) _
    cases h3 : f q with
    | error n => rfl
    | ok r3 => simp [bnd]
theorem mapE_err (f : Que → Except Int Que) {n : Int} {q : Que} (hq : f q = .error n) (l2 : List Que) : ∀ (l : List Que) r, mapE f l = .ok r → mapE f (l ++ q :: l2) = .error n
 | [], r, _ => by
  show bnd (f q) _ = _
  rw [hq]
  rfl
 | x :: l, r, h => by
  unfold mapE at h
  obtain ⟨r1, h1, h2⟩ := bnd_ok.1 h
  obtain ⟨r2, h3, h4⟩ := bnd_ok.1 h2
  show bnd (f x) _ = _
  rw [h1]
  show bnd (mapE f (l ++ q :: l2)) _ = _
  rw [mapE_err f hq l2 l r2 h3]
  rfl
theorem mapE_len {f : Que → Except Int Que} : ∀ {l r : List Que}, mapE f l = .ok r → r.length = l.length
 | [], r, h => by
  injection h with h
  subst h
  rfl
 | x :: l, r, h => by
  unfold mapE at h
  obtain ⟨r1, h1, h2⟩ := bnd_ok.1 h
  obtain ⟨r2, h3, h4⟩ := bnd_ok.1 h2
  injection h4 with h4
  subst h4
  simp [mapE_len h3]
structure PsI (w W : World) (B g gm : Nat) (c : Cor) (os : List Ot) (qv bv sv kv cv ov : Value) (m : Msg) (pm : Value) (p : Que → Bool) (i : Nat) (r : List Que) : Prop where
 e : mapE (pushE p m) (c.queues.take i) = .ok r
 t : Tv W B g { c with queues := r ++ c.queues.drop i } os qv bv sv kv cv ov
 f : FrT B w W
 x : Blk W gm (msA m pm) 33
theorem PsI.step {w W : World} {B g gm : Nat} {c : Cor} {os : List Ot} {qv bv sv kv cv ov : Value} {m : Msg} {pm : Value} {p : Que → Bool} {i : Nat} {r : List Que} (hi : i < c.queues.length) (h1 : mapE (pushE p m) (c.queues.take i) = .ok r) {q' : Que} (hq : pushE p m c.queues[i] = .ok q') (ht : Tv W B g { c with queues := (r ++ c.queues.drop i).set i q' } os qv bv sv kv cv ov) (hf : FrT B w W) (hx : Blk W gm (msA m pm) 33) : ∃ r', PsI w W B g gm c os qv bv sv kv cv ov m pm p (i + 1) r' := by
 have hl := mapE_len h1
 rw [List.length_take, Nat.min_eq_left (Nat.le_of_lt hi)] at hl
 refine ⟨r ++ [q'], ?_, ?_, hf, hx⟩
 ·rw [List.take_succ_eq_append_getElem hi, mapE_snoc, h1, hq]
  rfl
 ·rw [set_mid hl hi] at ht
  exact ht
set_option maxHeartbeats 8000000 in
theorem pushAll_any (w : World) (B g : Nat) (c : Cor) (os : List Ot) (hT : T w B g c os) (hg : GoodC c) (hV : VB B w) (m : Msg) (pm : Value) (hp1 : pm.oneCell' = true) (hR : ∀ W, Below B w W → RdP W pm m.props) (ff : Nat) (ef : ∀ args w, (callFunc ff args).run Tryz.prog w = .ok (.enter ff args) w) (lb : Array Value) (p : Que → Bool)
  (hcall : ∀ W l v q, T W B g { c with queues := l } os → FrT B w W → RdQ W v q → Calls Tryz.prog ff (#[v] ++ lb) W fun e W' => e = .returned (.bool (p q)) ∧ Bw W W') :
  Calls Tryz.prog 125 #[.pointer (some ⟨g, 0, none⟩), .agg #[tx m.topic, tx m.body, pm, .bool m.dur, .int .i64 m.til], .func (.func ff) #[] lb] w fun e w' => Led w B g os (noO (pushAll c p m)) e w' := by
 obtain ⟨qv, bv, sv, kv, cv, ov, hT⟩ := hT
 obtain ⟨n, hn⟩ : ∃ n, c.queues.length = n := ⟨_, rfl⟩
 have hql := hg.ql
 have HPM0 : Hid (∀ W, Below B w W → RdP W pm m.props) := hR
 have HC : Hid (∀ W l v q, T W B g { c with queues := l } os → FrT B w W → RdQ W v q → Calls Tryz.prog ff (#[v] ++ lb) W fun e W' => e = .returned (.bool (p q)) ∧ Bw W W') := hcall
 have HGC : Hid (GoodC c) := hg
 have b0 := (Below.refl w.heap.size w).alloc (Nat.le_refl _) (.cells (msA m pm) 33)
 have hO := Blk.new w (msA m pm) 33
 have hT1 := hT.on b0
 have hF1 : FrT B w (w.alloc (.cells (msA m pm) 33)) := .of_below b0 hT.lt
 go_enter Tryz.func125, Tryz.ntmps125
 go_upto_region 1 with fail
 generalize w.alloc (.cells (msA m pm) 33) = w1 at *
 obtain ⟨gm, egm⟩ : ∃ x, w.heap.size = x := ⟨_, rfl⟩
 rw [egm] at hO ⊢
 clear egm b0 hT hR hcall hg
 refine rh (fun W => Blk W g #[.int .i64 c.now, qv, bv, sv, kv, cv, ov] 77 ∧ Blk W gm (msA m pm) 33) ?_
 have hS : Blk (World.drew w1) g #[.int .i64 c.now, qv, bv, sv, kv, cv, ov] 77 ∧ Blk (World.drew w1) gm (msA m pm) 33 := ⟨⟨hT1.blk.h⟩, ⟨hO.h⟩⟩
 have hT2 := hT1.drew
 have hF2 := hF1.drew
 clear hT1 hF1 hO
 generalize w1.drew = w2 at *
 rcases Bool.eq_false_or_eq_true (decide (m.til > 0)) with ha | ha
 rcases Bool.eq_false_or_eq_true (decide (m.til ≤ c.now)) with hb | hb
 ·have HD : Hid (pushAll c p m = .ok c) := by
   have h1 : 0 < m.til := by simpa using ha
   have h2 : m.til ≤ c.now := by simpa using hb
   show pushAll c p m = .ok c
   simp [pushAll, h1, h2]
  have HX : Hid (Tv w2 B g c os qv bv sv kv cv ov ∧ FrT B w w2) := ⟨hT2, hF2⟩
  clear hT2 hF2
  refine tks [0, 1, 2, 3, 4, 5, 6, 7, 8, 9, 10, 11, 12] [.pointer (some ⟨gm, 4, none⟩), .int .i64 m.til, .bool true, .bool true, .pointer (some ⟨gm, 4, none⟩), .int .i64 m.til, .pointer (some ⟨g, 0, none⟩), .pointer (some ⟨g, 0, none⟩), .pointer (some ⟨g, 0, none⟩), .pointer (some ⟨g, 0, none⟩), .int .i64 c.now, .bool true, .bool true] 0 ?_ hS ?_
  ·simp only [tkY, tkf]
   refine ⟨.yes ?_, .yes ?_, .yes ?_, .yes ?_, .yes ?_, .yes ?_, .yes ?_, .yes ?_, .yes ?_, .yes ?_, .yes ?_, .yes ?_, .yes ?_, trivial⟩
   all_goals
    intro W' hW'
    have := hW'.2.ce 4
    have := ha
    have := hW'.1.ce 0
    have := hb
    go_simp
  simp only [tkA, tkf]
  refine ad ?_
  go_wp2_with fail
  go_end0
  exact led_ok HD.out ⟨_, _, _, _, _, _, HX.out.1⟩ HX.out.2
 have HD : Hid ((decide (0 < m.til) && decide (m.til ≤ c.now)) = false) := by rw [hb]; exact Bool.and_false _
 refine tks [0, 1, 2, 3, 4, 5, 6, 7, 8, 9, 10, 11] [.pointer (some ⟨gm, 4, none⟩), .int .i64 m.til, .bool true, .bool true, .pointer (some ⟨gm, 4, none⟩), .int .i64 m.til, .pointer (some ⟨g, 0, none⟩), .pointer (some ⟨g, 0, none⟩), .pointer (some ⟨g, 0, none⟩), .pointer (some ⟨g, 0, none⟩), .int .i64 c.now, .bool false] 1 ?_ hS ?_
 ·simp only [tkY, tkf]
  refine ⟨.yes ?_, .yes ?_, .yes ?_, .yes ?_, .yes ?_, .yes ?_, .yes ?_, .yes ?_, .yes ?_, .yes ?_, .yes ?_, .yes ?_, trivial⟩
  all_goals
   intro W' hW'
   have := hW'.2.ce 4
   have := ha
   have := hW'.1.ce 0
   have := hb
   go_simp
 simp only [tkA, tkf]
 rotate_left
 have HD : Hid ((decide (0 < m.til) && decide (m.til ≤ c.now)) = false) := by
  have : decide (0 < m.til) = false := ha
  rw [this]
  rfl
 refine tks [0, 1, 2, 3, 4, 5, 6, 7, 8, 9, 10, 11] [.pointer (some ⟨gm, 4, none⟩), .int .i64 m.til, .bool false, .bool false, undef, undef, undef, undef, undef, undef, undef, undef] 1 ?_ hS ?_
 ·simp only [tkY, tkf]
  refine ⟨.yes ?_, .yes ?_, .yes ?_, .yes ?_, .no, .no, .no, .no, .no, .no, .no, .no, trivial⟩
  all_goals
   intro W' hW'
   have := hW'.2.ce 4
   have := ha
   go_simp
 simp only [tkA, tkf]
 all_goals
  try simp only [tkf]
  refine tks [12] [.bool false] 0 ?_ hS ?_
  ·simp only [tkY, tkf]
   refine ⟨.yes ?_, trivial⟩
   all_goals
    intro W' hW'
    go_simp
  simp only [tkA, tkf]
  refine ad ?_
  obtain ⟨qa, qn, qc, eqv⟩ := OwnL.shape hT2.q
  have eqn : qn = n := by
   obtain ⟨zs, e, hz⟩ := hT2.q
   obtain ⟨a, cc, e2⟩ := hz.rd.len
   rw [eqv] at e2
   injection e2 with _ e2 _
   have := congrArg List.length e
   rw [List.length_map] at this
   omega
  obtain ⟨c0, c1, c2, c3, c4, c5, c6⟩ := hT2.blk.c7
  rw [eqv, eqn] at c1
  have HT0 : Hid (∃ r, PsI w w2 B g gm c os qv bv sv kv cv ov m pm p 0 r) := ⟨[], rfl, by simpa using hT2, hF2, hS.2⟩
  have HQV : Hid (qv = .slice qa n qc) := by rw [eqv, eqn]; exact rfl
  clear hT2 hF2 hS eqv eqn ha
  go_wp2_with fail
  clear c0 c1 c2 c3 c4 c5 c6
  go_loopg [6, 7, 27] n (fun gg _ _ s27 wr => ∃ i : Nat, i ≤ n ∧ n - i ≤ gg ∧ s27 = .int .i64 i ∧ Hid (∃ r, PsI w wr B g gm c os qv bv sv kv cv ov m pm p i r))
  case atStart => exact ⟨0, Nat.zero_le _, by omega, rfl, HT0.out⟩
  case round =>
   obtain ⟨i, hi, hgg, rfl, HP⟩ := hrel
   by_cases hlt : i < n
   ·have hltz : (i : Int) < (n : Int) := by omega
    obtain ⟨r, hP⟩ := HP.out
    have hT1 := hP.t
    have hF1 := hP.f
    have hin : i < c.queues.length := by omega
    have HPE : Hid (mapE (pushE p m) (c.queues.take i) = .ok r) := hP.e
    have hrl := mapE_len hP.e
    rw [List.length_take, Nat.min_eq_left (by omega)] at hrl
    have hpl : i < (r ++ c.queues.drop i).length := by rw [List.length_append, List.length_drop]; omega
    obtain ⟨q, hq⟩ : ∃ q, c.queues[i] = q := ⟨_, rfl⟩
    have hqi : (r ++ c.queues.drop i)[i] = q := by
     rw [List.getElem_append_right (by omega)]
     simp only [hrl, Nat.sub_self, List.getElem_drop, Nat.add_zero]
     exact hq
    have hgq : goodQ q = true := by rw [← hq]; exact HGC.out.qg _ (List.getElem_mem hin)
    have hbig := good_big hgq
    obtain ⟨gq, cap, cur, iv, hv, hEL1⟩ := hT1.el hpl
    have eqv2 := hEL1.eq
    have hqv := HQV.out
    rw [hqv] at eqv2
    injection eqv2 with ea en ec
    subst ea ec
    obtain ⟨e0, e1, e2, e3, e4, e5, e6⟩ := hEL1.c7 hpl hqi
    have hOW0 := hEL1.own
    rw [hqi] at hOW0
    have hcl := own_cells hOW0
    have HX : Hid (Tv wr B g { c with queues := r ++ c.queues.drop i } os qv bv sv kv cv ov ∧ FrT B w wr ∧ El wr B qv (r ++ c.queues.drop i) i gq qc cur iv hv ∧ Blk wr gm (msA m pm) 33) := ⟨hT1, hF1, hEL1, hP.x⟩
    have HLQ : Hid (gq < wr.heap.size) := hEL1.blk.lt
    have HQV2 : Hid (qv = .slice (some ⟨gq, 0, none⟩) n qc) := hqv
    unfold queV at hcl
    clear hT1 hF1 hEL1 en hOW0 hqv hP HP
    go_wp2_with (refine wpl_fresh rfl (.tmp 7) (.tmp 31) rfl _ _ rfl rfl (by kernel_rfl) rfl hcl ?_)
    intro w2' k2 b2 s2
    clear e0 e1 e2 e3 e4 e5 e6 hcl
    obtain ⟨hT1, hF1, hEL1, hx1⟩ := HX.out
    have hT4 := hT1.on b2
    have hF4 := hF1.trans (.of_below b2 hT1.lt)
    have hEL4 := hEL1.on b2
    have hx4 := hx1.on b2
    obtain ⟨gt, egt⟩ : ∃ x, wr.heap.size = x := ⟨_, rfl⟩
    have HGT : Hid (some gt ≠ some gq) := fun e => by injection e with e; have := HLQ.out; omega
    rw [egt] at k2 ⊢
    have hOW4 := hEL4.own
    rw [hqi] at hOW4
    have HCL := HC.out w2' (r ++ c.queues.drop i) _ q ⟨_, _, _, _, _, _, hT4⟩ hF4 hOW4.rd
    unfold queV at HCL
    have HX4 : Hid (Tv w2' B g { c with queues := r ++ c.queues.drop i } os qv bv sv kv cv ov ∧ FrT B w w2' ∧ El w2' B qv (r ++ c.queues.drop i) i gq qc cur iv hv ∧ Blk w2' gm (msA m pm) 33 ∧ Blk w2' gt (quA q iv hv) 82) := ⟨hT4, hF4, hEL4, hx4, k2⟩
    clear HX hT1 hF1 hEL1 hx1 hT4 hF4 hEL4 hx4 hOW4 b2 s2 egt
    go_wp2_with (refine wpl_load25 rfl (.tmp 7) rfl _ _ rfl k2 rfl ?_)
    refine HCL.mono ?_
    rintro e w3' ⟨rfl, b3⟩
    clear HCL k2
    obtain ⟨hT4, hF4, hEL4, hx4, k4⟩ := HX4.out
    have hT5' := hT4.on b3
    have hF5' := hF4.trans (.of_below b3 hT4.lt)
    have hEL5' := hEL4.on b3
    have hx5 := hx4.on b3
    have k5 := k4.on b3
    clear HX4 hT4 hF4 hEL4 hx4 k4 b3
    cases hpq : p q with
    | false =>
     have HP2 : Hid (∃ r', PsI w w3' B g gm c os qv bv sv kv cv ov m pm p (i + 1) r') := by
      refine PsI.step hin HPE.out (q' := q) (by rw [hq]; unfold pushE; rw [hpq]; rfl) ?_ hF5' hx5
      have e1 : (r ++ c.queues.drop i).set i q = r ++ c.queues.drop i := by rw [← hqi]; exact List.set_getElem_self _
      rw [e1]
      exact hT5'
     clear hT5' hF5' hEL5' hx5 k5
     go_wp2_with fail
     go_roundg (n - (i + 1))
     case measure => omega
     case rel => exact ⟨i + 1, by omega, by omega, rfl, HP2.out⟩
    | true =>
     have HER : Hid (∀ k, pushE p m q = .error k → pushAll c p m = .error k) := fun k hk => by
      have h1 := mapE_err (pushE p m) hk (c.queues.drop (i + 1)) _ r HPE.out
      rw [← hq, ← List.drop_eq_getElem_cons hin, List.take_append_drop] at h1
      unfold pushAll
      rw [HD.out, h1]
      rfl
     go_upto_region 6 with fail
     refine rh (fun W => (Blk W g #[.int .i64 c.now, .slice (some ⟨gq, 0, none⟩) n qc, bv, sv, kv, cv, ov] 77 ∧ Blk W gm (msA m pm) 33) ∧ Blk W gt (quA q iv hv) 82) ?_
     have hS : (Blk (World.drew w3') g #[.int .i64 c.now, .slice (some ⟨gq, 0, none⟩) n qc, bv, sv, kv, cv, ov] 77 ∧ Blk (World.drew w3') gm (msA m pm) 33) ∧ Blk (World.drew w3') gt (quA q iv hv) 82 := ⟨⟨by rw [← HQV2.out]; exact ⟨hT5'.blk.h⟩, ⟨hx5.h⟩⟩, ⟨k5.h⟩⟩
     have hT3 := hT5'.drew
     have hF3 := hF5'.drew
     have hEL := hEL5'.kx (e := 0) (w' := World.drew w3') .drew (by decide)
     clear hT5' hF5' hEL5' hx5 k5
     generalize World.drew w3' = w3 at *
     have hOW := hEL.own
     rw [hqi] at hOW
     have hpr := HPM0.out w3 hF3.below
     refine tks [0, 1, 2, 3, 4, 5, 6, 7] [.pointer (some ⟨g, 0, none⟩), .pointer (some ⟨g, 0, none⟩), .pointer (some ⟨g, 0, none⟩), .pointer (some ⟨g, 1, none⟩), .slice (some ⟨gq, 0, none⟩) n qc, .int .i64 i, .agg #[tx q.name, .bool q.dur, .int .i64 q.depth, .int .i64 q.seq, .int .i64 q.tag, iv, hv], .agg #[tx m.topic, tx m.body, pm, .bool m.dur, .int .i64 m.til]] 6 ?_ hS ?_
     ·simp only [tkY, tkf]
      refine ⟨.yes ?_, .yes ?_, .yes ?_, .yes ?_, .yes ?_, .yes ?_, .yes ?_, .yes ?_, trivial⟩
      all_goals
       intro W' hW'
       have := hW'.1.1.ce 1
       have := hW'.2.ce 0
       have := hW'.2.ce 1
       have := hW'.2.ce 2
       have := hW'.2.ce 3
       have := hW'.2.ce 4
       have := hW'.2.ce 5
       have := hW'.2.ce 6
       have := hW'.1.2.ce 0
       have := hW'.1.2.ce 1
       have := hW'.1.2.ce 2
       have := hW'.1.2.ce 3
       have := hW'.1.2.ce 4
       go_simp
     simp only [tkA, tkf]
     refine ak 8 fun K hK => ?_
     go_simp
     refine (push_any _ (hV.fr hF3).now _ q (OwnQ.rd hOW) m pm hpr hbig).mono ?_
     rintro e w4 ⟨v4, rfl, o4, b4⟩
     obtain ⟨iv4, hv4, rfl, n4, o4'⟩ := own_open o4
     clear o4
     have hT4 := hT3.on b4
     have hF4 := hF3.trans (.of_below b4 hT3.lt)
     have hEL4 := hEL.on b4
     have hS4 : (Blk w4 g #[.int .i64 c.now, .slice (some ⟨gq, 0, none⟩) n qc, bv, sv, kv, cv, ov] 77 ∧ Blk w4 gm (msA m pm) 33) ∧ Blk w4 gt (quA q iv hv) 82 := ⟨⟨hS.1.1.on b4, hS.1.2.on b4⟩, hS.2.on b4⟩
     have o4 := o4'.low hT3.lt
     clear hT3 hF3 hEL hS b4 o4' hOW hpr
     have hS := hS4
     clear hS4
     show K _ _
     refine hK _ _ hS ?_
     clear hK K
     try simp only [tkf]
     refine tks [9, 10] [queV (if pushC q m = 0 then pushQ q m else zeroQ) iv4 hv4, .int .i64 (pushC q m)] 3 ?_ hS ?_
     ·simp only [tkY, tkf]
      refine ⟨.yes ?_, .yes ?_, trivial⟩
      all_goals
       intro W' hW'
       go_simp
     simp only [tkA, tkf]
     refine ak 11 fun K hK => ?_
     go_simp
     refine (sure_any _ B _ _ o4 _).mono ?_
     rintro e w5 ⟨h5, b5⟩
     have hT5 := hT4.on b5
     have hF5 := hF4.trans (.of_below b5 hT4.lt)
     have hEL5 := hEL4.on b5
     have hS5 : (Blk w5 g #[.int .i64 c.now, .slice (some ⟨gq, 0, none⟩) n qc, bv, sv, kv, cv, ov] 77 ∧ Blk w5 gm (msA m pm) 33) ∧ Blk w5 gt (quA q iv hv) 82 := ⟨⟨hS.1.1.on b5, hS.1.2.on b5⟩, hS.2.on b5⟩
     have o5 := o4.on b5
     clear hT4 hF4 hEL4 hS b5 o4
     have hS := hS5
     clear hS5
     rcases h5 with ⟨h5, he⟩ | ⟨h5, he⟩
     rotate_left
     ·subst he
      exact ⟨rfl, led_no (HER.out _ (by unfold pushE; rw [if_pos hpq]; simp [sureE, h5])) hF5⟩
     subst he
     show K _ _
     rw [if_pos h5] at o5 ⊢
     refine hK _ _ hS ?_
     clear hK K
     try simp only [tkf]
     refine tks [12] [.pointer (some ⟨gq, i * 7, none⟩)] 1 ?_ hS ?_
     ·simp only [tkY, tkf]
      refine ⟨.yes ?_, trivial⟩
      all_goals
       intro W' hW'
       have := hltz
       go_simp
     simp only [tkA, tkf]
     refine ak 13 fun K hK => ?_
     refine opw_putAt (.tmp 47) (.tmp 46) rfl gq (i * 7) (queV (pushQ q m) iv4 hv4).cells rfl ?_ hEL5.blk (by kernel_rfl) hEL5.fit (own_cells o5) ?_
     ·skip
      simp only [Act.eval, Act.put]
      rfl
     intro w6 k6 g6 s6
     obtain ⟨T6, F6, E6⟩ := hT5.put hEL5 o5 k6 g6
     have hgm6 := hS.1.2.kt ((KX.put hEL5.blk g6).kt _ (by decide))
     have hS6 : (Blk w6 g #[.int .i64 c.now, .slice (some ⟨gq, 0, none⟩) n qc, bv, sv, kv, cv, ov] 77 ∧ Blk w6 gm (msA m pm) 33) ∧ Blk w6 gt (quA q iv hv) 82 := ⟨⟨by rw [← HQV2.out]; exact T6.blk, hgm6⟩, hS.2.grown g6 HGT.out⟩
     refine hK _ _ hS6 ?_
     clear hK K hS
     try simp only [tkf]
     refine ad ?_
     have HP2 : Hid (∃ r', PsI w w6 B g gm c os qv bv sv kv cv ov m pm p (i + 1) r') := by
      refine PsI.step hin HPE.out (q' := pushQ q m) (by rw [hq]; unfold pushE; rw [if_pos hpq]; simp [sureE, h5]) ?_ (hF5.trans F6) hgm6
      exact T6
     clear T6 E6 F6 hT5 hF5 hEL5 o5 k6 g6 s6 h5 n4 hgm6
     go_wp2_with fail
     go_roundg (n - (i + 1))
     case measure => omega
     case rel => exact ⟨i + 1, by omega, by omega, rfl, HP2.out⟩
   ·obtain rfl : i = n := by omega
    have hltz : ¬ ((i : Int) < (i : Int)) := by omega
    have HF : Hid (Led w B g os (noO (pushAll c p m)) (.returned (.tuple #[])) wr) := by
     obtain ⟨r, hP⟩ := HP.out
     have h1 := hP.e
     have h2 := hP.t
     rw [List.take_of_length_le (by omega)] at h1
     rw [List.drop_of_length_le (by omega), List.append_nil] at h2
     exact led_ok (c := { c with queues := r }) (by unfold pushAll; rw [HD.out, h1]; rfl) ⟨_, _, _, _, _, _, h2⟩ hP.f
    clear HP
    go_wp2_with fail
    go_end0
    exact HF.out
set_option maxHeartbeats 1000000 in
theorem rt1_any (w : World) (o : Opr) (pv : Value) (gx : Nat) (kx : Blk w gx (opA o pv) 35) (v : Value) (q : Que) (hR : RdQ w v q) :
  Calls Tryz.prog 195 #[v, .pointer (some ⟨gx, 0, none⟩)] w fun e w' => e = .returned (.bool (decide (q.name = o.queue))) ∧ Bw w w' := by
 obtain ⟨iv, hv, rfl, hi, hh⟩ := hR
 obtain ⟨ia, ic, rfl⟩ := hi.len
 obtain ⟨ja, jc, rfl⟩ := hh.len
 generalize q.items.length = ni at *
 generalize q.held.length = nh at *
 have b0 := (Below.refl w.heap.size w).alloc (Nat.le_refl _) (.cells (quA q (.slice ia ni ic) (.slice ja nh jc)) 82)
 have k0 := Blk.new w (quA q (.slice ia ni ic) (.slice ja nh jc)) 82
 obtain ⟨d0, d1, d2, d3, d4, d5, d6, d7, d8, d9, d10, d11, d12, d13⟩ := (kx.on b0).c14
 have e0 := (k0.cell 0).trans (show _ = some (tx q.name) from rfl)
 have HB : Hid (Bw w (w.alloc (.cells (quA q (.slice ia ni ic) (.slice ja nh jc)) 82))) := b0
 unfold queV
 clear kx k0 b0
 rcases Bool.eq_false_or_eq_true (decide (q.name = o.queue)) with hd | hd
 ·have hne : (q.name == o.queue) = true := by simpa using hd
  have HD : Hid (decide (q.name = o.queue) = true) := hd
  rw [hd]
  clear hd
  go_enter Tryz.func195, Tryz.ntmps195
  go_wp2_with fail
  go_ret
  exact ⟨rfl, HB.out⟩
 ·have hne : (q.name == o.queue) = false := by simpa using hd
  rw [hd]
  clear hd
  go_enter Tryz.func195, Tryz.ntmps195
  go_wp2_with fail
  go_ret
  exact ⟨rfl, HB.out⟩
set_option maxHeartbeats 1000000 in
theorem rt21_any (w : World) (hva : To.Vars w) (o : Opr) (pv : Value) (gx : Nat) (kx : Blk w gx (opA o pv) 35) (n : List UInt8) (gt : Nat) (kt : w.cell? ⟨gt, 0, none⟩ = some (tx n)) (hlt : gt < w.heap.size) (b : Bnd) :
  Calls Tryz.prog 198 #[.agg #[tx b.queue, tx b.pat], .pointer (some ⟨gt, 0, none⟩), .pointer (some ⟨gx, 0, none⟩)] w fun e w' => e = .returned (.bool (decide (b.queue = n) && mat b.pat o.msg.topic)) ∧ Bw w w' := by
 have b0 := (Below.refl w.heap.size w).alloc (Nat.le_refl _) (.cells #[tx b.queue, tx b.pat] 43)
 have k0 := Blk.new w #[tx b.queue, tx b.pat] 43
 obtain ⟨d0, d1, d2, d3, d4, d5, d6, d7, d8, d9, d10, d11, d12, d13⟩ := (kx.on b0).c14
 have e0 := (k0.cell 0).trans (show _ = some (tx b.queue) from rfl)
 have e1 := (k0.cell 1).trans (show _ = some (tx b.pat) from rfl)
 have f0 := (b0.cell (p := ⟨gt, 0, none⟩) hlt).trans kt
 have HM := To.match_any _ (hva.below b0) b.pat o.msg.topic
 have HB : Hid (Bw w (w.alloc (.cells #[tx b.queue, tx b.pat] 43))) := b0
 clear kx k0 b0 kt hva
 rcases Bool.eq_false_or_eq_true (decide (b.queue = n)) with hd | hd
 ·have hne : (b.queue == n) = true := by simpa using hd
  rw [hd]
  clear hd
  go_enter Tryz.func198, Tryz.ntmps198
  go_upto_region 1 with fail
  generalize w.alloc (.cells #[tx b.queue, tx b.pat] 43) = w1 at *
  go_wp2_with fail
  refine HM.mono ?_
  rintro e w2 ⟨rfl, b2⟩
  have hbb := nxt HB.out b2
  clear HM
  go_wp2_with fail
  go_ret
  exact ⟨by simp, hbb⟩
 ·have hne : (b.queue == n) = false := by simpa using hd
  rw [hd]
  clear hd HM
  go_enter Tryz.func198, Tryz.ntmps198
  go_upto_region 1 with fail
  generalize w.alloc (.cells #[tx b.queue, tx b.pat] 43) = w1 at *
  go_wp2_with fail
  go_ret
  exact ⟨by simp, HB.out⟩
theorem idx_any2 {α : Type} (p : α → Bool) : ∀ l : List α, decide ((if l.findIdx p < l.length then (l.findIdx p : Int) else -1) ≥ 0) = l.any p := fun l => by
 by_cases h : l.findIdx p < l.length
 ·rw [if_pos h]
  have h1 : l.any p = true := List.any_eq_true.2 (List.findIdx_lt_length.1 h)
  rw [h1]
  exact decide_eq_true (by omega)
 ·rw [if_neg h]
  have h1 : l.any p = false := by
   cases h2 : l.any p with
   | false => rfl
   | true => exact absurd (List.findIdx_lt_length.2 (List.any_eq_true.1 h2)) h
  rw [h1]
  rfl
set_option maxHeartbeats 1000000 in
theorem containsB {α : Type} (w : World) (v : Value) (zs : Zs α) (R : List Value → α → Prop) (h : RdZ 2 R w v zs) (hn : zs.length ≤ 1000000) (gg : Nat) (lb : Array Value) (eg : ∀ args w, (callFunc gg args).run Tryz.prog w = .ok (.enter gg args) w) (p : α → Bool)
  (hcall : ∀ W z, Bw w W → z ∈ zs → Calls Tryz.prog gg (#[.agg z.1.toArray] ++ lb) W fun e W' => e = .returned (.bool (p z.2)) ∧ Bw W W') :
  Calls Tryz.prog 197 #[v, .func (.func gg) #[] lb] w fun e w' => e = .returned (.bool ((zs.map (·.2)).any p)) ∧ Bw w w' := by
 have HX := ixB w v zs R h hn gg lb eg p hcall
 have e1 : zs.findIdx (fun z : List Value × α => p z.2) = (zs.map (·.2)).findIdx p := by rw [List.findIdx_map]; rfl
 have e2 := idx_any2 p (zs.map (·.2))
 rw [← e1, List.length_map] at e2
 rw [← e2]
 clear e2 e1 hcall
 generalize (if zs.findIdx (fun z : List Value × α => p z.2) < zs.length then (zs.findIdx (fun z : List Value × α => p z.2) : Int) else -1) = r at *
 go_enter Tryz.func197, Tryz.ntmps197
 go_wp2_with fail
 refine HX.mono ?_
 rintro e w1 ⟨rfl, b1⟩
 clear HX
 go_wp2_with fail
 go_ret
 exact ⟨rfl, b1⟩
theorem e198 : ∀ args w, (callFunc 198 args).run Tryz.prog w = .ok (.enter 198 args) w := fun args w => by go_simp
theorem e195 : ∀ args w, (callFunc 195 args).run Tryz.prog w = .ok (.enter 195 args) w := fun args w => by go_simp
theorem e196 : ∀ args w, (callFunc 196 args).run Tryz.prog w = .ok (.enter 196 args) w := fun args w => by go_simp
set_option maxHeartbeats 1000000 in
theorem rt2_any (w : World) (hva : To.Vars w) (B g : Nat) (c : Cor) (os : List Ot) (qv bv sv kv cv ov : Value) (hT : Tv w B g c os qv bv sv kv cv ov) (hn : c.binds.length ≤ 1000) (o : Opr) (pv : Value) (gx gp : Nat) (kx : Blk w gx (opA o pv) 35) (kp : Blk w gp #[.pointer (some ⟨g, 0, none⟩)] 75) (v : Value) (q : Que) (hR : RdQ w v q) :
  Calls Tryz.prog 196 #[v, .pointer (some ⟨gp, 0, none⟩), .pointer (some ⟨gx, 0, none⟩)] w fun e w' => e = .returned (.bool (c.binds.any fun b => decide (b.queue = q.name) && mat b.pat o.msg.topic)) ∧ Bw w w' := by
 obtain ⟨iv, hv, rfl, hi, hh⟩ := hR
 obtain ⟨ia, ic, rfl⟩ := hi.len
 obtain ⟨ja, jc, rfl⟩ := hh.len
 generalize q.items.length = ni at *
 generalize q.held.length = nh at *
 have b0 := (Below.refl w.heap.size w).alloc (Nat.le_refl _) (.cells (quA q (.slice ia ni ic) (.slice ja nh jc)) 82)
 have k0 := Blk.new w (quA q (.slice ia ni ic) (.slice ja nh jc)) 82
 have hT1 := hT.on b0
 have kx1 := kx.on b0
 have kp1 := (kp.on b0).cell 0
 have hv1 := hva.below b0
 have HB : Hid (Bw w (w.alloc (.cells (quA q (.slice ia ni ic) (.slice ja nh jc)) 82))) := b0
 unfold queV
 clear b0 hT kx kp hva
 go_enter Tryz.func196, Tryz.ntmps196
 go_upto_region 1 with fail
 generalize w.alloc (.cells (quA q (.slice ia ni ic) (.slice ja nh jc)) 82) = w1 at *
 obtain ⟨gt, egt⟩ : ∃ x, w.heap.size = x := ⟨_, rfl⟩
 rw [egt] at k0 ⊢
 have kp2 := kp1.trans (show _ = some (Value.pointer (some ⟨g, 0, none⟩)) from rfl)
 obtain ⟨c0, c1, c2, c3, c4, c5, c6⟩ := hT1.blk.c7
 obtain ⟨zs, ezs, hzs⟩ := hT1.b
 have hzn : zs.length ≤ 1000 := by
  have := congrArg List.length ezs
  rw [List.length_map] at this
  have h2 : zs.length = c.binds.length := this
  omega
 have HCN := containsB w1 bv zs BnR hzs.rd (by omega) 198 #[.pointer (some ⟨gt, 0, none⟩), .pointer (some ⟨gx, 0, none⟩)] e198 (fun b => decide (b.queue = q.name) && mat b.pat o.msg.topic) (fun W z hb hm => by
  have h1 := (hzs.2 z hm).2
  unfold BnR at h1
  rw [h1]
  exact rt21_any W (hv1.below hb) o pv gx (kx1.on hb) q.name gt ((k0.on hb).cell 0) (Nat.lt_of_lt_of_le k0.lt hb.size) z.2)
 rw [ezs] at HCN
 have HEG : Hid (w.heap.size = gt) := egt
 clear hT1 hzs ezs kx1 kp1 hv1 k0 egt
 go_wp2_with fail
 refine HCN.mono ?_
 rintro e w2 ⟨rfl, b2⟩
 clear HCN
 have hbb := nxt HB.out b2
 go_wp2_with fail
 go_ret
 exact ⟨rfl, hbb⟩
theorem rdq_own {w : World} {B : Nat} {v : Value} {l : List Que} (h : OQc w B v l) : RdL 7 (QuR (RdQ w)) w v l := by
 obtain ⟨zs, e, hz⟩ := h
 exact ⟨zs, e, hz.rd.imp fun _ _ h => OwnQ.rd h⟩
set_option maxHeartbeats 4000000 in
theorem subscribe_op (w : World) (B g : Nat) (c : Cor) (os : List Ot) (hT : T w B g c os) (hg : GoodC c) (hV : VB B w) (o : Opr) (pv : Value) (hp : pv.oneCell' = true) :
  Calls Tryz.prog 53 #[.pointer (some ⟨g, 0, none⟩), opV o pv] w fun e w' => Led w B g os (noO (subscribeC c o)) e w' := by
 obtain ⟨qv, bv, sv, kv, cv, ov, hT⟩ := hT
 have b0 := (Below.refl w.heap.size w).alloc (Nat.le_refl _) (.cells (opA o pv) 35)
 have hO := Blk.new w (opA o pv) 35
 have hT1 := hT.on b0
 have hF1 : FrT B w (w.alloc (.cells (opA o pv) 35)) := .of_below b0 hT.lt
 unfold opV
 go_enter Tryz.func53, Tryz.ntmps53
 go_upto_region 1 with fail
 generalize w.alloc (.cells (opA o pv) 35) = w1 at *
 obtain ⟨gx, egx⟩ : ∃ g, w.heap.size = g := ⟨_, rfl⟩
 rw [egx] at hO ⊢
 clear egx b0 hT
 have d1 : w1.cell? ⟨gx, 1, none⟩ = some (.int .i64 o.conn) := hO.cell 1
 have d2 : w1.cell? ⟨gx, 2, none⟩ = some (.int .i64 o.sub) := hO.cell 2
 have d3 : w1.cell? ⟨gx, 3, none⟩ = some (.int .i64 o.n) := hO.cell 3
 have HT1 : Hid (Tv w1 B g c os qv bv sv kv cv ov ∧ FrT B w w1 ∧ Blk w1 gx (opA o pv) 35) := ⟨hT1, hF1, hO⟩
 have HS := isSub_any w1 o.conn o.sub
 have HW := isWin_any w1 o.n
 clear hT1 hF1 hO
 rcases Bool.eq_false_or_eq_true (subB o.conn o.sub) with hsb | hsb
 rotate_left
 ·rw [hsb] at HS
  go_wp2_with fail
  refine HS.mono ?_
  rintro e wA ⟨rfl, hA⟩
  rw [hA]
  clear hA wA HS HW
  have HI := insist_no w1 1
  go_wp2_with fail
  refine HI.mono ?_
  rintro e wA ⟨rfl, hA⟩
  rw [hA]
  exact ⟨rfl, .inr ⟨1, by simp [subscribeC, noO, bnd, ins, hsb], rfl, HT1.out.2.1⟩⟩
 rw [hsb] at HS
 go_wp2_with fail
 refine HS.mono ?_
 rintro e wA ⟨rfl, hA⟩
 rw [hA]
 clear hA wA HS
 go_wp2_with fail
 refine HW.mono ?_
 rintro e wA ⟨rfl, hA⟩
 rw [hA]
 clear hA wA HW
 have HI := insist_any w1 (winB o.n) 1
 go_wp2_with fail
 refine HI.mono ?_
 rintro e wI ⟨hI, hb⟩
 rw [hI]
 clear hI wI HI
 rcases hb with ⟨hb, he⟩ | ⟨hb, he⟩
 rotate_left
 ·subst he
  exact ⟨rfl, .inr ⟨1, by simp [subscribeC, noO, bnd, ins, hb], rfl, HT1.out.2.1⟩⟩
 subst he
 have hb : (subB o.conn o.sub && winB o.n) = true := by rw [hsb, hb]; rfl
 clear d1 d2 d3
 obtain ⟨hT2, hF2, hO⟩ := HT1.out
 clear HT1
 go_upto_region 2 with fail
 refine rh (fun W => Blk W g #[.int .i64 c.now, qv, bv, sv, kv, cv, ov] 77 ∧ Blk W gx (opA o pv) 35) ?_
 have hS : Blk (World.drew w1) g #[.int .i64 c.now, qv, bv, sv, kv, cv, ov] 77 ∧ Blk (World.drew w1) gx (opA o pv) 35 := ⟨⟨hT2.blk.h⟩, ⟨hO.h⟩⟩
 have hT3 := hT2.drew
 have hF3 := hF2.drew
 clear hT2 hF2
 clear hO
 generalize w1.drew = w3 at *
 refine tks [0, 1, 2, 3, 4, 5] [.pointer (some ⟨g, 0, none⟩), .pointer (some ⟨g, 0, none⟩), .pointer (some ⟨g, 0, none⟩), .agg #[.int .i64 c.now, qv, bv, sv, kv, cv], .pointer (some ⟨gx, 4, none⟩), tx o.queue] 2 ?_ hS ?_
 ·simp only [tkY, tkf]
  refine ⟨.yes ?_, .yes ?_, .yes ?_, .yes ?_, .yes ?_, .yes ?_, trivial⟩
  all_goals
   intro W' hW'
   have := hW'.1.ce 0
   have := hW'.1.ce 1
   have := hW'.1.ce 2
   have := hW'.1.ce 3
   have := hW'.1.ce 4
   have := hW'.1.ce 5
   have := hW'.2.ce 4
   go_simp
 simp only [tkA, tkf]
 refine ak 6 fun K hK => ?_
 go_simp
 refine (hasQueue_any _ c qv bv sv kv cv (rdq_own hT3.q) ((risB_inc linQ _).2 hg.qi) (by have := hg.ql; omega) o.queue).mono ?_
 rintro e w4 ⟨rfl, b4⟩
 have hS4 : Blk w4 g #[.int .i64 c.now, qv, bv, sv, kv, cv, ov] 77 ∧ Blk w4 gx (opA o pv) 35 := ⟨hS.1.on b4, hS.2.on b4⟩
 have hT4 := hT3.on b4
 have hF4 := hF3.trans (.of_below b4 hT3.lt)
 clear hT3 hF3 hS b4
 have hS := hS4
 clear hS4
 show K _ _
 refine hK _ _ hS ?_
 clear hK K
 try simp only [tkf]
 refine ak 7 fun K hK => ?_
 go_simp
 refine (insist_any _ _ 33).mono ?_
 rintro e wI ⟨hI, hb0⟩
 rcases hb0 with ⟨hb2, he⟩ | ⟨hb2, he⟩
 rotate_left
 ·subst he
  rw [hI]
  exact ⟨rfl, .inr ⟨33, by simp [subscribeC, noO, bnd, ins, hb, hb2], rfl, hF4⟩⟩
 subst he
 show K _ _
 rw [hI]
 refine hK _ _ hS ?_
 clear hK K hI wI
 try simp only [tkf]
 refine ad ?_
 go_upto_region 3 with fail
 have HX : Hid (Tv w4 B g c os qv bv sv kv cv ov ∧ FrT B w w4 ∧ Blk w4 gx (opA o pv) 35) := ⟨hT4, hF4, hS.2⟩
 obtain ⟨d0, d1, d2, d3, d4, d5, d6, d7, d8, d9, d10, d11, d12, d13⟩ := hS.2.c14
 clear hT4 hF4 hS
 go_wp2_with (refine wpl_fresh rfl (.tmp 4) (.tmp 34) rfl _ _ rfl rfl (by kernel_rfl) rfl (by simp [Value.oneCell']) ?_)
 intro W5 k5 b5 s5
 clear d0 d1 d2 d3 d4 d5 d6 d7 d8 d9 d10 d11 d12 d13
 obtain ⟨hT4, hF4, hO4⟩ := HX.out
 have hT2 := hT4.on b5
 have hF2 := hF4.trans (.of_below b5 hT4.lt)
 have hO5 := hO4.on b5
 have HN : Hid (some w4.heap.size ≠ sv.ownBlock) := fun e => by
  obtain ⟨zs, _, hz⟩ := hT4.s
  have := (World.ownsRow.lt hz.1 _ e.symm).2
  omega
 have HG : Hid (w4.heap.size ≠ g) := fun e => by have := hT4.blk.lt; omega
 clear HX hT4 hF4 hO4 b5 s5
 obtain ⟨gb, egb⟩ : ∃ g, w4.heap.size = g := ⟨_, rfl⟩
 rw [egb] at k5 HN HG ⊢
 clear egb
 go_upto_region 4 with fail
 refine rh (fun W => (Blk W g #[.int .i64 c.now, qv, bv, sv, kv, cv, ov] 77 ∧ Blk W gx (opA o pv) 35) ∧ Blk W gb #[.int .i64 o.conn, .int .i64 o.sub, tx o.queue, .int .i64 o.n, .bool o.auto] 85) ?_
 have hS : (Blk (World.drew W5) g #[.int .i64 c.now, qv, bv, sv, kv, cv, ov] 77 ∧ Blk (World.drew W5) gx (opA o pv) 35) ∧ Blk (World.drew W5) gb #[.int .i64 o.conn, .int .i64 o.sub, tx o.queue, .int .i64 o.n, .bool o.auto] 85 := ⟨⟨⟨hT2.blk.h⟩, ⟨hO5.h⟩⟩, ⟨k5.h⟩⟩
 have hT3 := hT2.drew
 have hF3 := hF2.drew
 clear hT2 hF2
 clear hO5 k5
 generalize W5.drew = w5 at *
 refine tks [0, 1, 2, 3, 4, 5] [.pointer (some ⟨g, 0, none⟩), .pointer (some ⟨g, 0, none⟩), .pointer (some ⟨g, 0, none⟩), .pointer (some ⟨g, 3, none⟩), sv, .agg #[.int .i64 o.conn, .int .i64 o.sub, tx o.queue, .int .i64 o.n, .bool o.auto]] 3 ?_ hS ?_
 ·simp only [tkY, tkf]
  refine ⟨.yes ?_, .yes ?_, .yes ?_, .yes ?_, .yes ?_, .yes ?_, trivial⟩
  all_goals
   intro W' hW'
   have := hW'.1.1.ce 3
   have := hW'.2.ce 0
   have := hW'.2.ce 1
   have := hW'.2.ce 2
   have := hW'.2.ce 3
   have := hW'.2.ce 4
   go_simp
 simp only [tkA, tkf]
 refine ak 6 fun K hK => ?_
 go_simp
 refine (hasSs _ B sv c.subs hT3.s hg.si (by have := hg.sl; omega) ⟨o.conn, o.sub, o.queue, o.n, o.auto⟩).mono ?_
 rintro e w4 ⟨rfl, b4⟩
 have hS4 : (Blk w4 g #[.int .i64 c.now, qv, bv, sv, kv, cv, ov] 77 ∧ Blk w4 gx (opA o pv) 35) ∧ Blk w4 gb #[.int .i64 o.conn, .int .i64 o.sub, tx o.queue, .int .i64 o.n, .bool o.auto] 85 := ⟨⟨hS.1.1.on b4, hS.1.2.on b4⟩, hS.2.on b4⟩
 have hT4 := hT3.on b4
 have hF4 := hF3.trans (.of_below b4 hT3.lt)
 clear hT3 hF3 hS b4
 have hS := hS4
 clear hS4
 show K _ _
 refine hK _ _ hS ?_
 clear hK K
 try simp only [tkf]
 refine tks [7] [.bool (!hasL oS ⟨o.conn, o.sub, o.queue, o.n, o.auto⟩ c.subs)] 1 ?_ hS ?_
 ·simp only [tkY, tkf]
  refine ⟨.yes ?_, trivial⟩
  all_goals
   intro W' hW'
   go_simp
 simp only [tkA, tkf]
 refine ak 8 fun K hK => ?_
 go_simp
 refine (insist_any _ _ 32).mono ?_
 rintro e wI ⟨hI, hb0⟩
 rcases hb0 with ⟨hb3, he⟩ | ⟨hb3, he⟩
 rotate_left
 ·subst he
  rw [hI]
  exact ⟨rfl, .inr ⟨32, by simp [subscribeC, noO, bnd, ins, hb, hb2, hb3], rfl, hF4⟩⟩
 subst he
 show K _ _
 rw [hI]
 refine hK _ _ hS ?_
 clear hK K hI wI
 try simp only [tkf]
 refine ad ?_
 have hT2 := hT4
 have hF2 := hF4
 have k9 := hS.2
 clear hT4 hF4 hS
 go_upto_region 5 with fail
 refine rh (fun W => Blk W gb #[.int .i64 o.conn, .int .i64 o.sub, tx o.queue, .int .i64 o.n, .bool o.auto] 85) ?_
 have hS : Blk (World.drew w4) gb #[.int .i64 o.conn, .int .i64 o.sub, tx o.queue, .int .i64 o.n, .bool o.auto] 85 := ⟨k9.h⟩
 have hT3 := hT2.drew
 have hF3 := hF2.drew
 clear hT2 hF2
 clear k9
 generalize w4.drew = w5 at *
 refine tks [0, 1, 2, 3, 4, 6] [.pointer (some ⟨g, 0, none⟩), .pointer (some ⟨g, 0, none⟩), .pointer (some ⟨g, 0, none⟩), .pointer (some ⟨g, 0, none⟩), .pointer (some ⟨g, 3, none⟩), .agg #[.int .i64 o.conn, .int .i64 o.sub, tx o.queue, .int .i64 o.n, .bool o.auto]] 6 ?_ hS ?_
 ·simp only [tkY, tkf]
  refine ⟨.yes ?_, .yes ?_, .yes ?_, .yes ?_, .yes ?_, .yes ?_, trivial⟩
  all_goals
   intro W' hW'
   have := hW'.ce 0
   have := hW'.ce 1
   have := hW'.ce 2
   have := hW'.ce 3
   have := hW'.ce 4
   go_simp
 simp only [tkA, tkf]
 refine ak 5 fun K hK => ?_
 have d0 : w5.cell? ⟨g, 3, none⟩ = some sv := hT3.blk.cell 3
 go_simp
 refine hK _ _ hS ?_
 clear hK K
 try simp only [tkf]
 refine ak 7 fun K hK => ?_
 go_simp
 refine (enSs _ B hT3.lt sv c.subs hT3.s hg.si (by have := hg.sl; omega) ⟨o.conn, o.sub, o.queue, o.n, o.auto⟩).mono ?_
 rintro e w6 h6
 rcases h6 with ⟨v6, hen, he, o6, g6⟩ | ⟨hen, he, b6⟩
 rotate_left
 ·subst he
  exact ⟨rfl, .inr ⟨34, by simp only [subscribeC, ins, hb, hb2, hb3, if_true, hen, bnd, noO], rfl, hF3.trans (.of_below b6 hT3.lt)⟩⟩
 subst he
 obtain ⟨a6, n6, cc6, rfl⟩ := OwnL.shape o6
 obtain ⟨T7, F7, k7⟩ := hT3.row_s g6 o6
 have hS6 : Blk w6 gb #[.int .i64 o.conn, .int .i64 o.sub, tx o.queue, .int .i64 o.n, .bool o.auto] 85 := hS.grown g6 HN.out
 clear hS
 have hS := hS6
 clear hS6
 show K _ _
 refine hK _ _ hS ?_
 clear hK K
 try simp only [tkf]
 refine tks [8, 9, 10] [.pointer (some ⟨g, 0, none⟩), .pointer (some ⟨g, 0, none⟩), .pointer (some ⟨g, 3, none⟩)] 1 ?_ hS ?_
 ·simp only [tkY, tkf]
  refine ⟨.yes ?_, .yes ?_, .yes ?_, trivial⟩
  all_goals
   intro W' hW'
   go_simp
 simp only [tkA, tkf]
 refine ak 11 fun K hK => ?_
 go_simp
 have f7 := k7.frozen 3
 have c7 : w6.cell? ⟨g, 3, none⟩ = some sv := k7.cell 3
 go_simp
 refine hK _ _ (hS.setO (fun e => HG.out e) _) ?_
 clear hK K f7 c7
 try simp only [tkf]
 refine ad ?_
 go_end0
 exact led_ok (c := { c with subs := enL oS ⟨o.conn, o.sub, o.queue, o.n, o.auto⟩ c.subs }) (by simp only [subscribeC, ins, hb, hb2, hb3, if_true, hen, bnd]) ⟨_, _, _, _, _, _, T7⟩ (hF3.trans F7)
def RouA (w : World) (B g : Nat) (c : Cor) (os : List Ot) (o : Opr) (e : Ending) (w' : World) : Prop :=
 FrT B w w' ∧ T w' B g c os ∧ ((∃ (ff : Nat) (lb : Array Value), (∀ args w, (callFunc ff args).run Tryz.prog w = .ok (.enter ff args) w) ∧ (o.queue = [] ∨ hasNm c.queues o.queue = true) ∧ e = .returned (.func (.func ff) #[] lb) ∧
  ∀ W l v q, T W B g { c with queues := l } os → FrT B w' W → RdQ W v q → Calls Tryz.prog ff (#[v] ++ lb) W fun e W' => e = .returned (.bool (meantB c o q)) ∧ Bw W W') ∨ (e = .panicked (gup 33) ∧ ¬ o.queue = [] ∧ hasNm c.queues o.queue = false))
set_option maxHeartbeats 4000000 in
theorem route_any (w : World) (B g : Nat) (c : Cor) (os : List Ot) (hT : T w B g c os) (hg : GoodC c) (hV : VB B w) (o : Opr) (pv : Value) (hp : pv.oneCell' = true) :
  Calls Tryz.prog 126 #[.pointer (some ⟨g, 0, none⟩), opV o pv] w fun e w' => RouA w B g c os o e w' := by
 obtain ⟨qv, bv, sv, kv, cv, ov, hT⟩ := hT
 have b0 : Bw w ((w.alloc (.cells #[.pointer (some ⟨g, 0, none⟩)] 75)).alloc (.cells (opA o pv) 35)) := ((Below.refl _ w).alloc (Nat.le_refl _) _).alloc (by simp) _
 have kP := (Blk.new w #[.pointer (some ⟨g, 0, none⟩)] 75).alloc (.cells (opA o pv) 35)
 have kO := Blk.new (w.alloc (.cells #[.pointer (some ⟨g, 0, none⟩)] 75)) (opA o pv) 35
 rw [World.size_alloc] at kO
 have hT1 := hT.on b0
 have hF1 : FrT B w ((w.alloc (.cells #[.pointer (some ⟨g, 0, none⟩)] 75)).alloc (.cells (opA o pv) 35)) := .of_below b0 hT.lt
 unfold opV
 go_enter Tryz.func126, Tryz.ntmps126
 go_upto_region 1 with fail
 generalize (w.alloc (.cells #[.pointer (some ⟨g, 0, none⟩)] 75)).alloc (.cells (opA o pv) 35) = w1 at *
 obtain ⟨gp, egp⟩ : ∃ x, w.heap.size = x := ⟨_, rfl⟩
 obtain ⟨gx, egx⟩ : ∃ x, w.heap.size + 1 = x := ⟨_, rfl⟩
 rw [egx] at kO ⊢
 rw [egp] at kP ⊢
 have d4 : w1.cell? ⟨gx, 4, none⟩ = some (tx o.queue) := kO.cell 4
 clear hT b0 egp egx
 by_cases hqn : o.queue = []
 ·have hqe : o.queue.isEmpty = true := by rw [hqn]; rfl
  have HX : Hid (RouA w B g c os o (.returned (.func (.func 196) #[] #[.pointer (some ⟨gp, 0, none⟩), .pointer (some ⟨gx, 0, none⟩)])) w1) := by
   refine ⟨hF1, ⟨_, _, _, _, _, _, hT1⟩, .inl ⟨196, _, e196, .inl hqn, rfl, fun W l v q hTW hFW hRW => ?_⟩⟩
   obtain ⟨q1, b1, s1, k1, c1, o1, hTW⟩ := hTW
   have e1 : meantB c o q = c.binds.any fun b => decide (b.queue = q.name) && mat b.pat o.msg.topic := by
    unfold meantB
    rw [if_neg (by simp [hqn])]
   rw [e1]
   exact rt2_any W (hV.fr (hF1.trans hFW)).now B g { c with queues := l } os q1 b1 s1 k1 c1 o1 hTW (by have := hg.bl; show c.binds.length ≤ 1000; omega) o pv gx gp (kO.kt (hFW.kt _ rfl)) (kP.kt (hFW.kt _ rfl)) v q hRW
  clear hT1 hF1 kP kO hqn
  go_wp2_with fail
  go_ret
  exact HX.out
 ·have hqe : o.queue.isEmpty = false := by cases hm : o.queue with
   | nil => exact absurd hm hqn
   | cons a l => rfl
  go_upto_region 2 with fail
  clear d4
  have hT2 := hT1
  have hF2 := hF1
  clear hT1 hF1
  refine rh (fun W => (Blk W g #[.int .i64 c.now, qv, bv, sv, kv, cv, ov] 77 ∧ Blk W gx (opA o pv) 35) ∧ Blk W gp #[.pointer (some ⟨g, 0, none⟩)] 75) ?_
  have hS : (Blk (World.drew w1) g #[.int .i64 c.now, qv, bv, sv, kv, cv, ov] 77 ∧ Blk (World.drew w1) gx (opA o pv) 35) ∧ Blk (World.drew w1) gp #[.pointer (some ⟨g, 0, none⟩)] 75 := ⟨⟨⟨hT2.blk.h⟩, ⟨kO.h⟩⟩, ⟨kP.h⟩⟩
  have hT3 := hT2.drew
  have hF3 := hF2.drew
  clear hT2 hF2
  clear kO kP
  generalize w1.drew = w3 at *
  refine tks [0, 1, 2, 3, 4, 5] [.pointer (some ⟨g, 0, none⟩), .pointer (some ⟨g, 0, none⟩), .pointer (some ⟨g, 0, none⟩), .agg #[.int .i64 c.now, qv, bv, sv, kv, cv], .pointer (some ⟨gx, 4, none⟩), tx o.queue] 2 ?_ hS ?_
  ·simp only [tkY, tkf]
   refine ⟨.yes ?_, .yes ?_, .yes ?_, .yes ?_, .yes ?_, .yes ?_, trivial⟩
   all_goals
    intro W' hW'
    have := hW'.2.ce 0
    have := hW'.1.1.ce 0
    have := hW'.1.1.ce 1
    have := hW'.1.1.ce 2
    have := hW'.1.1.ce 3
    have := hW'.1.1.ce 4
    have := hW'.1.1.ce 5
    have := hW'.1.2.ce 4
    go_simp
  simp only [tkA, tkf]
  refine ak 6 fun K hK => ?_
  go_simp
  refine (hasQueue_any _ c qv bv sv kv cv (rdq_own hT3.q) ((risB_inc linQ _).2 hg.qi) (by have := hg.ql; omega) o.queue).mono ?_
  rintro e w4 ⟨rfl, b4⟩
  have hS4 : (Blk w4 g #[.int .i64 c.now, qv, bv, sv, kv, cv, ov] 77 ∧ Blk w4 gx (opA o pv) 35) ∧ Blk w4 gp #[.pointer (some ⟨g, 0, none⟩)] 75 := ⟨⟨hS.1.1.on b4, hS.1.2.on b4⟩, hS.2.on b4⟩
  have hT4 := hT3.on b4
  have hF4 := hF3.trans (.of_below b4 hT3.lt)
  clear hT3 hF3 hS b4
  have hS := hS4
  clear hS4
  show K _ _
  refine hK _ _ hS ?_
  clear hK K
  try simp only [tkf]
  refine ak 7 fun K hK => ?_
  go_simp
  refine (insist_any _ _ 33).mono ?_
  rintro e wI ⟨hI, hb⟩
  rcases hb with ⟨hb, he⟩ | ⟨hb, he⟩
  rotate_left
  ·subst he
   rw [hI]
   exact ⟨rfl, hF4, ⟨_, _, _, _, _, _, hT4⟩, .inr ⟨rfl, hqn, hb⟩⟩
  subst he
  show K _ _
  rw [hI]
  refine hK _ _ hS ?_
  clear hK K hI wI
  try simp only [tkf]
  refine ad ?_
  have HX : Hid (RouA w B g c os o (.returned (.func (.func 195) #[] #[.pointer (some ⟨gx, 0, none⟩)])) w4) := by
   refine ⟨hF4, ⟨_, _, _, _, _, _, hT4⟩, .inl ⟨195, _, e195, .inr hb, rfl, fun W l v q hTW hFW hRW => ?_⟩⟩
   have e1 : meantB c o q = decide (q.name = o.queue) := by
    unfold meantB
    rw [if_pos (by simpa using hqn)]
   rw [e1]
   exact rt1_any W o pv gx (hS.1.2.kt (hFW.kt _ rfl)) v q hRW
  clear hT4 hF4 hS
  go_wp2_with fail
  go_ret
  exact HX.out
set_option maxHeartbeats 4000000 in
theorem retain_any (w : World) (B g : Nat) (c : Cor) (os : List Ot) (hT : T w B g c os) (hg : GoodC c) (m : Msg) (pm : Value) (hR : RdP w pm m.props) (hpl : m.props.length ≤ 2513169434916) :
  Calls Tryz.prog 127 #[.pointer (some ⟨g, 0, none⟩), .agg #[tx m.topic, tx m.body, pm, .bool m.dur, .int .i64 m.til]] w fun e w' => Led w B g os (noO (retainC c m)) e w' := by
 obtain ⟨qv, bv, sv, kv, cv, ov, hT⟩ := hT
 have b0 := (Below.refl w.heap.size w).alloc (Nat.le_refl _) (.cells (msA m pm) 33)
 have hO := Blk.new w (msA m pm) 33
 have hT1 := hT.on b0
 have hF1 : FrT B w (w.alloc (.cells (msA m pm) 33)) := .of_below b0 hT.lt
 have HN : Hid (some w.heap.size ≠ kv.ownBlock) := fun e => by
  obtain ⟨zs, _, hz⟩ := hT.k
  have := (World.ownsRow.lt hz.1 _ e.symm).2
  omega
 have HG : Hid (w.heap.size ≠ g) := fun e => by have := hT.blk.lt; omega
 have HPM : Hid (RdP w pm m.props) := hR
 go_enter Tryz.func127, Tryz.ntmps127
 go_upto_region 1 with fail
 generalize w.alloc (.cells (msA m pm) 33) = w1 at *
 have HBB : Hid (Bw w w1) := b0
 obtain ⟨gm, egm⟩ : ∃ x, w.heap.size = x := ⟨_, rfl⟩
 rw [egm] at hO HN HG ⊢
 have d1 : w1.cell? ⟨gm, 1, none⟩ = some (tx m.body) := hO.cell 1
 have HT1 : Hid (Tv w1 B g c os qv bv sv kv cv ov ∧ FrT B w w1 ∧ Blk w1 gm (msA m pm) 33) := ⟨hT1, hF1, hO⟩
 clear b0 hT hT1 hF1 hO egm hR
 by_cases hbd : m.body = []
 ·have hbe : m.body.isEmpty = true := by rw [hbd]; rfl
  have HBD : Hid (m.body = []) := hbd
  clear hbd
  go_upto_region 2 with fail
  clear d1
  obtain ⟨hT2, hF2, hO2⟩ := HT1.out
  refine rh (fun W => Blk W gm (msA m pm) 33) ?_
  have hS : Blk (World.drew w1) gm (msA m pm) 33 := ⟨hO2.h⟩
  have hT3 := hT2.drew
  have hF3 := hF2.drew
  clear hT2 hF2
  have hbb := HBB.out.drew
  clear hO2
  generalize w1.drew = w5 at *
  refine tks [0, 1, 2, 3, 4, 6] [.pointer (some ⟨g, 0, none⟩), .pointer (some ⟨g, 0, none⟩), .pointer (some ⟨g, 0, none⟩), .pointer (some ⟨g, 0, none⟩), .pointer (some ⟨g, 4, none⟩), .agg #[tx m.topic, tx m.body, pm, .bool m.dur, .int .i64 m.til]] 6 ?_ hS ?_
  ·simp only [tkY, tkf]
   refine ⟨.yes ?_, .yes ?_, .yes ?_, .yes ?_, .yes ?_, .yes ?_, trivial⟩
   all_goals
    intro W' hW'
    have := hW'.ce 0
    have := hW'.ce 1
    have := hW'.ce 2
    have := hW'.ce 3
    have := hW'.ce 4
    go_simp
  simp only [tkA, tkf]
  refine ak 5 fun K hK => ?_
  have d0 : w5.cell? ⟨g, 4, none⟩ = some kv := hT3.blk.cell 4
  go_simp
  refine hK _ _ hS ?_
  clear hK K
  try simp only [tkf]
  refine ak 7 fun K hK => ?_
  go_simp
  refine (leMs _ B hT3.lt kv c.kept hT3.k hg.ki (by have := hg.kl; omega) m pm (RdP.on HPM.out hbb)).mono ?_
  rintro e w6 ⟨v6, rfl, o6, g6⟩
  obtain ⟨a6, n6, cc6, rfl⟩ := OwnL.shape o6
  obtain ⟨T7, F7, k7⟩ := hT3.row_k g6 o6
  have hS6 : Blk w6 gm (msA m pm) 33 := hS.grown g6 HN.out
  clear hS
  have hS := hS6
  clear hS6
  show K _ _
  refine hK _ _ hS ?_
  clear hK K
  try simp only [tkf]
  refine tks [8, 9, 10] [.pointer (some ⟨g, 0, none⟩), .pointer (some ⟨g, 0, none⟩), .pointer (some ⟨g, 4, none⟩)] 1 ?_ hS ?_
  ·simp only [tkY, tkf]
   refine ⟨.yes ?_, .yes ?_, .yes ?_, trivial⟩
   all_goals
    intro W' hW'
    go_simp
  simp only [tkA, tkf]
  refine ak 11 fun K hK => ?_
  go_simp
  have f7 := k7.frozen 4
  have c7 : w6.cell? ⟨g, 4, none⟩ = some kv := k7.cell 4
  go_simp
  refine hK _ _ (hS.setO (fun e => HG.out e) _) ?_
  clear hK K f7 c7
  try simp only [tkf]
  refine ad ?_
  go_wp2_with fail
  go_end0
  exact led_ok (c := { c with kept := leL oM m c.kept }) (by unfold retainC; rw [if_pos HBD.out]) ⟨_, _, _, _, _, _, T7⟩ (hF3.trans F7)
 ·have hbe : m.body.isEmpty = false := by cases hm : m.body with
   | nil => exact absurd hm hbd
   | cons a l => rfl
  go_upto_region 3 with fail
  clear d1
  obtain ⟨hT2, hF2, hO2⟩ := HT1.out
  refine wp_region_to (S := fun W => Blk W g #[.int .i64 c.now, qv, bv, sv, kv, cv, ov] 77 ∧ Blk W gm (msA m pm) 33) (z := 12) hmix ?_
  show wpTo _ _ _ _ _ _ _ _ _ (World.drew _)
  have hS : Blk w1.drew g #[.int .i64 c.now, qv, bv, sv, kv, cv, ov] 77 ∧ Blk w1.drew gm (msA m pm) 33 := ⟨⟨hT2.blk.h⟩, ⟨hO2.h⟩⟩
  have hT3 := hT2.drew
  have hF3 := hF2.drew
  have hbb := HBB.out.drew
  clear hT2 hF2 hO2
  generalize w1.drew = w5 at *
  refine wpTo.take (i := 0) (z := 12) (v := .pointer (some ⟨g, 0, none⟩)) rfl (by kernel_rfl) (by kernel_rfl) (by kernel_rfl) (by kernel_rfl) (fun _ _ _ h => h) (.inl ⟨by rfl, fun W' hW' => ?_⟩) hS ?_
  ·skip
   go_simp
  try simp only [tkf]
  refine wpTo.take (i := 1) (z := 12) (v := .pointer (some ⟨g, 0, none⟩)) rfl (by kernel_rfl) (by kernel_rfl) (by kernel_rfl) (by kernel_rfl) (fun _ _ _ h => h) (.inl ⟨by rfl, fun W' hW' => ?_⟩) hS ?_
  ·skip
   go_simp
  try simp only [tkf]
  refine wpTo.take (i := 2) (z := 12) (v := .pointer (some ⟨g, 0, none⟩)) rfl (by kernel_rfl) (by kernel_rfl) (by kernel_rfl) (by kernel_rfl) (fun _ _ _ h => h) (.inl ⟨by rfl, fun W' hW' => ?_⟩) hS ?_
  ·skip
   go_simp
  try simp only [tkf]
  refine wpTo.take (i := 3) (z := 12) (v := .pointer (some ⟨g, 0, none⟩)) rfl (by kernel_rfl) (by kernel_rfl) (by kernel_rfl) (by kernel_rfl) (fun _ _ _ h => h) (.inl ⟨by rfl, fun W' hW' => ?_⟩) hS ?_
  ·skip
   go_simp
  try simp only [tkf]
  refine wpTo.take (i := 4) (z := 12) (v := .pointer (some ⟨g, 4, none⟩)) rfl (by kernel_rfl) (by kernel_rfl) (by kernel_rfl) (by kernel_rfl) (fun _ _ _ h => h) (.inl ⟨by rfl, fun W' hW' => ?_⟩) hS ?_
  ·skip
   go_simp
  try simp only [tkf]
  refine wpTo.take (i := 5) (z := 12) (v := kv) rfl (by kernel_rfl) (by kernel_rfl) (by kernel_rfl) (by kernel_rfl) (fun _ _ _ h => h) (.inl ⟨by rfl, fun W' hW' => ?_⟩) hS ?_
  ·have d0 : W'.cell? ⟨g, 4, none⟩ = some (kv) := hW'.1.cell 4
   go_simp
  try simp only [tkf]
  refine wpTo.take (i := 6) (z := 12) (v := .agg #[tx m.topic, tx m.body, pm, .bool m.dur, .int .i64 m.til]) rfl (by kernel_rfl) (by kernel_rfl) (by kernel_rfl) (by kernel_rfl) (fun _ _ _ h => h) (.inl ⟨by rfl, fun W' hW' => ?_⟩) hS ?_
  ·have d0 : W'.cell? ⟨gm, 0, none⟩ = some (tx m.topic) := hW'.2.cell 0
   have d1 : W'.cell? ⟨gm, 1, none⟩ = some (tx m.body) := hW'.2.cell 1
   have d2 : W'.cell? ⟨gm, 2, none⟩ = some (pm) := hW'.2.cell 2
   have d3 : W'.cell? ⟨gm, 3, none⟩ = some (.bool m.dur) := hW'.2.cell 3
   have d4 : W'.cell? ⟨gm, 4, none⟩ = some (.int .i64 m.til) := hW'.2.cell 4
   go_simp
  try simp only [tkf]
  refine wpTo.one (i := 7) (by kernel_rfl) rfl (by rfl) (fun K hK => ?_)
  go_simp
  refine (copyMsg_any _ m pm (RdP.on HPM.out hbb) hpl).mono ?_
  rintro e w8 ⟨pm2, rfl, o8, b8⟩
  have hS8 : Blk w8 g #[.int .i64 c.now, qv, bv, sv, kv, cv, ov] 77 ∧ Blk w8 gm (msA m pm) 33 := ⟨hS.1.on b8, hS.2.on b8⟩
  have hT8 := hT3.on b8
  have hF8 := hF3.trans (.of_below b8 hT3.lt)
  have p8 := o8.low hT3.lt
  clear hS hT3 hF3 o8 b8 hbb
  have hS := hS8
  clear hS8
  show K _ _
  refine hK _ _ (fun _ => hS) ?_
  clear hK K
  try simp only [tkf]
  refine wpTo.one (i := 8) (by kernel_rfl) rfl (by rfl) (fun K hK => ?_)
  go_simp
  refine (enMs _ B hT8.lt kv c.kept hT8.k hg.ki (by have := hg.kl; omega) m pm2 p8).mono ?_
  rintro e w6 h6
  rcases h6 with ⟨v6, hen, he, o6, g6⟩ | ⟨hen, he, b6⟩
  rotate_left
  ·subst he
   exact ⟨rfl, led_no (by unfold retainC; rw [if_neg hbd, hen]; rfl) (hF8.trans (.of_below b6 hT8.lt))⟩
  subst he
  obtain ⟨a6, n6, cc6, rfl⟩ := OwnL.shape o6
  obtain ⟨T7, F7, k7⟩ := hT8.row_k g6 o6
  have hS6 : Blk w6 g #[.int .i64 c.now, qv, bv, sv, kv, cv, ov] 77 ∧ Blk w6 gm (msA m pm) 33 := ⟨k7, hS.2.grown g6 HN.out⟩
  clear hS
  have hS := hS6
  clear hS6
  show K _ _
  refine hK _ _ (fun _ => hS) ?_
  clear hK K
  try simp only [tkf]
  refine wpTo.one (i := 9) (by kernel_rfl) rfl (by rfl) (fun K hK => ?_)
  skip
  go_simp
  refine hK _ _ (fun _ => hS) ?_
  clear hK K
  try simp only [tkf]
  refine wpTo.one (i := 10) (by kernel_rfl) rfl (by rfl) (fun K hK => ?_)
  skip
  go_simp
  refine hK _ _ (fun _ => hS) ?_
  clear hK K
  try simp only [tkf]
  refine wpTo.one (i := 11) (by kernel_rfl) rfl (by rfl) (fun K hK => ?_)
  skip
  go_simp
  refine hK _ _ (fun _ => hS) ?_
  clear hK K
  try simp only [tkf]
  refine wpTo.one (i := 12) (by kernel_rfl) rfl (by rfl) (fun K hK => ?_)
  go_simp
  have f7 := k7.frozen 4
  have c7 : w6.cell? ⟨g, 4, none⟩ = some kv := k7.cell 4
  go_simp
  show K _ _
  refine hK _ _ (fun h => absurd rfl h) ?_
  clear hK K f7 c7
  try simp only [tkf]
  refine wpTo.done (by kernel_rfl) ?_ _
  go_end0
  exact led_ok (c := { c with kept := enL oM m c.kept }) (by unfold retainC; rw [if_neg hbd, hen]; rfl) ⟨_, _, _, _, _, _, T7⟩ (hF8.trans F7)
end Go.Proofs.YtnpikgakpmkipabGreatDoor
