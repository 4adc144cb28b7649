/- The document's ReadHead. Conditions: those that each row states. -/
import Derived.Test.YtlkinkbdhoejiaaTw
import Derived.Test.YtlkinkbdhoejiaaMb
namespace Go.Proofs.Ytlkinkbdhoejiaa
open Go.RowKit Go.Lib
set_option maxRecDepth 100000
set_option linter.unusedSimpArgs false

/-- What the document's ReadHead makes of what it has read. -/
def tailH (sz : Nat) (L : List Pr) (m : Nat) (st : Rs) : Int × List Pr × Bool × Int :=
  if st.2 = true ∨ st.1 ≠ [] ∨ m < 1 ∨ 2 < m then ((0 : Int), ([] : List Pr), false, (11 : Int)) else if 1024 < sz then ((0 : Int), ([] : List Pr), false, (3 : Int)) else ((sz : Int), L, decide (m = 2), (0 : Int))
def restA (r : List UInt8) (fl sz : Nat) : Int × List Pr × Bool × Int := match restH r fl with
    | none => ((0 : Int), ([] : List Pr), false, (11 : Int))
    | some (L, d) => if 1024 < sz then ((0 : Int), ([] : List Pr), false, (3 : Int)) else ((sz : Int), L, d, (0 : Int))
theorem tailH_no (sz : Nat) (L : List Pr) (r : List UInt8) : tailH sz L 1 (r, false) = match noL r L with
    | none => ((0 : Int), ([] : List Pr), false, (11 : Int))
    | some (L, d) => if 1024 < sz then ((0 : Int), ([] : List Pr), false, (3 : Int)) else ((sz : Int), L, d, (0 : Int)) := by
  unfold tailH noL
  cases r with
  | nil => simp
  | cons c r => simp
theorem tailH_mo (sz : Nat) (L : List Pr) (r : List UInt8) : tailH sz L (numR (r, false) 1).1 (numR (r, false) 1).2 = match moL r L with
    | none => ((0 : Int), ([] : List Pr), false, (11 : Int))
    | some (L, d) => if 1024 < sz then ((0 : Int), ([] : List Pr), false, (3 : Int)) else ((sz : Int), L, d, (0 : Int)) := by
  match r with
  | [] =>
    rw [numR_no (by simp)]
    unfold tailH moL modeR
    simp
  | [c] =>
    rw [numR_yes (by simp)]
    have e1 : numL ([c].take 1) = c.toNat := by simp [numL]
    have hM := modeR_one (r := [c]) rfl
    rw [e1]
    unfold tailH moL
    rw [hM]
    have e2 : ([c].getD 0 0).toNat = c.toNat := rfl
    rw [e2]
    generalize c.toNat = x
    by_cases h1 : x = 1
    · subst h1; simp
    · by_cases h2 : x = 2
      · subst h2; simp
      · rw [if_neg h1, if_neg h2, if_pos (.inr (.inr (by omega)))]
        simp
  | c :: d :: r =>
    rw [numR_yes (by simp)]
    unfold tailH moL
    rw [modeR_len (by simp)]
    simp
theorem tailH_bad (sz : Nat) (L : List Pr) (m : Nat) (r : List UInt8) : tailH sz L m (r, true) = ((0 : Int), ([] : List Pr), false, (11 : Int)) := by
  unfold tailH
  simp
theorem rtab_rel (r : List UInt8) : (∀ L r', ctab r = some (L, r') → rtab (r, false) = (L, (r', false))) ∧ (ctab r = none → (rtab (r, false)).2.2 = true) := by
  unfold ctab rtab longR
  by_cases h4 : r.length < 4
  · rw [if_pos h4, numR_no h4]
    rw [takeR_bad]
    refine ⟨fun _ _ e => (nomatch e), fun _ => ?_⟩
    have e : tabO [] = some [] := rfl
    rw [e]
  · rw [if_neg h4, numR_yes (by omega)]
    unfold cutP
    by_cases h : numL (r.take 4) ≤ (r.drop 4).length
    · rw [if_pos h, takeR_yes h]
      cases ht : tabO ((r.drop 4).take (numL (r.take 4))) with
      | none => exact ⟨fun L r' e => by simp [ht] at e, fun _ => rfl⟩
      | some L => exact ⟨fun L r' e => by simp [ht] at e; simp [e], fun e => by simp [ht] at e⟩
    · rw [if_neg h, takeR_no (by omega)]
      refine ⟨fun _ _ e => (nomatch e), fun _ => ?_⟩
      have e : tabO [] = some [] := rfl
      rw [e]
theorem restA_0 (r : List UInt8) (sz : Nat) : restA r 0 sz = tailH sz [] 1 (r, false) := by rw [tailH_no]; unfold restA; rw [restH_0]
theorem restA_4 (r : List UInt8) (sz : Nat) : restA r 4096 sz = tailH sz [] (numR (r, false) 1).1 (numR (r, false) 1).2 := by rw [tailH_mo]; unfold restA; rw [restH_4]
theorem restA_8 (r : List UInt8) (sz : Nat) : restA r 8192 sz = tailH sz (rtab (r, false)).1 1 (rtab (r, false)).2 := by
  unfold restA
  rw [restH_8]
  have h := rtab_rel r
  cases hc : ctab r with
  | none =>
    have := h.2 hc
    generalize rtab (r, false) = x at *
    obtain ⟨L, r', b⟩ := x
    have hb : b = true := this
    subst hb
    rw [tailH_bad]
  | some x =>
    obtain ⟨L, r'⟩ := x
    rw [h.1 L r' hc, tailH_no]
theorem restA_12 (r : List UInt8) (sz : Nat) : restA r 12288 sz = tailH sz (rtab (r, false)).1 (numR (rtab (r, false)).2 1).1 (numR (rtab (r, false)).2 1).2 := by
  unfold restA
  rw [restH_12]
  have h := rtab_rel r
  cases hc : ctab r with
  | none =>
    have := h.2 hc
    generalize rtab (r, false) = x at *
    obtain ⟨L, r', b⟩ := x
    have hb : b = true := this
    subst hb
    rw [numR_bad, tailH_bad]
  | some x =>
    obtain ⟨L, r'⟩ := x
    rw [h.1 L r' hc, tailH_mo]
/-- What the four numbers at a header's beginning are. -/
theorem four_yes {s : List UInt8} (h : 14 ≤ s.length) : numR (s, false) 2 = (numL (s.take 2), (s.drop 2, false)) ∧ numR (s.drop 2, false) 2 = (numL ((s.drop 2).take 2), (s.drop 4, false)) ∧ numR (s.drop 4, false) 8 = (numL ((s.drop 4).take 8), (s.drop 12, false)) ∧ numR (s.drop 12, false) 2 = (numL ((s.drop 12).take 2), (s.drop 14, false)) := by
  refine ⟨numR_yes (by omega), ?_, ?_, ?_⟩
  · rw [numR_yes (by rw [List.length_drop]; omega), List.drop_drop]
  · rw [numR_yes (by rw [List.length_drop]; omega), List.drop_drop]
  · rw [numR_yes (by rw [List.length_drop]; omega), List.drop_drop]
theorem numR_bad2 {st : Rs} {k : Nat} (h : st.2 = true) : (numR st k).2.2 = true := by
  obtain ⟨s, b⟩ := st
  have hb : b = true := h
  subst hb
  rw [numR_bad]
theorem four_no {s : List UInt8} (h : s.length < 14) : (numR (numR (numR (numR (s, false) 2).2 2).2 8).2 2).2.2 = true := by
  by_cases h1 : s.length < 2
  · exact numR_bad2 (numR_bad2 (numR_bad2 (by rw [numR_no h1])))
  rw [numR_yes (s := s) (k := 2) (by omega)]
  by_cases h2 : (s.drop 2).length < 2
  · exact numR_bad2 (numR_bad2 (by rw [numR_no h2]))
  rw [numR_yes (s := s.drop 2) (k := 2) (by omega), List.drop_drop]
  by_cases h3 : (s.drop (2 + 2)).length < 8
  · exact numR_bad2 (by rw [numR_no h3])
  rw [numR_yes (s := s.drop (2 + 2)) (k := 8) (by omega), List.drop_drop]
  rw [numR_no (by simp only [List.length_drop] at *; omega)]
theorem readH_yes {s : List UInt8} (h : 14 ≤ s.length) : readH s = if numL (s.take 2) ≠ 60 ∨ numL ((s.drop 2).take 2) ≠ 0 then ((0 : Int), ([] : List Pr), false, (11 : Int)) else restA (s.drop 14) (numL ((s.drop 12).take 2)) (numL ((s.drop 4).take 8)) := by
  have e4 : s.take 4 = s.take 2 ++ (s.drop 2).take 2 := by
    rw [← List.take_add]
  have e5 : numL (s.take 4) = numL (s.take 2) * 65536 + numL ((s.drop 2).take 2) := by
    rw [e4, numL_app, show ((s.drop 2).take 2).length = 2 by rw [List.length_take, List.length_drop]; omega]
  have h2 : numL ((s.drop 2).take 2) < 65536 := by
    have := numL_lt ((s.drop 2).take 2)
    rwa [show ((s.drop 2).take 2).length = 2 by rw [List.length_take, List.length_drop]; omega] at this
  unfold readH
  by_cases hc : numL (s.take 2) ≠ 60 ∨ numL ((s.drop 2).take 2) ≠ 0
  · rw [if_pos hc, if_pos (.inr (by rw [e5]; omega))]
  · rw [if_neg hc, if_neg (by rw [e5]; omega)]
    rfl
set_option maxHeartbeats 1000000 in
theorem rhead_short (w : World) (s : List UInt8) (h : s.length < 14) : Calls Try.prog 17 #[str s] w fun e w' => RhP w' w.heap.size s e ∧ Below w.heap.size w w' := by
  have HH : Hid (readH s = ((0 : Int), ([] : List Pr), false, (11 : Int))) := by show _ = _; unfold readH; rw [if_pos (.inl h)]
  have H4 : Hid ((numR (numR (numR (numR (s, false) 2).2 2).2 8).2 2).2.2 = true) := four_no h
  have N := fun w b k st hk hr => rnum_any w b k st hk hr
  obtain ⟨a, ha⟩ : ∃ a, w.heap.size = a := ⟨_, rfl⟩
  have hR : RdS (w.alloc (.cells #[str s, .bool false] 53)) a (s, false) := by rw [← ha]; exact Rd.new w s false 53
  have hB : Below a w (w.alloc (.cells #[str s, .bool false] 53)) := by rw [← ha]; exact below_new w _
  have HA : Hid (w.heap.size = a) := ha
  clear h
  go_enter Try.func17, Try.ntmps17
  go_wp2_with fail
  clear ha
  generalize (w.alloc (.cells #[str s, .bool false] 53)) = w0 at *
  refine (N w0 a 2 _ (by omega) hR).mono ?_
  rintro e w1 ⟨rfl, h1, b1⟩
  have B1 := hB.trans (b1.below (Nat.le_refl a))
  clear hR hB b1
  generalize numR (s, false) 2 = m1 at *
  obtain ⟨n1, st1⟩ := m1
  go_wp2_with fail
  refine (N w1 a 2 _ (by omega) h1).mono ?_
  rintro e w2 ⟨rfl, h2, b2⟩
  have B2 := B1.trans (b2.below (Nat.le_refl a))
  clear h1 B1 b2
  generalize numR st1 2 = m2 at *
  obtain ⟨n2, st2⟩ := m2
  go_wp2_with fail
  refine (N w2 a 8 _ (by omega) h2).mono ?_
  rintro e w3 ⟨rfl, h3, b3⟩
  have B3 := B2.trans (b3.below (Nat.le_refl a))
  clear h2 B2 b3
  generalize numR st2 8 = m3 at *
  obtain ⟨n3, st3⟩ := m3
  go_wp2_with fail
  refine (N w3 a 2 _ (by omega) h3).mono ?_
  rintro e w4 ⟨rfl, h4, b4⟩
  have B4 := B3.trans (b4.below (Nat.le_refl a))
  clear h3 B3 b4 N
  generalize numR st3 2 = m4 at *
  obtain ⟨n4, r4, bd⟩ := m4
  have hbd : bd = true := H4.out
  subst hbd
  have c1 := h4.c1
  go_wp2_with fail
  refine bodyPost_ret (v := .tuple #[.int .i64 0, .slice none 0 0, .bool false, .int .i64 11]) (by simp [results, Try.results17, go_sem]) rfl ?_
  exact ⟨.bad HH.out, by rw [HA.out]; exact B4⟩
set_option maxHeartbeats 8000000 in
theorem rhead_full (w : World) (s : List UInt8) (h : 14 ≤ s.length) : Calls Try.prog 17 #[str s] w fun e w' => RhP w' w.heap.size s e ∧ Below w.heap.size w w' := by
  obtain ⟨h1, h2, h3, h4⟩ := four_yes h
  have HY : Hid (readH s = if numL (s.take 2) ≠ 60 ∨ numL ((s.drop 2).take 2) ≠ 0 then ((0 : Int), ([] : List Pr), false, (11 : Int)) else restA (s.drop 14) (numL ((s.drop 12).take 2)) (numL ((s.drop 4).take 8))) := readH_yes h
  obtain ⟨a, ha⟩ : ∃ a, w.heap.size = a := ⟨_, rfl⟩
  have N1 : ∀ w, Rd w a s false → Calls Try.prog 25 #[.pointer (some ⟨a, 0, none⟩), .int .i64 2] w fun e w' => e = .returned (.int .u64 (numL (s.take 2))) ∧ Rd w' a (s.drop 2) false ∧ But w w' a := fun w hr => by have := rnum_any w a 2 (s, false) (by omega) hr; rw [h1] at this; exact this
  have N2 : ∀ w, Rd w a (s.drop 2) false → Calls Try.prog 25 #[.pointer (some ⟨a, 0, none⟩), .int .i64 2] w fun e w' => e = .returned (.int .u64 (numL ((s.drop 2).take 2))) ∧ Rd w' a (s.drop 4) false ∧ But w w' a := fun w hr => by have := rnum_any w a 2 (s.drop 2, false) (by omega) hr; rw [h2] at this; exact this
  have N3 : ∀ w, Rd w a (s.drop 4) false → Calls Try.prog 25 #[.pointer (some ⟨a, 0, none⟩), .int .i64 8] w fun e w' => e = .returned (.int .u64 (numL ((s.drop 4).take 8))) ∧ Rd w' a (s.drop 12) false ∧ But w w' a := fun w hr => by have := rnum_any w a 8 (s.drop 4, false) (by omega) hr; rw [h3] at this; exact this
  have N4 : ∀ w, Rd w a (s.drop 12) false → Calls Try.prog 25 #[.pointer (some ⟨a, 0, none⟩), .int .i64 2] w fun e w' => e = .returned (.int .u64 (numL ((s.drop 12).take 2))) ∧ Rd w' a (s.drop 14) false ∧ But w w' a := fun w hr => by have := rnum_any w a 2 (s.drop 12, false) (by omega) hr; rw [h4] at this; exact this
  clear h1 h2 h3 h4 h
  have hR : Rd (w.alloc (.cells #[str s, .bool false] 53)) a s false := by rw [← ha]; exact Rd.new w s false 53
  have hB : Below a w (w.alloc (.cells #[str s, .bool false] 53)) := by rw [← ha]; exact below_new w _
  have hsz0 : a < (w.alloc (.cells #[str s, .bool false] 53)).heap.size := by simp; omega
  have HA : Hid (w.heap.size = a) := ha
  generalize s.drop 14 = r at *
  generalize numL ((s.drop 12).take 2) = fl at *
  generalize numL ((s.drop 4).take 8) = sz at *
  generalize numL ((s.drop 2).take 2) = wt at *
  generalize numL (s.take 2) = cl at *
  generalize s.drop 12 = s12 at *
  generalize s.drop 4 = s4 at *
  generalize s.drop 2 = s2 at *
  go_enter Try.func17, Try.ntmps17
  go_wp2_with fail
  clear ha
  generalize (w.alloc (.cells #[str s, .bool false] 53)) = w0 at *
  refine (N1 w0 hR).mono ?_
  rintro e w1 ⟨rfl, h1, b1⟩
  have B1 := hB.trans (b1.below (Nat.le_refl a))
  have z1 : a < w1.heap.size := by rw [b1.size]; exact hsz0
  clear hR hB b1 N1 hsz0
  go_wp2_with fail
  refine (N2 w1 h1).mono ?_
  rintro e w2 ⟨rfl, h2, b2⟩
  have B2 := B1.trans (b2.below (Nat.le_refl a))
  have z2 : a < w2.heap.size := by rw [b2.size]; exact z1
  clear h1 B1 b2 N2 z1
  go_wp2_with fail
  refine (N3 w2 h2).mono ?_
  rintro e w3 ⟨rfl, h3, b3⟩
  have B3 := B2.trans (b3.below (Nat.le_refl a))
  have z3 : a < w3.heap.size := by rw [b3.size]; exact z2
  clear h2 B2 b3 N3 z2
  go_wp2_with fail
  refine (N4 w3 h3).mono ?_
  rintro e w4 ⟨rfl, h4, b4⟩
  have B4 := B3.trans (b4.below (Nat.le_refl a))
  have z4 : a < w4.heap.size := by rw [b4.size]; exact z3
  clear h3 B3 b4 N4 z3
  have c1 := h4.c1
  have c0 := h4.c0
  by_cases hc : cl ≠ 60 ∨ wt ≠ 0
  · have HH : Hid (readH s = ((0 : Int), ([] : List Pr), false, (11 : Int))) := by show _ = _; rw [HY.out, if_pos hc]
    by_cases hcl : cl = 60
    · have hwt : (wt : Int) ≠ 0 := by omega
      subst hcl
      go_wp2_with fail
      refine bodyPost_ret (v := .tuple #[.int .i64 0, .slice none 0 0, .bool false, .int .i64 11]) (by simp [results, Try.results17, go_sem]) rfl ?_
      exact ⟨.bad HH.out, by rw [HA.out]; exact B4⟩
    · have hclz : (cl : Int) ≠ 60 := by omega
      go_wp2_with fail
      refine bodyPost_ret (v := .tuple #[.int .i64 0, .slice none 0 0, .bool false, .int .i64 11]) (by simp [results, Try.results17, go_sem]) rfl ?_
      exact ⟨.bad HH.out, by rw [HA.out]; exact B4⟩
  have HZ : Hid (readH s = restA r fl sz) := by show _ = _; rw [HY.out, if_neg hc]
  clear HY
  obtain ⟨rfl, rfl⟩ : cl = 60 ∧ wt = 0 := by omega
  clear hc
  by_cases hf : fl ≠ 0 ∧ fl ≠ 4096 ∧ fl ≠ 8192 ∧ fl ≠ 12288
  · have HH : Hid (readH s = ((0 : Int), ([] : List Pr), false, (11 : Int))) := by show _ = _; rw [HZ.out]; unfold restA restH; rw [if_pos hf]
    have f0 : ((fl : Int) != 0) = true := by simp; omega
    have f1 : ((fl : Int) != 4096) = true := by simp; omega
    have f2 : ((fl : Int) != 8192) = true := by simp; omega
    have f3 : ((fl : Int) != 12288) = true := by simp; omega
    clear hf
    go_wp2_with fail
    refine bodyPost_ret (v := .tuple #[.int .i64 0, .slice none 0 0, .bool false, .int .i64 11]) (by simp [results, Try.results17, go_sem]) rfl ?_
    exact ⟨.bad HH.out, by rw [HA.out]; exact B4⟩
  have hf2 : fl = 0 ∨ fl = 4096 ∨ fl = 8192 ∨ fl = 12288 := by omega
  clear hf
  rcases hf2 with rfl | rfl | rfl | rfl
  · obtain ⟨r6, hr⟩ : ∃ r6, r6 = r := ⟨_, rfl⟩
    obtain ⟨b6, hb6⟩ : ∃ b6, b6 = false := ⟨_, rfl⟩
    have HT : Hid (readH s = tailH sz [] 1 (r6, b6)) := by show _ = _; rw [HZ.out, hr, hb6]; exact restA_0 r sz
    have HOW : Hid (OwnP w4 w.heap.size (.slice none 0 0) []) := World.ownsRow_nil _ _ _ _
    have HBW : Hid (Below w.heap.size w w4) := by show Below _ _ _; rw [HA.out]; exact B4
    rw [← hb6] at c1
    rw [← hr] at c0
    clear hr hb6 h4 B4 HZ
    cases b6 with
    | true =>
      have HH : Hid (readH s = ((0 : Int), ([] : List Pr), false, (11 : Int))) := by show _ = _; rw [HT.out]; unfold tailH; rw [if_pos (.inl rfl)]
      go_wp2_with fail
      refine bodyPost_ret (v := .tuple #[.int .i64 0, .slice none 0 0, .bool false, .int .i64 11]) (by simp [results, Try.results17, go_sem]) rfl ?_
      exact ⟨.bad HH.out, HBW.out⟩
    | false =>
      by_cases hr6 : r6 = []
      · subst hr6
        have HT : Hid (readH s = if 1024 < sz then ((0 : Int), ([] : List Pr), false, (3 : Int)) else ((sz : Int), [], decide (1 = 2), (0 : Int))) := by show _ = _; rw [HT.out]; unfold tailH; rw [if_neg (by simp)]
        by_cases hsz : 1024 < sz
        · have hszz : (1024 : Int) < (sz : Int) := by omega
          have HH : Hid (readH s = ((0 : Int), ([] : List Pr), false, (3 : Int))) := by show _ = _; rw [HT.out, if_pos hsz]
          clear hsz
          go_wp2_with fail
          refine bodyPost_ret (v := .tuple #[.int .i64 0, .slice none 0 0, .bool false, .int .i64 3]) (by simp [results, Try.results17, go_sem]) rfl ?_
          exact ⟨.bad HH.out, HBW.out⟩
        · have hszz : ¬ (1024 : Int) < (sz : Int) := by omega
          have HH : Hid (readH s = ((sz : Int), [], false, (0 : Int))) := by show _ = _; rw [HT.out, if_neg hsz]; rfl
          have u1 : IntKind.i64.wrap (sz : Int) = (sz : Int) := by rw [IntKind.wrap_i64]; omega
          clear hsz
          go_wp2_with fail
          refine bodyPost_ret (v := .tuple #[.int .i64 sz, .slice none 0 0, .bool false, .int .i64 0]) (by simp [results, Try.results17, go_sem]) rfl ?_
          exact ⟨⟨.slice none 0 0, by rw [HH.out], by rw [HH.out]; exact HOW.out⟩, HBW.out⟩
      · have hne : r6.isEmpty = false := by cases r6 <;> simp at *
        have HH : Hid (readH s = ((0 : Int), ([] : List Pr), false, (11 : Int))) := by show _ = _; rw [HT.out]; unfold tailH; rw [if_pos (.inr (.inl hr6))]
        go_wp2_with fail
        refine bodyPost_ret (v := .tuple #[.int .i64 0, .slice none 0 0, .bool false, .int .i64 11]) (by simp [results, Try.results17, go_sem]) rfl ?_
        exact ⟨.bad HH.out, HBW.out⟩
  · have N := rnum_any w4 a 1 (r, false) (by omega) h4
    have HT : Hid (readH s = tailH sz [] (numR (r, false) 1).1 (numR (r, false) 1).2) := by show _ = _; rw [HZ.out]; exact restA_4 r sz
    generalize numR (r, false) 1 = ms at *
    obtain ⟨m, r6, b6⟩ := ms
    go_wp2_with fail
    refine N.mono ?_
    rintro e w5 ⟨rfl, h5, b5⟩
    have HOW : Hid (OwnP w5 w.heap.size (.slice none 0 0) []) := World.ownsRow_nil _ _ _ _
    have HBW : Hid (Below w.heap.size w w5) := by show Below _ _ _; rw [HA.out]; exact B4.trans (b5.below (Nat.le_refl a))
    have c0 := h5.c0
    have c1 := h5.c1
    clear h5 h4 B4 b5 HZ N
    cases b6 with
    | true =>
      have HH : Hid (readH s = ((0 : Int), ([] : List Pr), false, (11 : Int))) := by show _ = _; rw [HT.out]; unfold tailH; rw [if_pos (.inl rfl)]
      go_wp2_with fail
      refine bodyPost_ret (v := .tuple #[.int .i64 0, .slice none 0 0, .bool false, .int .i64 11]) (by simp [results, Try.results17, go_sem]) rfl ?_
      exact ⟨.bad HH.out, HBW.out⟩
    | false =>
      by_cases hr6 : r6 = []
      · subst hr6
        by_cases hm : m < 1 ∨ 2 < m
        · have hmz : m = 0 ∨ 2 < m := by omega
          rcases hmz with hmz | hmz
          · subst hmz
            have HH : Hid (readH s = ((0 : Int), ([] : List Pr), false, (11 : Int))) := by show _ = _; rw [HT.out]; unfold tailH; rw [if_pos (.inr (.inr (.inl (by omega))))]
            go_wp2_with fail
            refine bodyPost_ret (v := .tuple #[.int .i64 0, .slice none 0 0, .bool false, .int .i64 11]) (by simp [results, Try.results17, go_sem]) rfl ?_
            exact ⟨.bad HH.out, HBW.out⟩
          · have hmz1 : ¬ ((m : Int) < 1) := by omega
            have hmz2 : (2 : Int) < (m : Int) := by omega
            have HH : Hid (readH s = ((0 : Int), ([] : List Pr), false, (11 : Int))) := by show _ = _; rw [HT.out]; unfold tailH; rw [if_pos (.inr (.inr (.inr hmz)))]
            go_wp2_with fail
            refine bodyPost_ret (v := .tuple #[.int .i64 0, .slice none 0 0, .bool false, .int .i64 11]) (by simp [results, Try.results17, go_sem]) rfl ?_
            exact ⟨.bad HH.out, HBW.out⟩
        have HT : Hid (readH s = if 1024 < sz then ((0 : Int), ([] : List Pr), false, (3 : Int)) else ((sz : Int), [], decide (m = 2), (0 : Int))) := by show _ = _; rw [HT.out]; unfold tailH; rw [if_neg (by simp; omega)]
        have hm1 : m = 1 ∨ m = 2 := by omega
        clear hm
        rcases hm1 with hm1 | hm1
        · subst hm1
          by_cases hsz : 1024 < sz
          · have hszz : (1024 : Int) < (sz : Int) := by omega
            have HH : Hid (readH s = ((0 : Int), ([] : List Pr), false, (3 : Int))) := by show _ = _; rw [HT.out, if_pos hsz]
            clear hsz
            go_wp2_with fail
            refine bodyPost_ret (v := .tuple #[.int .i64 0, .slice none 0 0, .bool false, .int .i64 3]) (by simp [results, Try.results17, go_sem]) rfl ?_
            exact ⟨.bad HH.out, HBW.out⟩
          · have hszz : ¬ (1024 : Int) < (sz : Int) := by omega
            have HH : Hid (readH s = ((sz : Int), [], false, (0 : Int))) := by show _ = _; rw [HT.out, if_neg hsz]; rfl
            have u1 : IntKind.i64.wrap (sz : Int) = (sz : Int) := by rw [IntKind.wrap_i64]; omega
            clear hsz
            go_wp2_with fail
            refine bodyPost_ret (v := .tuple #[.int .i64 sz, .slice none 0 0, .bool false, .int .i64 0]) (by simp [results, Try.results17, go_sem]) rfl ?_
            exact ⟨⟨.slice none 0 0, by rw [HH.out], by rw [HH.out]; exact HOW.out⟩, HBW.out⟩
        · subst hm1
          by_cases hsz : 1024 < sz
          · have hszz : (1024 : Int) < (sz : Int) := by omega
            have HH : Hid (readH s = ((0 : Int), ([] : List Pr), false, (3 : Int))) := by show _ = _; rw [HT.out, if_pos hsz]
            clear hsz
            go_wp2_with fail
            refine bodyPost_ret (v := .tuple #[.int .i64 0, .slice none 0 0, .bool false, .int .i64 3]) (by simp [results, Try.results17, go_sem]) rfl ?_
            exact ⟨.bad HH.out, HBW.out⟩
          · have hszz : ¬ (1024 : Int) < (sz : Int) := by omega
            have HH : Hid (readH s = ((sz : Int), [], true, (0 : Int))) := by show _ = _; rw [HT.out, if_neg hsz]; rfl
            have u1 : IntKind.i64.wrap (sz : Int) = (sz : Int) := by rw [IntKind.wrap_i64]; omega
            clear hsz
            go_wp2_with fail
            refine bodyPost_ret (v := .tuple #[.int .i64 sz, .slice none 0 0, .bool true, .int .i64 0]) (by simp [results, Try.results17, go_sem]) rfl ?_
            exact ⟨⟨.slice none 0 0, by rw [HH.out], by rw [HH.out]; exact HOW.out⟩, HBW.out⟩
      · have hne : r6.isEmpty = false := by cases r6 <;> simp at *
        have HH : Hid (readH s = ((0 : Int), ([] : List Pr), false, (11 : Int))) := by show _ = _; rw [HT.out]; unfold tailH; rw [if_pos (.inr (.inl hr6))]
        go_wp2_with fail
        refine bodyPost_ret (v := .tuple #[.int .i64 0, .slice none 0 0, .bool false, .int .i64 11]) (by simp [results, Try.results17, go_sem]) rfl ?_
        exact ⟨.bad HH.out, HBW.out⟩
  · have T := rtable_any w4 a (r, false) h4 z4
    have HT : Hid (readH s = tailH sz (rtab (r, false)).1 1 (rtab (r, false)).2) := by show _ = _; rw [HZ.out]; exact restA_8 r sz
    generalize rtab (r, false) = ms at *
    obtain ⟨L, r6, b6⟩ := ms
    go_wp2_with fail
    refine T.mono ?_
    rintro e w5 ⟨v, rfl, ho, h5, b5⟩
    have HOW : Hid (OwnP w5 w.heap.size v L) := ho.low (by rw [HA.out]; omega)
    have HBW : Hid (Below w.heap.size w w5) := by show Below _ _ _; rw [HA.out]; exact B4.trans ⟨b5.os, b5.tape, b5.output, b5.size, fun k hk => b5.block k (by omega) (by omega)⟩
    have c0 := h5.c0
    have c1 := h5.c1
    clear h5 h4 B4 b5 HZ T ho
    cases b6 with
    | true =>
      have HH : Hid (readH s = ((0 : Int), ([] : List Pr), false, (11 : Int))) := by show _ = _; rw [HT.out]; unfold tailH; rw [if_pos (.inl rfl)]
      go_wp2_with fail
      refine bodyPost_ret (v := .tuple #[.int .i64 0, .slice none 0 0, .bool false, .int .i64 11]) (by simp [results, Try.results17, go_sem]) rfl ?_
      exact ⟨.bad HH.out, HBW.out⟩
    | false =>
      by_cases hr6 : r6 = []
      · subst hr6
        have HT : Hid (readH s = if 1024 < sz then ((0 : Int), ([] : List Pr), false, (3 : Int)) else ((sz : Int), L, decide (1 = 2), (0 : Int))) := by show _ = _; rw [HT.out]; unfold tailH; rw [if_neg (by simp)]
        by_cases hsz : 1024 < sz
        · have hszz : (1024 : Int) < (sz : Int) := by omega
          have HH : Hid (readH s = ((0 : Int), ([] : List Pr), false, (3 : Int))) := by show _ = _; rw [HT.out, if_pos hsz]
          clear hsz
          go_wp2_with fail
          refine bodyPost_ret (v := .tuple #[.int .i64 0, .slice none 0 0, .bool false, .int .i64 3]) (by simp [results, Try.results17, go_sem]) rfl ?_
          exact ⟨.bad HH.out, HBW.out⟩
        · have hszz : ¬ (1024 : Int) < (sz : Int) := by omega
          have HH : Hid (readH s = ((sz : Int), L, false, (0 : Int))) := by show _ = _; rw [HT.out, if_neg hsz]; rfl
          have u1 : IntKind.i64.wrap (sz : Int) = (sz : Int) := by rw [IntKind.wrap_i64]; omega
          clear hsz
          go_wp2_with fail
          refine bodyPost_ret (v := .tuple #[.int .i64 sz, v, .bool false, .int .i64 0]) (by simp [results, Try.results17, go_sem]) rfl ?_
          exact ⟨⟨v, by rw [HH.out], by rw [HH.out]; exact HOW.out⟩, HBW.out⟩
      · have hne : r6.isEmpty = false := by cases r6 <;> simp at *
        have HH : Hid (readH s = ((0 : Int), ([] : List Pr), false, (11 : Int))) := by show _ = _; rw [HT.out]; unfold tailH; rw [if_pos (.inr (.inl hr6))]
        go_wp2_with fail
        refine bodyPost_ret (v := .tuple #[.int .i64 0, .slice none 0 0, .bool false, .int .i64 11]) (by simp [results, Try.results17, go_sem]) rfl ?_
        exact ⟨.bad HH.out, HBW.out⟩
  · have T := rtable_any w4 a (r, false) h4 z4
    have HT : Hid (readH s = tailH sz (rtab (r, false)).1 (numR (rtab (r, false)).2 1).1 (numR (rtab (r, false)).2 1).2) := by show _ = _; rw [HZ.out]; exact restA_12 r sz
    generalize rtab (r, false) = ms at *
    obtain ⟨L, st5⟩ := ms
    go_wp2_with fail
    refine T.mono ?_
    rintro e w5 ⟨v, rfl, ho, h5, b5⟩
    have ho5 : OwnP w5 (a + 1) v L := ho.low z4
    have HBV : Hid (Below w.heap.size w w5) := by show Below _ _ _; rw [HA.out]; exact B4.trans ⟨b5.os, b5.tape, b5.output, b5.size, fun k hk => b5.block k (by omega) (by omega)⟩
    have N := rnum_any w5 a 1 st5 (by omega) h5
    clear h4 B4 b5 HZ T ho c0 c1
    have HT : Hid (readH s = tailH sz L (numR st5 1).1 (numR st5 1).2) := HT
    generalize numR st5 1 = ms at *
    obtain ⟨m, r6, b6⟩ := ms
    go_wp2_with fail
    refine N.mono ?_
    rintro e w6 ⟨rfl, h6, b6'⟩
    have HOW : Hid (OwnP w6 w.heap.size v L) := (ho5.alb (b := a) (.but b6') (by omega)).low (by rw [HA.out]; omega)
    have HBW : Hid (Below w.heap.size w w6) := HBV.out.trans (b6'.below (by rw [HA.out]; exact Nat.le_refl a))
    have c0 := h6.c0
    have c1 := h6.c1
    clear h5 h6 b6' N ho5 HBV
    cases b6 with
    | true =>
      have HH : Hid (readH s = ((0 : Int), ([] : List Pr), false, (11 : Int))) := by show _ = _; rw [HT.out]; unfold tailH; rw [if_pos (.inl rfl)]
      go_wp2_with fail
      refine bodyPost_ret (v := .tuple #[.int .i64 0, .slice none 0 0, .bool false, .int .i64 11]) (by simp [results, Try.results17, go_sem]) rfl ?_
      exact ⟨.bad HH.out, HBW.out⟩
    | false =>
      by_cases hr6 : r6 = []
      · subst hr6
        by_cases hm : m < 1 ∨ 2 < m
        · have hmz : m = 0 ∨ 2 < m := by omega
          rcases hmz with hmz | hmz
          · subst hmz
            have HH : Hid (readH s = ((0 : Int), ([] : List Pr), false, (11 : Int))) := by show _ = _; rw [HT.out]; unfold tailH; rw [if_pos (.inr (.inr (.inl (by omega))))]
            go_wp2_with fail
            refine bodyPost_ret (v := .tuple #[.int .i64 0, .slice none 0 0, .bool false, .int .i64 11]) (by simp [results, Try.results17, go_sem]) rfl ?_
            exact ⟨.bad HH.out, HBW.out⟩
          · have hmz1 : ¬ ((m : Int) < 1) := by omega
            have hmz2 : (2 : Int) < (m : Int) := by omega
            have HH : Hid (readH s = ((0 : Int), ([] : List Pr), false, (11 : Int))) := by show _ = _; rw [HT.out]; unfold tailH; rw [if_pos (.inr (.inr (.inr hmz)))]
            go_wp2_with fail
            refine bodyPost_ret (v := .tuple #[.int .i64 0, .slice none 0 0, .bool false, .int .i64 11]) (by simp [results, Try.results17, go_sem]) rfl ?_
            exact ⟨.bad HH.out, HBW.out⟩
        have HT : Hid (readH s = if 1024 < sz then ((0 : Int), ([] : List Pr), false, (3 : Int)) else ((sz : Int), L, decide (m = 2), (0 : Int))) := by show _ = _; rw [HT.out]; unfold tailH; rw [if_neg (by simp; omega)]
        have hm1 : m = 1 ∨ m = 2 := by omega
        clear hm
        rcases hm1 with hm1 | hm1
        · subst hm1
          by_cases hsz : 1024 < sz
          · have hszz : (1024 : Int) < (sz : Int) := by omega
            have HH : Hid (readH s = ((0 : Int), ([] : List Pr), false, (3 : Int))) := by show _ = _; rw [HT.out, if_pos hsz]
            clear hsz
            go_wp2_with fail
            refine bodyPost_ret (v := .tuple #[.int .i64 0, .slice none 0 0, .bool false, .int .i64 3]) (by simp [results, Try.results17, go_sem]) rfl ?_
            exact ⟨.bad HH.out, HBW.out⟩
          · have hszz : ¬ (1024 : Int) < (sz : Int) := by omega
            have HH : Hid (readH s = ((sz : Int), L, false, (0 : Int))) := by show _ = _; rw [HT.out, if_neg hsz]; rfl
            have u1 : IntKind.i64.wrap (sz : Int) = (sz : Int) := by rw [IntKind.wrap_i64]; omega
            clear hsz
            go_wp2_with fail
            refine bodyPost_ret (v := .tuple #[.int .i64 sz, v, .bool false, .int .i64 0]) (by simp [results, Try.results17, go_sem]) rfl ?_
            exact ⟨⟨v, by rw [HH.out], by rw [HH.out]; exact HOW.out⟩, HBW.out⟩
        · subst hm1
          by_cases hsz : 1024 < sz
          · have hszz : (1024 : Int) < (sz : Int) := by omega
            have HH : Hid (readH s = ((0 : Int), ([] : List Pr), false, (3 : Int))) := by show _ = _; rw [HT.out, if_pos hsz]
            clear hsz
            go_wp2_with fail
            refine bodyPost_ret (v := .tuple #[.int .i64 0, .slice none 0 0, .bool false, .int .i64 3]) (by simp [results, Try.results17, go_sem]) rfl ?_
            exact ⟨.bad HH.out, HBW.out⟩
          · have hszz : ¬ (1024 : Int) < (sz : Int) := by omega
            have HH : Hid (readH s = ((sz : Int), L, true, (0 : Int))) := by show _ = _; rw [HT.out, if_neg hsz]; rfl
            have u1 : IntKind.i64.wrap (sz : Int) = (sz : Int) := by rw [IntKind.wrap_i64]; omega
            clear hsz
            go_wp2_with fail
            refine bodyPost_ret (v := .tuple #[.int .i64 sz, v, .bool true, .int .i64 0]) (by simp [results, Try.results17, go_sem]) rfl ?_
            exact ⟨⟨v, by rw [HH.out], by rw [HH.out]; exact HOW.out⟩, HBW.out⟩
      · have hne : r6.isEmpty = false := by cases r6 <;> simp at *
        have HH : Hid (readH s = ((0 : Int), ([] : List Pr), false, (11 : Int))) := by show _ = _; rw [HT.out]; unfold tailH; rw [if_pos (.inr (.inl hr6))]
        go_wp2_with fail
        refine bodyPost_ret (v := .tuple #[.int .i64 0, .slice none 0 0, .bool false, .int .i64 11]) (by simp [results, Try.results17, go_sem]) rfl ?_
        exact ⟨.bad HH.out, HBW.out⟩
theorem rheadR_any (w : World) (s : List UInt8) : Calls Try.prog 17 #[str s] w fun e w' => RhP w' w.heap.size s e ∧ Below w.heap.size w w' := by
  by_cases h : s.length < 14
  · exact rhead_short w s h
  · exact rhead_full w s (by omega)
end Go.Proofs.Ytlkinkbdhoejiaa
