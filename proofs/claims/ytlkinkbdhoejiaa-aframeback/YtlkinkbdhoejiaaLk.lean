/- trivetlaw16.AframeBack answers true of any frame, any bytes and any properties. Conditions: the properties are such as can be handed in. -/
import Derived.Test.YtlkinkbdhoejiaaLj
namespace Go.Proofs.Ytlkinkbdhoejiaa
open Go.RowKit Go.Lib
set_option maxRecDepth 100000
set_option linter.unusedSimpArgs false

theorem rdB_take {w : World} {g cap n k : Nat} {l : List UInt8} (h : RdB w (.slice (some ⟨g, 0, none⟩) n cap) l) (hk : k ≤ l.length) (hl : l.length = n) : RdB w (.slice (some ⟨g, 0, none⟩) k cap) (l.take k) := by
  rcases h with ⟨h, _⟩ | ⟨b, o, c, h, hlc, hc⟩
  · cases h
  · injection h with h1 h2 h3
    injection h1 with h1
    injection h1 with h1 h4
    subst h1 h3 h4
    have e : (l.take k).length = k := by rw [List.length_take]; omega
    refine .inr ⟨g, 0, cap, by rw [e], by omega, fun i hi => ?_⟩
    rw [hc i (by omega)]
    congr 4
    rw [List.getD_eq_getElem?_getD, List.getD_eq_getElem?_getD, List.getElem?_take_of_lt (by omega)]
set_option maxHeartbeats 4000000 in
theorem back_law (w : World) (t c : Int) (p m : List UInt8) (va : Value) (ps : List Pr) (hr : RdP w va ps) (hf : ∀ q ∈ ps, Fits q) (hn : ∀ q ∈ ps, Nums q) (h63 : ps.length ≤ 9223372036854775806) :
    Calls Try.prog 5 #[frV t c p, str m, va] w fun e w' => e = .returned (.bool true) ∧ Below w.heap.size w w' := by
  have HR : Hid (RdP w va ps) := hr
  have HNu : Hid (∀ q ∈ ps, Nums q) := hn
  have LO := fun w (h : RdP w va ps) => alllong_any w va ps h h63
  have HD := fun w (n : Int) d (h : RdP w va ps) => head_any w n va d ps h hf
  have SA := fun w v (h : RdP w v ps) (h' : RdP w va ps) => all7 w v va ps ps h h' h63
  rw [show sameL ps ps = true from (sameL_eq _ _).2 rfl] at SA
  have hF := F3.new w (.int .i64 t) (.int .i64 c) (str p) 23
  have hW : Below w.heap.size w (w.alloc (.cells #[.int .i64 t, .int .i64 c, str p] 23)) := below_new w _
  have hS : (w.alloc (.cells #[.int .i64 t, .int .i64 c, str p] 23)).heap.size = w.heap.size + 1 := by simp
  obtain ⟨a, ha⟩ : ∃ a, w.heap.size = a := ⟨_, rfl⟩
  rw [ha] at hF hS
  have ha' : Hid (w.heap.size = a) := ha
  clear hr hf hn h63
  by_cases h1 : 32768 < p.length
  · have d1 : decide ((32768 : Int) < (p.length : Int)) = true := by simp; omega
    clear h1
    go_enter Try.func5, Try.ntmps5
    generalize hV : w.alloc (.cells #[.int .i64 t, .int .i64 c, str p] 23) = V at *
    go_wp2_with fail
    refine (wakes_any _).mono ?_
    rintro e w1 ⟨rfl, hb1⟩
    have hF1 := hF.below hb1 (by omega)
    obtain ⟨q0, q1, q2, _, _, _⟩ := hF1
    go_wp2_with fail
    go_ret
    exact ⟨rfl, hW.trans (hb1.mono (by omega))⟩
  have d1 : decide ((32768 : Int) < (p.length : Int)) = false := by simp; omega
  by_cases h2 : 4096 < m.length
  · have d2 : decide ((4096 : Int) < (m.length : Int)) = true := by simp; omega
    clear h1 h2
    go_enter Try.func5, Try.ntmps5
    generalize hV : w.alloc (.cells #[.int .i64 t, .int .i64 c, str p] 23) = V at *
    go_wp2_with fail
    refine (wakes_any _).mono ?_
    rintro e w1 ⟨rfl, hb1⟩
    have hF1 := hF.below hb1 (by omega)
    obtain ⟨q0, q1, q2, _, _, _⟩ := hF1
    go_wp2_with fail
    go_ret
    exact ⟨rfl, hW.trans (hb1.mono (by omega))⟩
  have d2 : decide ((4096 : Int) < (m.length : Int)) = false := by simp; omega
  have hen : ∀ w, Calls Try.prog 9 #[frV t c p] w fun e w' => ∃ v, e = .returned (.tuple #[v, .int .i64 (encE t c p)]) ∧ Own w' w.heap.size v (encB t c p) ∧ Below w.heap.size w w' := fun w => enc_any w t c p (by omega)
  have hpl : p.length ≤ 32768 := by omega
  have hml : m.length ≤ 4096 := by omega
  clear h1 h2
  go_enter Try.func5, Try.ntmps5
  generalize hV : w.alloc (.cells #[.int .i64 t, .int .i64 c, str p] 23) = V at *
  go_wp2_with fail
  refine (wakes_any _).mono ?_
  rintro e w1 ⟨rfl, hb1⟩
  have hF1 := hF.below hb1 (by omega)
  have hB1 := hW.trans (hb1.mono (by omega))
  have hS1 : a < w1.heap.size := by have := hb1.size; omega
  clear hb1 hF hS hW
  have q0 := hF1.c0
  have q1 := hF1.c1
  have q2 := hF1.c2
  go_wp2_with fail
  refine (LO _ (HR.out.on hB1)).mono ?_
  rintro e w2 ⟨⟨x, rfl⟩, b2⟩
  have hF2 := hF1.below b2 hS1
  have B2 := hB1.trans (b2.mono hB1.size)
  have hS2 : a < w2.heap.size := by have := b2.size; omega
  clear LO b2 hF1 hB1 hS1 q0 q1 q2
  have q0 := hF2.c0
  have q1 := hF2.c1
  have q2 := hF2.c2
  cases x with
  | true =>
    go_wp2_with fail
    go_ret
    exact ⟨rfl, B2⟩
  | false =>
    cases hok : okF t c p with
    | false =>
      simp only [encE, encB, hok, Bool.false_eq_true, if_false] at hen
      go_wp2_with fail
      refine (hen _).mono ?_
      rintro e w3 ⟨v3, rfl, o3, b3⟩
      have B3 := B2.trans (b3.mono B2.size)
      obtain ⟨ad, cp, hv3⟩ : ∃ ad cp, v3 = .slice ad 0 cp := by
        rcases o3.2 with ⟨rfl, _⟩ | ⟨g, cap, cur, rfl, _⟩
        · exact ⟨_, _, rfl⟩
        · exact ⟨_, _, rfl⟩
      subst hv3
      go_wp2_with fail
      go_ret
      exact ⟨rfl, B3⟩
    | true =>
      simp only [encE, encB, hok, if_true] at hen
      obtain ⟨t', c', rfl, rfl, y1, y2, y3, y4⟩ := okF_nat t c p hok
      simp only [Int.toNat_natCast] at hen
      have hfr : FrOk t' c' p := ⟨y1, y2, y3, y4⟩
      have NX := fun w => next_any w (frL t' c' p ++ m) (by rw [List.length_append, frL_len]; omega)
      simp only [next_frame t' c' p m hfr] at NX
      have NP : ∀ (k : Nat), k < p.length + 8 → ∀ w, Calls Try.prog 11 #[str ((frL t' c' p).take k)] w fun e w' => e = .returned (nrV ⟨0, 0, [], 0, 41⟩) ∧ Below w.heap.size w w' := fun k hk w => by
        have := next_any w ((frL t' c' p).take k) (by rw [List.length_take, frL_len]; omega)
        rwa [next_part t' c' p hfr k hk] at this
      have hal : (frL t' c' p).length = p.length + 8 := frL_len ..
      have HX : Hid ((⟨(frL t' c' p).toArray⟩ : ByteArray) ++ ⟨m.toArray⟩ = ⟨(frL t' c' p ++ m).toArray⟩) := by
        show _ = _
        apply ByteArray.ext
        simp
      clear hfr hok y1 y2 y3
      go_wp2_with fail
      refine (hen _).mono ?_
      rintro e w3 ⟨v3, rfl, o3, b3⟩
      have hF3 := hF2.below b3 hS2
      have B3 := B2.trans (b3.mono B2.size)
      have hS3 : a < w3.heap.size := by have := b3.size; omega
      have cv := conv_any o3.rd
      clear hen b3 hF2 B2 hS2 q0 q1 q2
      go_wp2_with fail
      rw [HX.out]
      refine (NX _).mono ?_
      rintro e w4 ⟨rfl, b4⟩
      have hF4 := hF3.below b4 hS3
      have B4 := B3.trans (b4.mono B3.size)
      have hS4 : a < w4.heap.size := by have := b4.size; omega
      have o4 := o3.on b4
      obtain ⟨g, cap, hv3, hcap⟩ : ∃ g cap, v3 = .slice (some ⟨g, 0, none⟩) (p.length + 8) cap ∧ p.length + 8 ≤ cap := by
        rcases o3.2 with ⟨rfl, h⟩ | ⟨g, cap, cur, rfl, _, _, h, _⟩
        · omega
        · exact ⟨g, cap, by rw [hal], by omega⟩
      subst hv3
      clear o3 b4 hF3 hS3 B3 NX cv
      have q0 := hF4.c0
      have q1 := hF4.c1
      have q2 := hF4.c2
      unfold nrV frV
      dsimp only
      go_upto_region 9 with fail
      have hN := F3.new w4 (.int .i64 (t' : Int)) (.int .i64 (c' : Int)) (str p) 23
      have bN := below_new w4 (.cells #[.int .i64 (t' : Int), .int .i64 (c' : Int), str p] 23)
      have hF5 := hF4.below bN hS4
      have B5 := B4.trans (bN.mono B4.size)
      have hS5 : a < (w4.alloc (.cells #[.int .i64 (t' : Int), .int .i64 (c' : Int), str p] 23)).heap.size := by have := bN.size; omega
      have o5 := (o4.on bN).rd
      clear q0 q1 q2 hF4 B4 hS4 o4 bN
      have q0 := hF5.c0
      have q1 := hF5.c1
      have q2 := hF5.c2
      have n0 := hN.c0
      have n1 := hN.c1
      have n2 := hN.c2
      clear hN
      obtain ⟨xb, hxb⟩ : ∃ xb, w4.heap.size = xb := ⟨_, rfl⟩
      rw [hxb] at n0 n1 n2
      simp only [hxb]
      clear hxb
      generalize (w4.alloc (.cells #[.int .i64 (t' : Int), .int .i64 (c' : Int), str p] 23)) = w5 at *
      have HO : Hid (RdB w5 (.slice (some ⟨g, 0, none⟩) (p.length + 8) cap) (frL t' c' p)) := o5
      have HB : Hid (Below w.heap.size w w5 ∧ a < w5.heap.size) := ⟨B5, hS5⟩
      clear o5 B5 hS5 HX
      go_wp2_with fail
      go_loopw [8, 10, 11] (fun er n i wr => ∃ k : Nat, i = .int .i64 k ∧ Below w5.heap.size w5 wr ∧ k ≤ 70000) (fun _ _ i _ => p.length + 8 - (RowKit.intOf i).toNat)
      case atStart => exact ⟨0, rfl, Below.refl _ _, by omega⟩
      case round =>
        obtain ⟨k, rfl, hbr, hk7⟩ := hrel
        by_cases hlt : k < p.length + 8
        · have hkz : (k : Int) < (p.length : Int) + 8 := by omega
          have cvk := conv_any (rdB_take (k := k) (HO.out.on hbr) (by rw [hal]; omega) hal)
          have N := NP k hlt
          have hkc : (k : Int) ≤ (cap : Int) := by omega
          have hbs := hbr.size
          clear hcap hal
          go_wp2_with fail
          refine (N _).mono ?_
          rintro e w6 ⟨rfl, b6⟩
          have B6 := hbr.trans (b6.mono hbs)
          clear cvk N b6
          unfold nrV frV
          dsimp only
          go_wp2_with fail
          exact ⟨⟨k + (1 + (p.length + 8) / 40), by congr 1, B6, by omega⟩, by simp [RowKit.intOf]; omega⟩
        · have hB0 := HB.out.1.trans (hbr.mono HB.out.1.size)
          have hF6 := hF5.below hbr HB.out.2
          have q0 := hF6.c0
          have q1 := hF6.c1
          have q2 := hF6.c2
          have hS6 : a < wr.heap.size := by have := hbr.size; have := HB.out.2; omega
          clear hF5 n0 n1 n2 NP hk7 hbr
          go_wp2_with fail
          obtain ⟨d, hd⟩ : ∃ d, ((c' : Int) % 2 == 1) = d := ⟨_, rfl⟩
          rw [hd]
          have H := HD wr p.length d (HR.out.on hB0)
          clear HD
          by_cases hbig : 1024 < p.length
          · obtain ⟨e1, e2⟩ := outH_big (size := (p.length : Int)) (ps := ps) (d := d) (.inr (by omega))
            rw [e1, e2] at H
            have hbz : decide ((1024 : Int) < (p.length : Int)) = true := by simp; omega
            clear e1 e2 hbig
            refine H.mono ?_
            rintro e w7 ⟨v7, rfl, o7, b7⟩
            have B7 := hB0.trans (b7.mono hB0.size)
            go_wp2_with fail
            go_ret
            exact ⟨rfl, B7⟩
          have hbz : decide ((1024 : Int) < (p.length : Int)) = false := by simp; omega
          cases hv : validL ps with
          | false =>
            obtain ⟨e1, e2⟩ := outH_bad (size := p.length) (ps := ps) (d := d) (by omega) hv
            rw [e1, e2] at H
            clear e1 e2 hbig
            refine H.mono ?_
            rintro e w7 ⟨v7, rfl, o7, b7⟩
            have B7 := hB0.trans (b7.mono hB0.size)
            go_wp2_with fail
            go_ret
            exact ⟨rfl, B7⟩
          | true =>
            obtain ⟨e1, e2⟩ := outH_ok (size := p.length) (ps := ps) (d := d) (by omega) hv
            have hHL : (headL p.length ps d).length ≤ 140737488355328 := by
              have := tabL_len hv (fun q hq => (HNu.out q hq).2)
              unfold headL
              split
              · simp [fixL_len]
              · simp only [List.length_append, fixL_len, List.length_singleton]; omega
            have hBK := head_back p.length ps d (by omega) hv HNu.out
            rw [e1, e2] at H
            have RH := fun w => readhead_any w (headL p.length ps d) hHL
            unfold RhP at RH
            simp only [hBK] at RH
            clear e1 e2 hbig hHL hBK
            generalize headL p.length ps d = hl at *
            refine H.mono ?_
            rintro e w7 ⟨v7, rfl, o7, b7⟩
            have B7 := hB0.trans (b7.mono hB0.size)
            have cv7 := conv_any o7.rd
            have hF7 := hF6.below b7 hS6
            have hS7 : a < w7.heap.size := by have := b7.size; omega
            clear H o7 b7 hF6 q0 q1 q2 hB0 hS6
            have q1 := hF7.c1
            go_wp2_with fail
            refine (RH _).mono ?_
            rintro e w8 ⟨⟨v8, rfl, o8⟩, b8⟩
            have B8 := B7.trans (b8.mono B7.size)
            have hF8 := hF7.below b8 hS7
            have hS8 : a < w8.heap.size := by have := b8.size; omega
            have SB := SA w8 v8 o8.rd (HR.out.on B8)
            clear RH SA b8 hF7 B7 hS7 q1 cv7 o8
            have q1 := hF8.c1
            go_wp2_with fail
            refine SB.mono ?_
            rintro e w9 ⟨rfl, b9⟩
            have B9 := B8.trans (b9.mono B8.size)
            have hF9 := hF8.below b9 hS8
            clear SB b9 hF8 B8 hS8 q1
            have q1 := hF9.c1
            go_wp2_with fail
            go_ret
            exact ⟨rfl, B9⟩
theorem back_row (W : World) (t c : Int) (p : List UInt8) (m : ByteArray) (va : Value) (ps : List Pr) (hr : RdP W va ps) (hf : ∀ q ∈ ps, Fits q) (hn : ∀ q ∈ ps, Nums q) (h63 : ps.length ≤ 9223372036854775806) :
    Calls Try.prog 5 #[frV t c p, .string m, va] W fun e w' => e = .returned (.bool true) ∧ Below W.heap.size W w' := by
  have e : Value.string m = str m.data.toList := by simp [str]
  rw [e]
  exact back_law W t c p m.data.toList va ps hr hf hn h63
end Go.Proofs.Ytlkinkbdhoejiaa
