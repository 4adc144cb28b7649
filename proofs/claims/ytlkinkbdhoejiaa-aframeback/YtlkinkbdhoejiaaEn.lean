/- What aframe.Encode and the document's own answer make of frames. Conditions: those that each row states. -/
import Derived.Test.YtlkinkbdhoejiaaPn
import Derived.Test.YtlkinkbdhoejiaaNu
import Derived.Laws.MakeOwn
import Derived.Laws.OwnMore
namespace Go.Proofs.Ytlkinkbdhoejiaa
open Go.RowKit Go.Lib
set_option maxRecDepth 100000

theorem Own.lower {w : World} {B B' : Nat} {v : Value} {l : List UInt8} (h : Own w B v l) (hB : B' ≤ B) : Own w B' v l := by
  obtain ⟨hl, h⟩ := h
  refine ⟨hl, ?_⟩
  rcases h with h | ⟨g, cap, cur, e, hb, hr⟩
  · exact .inl h
  · exact .inr ⟨g, cap, cur, e, Nat.le_trans hB hb, hr⟩
/-- A frame as a value. -/
abbrev frV (t c : Int) (p : List UInt8) : Value := .agg #[.int .i64 t, .int .i64 c, str p]

theorem make0 (w : World) (z : Int) (h0 : 0 ≤ z) (h1 : z ≤ 140000000000000) : ∃ C, (Instr.makeSlice 25 (.int .i64 0) (.int .i64 z)).run Try.prog w = .ok (.slice (some ⟨w.heap.size, 0, none⟩) 0 z.toNat) (w.alloc (.cells C 5)) ∧ ∀ B, B ≤ w.heap.size → Own (w.alloc (.cells C 5)) B (.slice (some ⟨w.heap.size, 0, none⟩) 0 z.toNat) [] := by
  obtain ⟨i0, hi, hz0, hz1, hz2⟩ := info_parts info5
  have h := run_make (P := Try.prog) w 25 5 i0 (.int .u8 0) Try.underlying25 hi hz0 .i64 .i64 0 z (by omega) h0 (by rw [hz2]; omega) (by omega)
  refine ⟨_, h, fun B hB => ?_⟩
  refine World.ownsRow_made w _ _ hB ?_ ?_
  · unfold maxLen; omega
  · first | (rw [size_madeCells, hz1, Nat.mul_one]) | (rw [size_madeCells, hz1]; simp)

/-- The cells of a frame that was handed in stay. -/
structure FrC (w' : World) (b : Nat) (t c : Int) (p : List UInt8) : Prop where
  ty : w'.cell? ⟨b, 0, none⟩ = some (.int .i64 t)
  ch : w'.cell? ⟨b, 1, none⟩ = some (.int .i64 c)
  pay : w'.cell? ⟨b, 2, none⟩ = some (str p)
theorem FrC.on {w w' : World} {b B : Nat} {t c : Int} {p : List UInt8} (h : FrC w b t c p) (hb : Below B w w') (hB : b < B) : FrC w' b t c p :=
  ⟨by rw [hb.cell (p := ⟨b, 0, none⟩) hB]; exact h.ty, by rw [hb.cell (p := ⟨b, 1, none⟩) hB]; exact h.ch, by rw [hb.cell (p := ⟨b, 2, none⟩) hB]; exact h.pay⟩

set_option maxHeartbeats 400000 in
theorem enc_ok (w : World) (t c : Nat) (p : List UInt8) (ht : tyZ t = true) (hc : c < 65536) (hp : p.length ≤ 16384) :
    Calls Try.prog 9 #[frV t c p] w fun e w' => ∃ v, e = .returned (.tuple #[v, .int .i64 0]) ∧ Own w' w.heap.size v (frL t c p) ∧ Below w.heap.size w w' := by
  obtain ⟨W, hW⟩ : ∃ W, W = w.alloc (.cells #[.int .i64 (t : Int), .int .i64 (c : Int), str p] 23) := ⟨_, rfl⟩
  have hF : FrC W w.heap.size t c p := by subst hW; exact ⟨by simp [World.cell?_alloc_new], by simp [World.cell?_alloc_new], by simp [World.cell?_alloc_new]⟩
  have hBW : Below w.heap.size w W := by rw [hW]; exact below_new w _
  have hWs : W.heap.size = w.heap.size + 1 := by rw [hW]; simp
  obtain ⟨C, hmk, hown⟩ := make0 W (7 + (p.length : Int) + 1) (by omega) (by omega)
  have e8 : (7 + (p.length : Int) + 1).toNat = 7 + p.length + 1 := by omega
  rw [e8] at hmk hown
  clear e8
  have ho0 := hown (w.heap.size + 1) (by omega)
  have hC : FrC (W.alloc (.cells C 5)) w.heap.size t c p := hF.on (below_new W _) (by omega)
  have hB0 : Below (w.heap.size + 1) W (W.alloc (.cells C 5)) := (below_new W _).mono (by omega)
  have hFW := hF
  rw [hW] at hmk hFW hC hB0 ho0
  have f1 := hFW.ty
  have f2 := hFW.ch
  have f3 := hFW.pay
  clear hown hFW hF
  have hBV : Below w.heap.size w ((w.alloc (.cells #[.int .i64 (t : Int), .int .i64 (c : Int), str p] 23)).alloc (.cells C 5)) := (below_new w _).trans (hB0.mono (by omega))
  have hVs : w.heap.size + 1 ≤ ((w.alloc (.cells #[.int .i64 (t : Int), .int .i64 (c : Int), str p] 23)).alloc (.cells C 5)).heap.size := by simp
  rw [← hW, hWs, hW] at ho0
  clear hB0 hBW hWs hW
  generalize hV : (w.alloc (.cells #[.int .i64 (t : Int), .int .i64 (c : Int), str p] 23)).alloc (.cells C 5) = V at *
  have g1 := hC.ty
  have g2 := hC.ch
  have g3 := hC.pay
  have P1 : ∀ (w : World) (B : Nat) (v : Value) (l : List UInt8), Own w B v l → B ≤ w.heap.size → l.length + 8 ≤ 140737488355328 → Calls Try.prog 20 #[v, .int .i64 1, .int .i64 (t : Int)] w fun e w' => ∃ v', e = .returned v' ∧ Own w' B v' (l ++ beN 1 t) ∧ Below B w w' := fun w B v l ho hB hl => putNum_any w B v l 1 t (by omega) ho hB hl
  have P2 : ∀ (w : World) (B : Nat) (v : Value) (l : List UInt8), Own w B v l → B ≤ w.heap.size → l.length + 8 ≤ 140737488355328 → Calls Try.prog 20 #[v, .int .i64 2, .int .i64 (c : Int)] w fun e w' => ∃ v', e = .returned v' ∧ Own w' B v' (l ++ beN 2 c) ∧ Below B w w' := fun w B v l ho hB hl => putNum_any w B v l 2 c (by omega) ho hB hl
  have P4 : ∀ (w : World) (B : Nat) (v : Value) (l : List UInt8), Own w B v l → B ≤ w.heap.size → l.length + 8 ≤ 140737488355328 → Calls Try.prog 20 #[v, .int .i64 4, .int .i64 (p.length : Int)] w fun e w' => ∃ v', e = .returned v' ∧ Own w' B v' (l ++ beN 4 p.length) ∧ Below B w w' := fun w B v l ho hB hl => putNum_any w B v l 4 p.length (by omega) ho hB hl
  go_enter Try.func9, Try.ntmps9
  go_wp2_with (first | (go_at_call 19; refine (isType_any _ _).mono ?_; rintro e w' ⟨rfl, rfl⟩))
  refine (P1 _ (w.heap.size + 1) _ _ ho0 hVs (by simp)).mono ?_
  rintro e w1 ⟨v1, rfl, ho1, hb1⟩
  have hC1 := hC.on hb1 (by omega)
  have k1 := hC1.ty
  have k2 := hC1.ch
  have k3 := hC1.pay
  have hs1 := Nat.le_trans hVs hb1.size
  have hB1 := hBV.trans (hb1.mono (by omega))
  clear P1 g1 g2 g3 ho0 hb1 hBV hVs hC
  go_wp2_with fail
  refine (P2 _ (w.heap.size + 1) _ _ ho1 hs1 (by simp [beN_len])).mono ?_
  rintro e w2 ⟨v2, rfl, ho2, hb2⟩
  have hC2 := hC1.on hb2 (by omega)
  have g3 := hC2.pay
  have hs2 := Nat.le_trans hs1 hb2.size
  have hB2 := hB1.trans (hb2.mono (by omega))
  clear P2 k1 k2 k3 ho1 hb2 hB1 hs1 hC1
  go_wp2_with fail
  refine (P4 _ (w.heap.size + 1) _ _ ho2 hs2 (by simp [beN_len])).mono ?_
  rintro e w3 ⟨v3, rfl, ho3, hb3⟩
  have hC3 := hC2.on hb3 (by omega)
  have k3 := hC3.pay
  have hs3 := Nat.le_trans hs2 hb3.size
  have hB3 := hB2.trans (hb3.mono (by omega))
  clear P4 g3 ho2 hb3 hB2 hs2 hC2
  go_wp2_with (at_builtin; refine appS rfl (.tmp 42) (.tmp 44) rfl (w.heap.size + 1) _ _ w3 ⟨p.toArray⟩ rfl ho3 rfl (by simp [beN_len, ByteArray.size]; omega) hs3 ?_)
  intro v4 w4 ho4 hb4
  have hs4 := Nat.le_trans hs3 hb4.size
  have hB4 := hB3.trans (hb4.mono (by omega))
  clear ho3 hb4 hB3 hs3 hC3 k3
  go_wp2_with (at_builtin; refine app1 rfl (.tmp 45) (.tmp 46) rfl (w.heap.size + 1) _ _ w4 206 206 rfl rfl ho4 rfl (by simp [beN_len]; omega) hs4 ?_)
  intro v5 w5 ho5 hb5
  have hB5 := hB4.trans (hb5.mono (by omega))
  go_wp2
  go_ret2
  refine ⟨_, rfl, ?_, hB5⟩
  have e : [] ++ beN 1 t ++ beN 2 c ++ beN 4 p.length ++ p ++ [206] = frL t c p := by simp [frL]
  rw [← e]
  exact ho5.lower (by omega)

/-- No frame that can be. -/
def okF (t c : Int) (p : List UInt8) : Bool := tyZ t && decide (0 ≤ c) && decide (c ≤ 65535) && decide (p.length ≤ 16384)
theorem okF_nat (t c : Int) (p : List UInt8) (h : okF t c p = true) : ∃ a b : Nat, t = a ∧ c = b ∧ tyZ t = true ∧ a < 256 ∧ b < 65536 ∧ p.length ≤ 16384 := by
  simp only [okF, Bool.and_eq_true, decide_eq_true_eq] at h
  obtain ⟨⟨⟨h1, h2⟩, h3⟩, h4⟩ := h
  obtain ⟨a, rfl, ha⟩ := tyZ_nat t h1
  exact ⟨a, c.toNat, rfl, by omega, h1, ha, by omega, h4⟩
theorem okF_not (t c : Int) (p : List UInt8) (h : okF t c p = false) : tyZ t = false ∨ (tyZ t = true ∧ (c < 0 ∨ (0 ≤ c ∧ (65535 < c ∨ (c ≤ 65535 ∧ 16384 < p.length))))) := by
  cases ht : tyZ t with
  | false => exact .inl rfl
  | true =>
    refine .inr ⟨rfl, ?_⟩
    simp only [okF, ht, Bool.true_and, Bool.and_eq_false_iff, decide_eq_false_iff_not] at h
    omega

set_option maxHeartbeats 4000000 in
theorem enc_bad (w : World) (t c : Int) (p : List UInt8) (hpl : p.length ≤ 140000000000000) (h : okF t c p = false) :
    Calls Try.prog 9 #[frV t c p] w fun e w' => e = .returned (.tuple #[.slice none 0 0, .int .i64 1]) ∧ Below w.heap.size w w' := by
  rcases okF_not t c p h with ht | ⟨ht, hc | ⟨hc, hc2 | ⟨hc2, hp⟩⟩⟩
  all_goals
    try have hc' : ¬ c < 0 := by omega
    try have hp' : (16384 : Int) < (p.length : Int) := by omega
    clear h
    go_enter Try.func9, Try.ntmps9
    go_wp2_with (first | (go_at_call 19; refine (isType_any _ _).mono ?_; rintro e w' ⟨rfl, rfl⟩))
    go_ret2
    exact ⟨rfl, below_new w _⟩
end Go.Proofs.Ytlkinkbdhoejiaa
