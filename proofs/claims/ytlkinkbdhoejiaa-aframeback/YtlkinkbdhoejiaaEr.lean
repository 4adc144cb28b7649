/- What the document's own answer makes of frames. Conditions: those that each row states. -/
import Derived.Test.YtlkinkbdhoejiaaEn
namespace Go.Proofs.Ytlkinkbdhoejiaa
open Go.RowKit Go.Lib
set_option maxRecDepth 100000

theorem own_lit (w : World) (B : Nat) (hB : B ≤ w.heap.size) (c : UInt8) (cv : Int) (hcv : cv = (c.toNat : Int)) : Own (w.alloc (.cells #[.int .u8 cv] 5)) B (.slice (some ⟨w.heap.size, 0, none⟩) 1 1) [c] := by
  subst hcv
  exact World.ownsRow_lit w #[.int .u8 (c.toNat : Int)] 1 hB (by unfold maxLen; omega) rfl

set_option maxHeartbeats 400000 in
theorem renc_ok (w : World) (t c : Nat) (p : List UInt8) (ht : tyZ t = true) (ht8 : t < 256) (hc : c < 65536) (hp : p.length ≤ 16384) :
    Calls Try.prog 10 #[frV t c p] w fun e w' => ∃ v, e = .returned (.tuple #[v, .int .i64 0]) ∧ Own w' w.heap.size v (frL t c p) ∧ Below w.heap.size w w' := by
  obtain ⟨W, hW⟩ : ∃ W, W = w.alloc (.cells #[.int .i64 (t : Int), .int .i64 (c : Int), str p] 23) := ⟨_, rfl⟩
  have hF : FrC W w.heap.size t c p := by subst hW; exact ⟨by simp [World.cell?_alloc_new], by simp [World.cell?_alloc_new], by simp [World.cell?_alloc_new]⟩
  have hWs : W.heap.size = w.heap.size + 1 := by rw [hW]; simp
  have ho0 := own_lit W (w.heap.size + 1) (by omega) (UInt8.ofNat t) ((t : Int) % 256) (by rw [UInt8.toNat_ofNat']; omega)
  have hC : FrC (W.alloc (.cells #[.int .u8 ((t : Int) % 256)] 5)) w.heap.size t c p := hF.on (below_new W _) (by omega)
  rw [hWs] at ho0
  have f1 := hF.ty
  have f2 := hF.ch
  have f3 := hF.pay
  rw [hW] at ho0 hC f1 f2 f3
  have hBV : Below w.heap.size w ((w.alloc (.cells #[.int .i64 (t : Int), .int .i64 (c : Int), str p] 23)).alloc (.cells #[.int .u8 ((t : Int) % 256)] 5)) := (below_new w _).trans ((below_new _ _).mono (by simp))
  have hVs : w.heap.size + 1 ≤ ((w.alloc (.cells #[.int .i64 (t : Int), .int .i64 (c : Int), str p] 23)).alloc (.cells #[.int .u8 ((t : Int) % 256)] 5)).heap.size := by simp
  clear hWs hW hF
  have g2 := hC.ch
  have g3 := hC.pay
  have P2 : ∀ (w : World) (B : Nat) (v : Value) (l : List UInt8), Own w B v l → B ≤ w.heap.size → l.length + 8 ≤ 140737488355328 → Calls Try.prog 22 #[v, .int .u64 (c : Int), .int .i64 2] w fun e w' => ∃ v', e = .returned v' ∧ Own w' B v' (l ++ beN 2 c) ∧ Below B w w' := fun w B v l ho hB hl => big_any w B v l 2 c (by omega) ho hB hl
  have P4 : ∀ (w : World) (B : Nat) (v : Value) (l : List UInt8), Own w B v l → B ≤ w.heap.size → l.length + 8 ≤ 140737488355328 → Calls Try.prog 22 #[v, .int .u64 (p.length : Int), .int .i64 4] w fun e w' => ∃ v', e = .returned v' ∧ Own w' B v' (l ++ beN 4 p.length) ∧ Below B w w' := fun w B v l ho hB hl => big_any w B v l 4 p.length (by omega) ho hB hl
  generalize hV : (w.alloc (.cells #[.int .i64 (t : Int), .int .i64 (c : Int), str p] 23)).alloc (.cells #[.int .u8 ((t : Int) % 256)] 5) = V at *
  have hz8 : (t : Int) < 256 := by omega
  have HC : Hid (c < 65536 ∧ p.length ≤ 16384 ∧ t < 256) := ⟨hc, hp, ht8⟩
  have d1 : decide ((65536 : Int) ≤ (c : Int)) = false := by simp; omega
  have d2 : decide ((16384 : Int) < (p.length : Int)) = false := by simp; omega
  have d3 : decide ((c : Int) < 0) = false := by simp
  have u1 : IntKind.u64.wrap (c : Int) = (c : Int) := by rw [IntKind.wrap_u64]; omega
  have u2 : IntKind.u64.wrap (p.length : Int) = (p.length : Int) := by rw [IntKind.wrap_u64]; omega
  clear hc hp ht8 hz8
  go_enter Try.func10, Try.ntmps10
  go_wp2_with (first | (go_at_call 21; refine (kind_any _ _).mono ?_; rintro e w' ⟨rfl, rfl⟩))
  refine (P2 _ (w.heap.size + 1) _ _ ho0 hVs (by simp)).mono ?_
  rintro e w1 ⟨v1, rfl, ho1, hb1⟩
  have hC1 := hC.on hb1 (by omega)
  have k3 := hC1.pay
  have hs1 := Nat.le_trans hVs hb1.size
  have hB1 := hBV.trans (hb1.mono (by omega))
  clear P2 g2 g3 ho0 hb1 hBV hVs hC
  go_wp2_with fail
  refine (P4 _ (w.heap.size + 1) _ _ ho1 hs1 (by simp [beN_len])).mono ?_
  rintro e w3 ⟨v3, rfl, ho3, hb3⟩
  have hC3 := hC1.on hb3 (by omega)
  have g3 := hC3.pay
  have hs3 := Nat.le_trans hs1 hb3.size
  have hB3 := hB1.trans (hb3.mono (by omega))
  have hp := HC.out.2.1
  clear P4 k3 ho1 hb3 hB1 hs1 hC1
  go_wp2_with (at_builtin; refine appS rfl (.tmp 40) (.tmp 42) rfl (w.heap.size + 1) _ _ w3 ⟨p.toArray⟩ rfl ho3 rfl (by simp [beN_len, ByteArray.size]; omega) hs3 ?_)
  intro v4 w4 ho4 hb4
  have hs4 := Nat.le_trans hs3 hb4.size
  have hB4 := hB3.trans (hb4.mono (by omega))
  clear ho3 hb4 hB3 hs3 hC3 g3
  go_wp2_with (at_builtin; refine app1 rfl (.tmp 44) (.tmp 45) rfl (w.heap.size + 1) _ _ w4 206 206 rfl rfl ho4 rfl (by simp [beN_len]; omega) hs4 ?_)
  intro v5 w5 ho5 hb5
  have hB5 := hB4.trans (hb5.mono (by omega))
  go_wp2
  go_ret2
  refine ⟨_, rfl, ?_, hB5⟩
  have e : [UInt8.ofNat t] ++ beN 2 c ++ beN 4 p.length ++ p ++ [206] = frL t c p := by simp [frL, beN, byteOf, List.range_succ]
  rw [← e]
  exact ho5.lower (by omega)

set_option maxHeartbeats 400000 in
theorem renc_bad (w : World) (t c : Int) (p : List UInt8) (hpl : p.length ≤ 140000000000000) (h : okF t c p = false) :
    Calls Try.prog 10 #[frV t c p] w fun e w' => e = .returned (.tuple #[.slice none 0 0, .int .i64 1]) ∧ Below w.heap.size w w' := by
  rcases okF_not t c p h with ht | ⟨ht, hc | ⟨hc, hc2 | ⟨hc2, hp⟩⟩⟩
  · clear h
    go_enter Try.func10, Try.ntmps10
    go_wp2_with (first | (go_at_call 21; refine (kind_any _ _).mono ?_; rintro e w' ⟨rfl, rfl⟩))
    go_ret2
    exact ⟨rfl, below_new w _⟩
  · clear h
    go_enter Try.func10, Try.ntmps10
    go_wp2_with (first | (go_at_call 21; refine (kind_any _ _).mono ?_; rintro e w' ⟨rfl, rfl⟩))
    go_ret2
    exact ⟨rfl, below_new w _⟩
  · have d1 : decide ((65536 : Int) ≤ c) = true := by simp; omega
    have d3 : decide (c < 0) = false := by simp; omega
    clear h hc hc2
    go_enter Try.func10, Try.ntmps10
    go_wp2_with (first | (go_at_call 21; refine (kind_any _ _).mono ?_; rintro e w' ⟨rfl, rfl⟩))
    go_ret2
    exact ⟨rfl, below_new w _⟩
  · have d1 : decide ((65536 : Int) ≤ c) = false := by simp; omega
    have d2 : decide ((16384 : Int) < (p.length : Int)) = true := by simp; omega
    have d3 : decide (c < 0) = false := by simp; omega
    clear h hc hc2 hp
    go_enter Try.func10, Try.ntmps10
    go_wp2_with (first | (go_at_call 21; refine (kind_any _ _).mono ?_; rintro e w' ⟨rfl, rfl⟩))
    go_ret2
    exact ⟨rfl, below_new w _⟩
end Go.Proofs.Ytlkinkbdhoejiaa
