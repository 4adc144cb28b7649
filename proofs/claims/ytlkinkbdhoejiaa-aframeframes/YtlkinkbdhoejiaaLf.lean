/- trivetlaw16.AframeFrames answers true of any frame and any bytes. No condition. -/
import Derived.Test.YtlkinkbdhoejiaaWl
namespace Go.Proofs.Ytlkinkbdhoejiaa
open Go.RowKit Go.Lib
set_option maxRecDepth 100000

set_option maxHeartbeats 1000000 in
theorem frames_law (w : World) (t c : Int) (p l : List UInt8) :
    Calls Try.prog 3 #[frV t c p, str l] w fun e w' => e = .returned (.bool true) ∧ Below w.heap.size w w' := by
  have hF := F3.new w (.int .i64 t) (.int .i64 c) (str p) 23
  have hW : Below w.heap.size w (w.alloc (.cells #[.int .i64 t, .int .i64 c, str p] 23)) := below_new w _
  have hS : (w.alloc (.cells #[.int .i64 t, .int .i64 c, str p] 23)).heap.size = w.heap.size + 1 := by simp
  obtain ⟨a, ha⟩ : ∃ a, w.heap.size = a := ⟨_, rfl⟩
  rw [ha] at hF hS
  have ha' : Hid (w.heap.size = a) := ha
  by_cases h1 : 32768 < p.length
  · have d1 : decide ((32768 : Int) < (p.length : Int)) = true := by simp; omega
    clear h1
    go_enter Try.func3, Try.ntmps3
    generalize hV : w.alloc (.cells #[.int .i64 t, .int .i64 c, str p] 23) = V at *
    go_wp2_with fail
    refine (wakes_any _).mono ?_
    rintro e w1 ⟨rfl, hb1⟩
    have hF1 := hF.below hb1 (by omega)
    obtain ⟨q0, q1, q2, _, _, _⟩ := hF1
    go_wp2_with fail
    go_ret
    exact ⟨rfl, hW.trans (hb1.mono (by omega))⟩
  · have d1 : decide ((32768 : Int) < (p.length : Int)) = false := by simp; omega
    by_cases h2 : 65536 < l.length
    · have d2 : decide ((65536 : Int) < (l.length : Int)) = true := by simp; omega
      clear h1 h2
      go_enter Try.func3, Try.ntmps3
      generalize hV : w.alloc (.cells #[.int .i64 t, .int .i64 c, str p] 23) = V at *
      go_wp2_with fail
      refine (wakes_any _).mono ?_
      rintro e w1 ⟨rfl, hb1⟩
      have hF1 := hF.below hb1 (by omega)
      obtain ⟨q0, q1, q2, _, _, _⟩ := hF1
      go_wp2_with fail
      go_ret
      exact ⟨rfl, hW.trans (hb1.mono (by omega))⟩
    · have d2 : decide ((65536 : Int) < (l.length : Int)) = false := by simp; omega
      have E : ∀ w, Calls Try.prog 9 #[frV t c p] w fun e w' => ∃ v, e = .returned (.tuple #[v, .int .i64 (encE t c p)]) ∧ Own w' w.heap.size v (encB t c p) ∧ Below w.heap.size w w' := fun w => enc_any w t c p (by omega)
      have R : ∀ w, Calls Try.prog 10 #[frV t c p] w fun e w' => ∃ v, e = .returned (.tuple #[v, .int .i64 (encE t c p)]) ∧ Own w' w.heap.size v (encB t c p) ∧ Below w.heap.size w w' := fun w => renc_any w t c p (by omega)
      have X : ∀ w, Calls Try.prog 11 #[str l] w fun e w' => e = .returned (nrV (nextL l)) ∧ Below w.heap.size w w' := fun w => next_any w l (by omega)
      have Y : ∀ w, Calls Try.prog 12 #[str l] w fun e w' => e = .returned (nrV (nextL l)) ∧ Below w.heap.size w w' := fun w => rnext_any w l (by omega)
      generalize encE t c p = ee at *
      generalize encB t c p = eb at *
      generalize nextL l = r at *
      obtain ⟨ty, ch, pay, rn, re⟩ := r
      clear h1 h2
      go_enter Try.func3, Try.ntmps3
      generalize hV : w.alloc (.cells #[.int .i64 t, .int .i64 c, str p] 23) = V at *
      go_wp2_with fail
      refine (wakes_any _).mono ?_
      rintro e w1 ⟨rfl, hb1⟩
      have hF1 := hF.below hb1 (by omega)
      have hB1 := hW.trans (hb1.mono (by omega))
      have hS1 : a < w1.heap.size := by have := hb1.size; omega
      clear hb1 hF hS hW
      obtain ⟨q0, q1, q2, _, _, _⟩ := hF1
      have hF1 : F3 w1 a (.int .i64 t) (.int .i64 c) (str p) := ⟨q0, q1, q2, by assumption, by assumption, by assumption⟩
      go_wp2_with fail
      refine (E _).mono ?_
      rintro e w2 ⟨v2, rfl, ho2, hb2⟩
      have hF2 := hF1.below hb2 hS1
      have hB2 := hB1.trans (hb2.mono hB1.size)
      have hS2 : a < w2.heap.size := by have := hb2.size; omega
      clear E hb2 hB1 hS1 hF1 q0 q1 q2
      have q0 := hF2.c0
      have q1 := hF2.c1
      have q2 := hF2.c2
      go_wp2_with fail
      refine (R _).mono ?_
      rintro e w3 ⟨v3, rfl, ho3, hb3⟩
      have ho2' := ho2.on hb3
      have hB3 := hB2.trans (hb3.mono hB2.size)
      clear R hb3 hB2 hS2 hF2 q0 q1 q2 ho2
      go_wp2_with fail
      refine (X _).mono ?_
      rintro e w4 ⟨rfl, hb4⟩
      have ho2 := ho2'.on hb4
      have ho3' := ho3.on hb4
      have hB4 := hB3.trans (hb4.mono hB3.size)
      clear X hb4 hB3 ho2' ho3
      unfold nrV at *
      go_wp2_with fail
      have hx := F3.new w4 (.int .i64 (ty : Int)) (.int .i64 (ch : Int)) (str pay) 23
      have hbn := below_new w4 (.cells #[.int .i64 (ty : Int), .int .i64 (ch : Int), str pay] 23)
      have ho2' := ho2.on hbn
      have ho3 := ho3'.on hbn
      have hB4' := hB4.trans (hbn.mono hB4.size)
      have hs4 : w4.heap.size < (w4.alloc (.cells #[.int .i64 (ty : Int), .int .i64 (ch : Int), str pay] 23)).heap.size := by simp
      obtain ⟨b, hb⟩ : ∃ b, w4.heap.size = b := ⟨_, rfl⟩
      rw [hb] at hx hs4 ⊢
      clear ho2 ho3' hbn hB4 hb
      generalize w4.alloc (.cells #[.int .i64 (ty : Int), .int .i64 (ch : Int), str pay] 23) = W4 at *
      refine (Y _).mono ?_
      rintro e w5 ⟨rfl, hb5⟩
      have ho2 := ho2'.on hb5
      have ho3' := ho3.on hb5
      have hx5 := hx.below hb5 hs4
      have hs5 : b < w5.heap.size := by have := hb5.size; omega
      have hB5 := hB4'.trans (hb5.mono hB4'.size)
      clear Y hb5 hB4' ho2' ho3 hx hs4
      have hy := F3.new w5 (.int .i64 (ty : Int)) (.int .i64 (ch : Int)) (str pay) 23
      have hbn := below_new w5 (.cells #[.int .i64 (ty : Int), .int .i64 (ch : Int), str pay] 23)
      have c1 := conv_any (ho2.on hbn).rd
      have c2 := conv_any (ho3'.on hbn).rd
      obtain ⟨q0, q1, q2, _, _, _⟩ := hx5.below hbn hs5
      obtain ⟨k0, k1, k2, _, _, _⟩ := hy
      have hB6 := hB5.trans (hbn.mono hB5.size)
      clear ho2 ho3' hbn hB5 hx5
      go_wp2_with fail
      go_ret
      exact ⟨rfl, hB6⟩

theorem frames_row (w : World) (t c : Int) (p : List UInt8) (s : ByteArray) : Calls Try.prog 3 #[frV t c p, .string s] w fun e w' => e = .returned (.bool true) ∧ Below w.heap.size w w' := by
  have e : Value.string s = str s.data.toList := by simp [str]
  rw [e]
  exact frames_law w t c p s.data.toList
end Go.Proofs.Ytlkinkbdhoejiaa
