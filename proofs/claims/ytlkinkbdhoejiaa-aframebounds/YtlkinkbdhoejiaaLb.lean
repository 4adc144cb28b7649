/- trivetlaw16.AframeBounds answers true of any bytes. No condition. -/
import Derived.Test.YtlkinkbdhoejiaaWl
import Derived.Test.YtlkinkbdhoejiaaMb
import Derived.Test.YtlkinkbdhoejiaaAa0
import Derived.BigQuiet
namespace Go.Proofs.Ytlkinkbdhoejiaa
open Go.RowKit Go.Lib
set_option maxRecDepth 100000

set_option maxHeartbeats 1000000 in
theorem bounds_law (w : World) (l : List UInt8) :
    Calls Try.prog 7 #[str l] w fun e w' => e = .returned (.bool true) ∧ Below w.heap.size w w' := by
  by_cases h2 : 65536 < l.length
  · have d2 : decide ((65536 : Int) < (l.length : Int)) = true := by simp; omega
    clear h2
    go_enter Try.func7, Try.ntmps7
    go_wp2_with fail
    refine (wakes_any _).mono ?_
    rintro e w1 ⟨rfl, hb1⟩
    go_wp2_with fail
    go_ret
    exact ⟨rfl, hb1⟩
  · have d2 : decide ((65536 : Int) < (l.length : Int)) = false := by simp; omega
    have X : ∀ w, Calls Try.prog 11 #[str l] w fun e w' => e = .returned (nrV (nextL l)) ∧ Below w.heap.size w w' := fun w => next_any w l (by omega)
    have HL : Hid (l.length ≤ 65536) := by show _ ≤ _; omega
    clear h2
    rcases next_cases l with (hr | hr) | ⟨t, c, p, rest, hf, hl⟩
    · rw [hr] at X
      clear hr
      go_enter Try.func7, Try.ntmps7
      go_wp2_with fail
      refine (wakes_any _).mono ?_
      rintro e w1 ⟨rfl, hb1⟩
      go_wp2_with fail
      refine (X _).mono ?_
      rintro e w2 ⟨rfl, hb2⟩
      have hB := (hb1.trans (hb2.mono hb1.size)).alloc (Nat.le_trans hb1.size hb2.size) (.cells #[.int .i64 0, .int .i64 0, .string { data := #[] }] 23)
      unfold nrV
      clear X
      go_wp2_with fail
      go_ret
      exact ⟨rfl, hB⟩
    · rw [hr] at X
      clear hr
      go_enter Try.func7, Try.ntmps7
      go_wp2_with fail
      refine (wakes_any _).mono ?_
      rintro e w1 ⟨rfl, hb1⟩
      go_wp2_with fail
      refine (X _).mono ?_
      rintro e w2 ⟨rfl, hb2⟩
      have hB := (hb1.trans (hb2.mono hb1.size)).alloc (Nat.le_trans hb1.size hb2.size) (.cells #[.int .i64 0, .int .i64 0, .string { data := #[] }] 23)
      unfold nrV
      clear X
      go_wp2_with fail
      go_ret
      exact ⟨rfl, hB⟩
    · have hr := next_frame t c p rest hf
      rw [← hl] at hr
      rw [hr] at X
      clear hr
      have hlen : p.length + 8 + rest.length = l.length := by rw [hl, List.length_append, frL_len]
      have hpl := hf.len
      have E : ∀ w, Calls Try.prog 9 #[frV t c p] w fun e w' => ∃ v, e = .returned (.tuple #[v, .int .i64 0]) ∧ Own w' w.heap.size v (frL t c p) ∧ Below w.heap.size w w' := fun w => enc_ok w t c p hf.ty hf.ch hpl
      have HT : Hid (l.take (p.length + 8) = frL t c p) := by
        show _ = _
        rw [hl, List.take_left' (by rw [frL_len])]
      have hz : (p.length : Int) + 8 ≤ (l.length : Int) := by omega
      have hpz : (p.length : Int) ≤ 16384 := by omega
      clear hl hf hlen
      generalize frL t c p = F at *
      go_enter Try.func7, Try.ntmps7
      go_wp2_with fail
      refine (wakes_any _).mono ?_
      rintro e w1 ⟨rfl, hb1⟩
      go_wp2_with fail
      refine (X _).mono ?_
      rintro e w2 ⟨rfl, hb2⟩
      have hB2 := hb1.trans (hb2.mono hb1.size)
      unfold nrV
      clear X hb1 hb2
      go_wp2_with fail
      have hx := F3.new w2 (.int .i64 (t : Int)) (.int .i64 (c : Int)) (str p) 23
      have hbn := below_new w2 (.cells #[.int .i64 (t : Int), .int .i64 (c : Int), str p] 23)
      have hs2 : w2.heap.size < (w2.alloc (.cells #[.int .i64 (t : Int), .int .i64 (c : Int), str p] 23)).heap.size := by simp
      have hB2' := hB2.trans (hbn.mono hB2.size)
      obtain ⟨b, hb⟩ : ∃ b, w2.heap.size = b := ⟨_, rfl⟩
      rw [hb] at hx hs2 ⊢
      clear hbn hB2 hb
      generalize w2.alloc (.cells #[.int .i64 (t : Int), .int .i64 (c : Int), str p] 23) = W2 at *
      refine (E _).mono ?_
      rintro e w3 ⟨v, rfl, ho3, hb3⟩
      have hx3 := hx.below hb3 hs2
      have hs3 : b < w3.heap.size := by have := hb3.size; omega
      have hB3 := hB2'.trans (hb3.mono hB2'.size)
      clear hb3 hB2' E hx hs2
      go_wp2_with fail
      refine wp_region_held (S := fun W => Below w3.heap.size w3 W) hmix ?_
      show wpAnyH _ _ _ _ _ _ _ _ (World.drew _)
      have hS : Below w3.heap.size w3 w3.drew := (Below.refl _ _).drew
      have HT' : (⟨l.toArray⟩ : ByteArray).extract 0 (p.length + 8) = ⟨F.toArray⟩ := by rw [ext_str, Nat.sub_zero, List.drop_zero, HT.out]
      refine tks [0, 1, 2, 3, 4, 5, 6, 7, 8, 9, 10, 11, 12, 13, 14, 15, 16, 17, 18, 19, 20, 21, 22] [.int .i64 0, .bool true, .bool true, .int .i64 ((p.length : Int) + 8), str l, .int .i64 l.length, .bool true, .bool true, .bool true, v, .string ⟨F.toArray⟩, str l, .int .i64 ((p.length : Int) + 8), .string ⟨F.toArray⟩, .bool true, .bool true, .bool true, .pointer (some ⟨b, 2, none⟩), str p, .int .i64 p.length, .bool true, .bool true, .bool true] 0 ?_ hS ?_
      · simp only [tkY, tkf]
        refine ⟨.yes ?_, .yes ?_, .yes ?_, .yes ?_, .yes ?_, .yes ?_, .yes ?_, .yes ?_, .yes ?_, .yes ?_, .yes ?_, .yes ?_, .yes ?_, .yes ?_, .yes ?_, .yes ?_, .yes ?_, .yes ?_, .yes ?_, .yes ?_, .yes ?_, .yes ?_, .yes ?_, trivial⟩
        all_goals
          intro W' hW'
          have q := conv_any (ho3.on hW').rd
          have d := (hx3.below hW' hs3).c2
          have hb0 : (0 : Int) ≤ (p.length : Int) + 8 := by omega
          have ht0 : ((p.length : Int) + 8).toNat = p.length + 8 := by omega
          go_simp
      simp only [tkA, tkf]
      refine wpAnyH_done (by kernel_rfl) ?_ _
      go_wp2_with fail
      go_ret
      exact ⟨rfl, hB3.drew⟩

theorem bounds_row (w : World) (s : ByteArray) : Calls Try.prog 7 #[.string s] w fun e w' => e = .returned (.bool true) ∧ Below w.heap.size w w' := by
  have e : Value.string s = str s.data.toList := by simp [str]
  rw [e]
  exact bounds_law w s.data.toList
end Go.Proofs.Ytlkinkbdhoejiaa
