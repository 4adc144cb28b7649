/- DrumArms answers true at every input. -/
import Derived.Test.YtgbgeoplbmjcbaaWakes
namespace Go.Proofs.Ytgbgeoplbmjcbaa
open Go.RowKit Go.Lib

/-- A slice of bools that can be read. -/
def RdT (w : World) (v : Value) (l : List Bool) : Prop := ∃ (a : Option Addr) (c : Nat), v = .slice a l.length c ∧ ∀ k, k < l.length → ∃ b o, a = some ⟨b, o, none⟩ ∧ w.cell? ⟨b, o + k, none⟩ = some (.bool (l.getD k false))

/-- Behind k operations, if the power is told to go in the n-th. -/
def ArmInv (n : Int) (k : Nat) (S : DS) : Prop := S.W.length ≤ k ∧ ((n < 1 ∧ S.armed = 0 ∧ S.down = false ∧ S.ops = k) ∨ ((k : Int) < n ∧ (S.armed : Int) = n - k ∧ S.down = false ∧ S.ops = k) ∨ (1 ≤ n ∧ n ≤ k ∧ S.down = true ∧ (S.ops : Int) = n ∧ S.armed = 0))
/-- What the k-th operation answers. -/
def armCode (n : Int) (k : Nat) : Int := if 1 ≤ n ∧ n ≤ k + 1 then 20 else 0
theorem arm_oper (n : Int) (k : Nat) (S : DS) (hW : S.W.length ≤ k + 1) (hd : S.down = false) (ho : S.ops = k) (h : (n < 1 ∧ S.armed = 0) ∨ ((k : Int) < n ∧ (S.armed : Int) = n - k)) : ArmInv n (k + 1) S.oper.1 ∧ S.oper.2 = armCode n k := by
  unfold DS.oper armCode
  by_cases h0 : S.armed = 0
  · rw [if_pos h0, if_neg (by omega)]
    refine ⟨⟨hW, .inl ⟨by omega, h0, hd, ?_⟩⟩, rfl⟩
    show S.ops + 1 = k + 1
    omega
  · rw [if_neg h0]
    by_cases h1 : S.armed = 1
    · rw [if_pos h1, if_pos (by omega)]
      unfold DS.off
      rw [if_neg (by simp [hd])]
      refine ⟨⟨Nat.zero_le _, .inr (.inr ⟨by omega, by omega, rfl, ?_, rfl⟩)⟩, rfl⟩
      show ((S.ops + 1 : Nat) : Int) = n
      omega
    · rw [if_neg h1, if_neg (by omega)]
      refine ⟨⟨hW, .inr (.inl ⟨by omega, ?_, hd, ?_⟩)⟩, rfl⟩
      · show ((S.armed - 1 : Nat) : Int) = n - (k + 1 : Nat)
        omega
      · show S.ops + 1 = k + 1
        omega
theorem arm_flush (n : Int) (k : Nat) (S : DS) (h : ArmInv n k S) : ArmInv n (k + 1) S.flush.1 ∧ S.flush.2 = armCode n k := by
  obtain ⟨hW, h⟩ := h
  unfold DS.flush
  rcases h with ⟨h1, h2, h3, h4⟩ | ⟨h1, h2, h3, h4⟩ | ⟨h1, h2, h3, h4, h5⟩
  · rw [if_neg (by simp [h3])]
    obtain ⟨⟨_, g⟩, e⟩ := arm_oper n k S (by omega) h3 h4 (.inl ⟨h1, h2⟩)
    exact ⟨⟨Nat.zero_le _, g⟩, e⟩
  · rw [if_neg (by simp [h3])]
    obtain ⟨⟨_, g⟩, e⟩ := arm_oper n k S (by omega) h3 h4 (.inr ⟨h1, h2⟩)
    exact ⟨⟨Nat.zero_le _, g⟩, e⟩
  · rw [if_pos h3]
    refine ⟨⟨by show S.W.length ≤ _; omega, .inr (.inr ⟨h1, by omega, h3, h4, h5⟩)⟩, ?_⟩
    unfold armCode
    rw [if_pos (by omega)]

theorem arm_ops (w : World) (X : Nat → Prop) (q : Nat) (S : DS) (n : Int) (k : Nat) (hk : k ≤ 1000) (h : Drum w X q 3 S) (hi : ArmInv n k S) :
    Calls Try.prog 15 #[.pointer (some ⟨q, 0, none⟩)] w fun e w' => ∃ X' S', e = .returned (.int .i64 (armCode n k)) ∧ Drum w' X' q 3 S' ∧ ArmInv n (k + 1) S' ∧ Step X X' w w' := by
  have hops : S.ops ≤ 1000000 := by
    rcases hi.2 with ⟨_, _, _, h4⟩ | ⟨_, _, _, h4⟩ | ⟨_, _, _, h4, _⟩ <;> omega
  obtain ⟨g1, g2⟩ := arm_flush n k S hi
  refine (flush_any w X q 3 S (by have := hi.1; omega) hops h).mono ?_
  rintro e w' ⟨rfl, hd, hs⟩
  exact ⟨X, _, by rw [g2], hd, g1, hs⟩
theorem arm_write (w w1 : World) (X : Nat → Prop) (q : Nat) (S : DS) (n : Int) (k i : Nat) (c : UInt8) (hi3 : i < 3) (hk : k ≤ 1000) (h : Drum w X q 3 S) (hi : ArmInv n k S) (hf : FullAt w w1 c) :
    Calls Try.prog 12 #[.pointer (some ⟨q, 0, none⟩), .int .i64 i, .slice (some ⟨w.heap.size, 0, none⟩) 256 256] w1 fun e w' => ∃ X' S', e = .returned (.int .i64 (armCode n k)) ∧ Drum w' X' q 3 S' ∧ ArmInv n (k + 1) S' ∧ Step X X' w w' := by
  obtain ⟨hW, hi'⟩ := hi
  have hput : ∀ l : List UInt8, (S.put i l).W.length ≤ k + 1 := fun l => by show (S.W ++ [_]).length ≤ _; rw [List.length_append]; simp; omega
  rcases hi' with ⟨h1, h2, h3, h4⟩ | ⟨h1, h2, h3, h4⟩ | ⟨h1, h2, h3, h4, h5⟩
  · obtain ⟨g1, g2⟩ := arm_oper n k (S.put i (fullB c)) (hput _) h3 h4 (.inl ⟨h1, h2⟩)
    refine (write_full w w1 X q 3 S c i hi3 h3 (by omega) (by omega) h hf).mono ?_
    rintro e w' ⟨X', rfl, hd, hs⟩
    exact ⟨X', _, by rw [g2], hd, g1, hs⟩
  · obtain ⟨g1, g2⟩ := arm_oper n k (S.put i (fullB c)) (hput _) h3 h4 (.inr ⟨h1, h2⟩)
    refine (write_full w w1 X q 3 S c i hi3 h3 (by omega) (by omega) h hf).mono ?_
    rintro e w' ⟨X', rfl, hd, hs⟩
    exact ⟨X', _, by rw [g2], hd, g1, hs⟩
  · have e20 : S.writeCode 3 (i : Int) 256 = 20 := by
      unfold DS.writeCode
      rw [if_pos (by omega), if_pos h3]
    have := write_bad w1 X q 3 S (i : Int) (some ⟨w.heap.size, 0, none⟩) 256 256 (by rw [e20]; omega) (h.below hf.below)
    refine this.mono ?_
    rintro e w' ⟨rfl, rfl⟩
    refine ⟨X, S, ?_, h.below hf.below, ⟨by omega, .inr (.inr ⟨h1, by omega, h3, h4, h5⟩)⟩, hf.step X⟩
    rw [e20]
    unfold armCode
    rw [if_pos (by omega)]

set_option maxRecDepth 100000 in
set_option maxHeartbeats 4000000 in
theorem arms_any (w : World) (n keep : Int) (v : Value) (l : List Bool) (hn : -9223372036854775808 ≤ n) (hn' : n < 9223372036854775808) (hk : -9223372036854775808 ≤ keep) (hk' : keep < 9223372036854775808) (hv : RdT w v l) :
    Calls Try.prog 5 #[.int .i64 n, v, .int .i64 keep] w fun e w' => e = .returned (.bool true) ∧ Below w.heap.size w w' := by
  have N8 := wakes_any w
  obtain ⟨va, vc, rfl, hc⟩ := hv
  have HC : Hid (∀ k, k < l.length → ∃ b o, va = some ⟨b, o, none⟩ ∧ w.cell? ⟨b, o + k, none⟩ = some (.bool (l.getD k false))) := hc
  clear hc
  by_cases hl : l.length ≤ 100
  · go_enter Try.func5, Try.ntmps5
    go_wp2_with (first | (go_at_call 8; refine N8.mono ?_; rintro e w1 ⟨rfl, hb1⟩))
    refine (new0 w1 3 (by omega) (by omega)).mono ?_
    rintro e w2 ⟨X2, q, rfl, hd2, hb2, hX2⟩
    clear N8
    generalize List.replicate (3 * 256) (0 : UInt8) = Z at *
    have N22 := arm_any w2 X2 q 3 _ n keep hn hn' hk hk' hd2
    go_wp2_with fail
    refine N22.mono ?_
    rintro e w3 ⟨rfl, hd3, hs3⟩
    clear N22 hd2
    have hI : ∃ S, Drum w3 X2 q 3 S ∧ ArmInv n 0 S := ⟨_, hd3, Nat.zero_le _, by
      by_cases h1 : n < 1
      · exact .inl ⟨h1, by show n.toNat = 0; omega, rfl, rfl⟩
      · exact .inr (.inl ⟨by omega, by show (n.toNat : Int) = _; omega, rfl, rfl⟩)⟩
    clear hd3
    obtain ⟨S3, hd3, hi3⟩ := hI
    have b3 : Below w.heap.size w w3 := (hb1.trans (hb2.mono hb1.size)).trans ((hs3.below hX2 hb2.size).mono hb1.size)
    have hX : ∀ k, X2 k → w.heap.size ≤ k := fun k hk => Nat.le_trans hb1.size (hX2 k hk)
    clear hs3 hb1 hb2 hX2
    go_wp2_with fail
    go_loopw [25] (fun i wr => ∃ (k : Nat) (X : Nat → Prop) (S : DS), k ≤ l.length ∧ i = .int .i64 k ∧ Drum wr X q 3 S ∧ ArmInv n k S ∧ (∀ k, X k → w.heap.size ≤ k) ∧ Below w.heap.size w wr) (fun i _ => l.length - (RowKit.intOf i).toNat)
    case atStart => exact ⟨0, X2, S3, Nat.zero_le _, rfl, hd3, hi3, hX, b3⟩
    case round =>
      clear hd3 hi3 hX b3
      obtain ⟨k, X, S, hk1, rfl, hd, hi, hX, hb⟩ := hrel
      by_cases hlt : k < l.length
      · obtain ⟨b, o, rfl, hc⟩ := HC.out k hlt
        have hc2 : wr.cell? ⟨b, o + k, none⟩ = some (.bool (l.getD k false)) := by rw [hb.cell (World.block_lt_of_cell? _ _ hc)]; exact hc
        clear hc
        generalize l.getD k false = f at *
        have hk100 : k ≤ 100 := by omega
        have N15 := arm_ops wr X q S n k (by omega) hd hi
        have HD : Hid (Drum wr X q 3 S) := hd
        have HI : Hid (ArmInv n k S) := hi
        clear hd hi
        go_upto_if 30 with fail
        go_cut [10] (fun s w' => ∃ X' S', s = .int .i64 (armCode n k) ∧ Drum w' X' q 3 S' ∧ ArmInv n (k + 1) S' ∧ Step X X' wr w')
        case first =>
          cases f
          · have N26 : Calls Try.prog 26 #[.int .u8 (k : Int)] wr fun e w' => e = .returned (.slice (some ⟨wr.heap.size, 0, none⟩) 256 256) ∧ FullAt wr w' (UInt8.ofNat k) := by
              have := full_d wr (UInt8.ofNat k)
              rw [UInt8.toNat_ofNat', Nat.mod_eq_of_lt (by omega)] at this
              exact this
            have N12 : Hid (∀ w1, FullAt wr w1 (UInt8.ofNat k) → Calls Try.prog 12 #[.pointer (some ⟨q, 0, none⟩), .int .i64 ((k : Int) % 3), .slice (some ⟨wr.heap.size, 0, none⟩) 256 256] w1 fun e w' => ∃ X' S', e = .returned (.int .i64 (armCode n k)) ∧ Drum w' X' q 3 S' ∧ ArmInv n (k + 1) S' ∧ Step X X' wr w') := by
              intro w1 hf
              exact arm_write wr w1 X q S n k (k % 3) (UInt8.ofNat k) (Nat.mod_lt _ (by omega)) (by omega) HD.out HI.out hf
            clear N15
            go_wp2_with (first | (go_at_call 26; refine N26.mono ?_; rintro e w4 ⟨rfl, hf4⟩) | (go_at_call 12; refine (N12.out _ (by assumption)).mono ?_; rintro e w5 ⟨X', S', rfl, hd5, hi5, hs5⟩))
            go_meet
            exact ⟨X', S', rfl, hd5, hi5, hs5⟩
          · go_wp2_with (go_at_call 15; refine N15.mono ?_; rintro e w5 ⟨X', S', rfl, hd5, hi5, hs5⟩)
            go_meet
            exact ⟨X', S', rfl, hd5, hi5, hs5⟩
        case rest =>
          clear N15 hc2 HD HI
          obtain ⟨X', S', rfl, hd5, hi5, hs5⟩ := hcut
          have b5 := hb.trans (hs5.below hX hb.size)
          have hX5 := hs5.above hX hb.size
          clear hs5 hX hb
          have N25 := down_any wc X' q 3 S' hd5
          have N24 := ops_any wc X' q 3 S' hd5
          have HR : Hid (∃ (k' : Nat) (X : Nat → Prop) (S : DS), k' ≤ l.length ∧ (k : Int) + 1 = k' ∧ Drum wc X q 3 S ∧ ArmInv n k' S ∧ (∀ k, X k → w.heap.size ≤ k) ∧ Below w.heap.size w wc) := ⟨k + 1, X', S', hlt, by omega, hd5, hi5, hX5, b5⟩
          clear hd5 hX5 b5
          by_cases hcase : 1 ≤ n ∧ n ≤ (k : Int) + 1
          · have e1 : armCode n k = 20 := if_pos hcase
            have e2 : S'.down = true ∧ (S'.ops : Int) = n := by
              rcases hi5.2 with ⟨h1, _⟩ | ⟨h1, _⟩ | ⟨_, _, h3, h4, _⟩
              · omega
              · omega
              · exact ⟨h3, h4⟩
            rw [e2.1] at N25
            rw [e2.2] at N24
            obtain ⟨h1, h2⟩ := hcase
            clear e2 hi5
            rw [e1]
            clear e1
            go_wp2_with (first | (go_at_call 25; refine N25.mono ?_; rintro e w6 ⟨rfl, rfl⟩) | (go_at_call 24; refine N24.mono ?_; rintro e w6 ⟨rfl, rfl⟩))
            go_roundw
            case rel =>
              obtain ⟨k', X, S, g1, g2, g3⟩ := HR.out
              exact ⟨k', X, S, g1, by rw [← g2], g3⟩
            case measure => simp [RowKit.intOf]; omega
          · have e1 : armCode n k = 0 := if_neg hcase
            have e2 : S'.down = false ∧ (S'.ops : Int) = (k : Int) + 1 := by
              rcases hi5.2 with ⟨h1, _, h3, h4⟩ | ⟨h1, _, h3, h4⟩ | ⟨h1, h2, _⟩
              · exact ⟨h3, by omega⟩
              · exact ⟨h3, by omega⟩
              · omega
            rw [e2.1] at N25
            rw [e2.2] at N24
            clear e2 hi5
            rw [e1]
            clear e1
            by_cases h1 : n < 1
            · have h1' : ¬ (1 : Int) ≤ n := by omega
              clear hcase
              go_wp2_with (first | (go_at_call 25; refine N25.mono ?_; rintro e w6 ⟨rfl, rfl⟩) | (go_at_call 24; refine N24.mono ?_; rintro e w6 ⟨rfl, rfl⟩))
              go_roundw
              case rel =>
                obtain ⟨k', X, S, g1, g2, g3⟩ := HR.out
                exact ⟨k', X, S, g1, by rw [← g2], g3⟩
              case measure => simp [RowKit.intOf]; omega
            · have h1' : (1 : Int) ≤ n := by omega
              have h2' : ¬ n ≤ (k : Int) + 1 := by omega
              clear hcase h1
              go_wp2_with (first | (go_at_call 25; refine N25.mono ?_; rintro e w6 ⟨rfl, rfl⟩) | (go_at_call 24; refine N24.mono ?_; rintro e w6 ⟨rfl, rfl⟩))
              go_roundw
              case rel =>
                obtain ⟨k', X, S, g1, g2, g3⟩ := HR.out
                exact ⟨k', X, S, g1, by rw [← g2], g3⟩
              case measure => simp [RowKit.intOf]; omega
      · have ek : k = l.length := by omega
        have hW := hi.1
        have N21 := on_any wr X q 3 S hd
        have HF : Hid ((({ S with down := false } : DS).flush.2 = 0) ∨ (({ S with down := false } : DS).flush.2 = 20 ∧ 1 ≤ n ∧ n = (l.length : Int) + 1)) := by
          unfold DS.flush
          rw [if_neg (by simp)]
          unfold DS.oper
          rcases hi.2 with ⟨h1, h2, h3, h4⟩ | ⟨h1, h2, h3, h4⟩ | ⟨h1, h2, h3, h4, h5⟩
          · rw [if_pos h2]; exact .inl rfl
          · rw [if_neg (by show ¬ S.armed = 0; omega)]
            by_cases g : S.armed = 1
            · rw [if_pos g]; exact .inr ⟨rfl, by omega, by omega⟩
            · rw [if_neg g]; exact .inl rfl
          · rw [if_pos h5]; exact .inl rfl
        have hops : S.ops ≤ 1000000 := by
          rcases hi.2 with ⟨_, _, _, h4⟩ | ⟨_, _, _, h4⟩ | ⟨_, _, _, h4, _⟩ <;> omega
        have HS1 : Hid (({ S with down := false } : DS).down = false ∧ ({ S with down := false } : DS).W.length ≤ 100000 ∧ ({ S with down := false } : DS).ops ≤ 1000000) := ⟨rfl, by show S.W.length ≤ _; omega, hops⟩
        clear hi hd hops hW HC
        generalize ({ S with down := false } : DS) = S1 at *
        go_wp2_with (go_at_call 21; refine N21.mono ?_; rintro e w6 ⟨rfl, hd6, hs6⟩)
        clear N21
        have N17 := read0 w6 X q 3 S1 0 (by omega) HS1.out.1 hd6
        refine N17.mono ?_
        rintro e w7 ⟨rfl, hp7⟩
        have N15 := flush_any w7 X q 3 S1 HS1.out.2.1 HS1.out.2.2 (hd6.below hp7.below)
        have b7 := hb.trans (((hs6.trans (hp7.step X)).below hX hb.size))
        clear N17 hd6 hs6 hp7 hb
        generalize S1.flush.2 = r at *
        generalize S1.flush.1 = S2 at *
        rcases HF.out with rfl | ⟨rfl, h1, h2⟩
        · go_wp2_with (go_at_call 15; refine N15.mono ?_; rintro e w8 ⟨rfl, hd8, hs8⟩)
          go_ret
          exact ⟨rfl, b7.trans (hs8.below hX b7.size)⟩
        · go_wp2_with (go_at_call 15; refine N15.mono ?_; rintro e w8 ⟨rfl, hd8, hs8⟩)
          go_ret
          exact ⟨rfl, b7.trans (hs8.below hX b7.size)⟩
  · have hl' : (100 : Int) < (l.length : Int) := by omega
    go_enter Try.func5, Try.ntmps5
    go_wp2_with (first | (go_at_call 8; refine N8.mono ?_; rintro e w1 ⟨rfl, hb1⟩))
    go_ret
    exact ⟨rfl, hb1⟩
end Go.Proofs.Ytgbgeoplbmjcbaa
