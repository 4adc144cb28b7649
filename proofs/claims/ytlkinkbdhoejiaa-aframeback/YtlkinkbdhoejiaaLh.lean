/- trivetlaw16.AframeHeads answers true of any size, any properties and any bytes. No condition. -/
import Derived.Test.YtlkinkbdhoejiaaTx
import Derived.Test.YtlkinkbdhoejiaaTf
import Derived.Test.YtlkinkbdhoejiaaWl
namespace Go.Proofs.Ytlkinkbdhoejiaa
open Go.RowKit Go.Lib
set_option maxRecDepth 100000
set_option linter.unusedSimpArgs false

/-- What long answers. -/
def LoB (e : Ending) : Prop := ∃ r : Bool, e = .returned (.bool r)
theorem long_some (w : World) (l : List Pr) (b o c : Nat) (h : ∀ i (h : i < l.length), PrAt w b (o + i * 5) l[i]) (h16 : l.length ≤ 9223372036854775806) :
    Calls Try.prog 13 #[.slice (some ⟨b, o, none⟩) l.length c] w fun e w' => LoB e ∧ Below w.heap.size w w' := by
  have H : Hid (∀ i (h : i < l.length), PrAt w b (o + i * 5) l[i]) := h
  clear h
  go_enter Try.func13, Try.ntmps13
  go_wp2_with fail
  go_loopw [3, 8] (fun s i wr => ∃ (k : Nat) (z : Int), k ≤ l.length ∧ i = .int .i64 k ∧ s = .int .i64 z ∧ Below w.heap.size w wr) (fun _ i _ => l.length - (RowKit.intOf i).toNat)
  case atStart => exact ⟨0, 0, by omega, rfl, rfl, Below.refl _ _⟩
  case round =>
    obtain ⟨k, z, hk, rfl, rfl, hbr⟩ := hrel
    have hwr := hbr.size
    by_cases hlt : k < l.length
    · obtain ⟨a0, a1, a2, a3, a4⟩ := (H.out k hlt).on hbr
      obtain ⟨pk, hpk⟩ : ∃ pk, pk = l[k] := ⟨_, rfl⟩
      rw [← hpk] at a0 a1 a2 a3 a4
      clear hpk
      go_wp2
      · go_ret
        exact ⟨⟨_, rfl⟩, hbr.alloc hwr _⟩
      · go_roundw
        case rel => exact ⟨k + 1, _, by omega, by go_num, rfl, hbr.alloc hwr _⟩
        case measure => simp [RowKit.intOf]; omega
    · go_wp2
      go_ret
      exact ⟨⟨_, rfl⟩, hbr⟩
theorem long_nil (w : World) (a : Option Addr) (c : Nat) : Calls Try.prog 13 #[.slice a 0 c] w fun e w' => LoB e ∧ Below w.heap.size w w' := by
  go_enter Try.func13, Try.ntmps13
  go_wp2_with fail
  go_loopw [3, 8] (fun s i wr => i = .int .i64 0 ∧ s = .int .i64 0 ∧ wr = w) (fun _ _ _ => 0)
  case atStart => exact ⟨rfl, rfl, rfl⟩
  case round =>
    obtain ⟨rfl, rfl, rfl⟩ := hrel
    go_wp2
    go_ret
    exact ⟨⟨_, rfl⟩, Below.refl _ _⟩
theorem alllong_any (w : World) (v : Value) (l : List Pr) (h : RdP w v l) (h16 : l.length ≤ 9223372036854775806) : Calls Try.prog 13 #[v] w fun e w' => LoB e ∧ Below w.heap.size w w' := by
  rcases h with ⟨⟨a, c, rfl⟩, rfl⟩ | ⟨b, o, c, rfl, _, h⟩
  · exact long_nil w a c
  · exact long_some w l b o c h h16
theorem ix0 : ∀ w, (Instr.index 34 (.agg #[.bool false, .bool true]) (.int .i64 0)).run Try.prog w = .ok (.bool false) w := by intro w; kernel_rfl
theorem ix1 : ∀ w, (Instr.index 34 (.agg #[.bool false, .bool true]) (.int .i64 1)).run Try.prog w = .ok (.bool true) w := by intro w; kernel_rfl
theorem ctab_len {s r : List UInt8} {L : List Pr} (h : ctab s = some (L, r)) : L.length ≤ 16 := by
  unfold ctab at h
  split at h
  · cases h
  · split at h
    · cases h
    · rename_i t r' hc
      unfold tabO at h
      split at h
      · rename_i ho
        simp only [Option.map_some] at h
        injection h with h
        injection h with h _
        rw [← h]
        exact (valid_parts (okO_true ho).2).1
      · cases h
theorem readH_len (s : List UInt8) : (readH s).2.1.length ≤ 16 := by
  unfold readH
  split
  · exact Nat.zero_le _
  · cases hr : restH (s.drop 14) (numL ((s.drop 12).take 2)) with
    | none => exact Nat.zero_le _
    | some x =>
      obtain ⟨L, d⟩ := x
      have hL : L.length ≤ 16 := by
        unfold restH at hr
        split at hr
        · cases hr
        · split at hr
          · cases hr
          · rename_i L' r' hc
            have hL' : L'.length ≤ 16 := by
              split at hc
              · exact ctab_len hc
              · injection hc with hc
                injection hc with hc _
                rw [← hc]
                exact Nat.zero_le _
            have e : L = L' := by
              repeat' split at hr
              all_goals first
                | (injection hr with hr; injection hr with hr _; exact hr.symm)
                | cases hr
            rw [e]
            exact hL'
      simp only
      split
      · exact Nat.zero_le _
      · exact hL
set_option maxHeartbeats 2000000 in
theorem heads_law (w : World) (size : Int) (va : Value) (ps : List Pr) (s : List UInt8) (hr : RdP w va ps) (hf : ∀ q ∈ ps, Fits q) (h63 : ps.length ≤ 9223372036854775806) :
    Calls Try.prog 4 #[.int .i64 size, va, str s] w fun e w' => e = .returned (.bool true) ∧ Below w.heap.size w w' := by
  have HR : Hid (RdP w va ps) := hr
  have LO := fun w (h : RdP w va ps) => alllong_any w va ps h h63
  have H1 := fun w d (h : RdP w va ps) => head_any w size va d ps h hf
  have H2 := fun w d (h : RdP w va ps) => rhead_any w size va d ps h hf h63
  clear hr hf h63
  go_enter Try.func4, Try.ntmps4
  go_wp2_with fail
  refine (wakes_any _).mono ?_
  rintro e w1 ⟨rfl, b1⟩
  go_wp2_with fail
  refine (LO _ (HR.out.on b1)).mono ?_
  rintro e w2 ⟨⟨x, rfl⟩, b2⟩
  have B2 := b1.trans (b2.mono b1.size)
  clear b1 b2 LO
  cases x with
  | true =>
    go_wp2_with fail
    go_ret
    exact ⟨rfl, B2⟩
  | false =>
    by_cases hs : 16384 < s.length
    · have d1 : decide ((16384 : Int) < (s.length : Int)) = true := by simp; omega
      go_wp2_with fail
      go_ret
      exact ⟨rfl, B2⟩
    · have d1 : decide ((16384 : Int) < (s.length : Int)) = false := by simp; omega
      have R1 := fun w => readhead_any w s (by omega)
      have R2 := fun w => rheadR_any w s
      clear hs
      go_wp2_with fail
      go_loopw [31] (fun i wr => ∃ j : Nat, j ≤ 2 ∧ i = .int .i64 j ∧ Below w.heap.size w wr) (fun i _ => 2 - (RowKit.intOf i).toNat)
      case atStart => exact ⟨0, by omega, rfl, B2⟩
      case round =>
        clear B2
        obtain ⟨j, hj, rfl, hB⟩ := hrel
        by_cases hlt : j < 2
        · have h01 : j = 0 ∨ j = 1 := by omega
          rcases h01 with rfl | rfl
          · have i0 := ix0
            have i1 := ix1
            have E1 := H1 wr false (HR.out.on hB)
            have E2 := fun w h => H2 w false h
            generalize errH size ps = en at *
            generalize outH size ps false = ob at *
            go_wp2_with fail
            refine E1.mono ?_
            rintro e w3 ⟨v3, rfl, o3, b3⟩
            have B3 := hB.trans (b3.mono hB.size)
            clear E1
            go_wp2_with fail
            refine (E2 _ (HR.out.on B3)).mono ?_
            rintro e w4 ⟨v4, rfl, o4, b4⟩
            have B4 := B3.trans (b4.mono B3.size)
            have cv3 := conv_any (o3.on b4).rd
            have cv4 := conv_any o4.rd
            clear E2 B3 b3 b4 o3 o4
            go_wp2_with fail
            go_roundw
            case rel => exact ⟨1, by omega, by go_num, B4⟩
            case measure => simp [RowKit.intOf]
          · have i0 := ix0
            have i1 := ix1
            have E1 := H1 wr true (HR.out.on hB)
            have E2 := fun w h => H2 w true h
            generalize errH size ps = en at *
            generalize outH size ps true = ob at *
            go_wp2_with fail
            refine E1.mono ?_
            rintro e w3 ⟨v3, rfl, o3, b3⟩
            have B3 := hB.trans (b3.mono hB.size)
            clear E1
            go_wp2_with fail
            refine (E2 _ (HR.out.on B3)).mono ?_
            rintro e w4 ⟨v4, rfl, o4, b4⟩
            have B4 := B3.trans (b4.mono B3.size)
            have cv3 := conv_any (o3.on b4).rd
            have cv4 := conv_any o4.rd
            clear E2 B3 b3 b4 o3 o4
            go_wp2_with fail
            go_roundw
            case rel => exact ⟨2, by omega, by go_num, B4⟩
            case measure => simp [RowKit.intOf]
        · obtain rfl : j = 2 := by omega
          clear H1 H2
          go_wp2_with fail
          refine (R1 _).mono ?_
          rintro e w3 ⟨⟨v3, rfl, o3⟩, b3⟩
          have B3 := hB.trans (b3.mono hB.size)
          clear R1
          go_wp2_with fail
          refine (R2 _).mono ?_
          rintro e w4 ⟨⟨v4, rfl, o4⟩, b4⟩
          have B4 := B3.trans (b4.mono B3.size)
          have hle : (readH s).2.1.length ≤ 9223372036854775806 := by
            have := readH_len s
            omega
          have SA := all7 w4 v3 v4 (readH s).2.1 (readH s).2.1 (o3.up b4).rd o4.rd hle
          rw [show sameL (readH s).2.1 (readH s).2.1 = true from (sameL_eq _ _).2 rfl] at SA
          clear R2 hle
          generalize readH s = rh at *
          obtain ⟨z, L, d, en⟩ := rh
          clear o3 o4 b3 b4 B3
          go_wp2_with fail
          refine SA.mono ?_
          rintro e w5 ⟨rfl, b5⟩
          have B5 := B4.trans (b5.mono B4.size)
          go_wp2_with fail
          go_ret
          exact ⟨rfl, B5⟩
end Go.Proofs.Ytlkinkbdhoejiaa
