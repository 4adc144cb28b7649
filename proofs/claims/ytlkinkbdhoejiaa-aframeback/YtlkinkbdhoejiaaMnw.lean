/- Narrow and Widen, the program's and the document's: what they answer of any bits; FltNarrows walked. The document's Narrow: what it answers of any bits. The document's Narrow answers what the program's does. Widen, the program's and the document's; FltNarrows walked: it answers true of any bits, where the listed variables read as the walk needs them. -/
import Derived.Test.YtlkinkbdhoejiaaPg
set_option maxRecDepth 100000
namespace Go.Proofs.Ytlkinkbdhoejiaa
open Go.RowKit Go.Lib Ieee

@[go_sem] theorem ext84 (n : Int) (w : World) : (callFunc 84 #[.int .u32 n]).run Try.prog w = .ok (.value (.float .f32 n.toNat)) w := by
  rw [run_callFunc_extern Try.func84 (by kernel_rfl) (by kernel_rfl) (by kernel_rfl) (e := Extern.MathFloatBits.float32frombits) (by kernel_rfl)]; rfl
@[go_sem] theorem ext86 (b : Nat) (w : World) : (callFunc 86 #[.float .f32 b]).run Try.prog w = .ok (.value (.int .u32 b)) w := by
  rw [run_callFunc_extern Try.func86 (by kernel_rfl) (by kernel_rfl) (by kernel_rfl) (e := Extern.MathFloatBits.float32bits) (by kernel_rfl)]; rfl
theorem ff_num (src dst : FloatKind) (hne : src ≠ dst) (b : Nat) (s : Bool) (m : Nat) (e : Int) (h : src.decode b = .number s m e) (w : World) :
    (Conv.floatToFloat src b dst).run Try.prog w = if (dst.decode (dst.encode (.number s m e))).isInfinity then .ok (.float dst (w.tape w.drawn (.floatToFloat b) % 2 ^ 32)) w.drew else .ok (.float dst (dst.encode (.number s m e))) w := by
  simp only [Conv.floatToFloat, if_neg hne, h]
  split
  · simp [Question.forced, Question.cut]
  · rfl
theorem ff_inf (src dst : FloatKind) (hne : src ≠ dst) (b : Nat) (s : Bool) (h : src.decode b = .infinity s) (w : World) :
    (Conv.floatToFloat src b dst).run Try.prog w = .ok (.float dst (dst.encode (.infinity s))) w := by
  simp only [Conv.floatToFloat, if_neg hne, h]
  rfl
theorem nan_rng (u v : Nat) (hv : v < 2 ^ 52 - 1) : isN double (u * 2 ^ 63 + 0x7ff0000000000000 + 1 + v) := by
  unfold isN rng
  rw [i64, s64]
  have e : (u * 2 ^ 63 + 0x7ff0000000000000 + 1 + v) % 2 ^ 63 = 0x7ff0000000000000 + 1 + v := by
    rw [Nat.add_assoc, Nat.add_assoc, Nat.mul_comm, Nat.mul_add_mod, Nat.mod_eq_of_lt (by omega)]
    omega
  rw [e]
  omega
theorem ff_nan (src : FloatKind) (hne : src ≠ .f64) (b : Nat) (s : Bool) (t : Nat) (h : src.decode b = .nan s t) (w : World) :
    ∃ c, c < 2 ^ 64 ∧ isN double c ∧ (Conv.floatToFloat src b .f64).run Try.prog w = .ok (.float .f64 c) w.drew := by
  refine ⟨(w.tape w.drawn (.nanConv .f64 b) % 2) * 2 ^ 63 + 0x7ff0000000000000 + 1 + (w.tape w.drawn (.nanConv .f64 b) / 2) % (2 ^ 52 - 1), by omega, ?_, ?_⟩
  · exact nan_rng _ _ (Nat.mod_lt _ (by decide))
  · simp only [Conv.floatToFloat, if_neg hne, h]
    simp [Question.forced, Question.cut]
theorem conv_ff (src dst : TypeId) (s k : FloatKind) (b : Nat) (hs : Try.prog.underlying src = some (.float s)) (hd : Try.prog.underlying dst = some (.float k)) (w : World) :
    (convert src dst (.float s b)).run Try.prog w = (Conv.floatToFloat s b k).run Try.prog w := by
  simp [convert, run_underlying hs, run_underlying hd]

theorem noninf_of_wide {g : Nat} (h : rng single g < single.infRung) : ((FloatKind.f64.decode (wide g))).isInfinity = false := by
  have hn : ¬ isN single g := by unfold isN; omega
  have h1 : rng double (wide g) < double.infRung := by
    rw [wide_rng g hn, if_neg (by omega)]; exact (up_val h).2
  obtain ⟨m, e, hr, _⟩ := read_num h1
  show (double.read (wide g)).isInfinity = false
  rw [hr]; rfl
theorem widen_num (w : World) (g : Nat) (hn : ¬ isN single g) : (convert 102 56 (.float .f32 g)).run Try.prog w = .ok (.float .f64 (wide g)) w := by
  rw [conv_ff 102 56 .f32 .f64 g Try.underlying102 Try.underlying56]
  by_cases h : rng single g = single.infRung
  · rw [ff_inf .f32 .f64 (by decide) g _ (read_inf bi32 h)]
    unfold wide
    rw [if_pos h]
    rfl
  · have hlt : rng single g < single.infRung := by unfold isN at hn; omega
    obtain ⟨s, m, e, hr, hw⟩ := write_wide hlt
    rw [ff_num .f32 .f64 (by decide) g s m e hr]
    have e1 : FloatKind.f64.encode (.number s m e) = wide g := hw
    rw [e1, noninf_of_wide hlt]
    rfl
theorem widen_nan (w : World) (g : Nat) (hn : isN single g) : ∃ c, c < 2 ^ 64 ∧ isN double c ∧ (convert 102 56 (.float .f32 g)).run Try.prog w = .ok (.float .f64 c) w.drew := by
  obtain ⟨t, ht⟩ := read_nan bi32 hn
  rw [conv_ff 102 56 .f32 .f64 g Try.underlying102 Try.underlying56]
  exact ff_nan .f32 (by decide) g _ t ht w
theorem narrow_some (w : World) (b g : Nat) (hn : ¬ isN double b) (h : nar b = some g) : (convert 56 102 (.float .f64 b)).run Try.prog w = .ok (.float .f32 g) w := by
  rw [conv_ff 56 102 .f64 .f32 b Try.underlying56 Try.underlying102]
  unfold nar at h
  split at h
  · rename_i hi
    cases h
    rw [ff_inf .f64 .f32 (by decide) b _ (read_inf bi64 hi)]
    rfl
  · rename_i hi
    obtain ⟨s, hd, rfl⟩ := Option.map_eq_some_iff.1 h
    have hlt : rng double b < double.infRung := by unfold isN at hn; omega
    obtain ⟨t, m, e, hr, hw⟩ := write_down hlt hd
    rw [ff_num .f64 .f32 (by decide) b t m e hr]
    have e1 : FloatKind.f32.encode (.number t m e) = single.word (sgn double b) s := hw
    have hs := (down_val hd).2
    have e2 : rng single (single.word (sgn double b) s) = s := word_rng (Nat.lt_trans hs (inf_lt _))
    have e3 : (FloatKind.f32.decode (single.word (sgn double b) s)).isInfinity = false := by
      obtain ⟨m', e', hr', _⟩ := read_num (f := single) (w := single.word (sgn double b) s) (by rw [e2]; exact hs)
      show (single.read _).isInfinity = false
      rw [hr']; rfl
    rw [e1, e3]
    rfl
theorem narrow_none (w : World) (b : Nat) (hn : ¬ isN double b) (h : nar b = none) : ∃ g w', (convert 56 102 (.float .f64 b)).run Try.prog w = .ok (.float .f32 g) w' ∧ (w' = w ∨ w' = w.drew) := by
  rw [conv_ff 56 102 .f64 .f32 b Try.underlying56 Try.underlying102]
  unfold nar at h
  split at h
  · cases h
  · rename_i hi
    have hlt : rng double b < double.infRung := by unfold isN at hn; omega
    obtain ⟨m, e, hr, _⟩ := read_num hlt
    rw [ff_num .f64 .f32 (by decide) b _ m _ hr]
    split
    · exact ⟨_, _, rfl, .inr rfl⟩
    · exact ⟨_, _, rfl, .inl rfl⟩

/-- What Narrow answers. -/
def narB (b : Nat) : Nat × Bool := if isN double b then (2143289344, true) else match nar b with
  | some g => (g, true)
  | none => (0, false)
theorem below_drew (w : World) : Below w.heap.size w w.drew := (Below.refl _ w).drew

set_option maxHeartbeats 1000000 in
theorem narrow_any (w : World) (b : Nat) (hb : b < 2 ^ 64) :
    Calls Try.prog 78 #[.float .f64 b] w fun e w' => e = .returned (.tuple #[.int .u32 ((narB b).1 : Nat), .bool (narB b).2]) ∧ Below w.heap.size w w' := by
  have hN := isnan_any w b
  by_cases hn : isN double b
  · have e : narB b = (2143289344, true) := by unfold narB; rw [if_pos hn]
    rw [e]
    rw [decide_eq_true hn] at hN
    clear e hn hb
    go_enter Try.func78, Try.ntmps78
    go_wp2_with fail
    refine hN.mono ?_
    rintro e w1 ⟨rfl, rfl⟩
    clear hN
    go_wp2
    go_ret2
    exact ⟨rfl, Below.refl _ _⟩
  · rw [decide_eq_false hn] at hN
    cases hg : nar b with
    | some g =>
      have e : narB b = (g, true) := by unfold narB; rw [if_neg hn, hg]
      rw [e]
      obtain ⟨hw, hng, _⟩ := nar_some_wide hb hg
      have h1 := narrow_some w b g hn hg
      have h2 := widen_num w g hng
      rw [hw] at h2
      have h3 : FloatKind.f64.format.order b b = some .eq := order_self hn
      clear e hn hb hg hw hng
      go_enter Try.func78, Try.ntmps78
      go_wp2_with fail
      refine hN.mono ?_
      rintro e w1 ⟨rfl, rfl⟩
      clear hN
      go_wp2
      go_ret2
      exact ⟨rfl, Below.refl _ _⟩
    | none =>
      have e : narB b = (0, false) := by unfold narB; rw [if_neg hn, hg]
      rw [e]
      obtain ⟨g, W, h1, hW⟩ := narrow_none w b hn hg
      have hbW : Below w.heap.size w W := by
        rcases hW with rfl | rfl
        · exact Below.refl _ _
        · exact below_drew w
      have h2 : ∃ c W2, (convert 102 56 (.float .f32 g)).run Try.prog W = .ok (.float .f64 c) W2 ∧ Below W.heap.size W W2 ∧ (FloatKind.f64.format.order c b != some .eq) = true := by
        by_cases hs : isN single g
        · obtain ⟨c, _, hc, hr⟩ := widen_nan W g hs
          refine ⟨c, _, hr, below_drew W, ?_⟩
          rw [show FloatKind.f64.format.order c b = none from order_nan bi64 (.inl hc)]
          rfl
        · refine ⟨_, _, widen_num W g hs, Below.refl _ _, ?_⟩
          exact bne_iff_ne.2 (nar_none_ne hn hg hs)
      obtain ⟨c, W2, h2, hb2, h3⟩ := h2
      clear e hn hb hg hW
      go_enter Try.func78, Try.ntmps78
      go_wp2_with fail
      refine hN.mono ?_
      rintro e w1 ⟨rfl, rfl⟩
      clear hN
      go_wp2
      go_ret2
      exact ⟨rfl, hbW.trans (hb2.mono hbW.size)⟩
end Go.Proofs.Ytlkinkbdhoejiaa

set_option maxRecDepth 100000
namespace Go.Proofs.Ytlkinkbdhoejiaa
open Go.RowKit Go.Lib Ieee

set_option maxHeartbeats 1000000 in
theorem rn_inf (w : World) (b : Nat) (sg x f : Int) (hs : (b : Int) / 9223372036854775808 = sg) (hx : bits .and .u64 ((b : Int) / 4503599627370496) 2047 = x) (hf : bits .and .u64 (b : Int) 4503599627370495 = f)
    (hs0 : 0 ≤ sg) (hs1 : sg ≤ 1) (hx1 : x = 2047)
    (hN : Calls Try.prog 53 #[.float .f64 b] w fun e w' => e = .returned (.bool false) ∧ w' = w) (hB : Calls Try.prog 42 #[.float .f64 b] w fun e w' => e = .returned (.int .u64 b) ∧ w' = w) :
    Calls Try.prog 41 #[.float .f64 b] w fun e w' => e = .returned (.tuple #[.int .u32 (bits .or .u32 (sg * 2147483648) 2139095040), .bool true]) ∧ w' = w := by
  go_enter Try.func41, Try.ntmps41
  go_wp2_with fail
  refine hN.mono ?_
  rintro e w1 ⟨rfl, rfl⟩
  go_wp2_with fail
  refine hB.mono ?_
  rintro e w2 ⟨rfl, rfl⟩
  clear hN hB
  go_wp2
  go_ret2
  exact ⟨rfl, rfl⟩

set_option maxHeartbeats 1000000 in
theorem rn_nought (w : World) (b : Nat) (sg x f : Int) (hs : (b : Int) / 9223372036854775808 = sg) (hx : bits .and .u64 ((b : Int) / 4503599627370496) 2047 = x) (hf : bits .and .u64 (b : Int) 4503599627370495 = f)
    (hs0 : 0 ≤ sg) (hs1 : sg ≤ 1) (hx1 : x = 0) (hf2 : f = 0)
    (hN : Calls Try.prog 53 #[.float .f64 b] w fun e w' => e = .returned (.bool false) ∧ w' = w) (hB : Calls Try.prog 42 #[.float .f64 b] w fun e w' => e = .returned (.int .u64 b) ∧ w' = w) :
    Calls Try.prog 41 #[.float .f64 b] w fun e w' => e = .returned (.tuple #[.int .u32 (sg * 2147483648), .bool true]) ∧ w' = w := by
  go_enter Try.func41, Try.ntmps41
  go_wp2_with fail
  refine hN.mono ?_
  rintro e w1 ⟨rfl, rfl⟩
  go_wp2_with fail
  refine hB.mono ?_
  rintro e w2 ⟨rfl, rfl⟩
  clear hN hB
  go_wp2
  go_ret2
  exact ⟨rfl, rfl⟩

set_option maxHeartbeats 1000000 in
theorem rn_norm (w : World) (b : Nat) (sg x f : Int) (hs : (b : Int) / 9223372036854775808 = sg) (hx : bits .and .u64 ((b : Int) / 4503599627370496) 2047 = x) (hf : bits .and .u64 (b : Int) 4503599627370495 = f)
    (hs0 : 0 ≤ sg) (hs1 : sg ≤ 1) (hf0 : 0 ≤ f) (hf1 : f < 4503599627370496) (hx1 : 897 ≤ x) (hx2 : x ≤ 1150) (h0 : bits .and .u64 f 536870911 = 0)
    (hN : Calls Try.prog 53 #[.float .f64 b] w fun e w' => e = .returned (.bool false) ∧ w' = w) (hB : Calls Try.prog 42 #[.float .f64 b] w fun e w' => e = .returned (.int .u64 b) ∧ w' = w) :
    Calls Try.prog 41 #[.float .f64 b] w fun e w' => e = .returned (.tuple #[.int .u32 (bits .or .u32 (bits .or .u32 (sg * 2147483648) ((x - 1023 + 127) * 8388608)) (f / 536870912)), .bool true]) ∧ w' = w := by
  go_enter Try.func41, Try.ntmps41
  go_wp2_with fail
  refine hN.mono ?_
  rintro e w1 ⟨rfl, rfl⟩
  go_wp2_with fail
  refine hB.mono ?_
  rintro e w2 ⟨rfl, rfl⟩
  clear hN hB
  go_wp2
  go_ret2
  exact ⟨rfl, rfl⟩

set_option maxHeartbeats 1000000 in
theorem rn_low (w : World) (b : Nat) (sg x f : Int) (hs : (b : Int) / 9223372036854775808 = sg) (hx : bits .and .u64 ((b : Int) / 4503599627370496) 2047 = x) (hf : bits .and .u64 (b : Int) 4503599627370495 = f)
    (hs0 : 0 ≤ sg) (hs1 : sg ≤ 1) (hx1 : 874 ≤ x) (hx2 : x < 897) (a : Int) (ha : bits .or .u64 f 4503599627370496 = a) (t m : Int) (ht : IntKind.u64.wrap (2 ^ (926 - x).toNat) = t) (hm : IntKind.u64.wrap (t - 1) = m) (h0 : bits .and .u64 a m = 0)
    (hN : Calls Try.prog 53 #[.float .f64 b] w fun e w' => e = .returned (.bool false) ∧ w' = w) (hB : Calls Try.prog 42 #[.float .f64 b] w fun e w' => e = .returned (.int .u64 b) ∧ w' = w) :
    Calls Try.prog 41 #[.float .f64 b] w fun e w' => e = .returned (.tuple #[.int .u32 (bits .or .u32 (sg * 2147483648) (a / 2 ^ (926 - x).toNat % 4294967296)), .bool true]) ∧ w' = w := by
  go_enter Try.func41, Try.ntmps41
  go_wp2_with fail
  refine hN.mono ?_
  rintro e w1 ⟨rfl, rfl⟩
  go_wp2_with fail
  refine hB.mono ?_
  rintro e w2 ⟨rfl, rfl⟩
  clear hN hB
  go_wp2
  go_ret2
  exact ⟨rfl, rfl⟩

set_option maxHeartbeats 1000000 in
theorem rn_no1 (w : World) (b : Nat) (sg x f : Int) (hs : (b : Int) / 9223372036854775808 = sg) (hx : bits .and .u64 ((b : Int) / 4503599627370496) 2047 = x) (hf : bits .and .u64 (b : Int) 4503599627370495 = f)
    (hs0 : 0 ≤ sg) (hs1 : sg ≤ 1) (hx1 : x = 0) (hf2 : ¬ f = 0)
    (hN : Calls Try.prog 53 #[.float .f64 b] w fun e w' => e = .returned (.bool false) ∧ w' = w) (hB : Calls Try.prog 42 #[.float .f64 b] w fun e w' => e = .returned (.int .u64 b) ∧ w' = w) :
    Calls Try.prog 41 #[.float .f64 b] w fun e w' => e = .returned (.tuple #[.int .u32 (0), .bool false]) ∧ w' = w := by
  go_enter Try.func41, Try.ntmps41
  go_wp2_with fail
  refine hN.mono ?_
  rintro e w1 ⟨rfl, rfl⟩
  go_wp2_with fail
  refine hB.mono ?_
  rintro e w2 ⟨rfl, rfl⟩
  clear hN hB
  go_wp2
  go_ret2
  exact ⟨rfl, rfl⟩

set_option maxHeartbeats 1000000 in
theorem rn_no2 (w : World) (b : Nat) (sg x f : Int) (hs : (b : Int) / 9223372036854775808 = sg) (hx : bits .and .u64 ((b : Int) / 4503599627370496) 2047 = x) (hf : bits .and .u64 (b : Int) 4503599627370495 = f)
    (hs0 : 0 ≤ sg) (hs1 : sg ≤ 1) (hx1 : 897 ≤ x) (hx2 : x ≤ 1150) (h0 : (bits .and .u64 f 536870911 == 0) = false)
    (hN : Calls Try.prog 53 #[.float .f64 b] w fun e w' => e = .returned (.bool false) ∧ w' = w) (hB : Calls Try.prog 42 #[.float .f64 b] w fun e w' => e = .returned (.int .u64 b) ∧ w' = w) :
    Calls Try.prog 41 #[.float .f64 b] w fun e w' => e = .returned (.tuple #[.int .u32 (0), .bool false]) ∧ w' = w := by
  go_enter Try.func41, Try.ntmps41
  go_wp2_with fail
  refine hN.mono ?_
  rintro e w1 ⟨rfl, rfl⟩
  go_wp2_with fail
  refine hB.mono ?_
  rintro e w2 ⟨rfl, rfl⟩
  clear hN hB
  go_wp2
  go_ret2
  exact ⟨rfl, rfl⟩

set_option maxHeartbeats 1000000 in
theorem rn_no3 (w : World) (b : Nat) (sg x f : Int) (hs : (b : Int) / 9223372036854775808 = sg) (hx : bits .and .u64 ((b : Int) / 4503599627370496) 2047 = x) (hf : bits .and .u64 (b : Int) 4503599627370495 = f)
    (hs0 : 0 ≤ sg) (hs1 : sg ≤ 1) (hx1 : 1150 < x) (hx2 : x < 2047)
    (hN : Calls Try.prog 53 #[.float .f64 b] w fun e w' => e = .returned (.bool false) ∧ w' = w) (hB : Calls Try.prog 42 #[.float .f64 b] w fun e w' => e = .returned (.int .u64 b) ∧ w' = w) :
    Calls Try.prog 41 #[.float .f64 b] w fun e w' => e = .returned (.tuple #[.int .u32 (0), .bool false]) ∧ w' = w := by
  go_enter Try.func41, Try.ntmps41
  go_wp2_with fail
  refine hN.mono ?_
  rintro e w1 ⟨rfl, rfl⟩
  go_wp2_with fail
  refine hB.mono ?_
  rintro e w2 ⟨rfl, rfl⟩
  clear hN hB
  go_wp2
  go_ret2
  exact ⟨rfl, rfl⟩

set_option maxHeartbeats 1000000 in
theorem rn_no4 (w : World) (b : Nat) (sg x f : Int) (hs : (b : Int) / 9223372036854775808 = sg) (hx : bits .and .u64 ((b : Int) / 4503599627370496) 2047 = x) (hf : bits .and .u64 (b : Int) 4503599627370495 = f)
    (hs0 : 0 ≤ sg) (hs1 : sg ≤ 1) (hx1 : 874 ≤ x) (hx2 : x < 897) (a : Int) (ha : bits .or .u64 f 4503599627370496 = a) (t m : Int) (ht : IntKind.u64.wrap (2 ^ (926 - x).toNat) = t) (hm : IntKind.u64.wrap (t - 1) = m) (h0 : (bits .and .u64 a m == 0) = false)
    (hN : Calls Try.prog 53 #[.float .f64 b] w fun e w' => e = .returned (.bool false) ∧ w' = w) (hB : Calls Try.prog 42 #[.float .f64 b] w fun e w' => e = .returned (.int .u64 b) ∧ w' = w) :
    Calls Try.prog 41 #[.float .f64 b] w fun e w' => e = .returned (.tuple #[.int .u32 (0), .bool false]) ∧ w' = w := by
  go_enter Try.func41, Try.ntmps41
  go_wp2_with fail
  refine hN.mono ?_
  rintro e w1 ⟨rfl, rfl⟩
  go_wp2_with fail
  refine hB.mono ?_
  rintro e w2 ⟨rfl, rfl⟩
  clear hN hB
  go_wp2
  go_ret2
  exact ⟨rfl, rfl⟩

set_option maxHeartbeats 1000000 in
theorem rn_no5 (w : World) (b : Nat) (sg x f : Int) (hs : (b : Int) / 9223372036854775808 = sg) (hx : bits .and .u64 ((b : Int) / 4503599627370496) 2047 = x) (hf : bits .and .u64 (b : Int) 4503599627370495 = f)
    (hs0 : 0 ≤ sg) (hs1 : sg ≤ 1) (hx1 : 0 < x) (hx2 : x < 874)
    (hN : Calls Try.prog 53 #[.float .f64 b] w fun e w' => e = .returned (.bool false) ∧ w' = w) (hB : Calls Try.prog 42 #[.float .f64 b] w fun e w' => e = .returned (.int .u64 b) ∧ w' = w) :
    Calls Try.prog 41 #[.float .f64 b] w fun e w' => e = .returned (.tuple #[.int .u32 (0), .bool false]) ∧ w' = w := by
  go_enter Try.func41, Try.ntmps41
  go_wp2_with fail
  refine hN.mono ?_
  rintro e w1 ⟨rfl, rfl⟩
  go_wp2_with fail
  refine hB.mono ?_
  rintro e w2 ⟨rfl, rfl⟩
  clear hN hB
  go_wp2
  go_ret2
  exact ⟨rfl, rfl⟩
end Go.Proofs.Ytlkinkbdhoejiaa

set_option maxRecDepth 100000
namespace Go.Proofs.Ytlkinkbdhoejiaa
open Go.RowKit Go.Lib Ieee

theorem or_u32 (a b : Nat) (ha : a < 4294967296) (hb : b < 4294967296) : bits .or .u32 (a : Int) (b : Int) = ((a ||| b : Nat) : Int) := by
  have hx : a ||| b < 2 ^ 32 := Nat.or_lt_two_pow (by omega) (by omega)
  have h1 : (BitVec.ofInt 32 (a : Int)).toNat = a := by
    rw [BitVec.ofInt_natCast, BitVec.toNat_ofNat]; exact Nat.mod_eq_of_lt (by omega)
  have h2 : (BitVec.ofInt 32 (b : Int)).toNat = b := by
    rw [BitVec.ofInt_natCast, BitVec.toNat_ofNat]; exact Nat.mod_eq_of_lt (by omega)
  show IntKind.u32.wrap ((BitVec.ofInt 32 (a : Int) ||| BitVec.ofInt 32 (b : Int)).toNat : Int) = _
  rw [BitVec.toNat_or, h1, h2]
  simp only [IntKind.wrap, IntKind.bits, IntKind.signed]
  simp
  omega
theorem or_at (s y i : Nat) (hy : y < 2 ^ i) : s * 2 ^ i ||| y = s * 2 ^ i + y := by
  have e := Nat.shiftLeft_add_eq_or_of_lt hy s
  rw [Nat.shiftLeft_eq] at e
  exact e.symm
theorem or_sign (s y : Nat) (hs : s ≤ 1) (hy : y < 2 ^ 31) : bits .or .u32 ((s : Int) * 2147483648) (y : Int) = ((s * 2 ^ 31 + y : Nat) : Int) := by
  rw [show (s : Int) * 2147483648 = ((s * 2 ^ 31 : Nat) : Int) from by omega, or_u32 _ _ (by omega) (by omega), or_at s y 31 hy]
theorem word_s (s : Bool) (r : Nat) : single.word s r = s.toNat * 2 ^ 31 + r := by
  cases s <;> simp [Format.word, s32]

/-- A float's parts. -/
structure Parts (b s x f : Nat) : Prop where
  hs : b / 2 ^ 63 = s
  hx : b / 2 ^ 52 % 2 ^ 11 = x
  hf : b % 2 ^ 52 = f
  s1 : s ≤ 1
  x1 : x < 2048
  f1 : f < 2 ^ 52
  r : rng double b = x * 2 ^ 52 + f
  g : (sgn double b).toNat = s
theorem parts (b : Nat) (hb : b < 2 ^ 64) : Parts b (b / 2 ^ 63) (b / 2 ^ 52 % 2 ^ 11) (b % 2 ^ 52) := by
  refine ⟨rfl, rfl, rfl, by omega, by omega, by omega, ?_, ?_⟩
  · unfold rng
    rw [s64]; omega
  · unfold sgn
    rw [s64]
    have : b / 2 ^ 63 < 2 := by omega
    generalize b / 2 ^ 63 = k at *
    match k, this with
    | 0, _ => rfl
    | 1, _ => rfl

theorem narB_word {b s x f g : Nat} (h : Parts b s x f) (hn : ¬ isN double b) (hi : x * 2 ^ 52 + f ≠ double.infRung) (hd : downR (x * 2 ^ 52 + f) = some g) : narB b = (s * 2 ^ 31 + g, true) := by
  have e : nar b = some (s * 2 ^ 31 + g) := by
    unfold nar
    rw [h.r, if_neg hi, hd, Option.map_some, word_s, h.g]
  unfold narB
  rw [if_neg hn, e]
theorem narB_no {b s x f : Nat} (h : Parts b s x f) (hn : ¬ isN double b) (hi : x * 2 ^ 52 + f ≠ double.infRung) (hd : downR (x * 2 ^ 52 + f) = none) : narB b = (0, false) := by
  have e : nar b = none := by
    unfold nar
    rw [h.r, if_neg hi, hd, Option.map_none]
  unfold narB
  rw [if_neg hn, e]
theorem narB_inf {b s x f : Nat} (h : Parts b s x f) (hn : ¬ isN double b) (hi : x * 2 ^ 52 + f = double.infRung) : narB b = (s * 2 ^ 31 + 255 * 2 ^ 23, true) := by
  have e : nar b = some (s * 2 ^ 31 + 255 * 2 ^ 23) := by
    unfold nar
    rw [h.r, if_pos hi, word_s, h.g, i32]
  unfold narB
  rw [if_neg hn, e]

theorem and29 (f : Nat) (hf : f < 2 ^ 52) : bits .and .u64 (f : Int) 536870911 = ((f % 2 ^ 29 : Nat) : Int) := by
  rw [show (536870911 : Int) = ((536870911 : Nat) : Int) from by decide, bits_and_u64_nat _ _ (by omega) (by omega)]
  rw [show (536870911 : Nat) = 2 ^ 29 - 1 from by decide, Nat.and_two_pow_sub_one_eq_mod]
theorem or52 (f : Nat) (hf : f < 2 ^ 52) : bits .or .u64 (f : Int) 4503599627370496 = ((f + 2 ^ 52 : Nat) : Int) := by
  rw [show (4503599627370496 : Int) = ((2 ^ 52 : Nat) : Int) from by decide, bits_or_u64_nat _ _ (by omega) (by omega)]
  have e := or_at 1 f 52 hf
  rw [Nat.one_mul] at e
  rw [Nat.or_comm, e, Nat.add_comm]
theorem downR_at (x f : Nat) (hf : f < 2 ^ 52) : downR (x * 2 ^ 52 + f) =
    if x = 0 ∧ f = 0 then some 0
    else if 897 ≤ x ∧ x ≤ 1150 ∧ f % 2 ^ 29 = 0 then some ((x - 896) * 2 ^ 23 + f / 2 ^ 29)
    else if x < 897 ∧ 874 ≤ x ∧ (f + 2 ^ 52) % 2 ^ (926 - x) = 0 then some ((f + 2 ^ 52) / 2 ^ (926 - x))
    else none := by
  unfold downR
  have e1 : (x * 2 ^ 52 + f) / 2 ^ 52 = x := by omega
  have e2 : (x * 2 ^ 52 + f) % 2 ^ 52 = f := by omega
  have e3 : (x * 2 ^ 52 + f) % 2 ^ 29 = f % 2 ^ 29 := by omega
  rw [e1, e2, e3]
  by_cases h : x = 0 ∧ f = 0
  · rw [if_pos h, if_pos (by omega)]
  · rw [if_neg h, if_neg (by omega)]

theorem pow_wrap (d : Nat) (h : d ≤ 52) : IntKind.u64.wrap ((2 : Int) ^ d) = ((2 ^ d : Nat) : Int) := by
  have e : ((2 : Int) ^ d) = ((2 ^ d : Nat) : Int) := by simp
  rw [e, IntKind.wrap_u64]
  have h1 : 2 ^ d ≤ 2 ^ 52 := Nat.pow_le_pow_right (by omega) h
  clear e
  generalize 2 ^ d = t at *
  omega
theorem f29 {f : Nat} (h : f < 2 ^ 52) : f / 2 ^ 29 < 2 ^ 23 := by omega
theorem x23 {x : Nat} (h : x ≤ 1150) : (x - 896) * 2 ^ 23 < 2 ^ 31 := by omega
theorem q32 {q : Nat} (h : q < 2 ^ 23) : (q : Int) % 4294967296 = (q : Int) := by omega
theorem s31 {s y : Nat} (hs : s ≤ 1) (hy : y < 2 ^ 31) : s * 2 ^ 31 + y < 4294967296 := by omega
theorem y32 {y : Nat} (hy : y < 2 ^ 23) : y < 4294967296 := by omega
theorem s23 (s k : Nat) : s * 2 ^ 31 + k * 2 ^ 23 = (s * 2 ^ 8 + k) * 2 ^ 23 := by omega
theorem pow_wrap1 (d : Nat) (h : d ≤ 52) : IntKind.u64.wrap (((2 ^ d : Nat) : Int) - 1) = ((2 ^ d - 1 : Nat) : Int) := by
  rw [IntKind.wrap_u64]
  have : 2 ^ d ≤ 2 ^ 52 := Nat.pow_le_pow_right (by omega) h
  have : 0 < 2 ^ d := Nat.two_pow_pos d
  omega
theorem and_pow (a d : Nat) (ha : a < 2 ^ 53) (h : d ≤ 52) : bits .and .u64 (a : Int) ((2 ^ d - 1 : Nat) : Int) = ((a % 2 ^ d : Nat) : Int) := by
  have : 2 ^ d ≤ 2 ^ 52 := Nat.pow_le_pow_right (by omega) h
  rw [bits_and_u64_nat _ _ (by omega) (by omega), Nat.and_two_pow_sub_one_eq_mod]

theorem rnarrow_num (w : World) (b s x f : Nat) (hb : b < 2 ^ 64) (h : Parts b s x f) (hn : ¬ isN double b) :
    Calls Try.prog 41 #[.float .f64 b] w fun e w' => e = .returned (.tuple #[.int .u32 ((narB b).1 : Nat), .bool (narB b).2]) ∧ w' = w := by
  have hN := risnan_any w b hb
  rw [decide_eq_false hn] at hN
  have hB := rbits_any w b
  have hs : (b : Int) / 9223372036854775808 = (s : Int) := by have := h.hs; omega
  have hx : bits .and .u64 ((b : Int) / 4503599627370496) 2047 = (x : Int) := by
    have := and2047 b hb
    rw [h.hx, show ((b / 2 ^ 52 : Nat) : Int) = (b : Int) / 4503599627370496 from by omega] at this
    exact this
  have hf : bits .and .u64 (b : Int) 4503599627370495 = (f : Int) := by rw [and52 b hb, h.hf]
  have s1 := h.s1
  have f1 := h.f1
  have x1 := h.x1
  have hfin : isN double b ↔ (x = 2047 ∧ f ≠ 0) := by rw [isN_bits, h.hx, h.hf]
  have hd := downR_at x f f1
  have hinf : x * 2 ^ 52 + f = double.infRung ↔ x = 2047 := by
    rw [i64]
    constructor
    · intro e; omega
    · intro e
      by_cases e2 : f = 0
      · omega
      · exact absurd (hfin.2 ⟨e, e2⟩) hn
  by_cases c1 : x = 2047
  · have := rn_inf w b s x f hs hx hf (by omega) (by omega) (by omega) hN hB
    rw [show (2139095040 : Int) = ((255 * 2 ^ 23 : Nat) : Int) from by decide, or_sign s _ s1 (by decide)] at this
    rw [narB_inf h hn (hinf.2 c1)]
    exact this
  · have hi : x * 2 ^ 52 + f ≠ double.infRung := fun e => c1 (hinf.1 e)
    by_cases c2 : x = 0 ∧ f = 0
    · rw [if_pos c2] at hd
      rw [narB_word h hn hi hd]
      have := rn_nought w b s x f hs hx hf (by omega) (by omega) (by omega) (by omega) hN hB
      rw [show (s : Int) * 2147483648 = ((s * 2 ^ 31 + 0 : Nat) : Int) from by omega] at this
      exact this
    · rw [if_neg c2] at hd
      by_cases c3 : 897 ≤ x ∧ x ≤ 1150
      · by_cases c4 : f % 2 ^ 29 = 0
        · rw [if_pos ⟨c3.1, c3.2, c4⟩] at hd
          rw [narB_word h hn hi hd]
          have := rn_norm w b s x f hs hx hf (by omega) (by omega) (by omega) (by omega) (by omega) (by omega) (by rw [and29 f f1, c4]; rfl) hN hB
          have e1 : ((x : Int) - 1023 + 127) * 8388608 = (((x - 896) * 2 ^ 23 : Nat) : Int) := by omega
          have e2 : (f : Int) / 536870912 = ((f / 2 ^ 29 : Nat) : Int) := by omega
          have k1 : (x - 896) * 2 ^ 23 < 2 ^ 31 := x23 c3.2
          have k2 : f / 2 ^ 29 < 2 ^ 23 := f29 f1
          rw [e1, e2, or_sign s _ s1 k1, or_u32 _ _ (s31 s1 k1) (y32 k2)] at this
          have e3 := s23 s (x - 896)
          rw [e3, or_at _ _ 23 k2, ← e3, Nat.add_assoc] at this
          exact this
        · rw [if_neg (fun t => c4 t.2.2), if_neg (fun t => by omega)] at hd
          rw [narB_no h hn hi hd]
          exact rn_no2 w b s x f hs hx hf (by omega) (by omega) (by omega) (by omega) (by rw [and29 f f1, beq_eq_false_iff_ne]; omega) hN hB
      · rw [if_neg (fun t => c3 ⟨t.1, t.2.1⟩)] at hd
        by_cases c5 : 874 ≤ x ∧ x < 897
        · have hdp : (926 - (x : Int)).toNat = 926 - x := by omega
          have hle : 926 - x ≤ 52 := by omega
          have hge : 30 ≤ 926 - x := by omega
          have ha := or52 f f1
          have ht := pow_wrap (926 - x) hle
          have hm := pow_wrap1 (926 - x) hle
          have hand := and_pow (f + 2 ^ 52) (926 - x) (by omega) hle
          by_cases c6 : (f + 2 ^ 52) % 2 ^ (926 - x) = 0
          · rw [if_pos ⟨c5.2, c5.1, c6⟩] at hd
            rw [narB_word h hn hi hd]
            have := rn_low w b s x f hs hx hf (by omega) (by omega) (by omega) (by omega) _ ha _ _ (by rw [hdp]; exact ht) hm (by rw [hand, c6]; rfl) hN hB
            have hpow : 2 ^ 30 ≤ 2 ^ (926 - x) := Nat.pow_le_pow_right (by omega) hge
            have hq : (f + 2 ^ 52) / 2 ^ (926 - x) < 2 ^ 23 := by
              refine (Nat.div_lt_iff_lt_mul (Nat.two_pow_pos _)).2 ?_
              have := Nat.mul_le_mul_left (2 ^ 23) hpow
              omega
            have e1 : (((f + 2 ^ 52 : Nat) : Int) / 2 ^ (926 - (x : Int)).toNat % 4294967296) = (((f + 2 ^ 52) / 2 ^ (926 - x) : Nat) : Int) := by
              rw [hdp, show ((2 : Int) ^ (926 - x)) = ((2 ^ (926 - x) : Nat) : Int) from by simp, ← Int.natCast_ediv, q32 hq]
            rw [e1, or_sign s _ s1 (by omega)] at this
            exact this
          · rw [if_neg (fun t => c6 t.2.2)] at hd
            rw [narB_no h hn hi hd]
            exact rn_no4 w b s x f hs hx hf (by omega) (by omega) (by omega) (by omega) _ ha _ _ (by rw [hdp]; exact ht) hm (by rw [hand, beq_eq_false_iff_ne]; omega) hN hB
        · rw [if_neg (fun t => c5 ⟨t.2.1, t.1⟩)] at hd
          rw [narB_no h hn hi hd]
          by_cases c7 : x = 0
          · exact rn_no1 w b s x f hs hx hf (by omega) (by omega) (by omega) (by omega) hN hB
          · by_cases c8 : 1150 < x
            · exact rn_no3 w b s x f hs hx hf (by omega) (by omega) (by omega) (by omega) hN hB
            · exact rn_no5 w b s x f hs hx hf (by omega) (by omega) (by omega) (by omega) hN hB

theorem rnarrow_any (w : World) (b : Nat) (hb : b < 2 ^ 64) :
    Calls Try.prog 41 #[.float .f64 b] w fun e w' => e = .returned (.tuple #[.int .u32 ((narB b).1 : Nat), .bool (narB b).2]) ∧ w' = w := by
  by_cases hn : isN double b
  · have hN := risnan_any w b hb
    have e : narB b = (2143289344, true) := by unfold narB; rw [if_pos hn]
    rw [e]
    rw [decide_eq_true hn] at hN
    clear e hn hb
    go_enter Try.func41, Try.ntmps41
    go_wp2_with fail
    refine hN.mono ?_
    rintro e w1 ⟨rfl, rfl⟩
    clear hN
    go_wp2
    go_ret2
    exact ⟨rfl, rfl⟩
  · exact rnarrow_num w b _ _ _ hb (parts b hb) hn
end Go.Proofs.Ytlkinkbdhoejiaa

set_option maxRecDepth 100000
namespace Go.Proofs.Ytlkinkbdhoejiaa
open Go.RowKit Go.Lib Ieee

/-- What Widen answers. -/
def widB (g : Nat) : Nat := if isN single g then 9221120237041090561 else wide g
theorem widB_lt (g : Nat) : widB g < 2 ^ 64 := by
  unfold widB
  split
  · omega
  · rename_i h; exact wide_lt g h

/-- What the conversion gives, told by what is held of it. -/
theorem widen_conv (w : World) (g : Nat) : ∃ c w', c < 2 ^ 64 ∧ (convert 102 56 (.float .f32 g)).run Try.prog w = .ok (.float .f64 c) w' ∧ Below w.heap.size w w' ∧ canonB c = widB g := by
  by_cases h : isN single g
  · obtain ⟨c, hc, hn, hr⟩ := widen_nan w g h
    refine ⟨c, _, hc, hr, below_drew w, ?_⟩
    unfold canonB widB
    rw [if_pos hn, if_pos h]
  · refine ⟨_, _, wide_lt g h, widen_num w g h, Below.refl _ _, ?_⟩
    unfold canonB widB
    rw [if_neg (wide_not_nan g h), if_neg h]

theorem widen_any (w : World) (g : Nat) :
    Calls Try.prog 88 #[.int .u32 g] w fun e w' => e = .returned (.float .f64 (widB g)) ∧ Below w.heap.size w w' := by
  obtain ⟨c, W, _, hr, hb, hc⟩ := widen_conv w g
  have hC := canon_any W c
  rw [hc] at hC
  generalize widB g = x at *
  clear hc
  go_enter Try.func88, Try.ntmps88
  go_wp2_with fail
  refine hC.mono ?_
  rintro e w1 ⟨rfl, rfl⟩
  clear hC hr
  go_wp2
  go_ret
  exact ⟨rfl, hb⟩
theorem rwiden_any (w : World) (g : Nat) :
    Calls Try.prog 59 #[.int .u32 g] w fun e w' => e = .returned (.float .f64 (widB g)) ∧ Below w.heap.size w w' := by
  have hF : Calls Try.prog 73 #[.int .u32 g] w fun e w' => e = .returned (.float .f32 g) ∧ w' = w := by
    go_enter Try.func73, Try.ntmps73
    go_wp2
    go_ret
    exact ⟨rfl, rfl⟩
  obtain ⟨c, W, hlt, hr, hb, hc⟩ := widen_conv w g
  have hC := rcanon_any W c hlt
  rw [hc] at hC
  generalize widB g = x at *
  clear hc hlt
  go_enter Try.func59, Try.ntmps59
  go_wp2_with fail
  refine hF.mono ?_
  rintro e w1 ⟨rfl, rfl⟩
  clear hF
  go_wp2_with fail
  refine hC.mono ?_
  rintro e w2 ⟨rfl, rfl⟩
  clear hC hr
  go_wp2
  go_ret
  exact ⟨rfl, hb⟩

end Go.Proofs.Ytlkinkbdhoejiaa
