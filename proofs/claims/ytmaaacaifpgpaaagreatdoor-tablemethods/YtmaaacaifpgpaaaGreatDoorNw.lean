
/- Narrow and Widen, the program's and the document's: what they answer of any bits; FltNarrows walked. -/
import Derived.Test.YtmaaacaifpgpaaaGreatDoorPg
set_option maxRecDepth 100000
namespace Go.Proofs.YtmaaacaifpgpaaaGreatDoor
open Go.RowKit Go.Lib Ieee

@[go_sem] theorem ext84 (n : Int) (w : World) : (callFunc 84 #[.int .u32 n]).run Tryz.prog w = .ok (.value (.float .f32 n.toNat)) w := by
  rw [run_callFunc_extern Tryz.func84 (by kernel_rfl) (by kernel_rfl) (by kernel_rfl) (e := Extern.MathFloatBits.float32frombits) (by kernel_rfl)]; rfl
@[go_sem] theorem ext86 (b : Nat) (w : World) : (callFunc 86 #[.float .f32 b]).run Tryz.prog w = .ok (.value (.int .u32 b)) w := by
  rw [run_callFunc_extern Tryz.func86 (by kernel_rfl) (by kernel_rfl) (by kernel_rfl) (e := Extern.MathFloatBits.float32bits) (by kernel_rfl)]; rfl
theorem ff_num (src dst : FloatKind) (hne : src ≠ dst) (b : Nat) (s : Bool) (m : Nat) (e : Int) (h : src.decode b = .number s m e) (w : World) :
    (Conv.floatToFloat src b dst).run Tryz.prog w = if (dst.decode (dst.encode (.number s m e))).isInfinity then .ok (.float dst (w.tape w.drawn (.floatToFloat b) % 2 ^ 32)) w.drew else .ok (.float dst (dst.encode (.number s m e))) w := by
  simp only [Conv.floatToFloat, if_neg hne, h]
  split
  · simp [Question.forced, Question.cut]
  · rfl
theorem ff_inf (src dst : FloatKind) (hne : src ≠ dst) (b : Nat) (s : Bool) (h : src.decode b = .infinity s) (w : World) :
    (Conv.floatToFloat src b dst).run Tryz.prog w = .ok (.float dst (dst.encode (.infinity s))) w := by
  simp only [Conv.floatToFloat, if_neg hne, h]
  rfl
theorem nan_rng (u v : Nat) (hv : v < 2 ^ 52 - 1) : isN double (u * 2 ^ 63 + 0x7ff0000000000000 + 1 + v) := by
  unfold isN rng
  rw [i64, s64]
  have e : (u * 2 ^ 63 + 0x7ff0000000000000 + 1 + v) % 2 ^ 63 = 0x7ff0000000000000 + 1 + v := by
    rw [Nat.add_assoc, Nat.add_assoc, Nat.mul_comm, Nat.mul_add_mod, Nat.mod_eq_of_lt (by omega)]
    omega
  rw [e]
  omega
theorem ff_nan (src : FloatKind) (hne : src ≠ .f64) (b : Nat) (s : Bool) (t : Nat) (h : src.decode b = .nan s t) (w : World) :
    ∃ c, c < 2 ^ 64 ∧ isN double c ∧ (Conv.floatToFloat src b .f64).run Tryz.prog w = .ok (.float .f64 c) w.drew := by
  refine ⟨(w.tape w.drawn (.nanConv .f64 b) % 2) * 2 ^ 63 + 0x7ff0000000000000 + 1 + (w.tape w.drawn (.nanConv .f64 b) / 2) % (2 ^ 52 - 1), by omega, ?_, ?_⟩
  · exact nan_rng _ _ (Nat.mod_lt _ (by decide))
  · simp only [Conv.floatToFloat, if_neg hne, h]
    simp [Question.forced, Question.cut]
theorem conv_ff (src dst : TypeId) (s k : FloatKind) (b : Nat) (hs : Tryz.prog.underlying src = some (.float s)) (hd : Tryz.prog.underlying dst = some (.float k)) (w : World) :
    (convert src dst (.float s b)).run Tryz.prog w = (Conv.floatToFloat s b k).run Tryz.prog w := by
  simp [convert, run_underlying hs, run_underlying hd]

theorem noninf_of_wide {g : Nat} (h : rng single g < single.infRung) : ((FloatKind.f64.decode (wide g))).isInfinity = false := by
  have hn : ¬ isN single g := by unfold isN; omega
  have h1 : rng double (wide g) < double.infRung := by
    rw [wide_rng g hn, if_neg (by omega)]; exact (up_val h).2
  obtain ⟨m, e, hr, _⟩ := read_num h1
  show (double.read (wide g)).isInfinity = false
  rw [hr]; rfl
theorem widen_num (w : World) (g : Nat) (hn : ¬ isN single g) : (convert 105 40 (.float .f32 g)).run Tryz.prog w = .ok (.float .f64 (wide g)) w := by
  rw [conv_ff 105 40 .f32 .f64 g Tryz.underlying105 Tryz.underlying40]
  by_cases h : rng single g = single.infRung
  · rw [ff_inf .f32 .f64 (by decide) g _ (read_inf bi32 h)]
    unfold wide
    rw [if_pos h]
    rfl
  · have hlt : rng single g < single.infRung := by unfold isN at hn; omega
    obtain ⟨s, m, e, hr, hw⟩ := write_wide hlt
    rw [ff_num .f32 .f64 (by decide) g s m e hr]
    have e1 : FloatKind.f64.encode (.number s m e) = wide g := hw
    rw [e1, noninf_of_wide hlt]
    rfl
theorem widen_nan (w : World) (g : Nat) (hn : isN single g) : ∃ c, c < 2 ^ 64 ∧ isN double c ∧ (convert 105 40 (.float .f32 g)).run Tryz.prog w = .ok (.float .f64 c) w.drew := by
  obtain ⟨t, ht⟩ := read_nan bi32 hn
  rw [conv_ff 105 40 .f32 .f64 g Tryz.underlying105 Tryz.underlying40]
  exact ff_nan .f32 (by decide) g _ t ht w
theorem narrow_some (w : World) (b g : Nat) (hn : ¬ isN double b) (h : nar b = some g) : (convert 40 105 (.float .f64 b)).run Tryz.prog w = .ok (.float .f32 g) w := by
  rw [conv_ff 40 105 .f64 .f32 b Tryz.underlying40 Tryz.underlying105]
  unfold nar at h
  split at h
  · rename_i hi
    cases h
    rw [ff_inf .f64 .f32 (by decide) b _ (read_inf bi64 hi)]
    rfl
  · rename_i hi
    obtain ⟨s, hd, rfl⟩ := Option.map_eq_some_iff.1 h
    have hlt : rng double b < double.infRung := by unfold isN at hn; omega
    obtain ⟨t, m, e, hr, hw⟩ := write_down hlt hd
    rw [ff_num .f64 .f32 (by decide) b t m e hr]
    have e1 : FloatKind.f32.encode (.number t m e) = single.word (sgn double b) s := hw
    have hs := (down_val hd).2
    have e2 : rng single (single.word (sgn double b) s) = s := word_rng (Nat.lt_trans hs (inf_lt _))
    have e3 : (FloatKind.f32.decode (single.word (sgn double b) s)).isInfinity = false := by
      obtain ⟨m', e', hr', _⟩ := read_num (f := single) (w := single.word (sgn double b) s) (by rw [e2]; exact hs)
      show (single.read _).isInfinity = false
      rw [hr']; rfl
    rw [e1, e3]
    rfl
theorem narrow_none (w : World) (b : Nat) (hn : ¬ isN double b) (h : nar b = none) : ∃ g w', (convert 40 105 (.float .f64 b)).run Tryz.prog w = .ok (.float .f32 g) w' ∧ (w' = w ∨ w' = w.drew) := by
  rw [conv_ff 40 105 .f64 .f32 b Tryz.underlying40 Tryz.underlying105]
  unfold nar at h
  split at h
  · cases h
  · rename_i hi
    have hlt : rng double b < double.infRung := by unfold isN at hn; omega
    obtain ⟨m, e, hr, _⟩ := read_num hlt
    rw [ff_num .f64 .f32 (by decide) b _ m _ hr]
    split
    · exact ⟨_, _, rfl, .inr rfl⟩
    · exact ⟨_, _, rfl, .inl rfl⟩

/-- What Narrow answers. -/
def narB (b : Nat) : Nat × Bool := if isN double b then (2143289344, true) else match nar b with
  | some g => (g, true)
  | none => (0, false)
theorem below_drew (w : World) : Below w.heap.size w w.drew := (Below.refl _ w).drew

set_option maxHeartbeats 1000000 in
theorem narrow_any (w : World) (b : Nat) (hb : b < 2 ^ 64) :
    Calls Tryz.prog 78 #[.float .f64 b] w fun e w' => e = .returned (.tuple #[.int .u32 ((narB b).1 : Nat), .bool (narB b).2]) ∧ Below w.heap.size w w' := by
  have hN := isnan_any w b
  by_cases hn : isN double b
  · have e : narB b = (2143289344, true) := by unfold narB; rw [if_pos hn]
    rw [e]
    rw [decide_eq_true hn] at hN
    clear e hn hb
    go_enter Tryz.func78, Tryz.ntmps78
    go_wp2_with fail
    refine hN.mono ?_
    rintro e w1 ⟨rfl, rfl⟩
    clear hN
    go_wp2
    go_ret2
    exact ⟨rfl, Below.refl _ _⟩
  · rw [decide_eq_false hn] at hN
    cases hg : nar b with
    | some g =>
      have e : narB b = (g, true) := by unfold narB; rw [if_neg hn, hg]
      rw [e]
      obtain ⟨hw, hng, _⟩ := nar_some_wide hb hg
      have h1 := narrow_some w b g hn hg
      have h2 := widen_num w g hng
      rw [hw] at h2
      have h3 : FloatKind.f64.format.order b b = some .eq := order_self hn
      clear e hn hb hg hw hng
      go_enter Tryz.func78, Tryz.ntmps78
      go_wp2_with fail
      refine hN.mono ?_
      rintro e w1 ⟨rfl, rfl⟩
      clear hN
      go_wp2
      go_ret2
      exact ⟨rfl, Below.refl _ _⟩
    | none =>
      have e : narB b = (0, false) := by unfold narB; rw [if_neg hn, hg]
      rw [e]
      obtain ⟨g, W, h1, hW⟩ := narrow_none w b hn hg
      have hbW : Below w.heap.size w W := by
        rcases hW with rfl | rfl
        · exact Below.refl _ _
        · exact below_drew w
      have h2 : ∃ c W2, (convert 105 40 (.float .f32 g)).run Tryz.prog W = .ok (.float .f64 c) W2 ∧ Below W.heap.size W W2 ∧ (FloatKind.f64.format.order c b != some .eq) = true := by
        by_cases hs : isN single g
        · obtain ⟨c, _, hc, hr⟩ := widen_nan W g hs
          refine ⟨c, _, hr, below_drew W, ?_⟩
          rw [show FloatKind.f64.format.order c b = none from order_nan bi64 (.inl hc)]
          rfl
        · refine ⟨_, _, widen_num W g hs, Below.refl _ _, ?_⟩
          exact bne_iff_ne.2 (nar_none_ne hn hg hs)
      obtain ⟨c, W2, h2, hb2, h3⟩ := h2
      clear e hn hb hg hW
      go_enter Tryz.func78, Tryz.ntmps78
      go_wp2_with fail
      refine hN.mono ?_
      rintro e w1 ⟨rfl, rfl⟩
      clear hN
      go_wp2
      go_ret2
      exact ⟨rfl, hbW.trans (hb2.mono hbW.size)⟩
end Go.Proofs.YtmaaacaifpgpaaaGreatDoor
