
/- Encode. Conditions: those that each row states. -/
import Derived.Test.YtfdbekfbbihdgaaDoorCh
namespace Go.Proofs.YtfdbekfbbihdgaaDoor
open Go.RowKit Go.Lib
set_option maxRecDepth 100000
set_option linter.unusedSimpArgs false

/-- What Encode answers: bytes of the call's own, or nothing. -/
def EncP (w w' : World) (f : Fr) (e : Ending) : Prop :=
  (∃ a c, e = .returned (.tuple #[.slice a (writeL f).length c, .int .i64 0]) ∧ canL f = true ∧ (writeL f).length ≤ 16384 ∧ OwnW w' w.heap.size (.slice a (writeL f).length c) (writeL f)) ∨ e = .returned (.tuple #[.slice none 0 0, .int .i64 1])
set_option maxHeartbeats 2000000 in
theorem encode_any (w : World) (B : Nat) (c b : Bs) (hv : Value) (H : List Hd) (hr : RdH w hv H) (hwt : c.length + b.length + wtL H ≤ 32768) (hV : Vars B w) (hB : B ≤ w.heap.size) :
    Calls Tryd.prog 10 #[frV c hv b] w fun e w' => EncP w w' ⟨c, H, b⟩ e ∧ Below w.heap.size w w' := by
  obtain ⟨hw1, hw2⟩ := wtL_mem H
  have b0 := below_new w (.cells #[str c, hv, str b] 24)
  have k0 := Blk.new w #[str c, hv, str b] 24
  have s0 : (w.alloc (.cells #[str c, hv, str b] 24)).heap.size = w.heap.size + 1 := by simp
  obtain ⟨ha, hn, hc, rfl⟩ : ∃ a n c, hv = .slice a n c := by
    rcases hr with ⟨⟨a, cp, rfl⟩, _⟩ | ⟨g, o, cp, rfl, _⟩
    · exact ⟨_, _, _, rfl⟩
    · exact ⟨_, _, _, rfl⟩
  have CA := can_any (w.alloc (.cells #[str c, .slice ha hn hc, str b] 24)) B c b _ H (hr.on b0) (by omega) (by omega) (by omega) (fun h hh => by have := hw2 h hh; omega) (hV.on (b0.mono hB)) (by omega)
  have WA := fun w' (hb : Below w.heap.size w w') => write_any w' c b _ H (hr.on hb) hwt
  go_enter Tryd.func10, Tryd.ntmps10
  go_upto_region 1 with fail
  generalize w.alloc (.cells #[str c, .slice ha hn hc, str b] 24) = w0 at *
  have d0 := k0.cell 0
  have d1 := k0.cell 1
  have d2 := k0.cell 2
  simp only [List.getElem?_toArray, List.getElem?_cons_zero, List.getElem?_cons_succ] at d0 d1 d2
  go_wp2_with fail
  refine CA.mono ?_
  rintro e w1 ⟨rfl, b1⟩
  have k1 := k0.on b1
  have B1 := b0.trans (b1.mono (by omega))
  have W1 := WA w1 B1
  have e0 := k1.cell 0
  have e1 := k1.cell 1
  have e2 := k1.cell 2
  simp only [List.getElem?_toArray, List.getElem?_cons_zero, List.getElem?_cons_succ] at e0 e1 e2
  cases hcan : canL ⟨c, H, b⟩ with
  | false =>
    go_wp2
    go_ret2
    exact ⟨.inr rfl, B1⟩
  | true =>
    obtain ⟨f, hf⟩ : ∃ f, Hid ((⟨c, H, b⟩ : Fr) = f) := ⟨⟨c, H, b⟩, (rfl : (⟨c, H, b⟩ : Fr) = ⟨c, H, b⟩)⟩
    rw [hf.out] at hcan W1
    go_wp2_with fail
    refine W1.mono ?_
    rintro e w2 ⟨v, rfl, hov, b2⟩
    obtain ⟨va, vc, rfl⟩ := hov.shape
    have B2 := B1.trans (b2.mono B1.size)
    have hov' : OwnW w2 w.heap.size _ (writeL f) := hov.low B1.size
    obtain ⟨L, hL⟩ : ∃ L, Hid (writeL f = L) := ⟨writeL f, (rfl : writeL f = writeL f)⟩
    rw [hL.out] at hov' hov ⊢
    by_cases hl : 16384 < L.length
    · have z : decide ((16384 : Int) < (L.length : Int)) = true := by simp; omega
      go_wp2
      go_ret2
      exact ⟨.inr rfl, B2⟩
    · have z : decide ((16384 : Int) < (L.length : Int)) = false := by simp; omega
      go_wp2
      go_ret2
      have hL2 : writeL f = L := hL.out
      subst hL2
      have hf2 : (⟨c, H, b⟩ : Fr) = f := hf.out
      subst hf2
      exact ⟨.inl ⟨va, vc, rfl, hcan, by omega, hov'⟩, B2⟩
end Go.Proofs.YtfdbekfbbihdgaaDoor
