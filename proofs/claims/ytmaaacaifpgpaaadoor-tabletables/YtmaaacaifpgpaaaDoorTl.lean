
/- What table's reader takes as a field. Conditions: those that each row states. -/
import Derived.Test.YtmaaacaifpgpaaaDoorTk
namespace Go.Proofs.YtmaaacaifpgpaaaDoor
open Go.RowKit Go.Lib
set_option maxRecDepth 100000
set_option linter.unusedSimpArgs false

abbrev Z5 : Array Value := #[str [], .int .i64 0, .int .i64 0, str [], .float .f64 0]
theorem ret60 {fn : Func} {p : Tmp} {tmps : Array Value} {W : World} {g : Nat} {cs : Array Value} {R : Ending → World → Prop} (hf : fn.results = #[.cell p 51]) (h : Blk W g cs 51) (hs : cs.size = 5) (hp : tmps.getD p undef = .pointer (some ⟨g, 0, none⟩)) (hR : R (.returned (.agg cs)) W) :
    bodyPost Tryd.prog fn R .ret { tmps := tmps, defers := [] } W :=
  bodyPost_ret (results_cell_row hf tmps W g 51 cs (0, 0) _ hp h.h Tryd.underlying51 rfl (by rw [hs]; kernel_rfl)) rfl hR
/-- A field. -/
def cfield (s : List UInt8) : Option (Pr × List UInt8) :=
  match cshort s with
  | none => none
  | some (t, r) => (cval r).map fun x => (⟨⟨t.toArray⟩, x.1⟩, x.2)
theorem cshort_left {s t r : List UInt8} (h : cshort s = some (t, r)) : r.length ≤ s.length := by
  unfold cshort at h
  split at h
  · cases h
  · unfold cutP at h
    split at h
    · injection h with h
      injection h with _ h
      subst h
      simp only [List.length_drop]
      omega
    · cases h
set_option maxHeartbeats 1000000 in
theorem cfield_any (w : World) (b : Nat) (s : List UInt8) (hc : Cr w b s) (hb : b < w.heap.size) (hs : s.length ≤ 140737488355328) :
    Calls Tryd.prog 50 #[.pointer (some ⟨b, 0, none⟩)] w fun e w' =>
      Alb w.heap.size w w' b ∧ ((∃ p r, cfield s = some (p, r) ∧ e = .returned p.v ∧ Cr w' b r) ∨ (cfield s = none ∧ e = .panicked (gup 11))) := by
  have T := cshort_any (w.alloc (.cells Z5 51)) b s (hc.on (below_new w _) hb) (by simp; omega) hs
  have V := fun w r (h : Cr w b r) (hb : b < w.heap.size) (hl : r.length ≤ 140737488355328) => cvalue_any w b r h hb hl
  obtain ⟨g, hg⟩ : ∃ g, gup 11 = g := ⟨_, rfl⟩
  unfold ValP at V
  rw [hg] at T V ⊢
  have kR := Blk.new w Z5 51
  have hA : Alb w.heap.size w (w.alloc (.cells Z5 51)) b := .below (below_new w _)
  have hne : w.heap.size ≠ b := by omega
  have hsz : (w.alloc (.cells Z5 51)).heap.size = w.heap.size + 1 := by simp
  have HS : Hid (s.length ≤ 140737488355328) := hs
  clear hc hs
  go_enter Tryd.func50, Tryd.ntmps50
  go_wp2_with fail
  refine T.mono ?_
  rintro e w1 ⟨b1, ⟨t, r, ht, rfl, h1⟩ | ⟨ht, rfl⟩⟩
  rotate_left
  · exact ⟨rfl, hA.trans ⟨b1.os, b1.tape, b1.output, b1.size, fun k h hk => b1.block k (by rw [hsz]; omega) hk⟩, .inr ⟨by unfold cfield; rw [ht], rfl⟩⟩
  have kR1 : Blk w1 w.heap.size Z5 51 := ⟨by rw [b1.block _ (by rw [hsz]; omega) hne]; exact kR.h⟩
  have hb1 : b < w1.heap.size := by have := b1.size; omega
  have hs1 : w.heap.size + 1 ≤ w1.heap.size := by rw [← hsz]; exact b1.size
  have hA1 : Alb w.heap.size w w1 b := hA.trans ⟨b1.os, b1.tape, b1.output, b1.size, fun k h hk => b1.block k (by rw [hsz]; omega) hk⟩
  have V1 := V w1 r h1 hb1 (Nat.le_trans (cshort_left ht) HS.out)
  have HE : Hid (cfield s = (cval r).map fun x => (⟨⟨t.toArray⟩, x.1⟩, x.2)) := by show _ = _; unfold cfield; rw [ht]
  clear T V kR hA b1 h1 hsz ht
  go_wp2_with fail
  refine V1.mono ?_
  rintro e w2 ⟨hB, ⟨v, r', hv, rfl, h2⟩ | ⟨hv, rfl⟩⟩
  rotate_left
  · exact ⟨rfl, hA1.trans ⟨hB.os, hB.tape, hB.output, hB.size, fun k h hk => hB.block k (by omega) hk⟩, .inr ⟨by rw [HE.out, hv]; rfl, rfl⟩⟩
  have HF : Hid (cfield s = some (⟨⟨t.toArray⟩, v⟩, r')) := by show _ = _; rw [HE.out, hv]; rfl
  obtain ⟨kd, nu, tx, re⟩ := v
  have kR2 : Blk w2 w.heap.size Z5 51 := ⟨by rw [hB.block _ (by omega) hne]; exact kR1.h⟩
  have hA2 : Alb w.heap.size w w2 b := hA1.trans ⟨hB.os, hB.tape, hB.output, hB.size, fun k h hk => hB.block k (by omega) hk⟩
  have hs2 : w.heap.size + 1 ≤ w2.heap.size := by have := hB.size; omega
  clear kR1 hA1 hB hb1 hs1 V1 hv HE
  unfold Val.v
  go_wp2_with (refine wpl_put rfl (.tmp 2) (.tmp 9) rfl w.heap.size _ rfl rfl kR2 (by kernel_rfl) rfl (by kernel_rfl) ?_)
  intro W' kW gW sW
  have h3 : Cr W' b r' := h2.on (B := w.heap.size) ((Below.refl w.heap.size _).grown gW (by omega) (fun k hk => by injection hk with hk; omega)) hb
  go_wp2
  exact ret60 Tryd.results50 kW rfl rfl ⟨hA2.trans (.grown gW (by omega) (Nat.le_refl _)), .inl ⟨_, _, HF.out, rfl, h3⟩⟩
end Go.Proofs.YtmaaacaifpgpaaaDoor
