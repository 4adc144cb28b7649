/- A tape whose drum may lose its power; pair.tell, pair.turn; tape.Clear. -/
import Derived.Test.YthgkkmcpmhfehaaPb
import Derived.Test.YthgkkmcpmhfehaaLn
namespace Go.Proofs.Ythgkkmcpmhfehaa
open Go.RowKit Go.Lib Go.Shelf
set_option maxRecDepth 100000

/-- A page that tells a half. -/
def pgT (a : Nat) : List UInt8 := UInt8.ofNat a :: List.replicate 255 0
theorem pgT_length (a : Nat) : (pgT a).length = 256 := by unfold pgT; rw [List.length_cons, List.length_replicate]
/-- What tell does to a drum. -/
def tellD (S : DS) (a : Nat) : DS × Int := if (S.put 0 (pgT a)).oper.2 ≠ 0 then (S.put 0 (pgT a)).oper else (S.put 0 (pgT a)).oper.1.flush
theorem pgT_cells (a : Nat) (ha : a ≤ 1) : ((byteCells (List.replicate 256 (0 : UInt8))).toArray.setIfInBounds 0 (.int .u8 (a : Int))) = (byteCells (pgT a)).toArray := by
  rcases (show a = 0 ∨ a = 1 by omega) with rfl | rfl <;> rfl

set_option maxHeartbeats 1000000 in
theorem tell_any (w : World) (X : Nat → Prop) (p q n : Nat) (S : DS) (half : Nat) (tv : Value) (met : Nat) (hd : S.down = false) (h : Drum w X q n S) (hp : Pr w p q half tv met) (hx : ¬ X p) (hn : 1 ≤ n) (hW : S.W.length < 10000) (hops : S.ops ≤ 100000) (a : Nat) (ha : a ≤ 1)
    (hw2 : (S.put 0 (pgT a)).oper.1.W.length ≤ 100000) (ho2 : (S.put 0 (pgT a)).oper.1.ops ≤ 1000000) :
    Calls Try.prog 49 #[.pointer (some ⟨p, 0, none⟩), .int .i64 (a : Int)] w fun e w' => ∃ X', Drum w' X' q n (tellD S a).1 ∧ Step X X' w w' ∧ (((tellD S a).2 = 0 ∧ e = .returned (.tuple #[])) ∨ ((tellD S a).2 ≠ 0 ∧ e = .panicked (gup (tellD S a).2))) := by
  have hmk := make256 w
  have hb1 : Below w.heap.size w (w.alloc (.cells (byteCells (List.replicate 256 0)).toArray 5)) := (Below.refl _ _).alloc (Nat.le_refl _) _
  have hc1 : (w.alloc (.cells (byteCells (List.replicate 256 0)).toArray 5)).heap[w.heap.size]? = some (.cells (byteCells (List.replicate 256 0)).toArray 5 (0, 0)) := heap_alloc_new w _
  have hcz : (w.alloc (.cells (byteCells (List.replicate 256 0)).toArray 5)).cell? ⟨w.heap.size, 0, none⟩ = some (.int .u8 0) := by rw [cell_of_row _ _ _ _ _ _ hc1]; rfl
  have hcf : (w.alloc (.cells (byteCells (List.replicate 256 0)).toArray 5)).frozen? ⟨w.heap.size, 0, none⟩ = false := frozen_of_row _ _ 0 _ _ hc1
  have hbs : Below w.heap.size w ((w.alloc (.cells (byteCells (List.replicate 256 0)).toArray 5)).setCell ⟨w.heap.size, 0, none⟩ (.int .u8 (a : Int))) := ⟨hb1.os, hb1.tape, hb1.output, by simp, fun k hk => by rw [heap_setCell_other _ _ _ _ (by simp; omega)]; exact hb1.block k hk⟩
  have hcs : ((w.alloc (.cells (byteCells (List.replicate 256 0)).toArray 5)).setCell ⟨w.heap.size, 0, none⟩ (.int .u8 (a : Int))).heap[w.heap.size]? = some (.cells (byteCells (pgT a)).toArray 5 (0, 0)) := by
    rw [heap_setCell_same _ _ _ _ _ _ hc1, pgT_cells a ha]
  have ha8 : (a : Int) < 256 := by omega
  generalize hwa : w.alloc (.cells (byteCells (List.replicate 256 0)).toArray 5) = wa at *
  generalize hws : wa.setCell ⟨w.heap.size, 0, none⟩ (.int .u8 (a : Int)) = w1 at *
  clear hwa hb1 hc1
  have hp1 := hp.below hbs
  have N24 := write_ok w1 X q n S 0 (.slice (some ⟨w.heap.size, 0, none⟩) 256 256) (pgT a) (by omega) hd (by omega) (by omega) (h.below hbs) (pgT_length a)
    ⟨_, _, by rw [pgT_length], fun _ => ⟨_, _, rfl, range_of_block hcs⟩⟩ (fun j hj hxj => by
      have hj' : j = w.heap.size := by cases hj; rfl
      have := h.xlt j hxj; omega)
  obtain ⟨t0, t1, t2, t3, tf⟩ := hp1.cells
  obtain ⟨R, hR⟩ : ∃ R, R = (S.put 0 (pgT a)).oper := ⟨_, rfl⟩
  have hT : Hid (tellD S a = if R.2 ≠ 0 then R else R.1.flush) := by rw [hR]; exact rfl
  rw [← hR] at N24 hw2 ho2
  clear hR
  generalize tellD S a = T at *
  go_enter Try.func49, Try.ntmps49
  go_wp2_with (go_at_call 24; refine N24.mono ?_; rintro e w2 ⟨X2, rfl, hd2, hs2⟩)
  clear hws
  by_cases hR0 : R.2 = 0
  · have hTF : Hid (T = R.1.flush) := by
      have := hT.out
      rw [if_neg (by simp [hR0])] at this
      exact this
    rw [hR0]
    have hp2 := hp1.on (hs2.block p hp1.lt hx)
    obtain ⟨s0, s1, s2, s3, sf⟩ := hp2.cells
    have N26 := flush_any w2 X2 q n R.1 hw2 ho2 hd2
    generalize R.1.flush = F at *
    have hTF := hTF.out
    subst hTF
    refine (p_insist_ok _).mono ?_
    rintro e w3 ⟨rfl, he⟩
    have he := he.symm
    subst he
    go_wp2_with (go_at_call 26; refine N26.mono ?_; rintro e w4 ⟨rfl, hd4, hs4⟩)
    by_cases hF : T.2 = 0
    · rw [hF]
      refine (p_insist_ok _).mono ?_
      rintro e w5 ⟨rfl, he⟩
      have he := he.symm
      subst he
      go_wp2
      go_end0
      exact ⟨X2, hd4, (Step.of_below hbs).trans (hs2.trans hs4), .inl ⟨hF, rfl⟩⟩
    · refine (p_insist_no _ _ hF).mono ?_
      rintro e w5 ⟨rfl, he⟩
      have he := he.symm
      subst he
      exact ⟨rfl, X2, hd4, (Step.of_below hbs).trans (hs2.trans hs4), .inr ⟨hF, rfl⟩⟩
  · have hTF := hT.out
    rw [if_pos hR0] at hTF
    subst hTF
    refine (p_insist_no _ _ hR0).mono ?_
    rintro e w5 ⟨rfl, he⟩
    have he := he.symm
    subst he
    exact ⟨rfl, X2, hd2, (Step.of_below hbs).trans hs2, .inr ⟨hR0, rfl⟩⟩

theorem clear_any (w : World) (X : Nat → Prop) (q n : Nat) (S : DS) (i : Nat) (h : Drum w X q n S) (hd : S.down = false) (hw : S.W.length < 10000) (hops : S.ops ≤ 100000) (hi : i < n) :
    Calls Try.prog 79 #[.pointer (some ⟨q, 0, none⟩), .int .i64 i] w fun e w' => ∃ X', e = .returned (.int .i64 (S.put i (List.replicate 256 0)).oper.2) ∧ Drum w' X' q n (S.put i (List.replicate 256 0)).oper.1 ∧ Step X X' w w' := by
  have hmk := make256 w
  have hb1 : Below w.heap.size w (w.alloc (.cells (byteCells (List.replicate 256 0)).toArray 5)) := (Below.refl _ _).alloc (Nat.le_refl _) _
  have hc1 : (w.alloc (.cells (byteCells (List.replicate 256 0)).toArray 5)).heap[w.heap.size]? = some (.cells (byteCells (List.replicate 256 0)).toArray 5 (0, 0)) := heap_alloc_new w _
  have N27 := write_ok (w.alloc (.cells (byteCells (List.replicate 256 0)).toArray 5)) X q n S i (.slice (some ⟨w.heap.size, 0, none⟩) 256 256) (List.replicate 256 0) hi hd (by omega) (by omega) (h.below hb1) List.length_replicate
    ⟨_, _, by rw [List.length_replicate], fun _ => ⟨_, _, rfl, range_of_block hc1⟩⟩ (fun j hj hxj => by
      have hj' : j = w.heap.size := by cases hj; rfl
      have := h.xlt j hxj; omega)
  generalize (S.put i (List.replicate 256 0)).oper = R at *
  generalize List.replicate 256 (0 : UInt8) = Z at *
  generalize hW1 : w.alloc (.cells (byteCells Z).toArray 5) = w1 at *
  clear hW1
  go_enter Try.func79, Try.ntmps79
  go_wp2_with (go_at_call 24; refine N27.mono ?_; rintro e w2 ⟨X', rfl, hdr2, hs2⟩)
  go_ret
  exact ⟨X', rfl, hdr2, (Step.of_below hb1).trans hs2⟩
end Go.Proofs.Ythgkkmcpmhfehaa
