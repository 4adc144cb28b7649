/- What the document's own Write does. -/
import Derived.Test.YtgbgeoplbmjcbaaRefPush
namespace Go.Proofs.Ytgbgeoplbmjcbaa
open Go.RowKit Go.Lib
attribute [local go_sem ↓] Go.wp_at_zero Go.wp_at_succ

theorem write_ref_bad (w : World) (Y : Nat → Prop) (m n : Nat) (safe : List UInt8) (log : List (Nat × List UInt8)) (count : Nat) (power : Bool) (armed : Nat) (k a : Int) (ad : Option Addr) (l c : Nat) (S : DS) (hS : S.down = !power) (hb : S.writeCode n a l ≠ 0) (h : Ref w Y m n safe log count power armed k) :
    Calls Try.prog 14 #[.pointer (some ⟨m, 0, none⟩), .int .i64 a, .slice ad l c] w fun e w' => e = .returned (.int .i64 (S.writeCode n a l)) ∧ w' = w := by
  obtain ⟨sv, wv, hv, ss, hs, hr⟩ := h
  obtain ⟨c0, c1, c2, c3, c4, c5, c6, fz⟩ := hr.cells
  obtain ⟨sa, scap, rfl, -⟩ := row_cells hr.bs
  unfold DS.writeCode at hb ⊢
  by_cases h0 : 0 ≤ a
  · have h0' : ¬ a < 0 := by omega
    by_cases h1 : a < n
    · have h1' : ¬ (n : Int) ≤ a := by omega
      by_cases h2 : l = 256
      · rw [if_pos ⟨⟨h0, h1⟩, h2⟩] at hb ⊢
        have hp : power = false := by
          cases power
          · rfl
          · simp [hS] at hb
        subst hp
        rw [if_pos (by simpa using hS)]
        clear hb
        subst h2
        go_enter Try.func14, Try.ntmps14
        go_wp2
        go_ret
        exact ⟨rfl, rfl⟩
      · rw [if_neg (fun h => h2 h.2)]
        have h2' : ¬ (l : Int) = 256 := by omega
        clear hb
        go_enter Try.func14, Try.ntmps14
        go_wp2
        go_ret
        exact ⟨rfl, rfl⟩
    · rw [if_neg (fun h => h1 h.1.2)]
      have h1' : (n : Int) ≤ a := by omega
      clear hb
      go_enter Try.func14, Try.ntmps14
      go_wp2
      go_ret
      exact ⟨rfl, rfl⟩
  · rw [if_neg (fun h => h0 h.1.1)]
    have h0' : a < 0 := by omega
    clear hb
    go_enter Try.func14, Try.ntmps14
    go_wp2
    go_ret
    exact ⟨rfl, rfl⟩

set_option maxRecDepth 100000 in
set_option maxHeartbeats 2000000 in
theorem write_ref (w : World) (Y : Nat → Prop) (m n : Nat) (safe : List UInt8) (log : List (Nat × List UInt8)) (count : Nat) (armed : Nat) (k : Int) (i : Nat) (hi : i < n) (b : Value) (l : List UInt8) (hl : l.length = 256) (hb : RdB w b l) (hout : ∀ k, b.ownBlock = some k → ¬ Y k) (hll : log.length ≤ 1000) (h : Ref w Y m n safe log count true armed k) (r : Bool) (R : World → (Nat → Prop) → Prop)
    (N29 : ∀ w5 Y5, Ref w5 Y5 m n safe (log ++ [(i, l)]) count true armed k → Calls Try.prog 29 #[.pointer (some ⟨m, 0, none⟩)] w5 fun e w' => ∃ Y', e = .returned (.bool r) ∧ R w' Y' ∧ Step Y5 Y' w5 w') :
    Calls Try.prog 14 #[.pointer (some ⟨m, 0, none⟩), .int .i64 i, b] w fun e w' => ∃ Y', e = .returned (.int .i64 (if r = true then 20 else 0)) ∧ R w' Y' ∧ Step Y Y' w w' := by
  obtain ⟨ba, bc, rfl, hba⟩ := hb
  obtain ⟨bb, bo, rfl, hrb⟩ := hba (by omega)
  obtain ⟨sv, wv, hv, ss, hs, hr⟩ := h
  obtain ⟨c0, c1, c2, c3, c4, c5, c6, fz⟩ := hr.cells
  obtain ⟨sa, scap, rfl, -⟩ := row_cells hr.bs
  rw [hl]
  have h0' : ¬ (i : Int) < 0 := by omega
  have h1' : ¬ (n : Int) ≤ (i : Int) := by omega
  have HR : Hid (RefR w Y m n _ _ wv hv ss hs safe log) := hr
  have HRB : Hid (w.rangeAt bb bo (byteCells l)) := hrb
  have HBY : Hid (¬ Y bb) := hout bb rfl
  have HN : Hid (∀ w5 Y5, Ref w5 Y5 m n safe (log ++ [(i, l)]) count true armed k → Calls Try.prog 29 #[.pointer (some ⟨m, 0, none⟩)] w5 fun e w' => ∃ Y', e = .returned (.bool r) ∧ R w' Y' ∧ Step Y5 Y' w5 w') := N29
  have HBW : Hid (w.ownsRow 0 3 1 wv log.length (log.map fun x => .int .i64 (x.1 : Int))) := hr.bw
  clear hr hba hrb hout N29
  go_enter Try.func14, Try.ntmps14
  have HM1 : Hid (∀ w1 v1 g1, Pushed w w1 3 wv v1 log.length (log.map fun x => .int .i64 (x.1 : Int)) (.int .i64 (i : Int)) g1 → w1.heap[m]? = w.heap[m]?) := fun w1 v1 g1 hp => by
    have hne : ¬ wv.ownBlock = some m := fun e => by obtain ⟨c, hc⟩ := own_ne HR.out.bw e; exact ne_type hc HR.out.b0 (by decide) rfl
    exact hp.step.block m (HR.out.lt m HR.out.hm) hne
  have HC1 : Hid (∀ w1 : World, w1.heap[m]? = some (.cells (refC (.slice sa n scap) wv hv true count armed k) 32 (0, 0)) → w1.cell? ⟨m, 1, none⟩ = some wv ∧ w1.frozen? ⟨m, 1, none⟩ = false) := fun w1 h1 => ⟨by rw [cell_of_row _ _ _ _ _ _ h1]; rfl, frozen_of_row _ _ _ _ _ h1⟩
  go_upto_region 6 with (at_builtin; refine wpList_plain rfl fun _ hK => wp_push1 (.tmp 32) (.tmp 34) 30 3 _ _ rfl Try.underlying30 info3 rfl (by omega) w wv log.length _ HBW.out (.int .i64 (i : Int)) rfl (by omega) rfl rfl (fun g1 cap w1 hp1 => hK _ _ ?_); have hm1 := (HM1.out _ _ _ hp1.out).trans HR.out.b0; obtain ⟨d1, dz⟩ := HC1.out _ hm1)
  have hw5 : ∃ w5, w5 = w1.setCell ⟨m, 1, none⟩ (.slice (some ⟨g1, 0, none⟩) (log.length + 1) cap) := ⟨_, rfl⟩
  obtain ⟨w5, hw5⟩ := hw5
  rw [← hw5]
  have HP1 := hp1.out
  have hg1t : ∃ c, w1.heap[g1]? = some (.cells c 3 (0, 0)) := own_ne HP1.own HP1.at1
  have hg1m : g1 ≠ m := by obtain ⟨c, hc⟩ := hg1t; exact ne_type hc hm1 (by decide)
  have hb5 : ∀ k, k ≠ m → w5.heap[k]? = w1.heap[k]? := fun k hk => by rw [hw5]; exact heap_setCell_other _ _ _ _ hk
  have hm5 : w5.heap[m]? = some (.cells (refC (.slice sa n scap) (.slice (some ⟨g1, 0, none⟩) (log.length + 1) cap) hv true count armed k) 32 (0, 0)) := by rw [hw5]; exact heap_setCell_same _ _ _ _ _ _ hm1
  have hs5 : w5.heap.size = w1.heap.size := by rw [hw5]; simp
  have hf5 : w5.os = w1.os ∧ w5.tape = w1.tape ∧ w5.output = w1.output := by rw [hw5]; exact ⟨rfl, rfl, rfl⟩
  clear hw5
  have hYb : ∀ k, Y k → k ≠ m → wv.ownBlock ≠ some k → w5.heap[k]? = w.heap[k]? := fun k hk h1 h2 => (hb5 k h1).trans (HP1.step.block k (HR.out.lt k hk) h2)
  have hvm : ∀ k, hv.ownBlock = some k → w5.heap[k]? = w.heap[k]? := fun k hk => by
    obtain ⟨c, hc⟩ := own_ne HR.out.bh hk
    exact hYb k (HR.out.yh k hk) (ne_type hc HR.out.b0 (by decide)) (fun e => by obtain ⟨c', hc'⟩ := own_ne HR.out.bw e; exact ne_type hc hc' (by decide) rfl)
  have hh5 : w5.ownsRow 0 37 1 hv log.length hs := ownsRow_block HR.out.bh hvm
  have hw5 : w5.ownsRow 0 3 1 (.slice (some ⟨g1, 0, none⟩) (log.length + 1) cap) (log.length + 1) ((log.map fun x => Value.int .i64 (x.1 : Int)) ++ [.int .i64 (i : Int)]) := ownsRow_block HP1.own (fun k hk => by cases hk; exact hb5 _ hg1m)
  have hrb5 : w5.rangeAt bb bo (byteCells l) := fun j u hj => by
    have := HRB.out j u hj
    have hlt := World.block_lt_of_cell? _ _ this
    have hbm : bb ≠ m := fun e => HBY.out (e ▸ HR.out.hm)
    rw [World.cell?_of_block (w := w1) (hb5 bb hbm), World.cell?_of_block (w := w) (HP1.step.block bb hlt (fun e => HBY.out (HR.out.yw _ e)))]
    exact this
  have hst5 : Step Y (fun k => Y k ∨ k = g1) w w5 := by
    refine ⟨hf5.1.trans HP1.step.os, hf5.2.1.trans HP1.step.tape, hf5.2.2.trans HP1.step.output, by rw [hs5]; exact HP1.step.size, fun k hk hny => ?_, ?_⟩
    · rw [hb5 k (fun e => hny (e ▸ HR.out.hm))]
      exact HP1.step.block k hk (fun e => hny (HR.out.yw k e))
    · rintro k (hk | rfl)
      · exact .inl hk
      · exact HP1.old.imp (HR.out.yw _) id
  have hg1l : g1 < w5.heap.size := by rw [hs5]; exact HP1.lt
  have hsz5 : w.heap.size ≤ w5.heap.size := hst5.size
  have HF : Hid (∀ w6 g2 cap2 arr, Hid (w6.heap[g2]? = some (.cells arr 5 (0, 0)) ∧ arr.toList.take 256 = byteCells l ∧ 256 ≤ arr.size ∧ w5.heap.size ≤ g2 ∧ Below w5.heap.size w5 w6) →
      w6.cell? ⟨m, 2, none⟩ = some hv ∧ (∀ o, (w6.alloc o).cell? ⟨m, 2, none⟩ = some hv) ∧ Hid (w6.ownsRow 0 37 1 hv log.length hs) ∧
      ∀ w7 g3 cap3, Hid (Pushed w6 w7 37 hv (.slice (some ⟨g3, 0, none⟩) (log.length + 1) cap3) log.length hs (.slice (some ⟨g2, 0, none⟩) 256 cap2) g3) →
        w7.cell? ⟨m, 2, none⟩ = some hv ∧ w7.frozen? ⟨m, 2, none⟩ = false ∧ Hid (∃ Y7, Ref (w7.setCell ⟨m, 2, none⟩ (.slice (some ⟨g3, 0, none⟩) (log.length + 1) cap3)) Y7 m n safe (log ++ [(i, l)]) count true armed k ∧ Step Y Y7 w (w7.setCell ⟨m, 2, none⟩ (.slice (some ⟨g3, 0, none⟩) (log.length + 1) cap3)))) := by
    intro w6 g2 cap2 arr h6
    obtain ⟨a1, a2, a3, a4, a5⟩ := h6.out
    have hml : m < w5.heap.size := (Array.getElem?_eq_some_iff.1 hm5).1
    have hm6 := (a5.block m hml).trans hm5
    have hvl : ∀ k, hv.ownBlock = some k → k < w5.heap.size := fun k hk => by
      obtain ⟨c, hc⟩ := own_ne hh5 hk
      exact (Array.getElem?_eq_some_iff.1 hc).1
    have hh6 : w6.ownsRow 0 37 1 hv log.length hs := ownsRow_block hh5 (fun k hk => a5.block k (hvl k hk))
    have hc6 : w6.cell? ⟨m, 2, none⟩ = some hv := by rw [cell_of_row _ _ _ _ _ _ hm6]; rfl
    refine ⟨hc6, fun o => by rw [World.cell?_alloc_lt _ _ _ (World.block_lt_of_cell? _ _ hc6)]; exact hc6, hh6, ?_⟩
    intro w7 g3 cap3 hp7'
    have hp7 := hp7'.out
    have hhm : ¬ hv.ownBlock = some m := fun e => by obtain ⟨c, hc⟩ := own_ne hh6 e; exact ne_type hc hm6 (by decide) rfl
    have hm7 : w7.heap[m]? = some (.cells (refC (.slice sa n scap) (.slice (some ⟨g1, 0, none⟩) (log.length + 1) cap) hv true count armed k) 32 (0, 0)) := (hp7.step.block m (Nat.lt_of_lt_of_le hml a5.size) hhm).trans hm6
    have hg3m : g3 ≠ m := by obtain ⟨c, hc⟩ := own_ne hp7.own hp7.at1; exact ne_type hc hm7 (by decide)
    have hs7 : Step (fun k => Y k ∨ k = g1) (fun k => (Y k ∨ k = g1) ∨ w5.heap.size ≤ k ∧ k < w7.heap.size) w5 w7 := by
      refine ⟨hp7.step.os.trans a5.os, hp7.step.tape.trans a5.tape, hp7.step.output.trans a5.output, Nat.le_trans a5.size hp7.step.size, fun k hk hny => ?_, fun k hk => hk.imp id (fun h => h.1)⟩
      rw [hp7.step.block k (Nat.lt_of_lt_of_le hk a5.size) (fun e => hny (.inl (HR.out.yh k e))), a5.block k hk]
    have hs8 := (hst5.trans hs7).set (a := ⟨m, 2, none⟩) (.inl (.inl HR.out.hm)) (.slice (some ⟨g3, 0, none⟩) (log.length + 1) cap3)
    refine ⟨by rw [cell_of_row _ _ _ _ _ _ hm7]; rfl, frozen_of_row _ _ _ _ _ hm7, _, ⟨.slice sa n scap, .slice (some ⟨g1, 0, none⟩) (log.length + 1) cap, .slice (some ⟨g3, 0, none⟩) (log.length + 1) cap3, ss, hs ++ [.slice (some ⟨g2, 0, none⟩) 256 cap2], ?_⟩, hs8⟩
    have hb8 : ∀ k, k ≠ m → (w7.setCell ⟨m, 2, none⟩ (.slice (some ⟨g3, 0, none⟩) (log.length + 1) cap3)).heap[k]? = w7.heap[k]? := fun k hk => heap_setCell_other _ _ _ _ hk
    have hk57 : ∀ k, k < w5.heap.size → hv.ownBlock ≠ some k → w7.heap[k]? = w5.heap[k]? := fun k hk hne => (hp7.step.block k (Nat.lt_of_lt_of_le hk a5.size) hne).trans (a5.block k hk)
    have hg1h : hv.ownBlock ≠ some g1 := fun e => by obtain ⟨c, hc⟩ := own_ne hh5 e; obtain ⟨c', hc'⟩ := own_ne hw5 rfl; exact ne_type hc hc' (by decide) rfl
    refine HR.out.push i l (fun k hk => .inl (.inl hk)) ?_ (heap_setCell_same _ _ _ _ _ _ hm7) ?_ ?_ ?_ ?_ ?_ ?_ ?_
    · rintro k ((hk | rfl) | ⟨_, hk⟩)
      · have := Nat.lt_of_lt_of_le (HR.out.lt k hk) (Nat.le_trans hsz5 (Nat.le_trans a5.size hp7.step.size))
        simpa using this
      · have := Nat.lt_of_lt_of_le hg1l (Nat.le_trans a5.size hp7.step.size)
        simpa using this
      · simpa using hk
    · intro k hk h1 h2 h3
      rw [hb8 k h1, hk57 k (Nat.lt_of_lt_of_le (HR.out.lt k hk) hsz5) h3, hYb k hk h1 h2]
    · exact ownsRow_block hw5 (fun k hk => by cases hk; rw [hb8 _ hg1m, hk57 _ hg1l hg1h])
    · intro k hk; cases hk; exact .inl (.inr rfl)
    · exact ownsRow_block hp7.own (fun k hk => by cases hk; exact hb8 _ hg3m)
    · intro k hk
      cases hk
      rcases hp7.old with h | h
      · exact .inl (.inl (HR.out.yh _ h))
      · exact .inr ⟨Nat.le_trans a5.size h, hp7.lt⟩
    · intro k hk e
      cases e
      rcases hp7.old with h | h
      · exact HR.out.ne _ hk h
      · exact absurd (HR.out.lt _ (HR.out.ys _ hk)) (Nat.not_lt.2 (Nat.le_trans hsz5 (Nat.le_trans a5.size h)))
    · have hg2l : g2 < w6.heap.size := (Array.getElem?_eq_some_iff.1 a1).1
      have hg2h : hv.ownBlock ≠ some g2 := fun e => absurd (hvl _ e) (Nat.not_lt.2 a4)
      refine ⟨g2, cap2, arr, rfl, .inr ⟨a4, Nat.lt_of_lt_of_le hg2l hp7.step.size⟩, ?_, a2, hl⟩
      rw [hb8 g2 (fun e => absurd hml (by rw [← e]; exact Nat.not_lt.2 a4)), hp7.step.block g2 hg2l hg2h]
      exact a1
  have hc5 : w5.cell? ⟨m, 2, none⟩ = some hv := by rw [cell_of_row _ _ _ _ _ _ hm5]; rfl
  have ha5 : ∀ o, (w5.alloc o).cell? ⟨m, 2, none⟩ = some hv := fun o => by rw [World.cell?_alloc_lt _ _ _ (World.block_lt_of_cell? _ _ hc5)]; exact hc5
  have hba : Below w5.heap.size w5 (w5.alloc (.cells #[] 5)).drew := ((Below.refl w5.heap.size w5).alloc (Nat.le_refl _) _).drew
  have HBA : Hid (Below w5.heap.size w5 (w5.alloc (.cells #[] 5)).drew) := hba
  have HSZ : Hid (w5.heap.size ≤ (w5.alloc (.cells #[] 5)).drew.heap.size) := hba.size
  have HG0 : Hid ((w5.alloc (.cells #[] 5)).drew.heap[w5.heap.size]? = some (.cells #[] 5 (0, 0))) := heap_alloc_new w5 _
  have HRG : Hid ((w5.alloc (.cells #[] 5)).drew.rangeAt bb bo (byteCells l)) := fun j u hj => by
    have := hrb5 j u hj
    rw [hba.cell (p := ⟨bb, bo + j, none⟩) (World.block_lt_of_cell? _ _ this)]
    exact this
  clear hba hrb5 hst5 hh5 hw5 hvm hYb hf5 hs5 hm5 hb5 hg1m hg1t HP1 hp1 hm1 d1 dz c0 c1 c2 c3 c4 c5 c6 fz HM1 HC1 HRB HBW HR HBY hg1l hsz5
  go_cut [47] (fun s w' => ∃ Y7, Ref w' Y7 m n safe (log ++ [(i, l)]) count true armed k ∧ Step Y Y7 w w')
  case first =>
    go_region_law (first | (refine step_clone rfl (.tmp 43) (.tmp 44) (by rfl) _ w5.heap.size HG0.out w5.heap.size (Nat.le_refl _) HSZ.out w5 HBA.out bb bo bc l hl HRG.out (by rfl) (by rfl) ?_; intro g2 cap2 w6 arr h6; obtain ⟨f1, f2, f3, f4⟩ := HF.out w6 g2 cap2 arr h6) | (refine step_push1 rfl (.tmp 42) (.tmp 46) 29 37 _ _ (by rfl) Try.underlying29 info37 rfl (by omega) w6 hv log.length hs f3.out (.slice (some ⟨g2, 0, none⟩) 256 cap2) rfl (by omega) (by rfl) (by rfl) ?_; intro g3 cap3 w7 hp7; obtain ⟨f5, f6, f7⟩ := f4 w7 g3 cap3 hp7))
    all_goals go_wp2_with fail
    all_goals go_meet
    all_goals exact f7.out
  case rest =>
    obtain ⟨Y7, hr7, hs7⟩ := hcut
    have N29 := HN.out _ _ hr7
    clear HF hc5 ha5 HN HBA HSZ HG0 HRG
    cases r
    · go_wp2_with (go_at_call 29; refine N29.mono ?_; rintro e w8 ⟨Y8, rfl, hr8, hs8⟩)
      go_ret
      exact ⟨rfl, Y8, hr8, hs7.trans hs8⟩
    · go_wp2_with (go_at_call 29; refine N29.mono ?_; rintro e w8 ⟨Y8, rfl, hr8, hs8⟩)
      go_ret
      exact ⟨rfl, Y8, hr8, hs7.trans hs8⟩
end Go.Proofs.Ytgbgeoplbmjcbaa
