/- What the document's own Off does. -/
import Derived.Test.YtgbgeoplbmjcbaaRefBase
namespace Go.Proofs.Ytgbgeoplbmjcbaa
open Go.RowKit Go.Lib
attribute [local go_sem ↓] Go.wp_at_zero Go.wp_at_succ

/-- The append of a page to no bytes, as a step of a region that draws. -/
theorem step_clone {ops : Array Oper} {o : Oper} {a : Act} {K : Act → World → Prop} {Q : Exit → Act → World → Prop} {Ex : Prop} (hgd : o.guard = none) (s x : Operand)
    (ho : o.op = .call { callee := .builtin .append, args := #[s, x], argTypes := #[37, 37] }) (w : World) (g0 : Nat) (hg0 : w.heap[g0]? = some (.cells #[] 5 (0, 0))) (B : Nat) (hB : B ≤ g0) (hBs : B ≤ w.heap.size) (w0 : World) (hw0 : Below B w0 w) (b bo c : Nat) (l : List UInt8) (hl : l.length = 256) (hr : w.rangeAt b bo (byteCells l))
    (hs : a.eval s = .slice (some ⟨g0, 0, none⟩) 0 0) (hx : a.eval x = .slice (some ⟨b, bo, none⟩) 256 c)
    (h : ∀ g1 cap w1 arr, Hid (w1.heap[g1]? = some (.cells arr 5 (0, 0)) ∧ arr.toList.take 256 = byteCells l ∧ 256 ≤ arr.size ∧ B ≤ g1 ∧ Below B w0 w1) → K (a.put o.dst (.slice (some ⟨g1, 0, none⟩) 256 cap)) w1) :
    if Region.wanted o (yielded ops a.tmps) = true then Oper.wp Try.prog o a w K Q else Ex := by
  obtain ⟨i0, hi, hz0, hz1, hz2⟩ := info_parts info5
  have hown : w.ownsRow B 5 1 (.slice (some ⟨g0, 0, none⟩) 0 0) 0 [] := ⟨rfl, .inr ⟨g0, 0, #[], rfl, hB, hg0, Nat.le_refl _, Nat.zero_le _, rfl, rfl⟩⟩
  refine step_append_lies _ hgd s x 37 ho B 5 i0 (.int .u8 0) 1 1 Try.underlying37 hi hz0 hz1 hz2 rfl (by omega) _ 0 [] hs hown ⟨b, bo, none⟩ 256 c (byteCells l) hx (by rw [byteCells_length, hl]) (fun j u hj => by rw [Addr.add_mid]; exact hr j u hj) ?_ (by omega) (by unfold maxLen; omega) (by omega) hBs _ rfl ?_
  · intro u hu
    obtain ⟨y, _, rfl⟩ := List.mem_map.1 hu
    rfl
  · intro g1 cap w1 hown1 hgrow hat hlt
    rcases hown1.2 with ⟨e, _⟩ | ⟨g', cap', cur, e, hb, hg, hn, hmx, hsz, ht⟩
    · cases e
    · cases e
      refine h g1 cap w1 cur ⟨hg, ?_, ?_, hb, hw0.grown hgrow hBs (fun k hk => by cases hk; exact hB)⟩
      · rw [List.nil_append] at ht
        exact ht
      · rw [hsz]; omega

theorem part_length (n : Nat) (P : List UInt8) (k : Nat) (log : List (Nat × List UInt8)) (hP : P.length = n * 256) (hl : LogOk n log) : (partAll P k log).length = n * 256 := by
  have : ∀ r : List (Nat × List UInt8), LogOk n r.reverse → (partAll P k r.reverse).length = n * 256 := by
    intro r
    induction r with
    | nil => intro _; exact hP
    | cons x r ih =>
      intro h
      rw [List.reverse_cons] at h ⊢
      obtain ⟨h1, h2, h3⟩ := h.init
      rw [partAll_snoc]
      exact splice_len (ih h1) h2 (by rw [List.length_take]; omega)
  have h := this log.reverse (by rwa [List.reverse_reverse])
  rwa [List.reverse_reverse] at h
theorem filled_page (t : Nat) (what old : List UInt8) (h1 : what.length = 256) (ht : t ≤ 256) : filled t what old = what.take t ++ old.drop (what.take t).length := by
  rw [filled, List.length_take, h1, Nat.min_eq_left ht]

theorem off_ref_down (w : World) (Y : Nat → Prop) (m n : Nat) (safe : List UInt8) (log : List (Nat × List UInt8)) (count : Nat) (armed : Nat) (k z : Int) (h : Ref w Y m n safe log count false armed k) :
    Calls Try.prog 20 #[.pointer (some ⟨m, 0, none⟩), .int .i64 z] w fun e w' => e = .returned (.tuple #[]) ∧ w' = w := by
  obtain ⟨sv, wv, hv, ss, hs, hr⟩ := h
  obtain ⟨c0, c1, c2, c3, c4, c5, c6, fz⟩ := hr.cells
  go_enter Try.func20, Try.ntmps20
  go_wp2
  refine bodyPost_ret (results_none rfl _ _ _) rfl ?_
  exact ⟨rfl, rfl⟩

set_option maxRecDepth 100000 in
set_option maxHeartbeats 2000000 in
theorem off_ref (w : World) (Y : Nat → Prop) (m n : Nat) (safe : List UInt8) (log : List (Nat × List UInt8)) (count : Nat) (armed : Nat) (k z : Int) (hz : -9223372036854775808 ≤ z) (hz' : z < 9223372036854775808) (hP : safe.length = n * 256) (hlog : LogOk n log) (hll : log.length ≤ 1000) (h : Ref w Y m n safe log count true armed k) :
    Calls Try.prog 20 #[.pointer (some ⟨m, 0, none⟩), .int .i64 z] w fun e w' => ∃ Y', e = .returned (.tuple #[]) ∧ Ref w' Y' m n (partAll safe z.toNat log) [] count false 0 k ∧ Step Y Y' w w' := by
  obtain ⟨sv, wv, hv, ss, hs, hr⟩ := h
  obtain ⟨c0, c1, c2, c3, c4, c5, c6, fz⟩ := hr.cells
  obtain ⟨sa, scap, rfl, -⟩ := row_cells hr.bs
  obtain ⟨wa, wcap, rfl, -⟩ := row_cells hr.bw
  obtain ⟨ha, hcap, rfl, -⟩ := row_cells hr.bh
  have HP : Hid (safe.length = n * 256) := hP
  have HL : Hid (LogOk n log) := hlog
  clear hP hlog
  go_enter Try.func20, Try.ntmps20
  go_wp2
  go_loopw [1, 4] (fun kc i wr => ∃ (j : Nat) (q : Int) (Y' : Nat → Prop) (ss' : List Value), j ≤ log.length ∧ i = .int .i64 j ∧ kc = .int .i64 q ∧ q ≤ z ∧ -9223372036854775808 ≤ q ∧ Hid (q.toNat = z.toNat - j * 256) ∧ Hid (RefR wr Y' m n (refC (.slice sa n scap) (.slice wa log.length wcap) (.slice ha log.length hcap) true count armed k) (.slice sa n scap) (.slice wa log.length wcap) (.slice ha log.length hcap) ss' hs (partAll safe z.toNat (log.take j)) log) ∧ Hid (Step Y Y' w wr)) (fun _ i _ => log.length - (RowKit.intOf i).toNat)
  case atStart => exact ⟨0, z, Y, ss, Nat.zero_le _, rfl, rfl, Int.le_refl _, hz, (by show _ = _; omega), hr, Step.refl Y w⟩
  case round =>
    clear hr c0 c1 c2 c3 c4 c5 c6 fz
    obtain ⟨j, q, Y', ss', hj, rfl, rfl, hq1, hq2, HQ, HR, HS⟩ := hrel
    obtain ⟨k0, k1, k2, k3, k4, k5, k6, kz⟩ := HR.out.cells
    by_cases hlt : j < log.length
    · obtain ⟨hx1, hx2⟩ := HL.out (log[j]) (List.getElem_mem hlt)
      have hjx : log[j]? = some log[j] := List.getElem?_eq_getElem hlt
      obtain ⟨wa', wcap', e, gw⟩ := row_cells HR.out.bw
      cases e
      obtain ⟨wb, rfl, cw, -⟩ := gw j (.int .i64 (log[j].1 : Int)) (by simp [List.getElem?_eq_getElem hlt])
      obtain ⟨pv, eps, hpg⟩ := HR.out.ps log[j].1 hx1
      obtain ⟨pb, pc, rfl, rp⟩ := hpg.range
      obtain ⟨sa', scap', e, gs⟩ := row_cells HR.out.bs
      cases e
      obtain ⟨sb, rfl, cs, fs⟩ := gs log[j].1 _ eps
      obtain ⟨hvv, eh, hph⟩ := HR.out.ph j _ hjx
      obtain ⟨qb, qc, rfl, rq⟩ := hph.range
      obtain ⟨ha', hcap', e, gh⟩ := row_cells HR.out.bh
      cases e
      obtain ⟨hb, rfl, ch, -⟩ := gh j _ eh
      have hpl : (partAll safe z.toNat (log.take j)).length = n * 256 := part_length n _ _ _ HP.out (fun x hx => HL.out x (List.mem_of_mem_take hx))
      have HO : Hid (pageOf (partAll safe z.toNat (log.take (j + 1))) log[j].1 = filled (keptAt z.toNat j) log[j].2 (pageOf (partAll safe z.toNat (log.take j)) log[j].1) ∧ ∀ i, i < n → i ≠ log[j].1 → pageOf (partAll safe z.toNat (log.take (j + 1))) i = pageOf (partAll safe z.toNat (log.take j)) i) := by
        have e : log.take (j + 1) = log.take j ++ [log[j]] := by rw [List.take_succ_eq_append_getElem hlt]
        have el : (log.take j).length = j := by rw [List.length_take]; omega
        have ht : (log[j].2.take (keptAt z.toNat j)).length ≤ 256 := by rw [List.length_take]; omega
        rw [e, partAll_snoc, el]
        refine ⟨?_, fun i hi hne => ?_⟩
        · rw [pageOf_splice _ n _ _ _ hpl hx1 hx1 ht, if_pos rfl, filled_page _ _ _ hx2 (keptAt_le _ _)]
        · rw [pageOf_splice _ n _ _ _ hpl hx1 hi ht, if_neg hne]
      have hol : (pageOf (partAll safe z.toNat (log.take j)) log[j].1).length = 256 := pageOf_length _ n _ hpl hx1
      have HKT : Hid (keptAt z.toNat j = min q.toNat 256) := by show _ = _; unfold keptAt; rw [HQ.out]
      clear gw gs gh eps hpg eh hph hjx hpl
      generalize pageOf (partAll safe z.toNat (log.take j)) log[j].1 = old at *
      generalize hAe : log[j].1 = A at *
      generalize log[j].2 = what at *
      clear hAe
      have j0 : (0 : Int) ≤ (j : Int) := by omega
      have j1 : (j : Int) < (log.length : Int) := by omega
      have a0 : (0 : Int) ≤ (A : Int) := by omega
      have a1 : (A : Int) < (n : Int) := by omega
      have HK4 : Hid (∀ w', Below wr.heap.size wr w' → w'.cell? ⟨m, 0, none⟩ = some (.slice (some ⟨sb, 0, none⟩) n scap) ∧ w'.cell? ⟨m, 1, none⟩ = some (.slice (some ⟨wb, 0, none⟩) log.length wcap) ∧ w'.cell? ⟨wb, j, none⟩ = some (.int .i64 (A : Int)) ∧ w'.cell? ⟨sb, A, none⟩ = some (.slice (some ⟨pb, 0, none⟩) 256 pc)) := fun w' hb' =>
        ⟨(hb'.cell (World.block_lt_of_cell? _ _ k0)).trans k0, (hb'.cell (World.block_lt_of_cell? _ _ k1)).trans k1, (hb'.cell (World.block_lt_of_cell? _ _ cw)).trans cw, (hb'.cell (World.block_lt_of_cell? _ _ cs)).trans cs⟩
      have hrp : (wr.alloc (.cells #[] 5)).drew.rangeAt pb 0 (byteCells old) := range_below rp (((Below.refl wr.heap.size wr).alloc (Nat.le_refl _) _).drew)
      have HRP : Hid ((wr.alloc (.cells #[] 5)).drew.rangeAt pb 0 (byteCells old)) := hrp
      have HOL : Hid (old.length = 256) := hol
      have HG0 : Hid ((wr.alloc (.cells #[] 5)).drew.heap[wr.heap.size]? = some (.cells #[] 5 (0, 0))) := heap_alloc_new wr _
      have HB0 : Hid (Below wr.heap.size wr (wr.alloc (.cells #[] 5)).drew) := ((Below.refl wr.heap.size wr).alloc (Nat.le_refl _) _).drew
      have HSZ : Hid (wr.heap.size ≤ (wr.alloc (.cells #[] 5)).drew.heap.size) := HB0.out.size
      clear hrp hol rp
      go_upto_region 4 with fail
      go_region_held3 (fun w' => w'.cell? ⟨m, 0, none⟩ = some (.slice (some ⟨sb, 0, none⟩) n scap) ∧ w'.cell? ⟨m, 1, none⟩ = some (.slice (some ⟨wb, 0, none⟩) log.length wcap) ∧ w'.cell? ⟨wb, j, none⟩ = some (.int .i64 (A : Int)) ∧ w'.cell? ⟨sb, A, none⟩ = some (.slice (some ⟨pb, 0, none⟩) 256 pc)) (first | exact HK4.out _ (Below.refl _ wr).drew | exact HK4.out _ HB0.out | exact HK4.out _ hg1.out.2.2.2.2) ((refine step_clone rfl (.tmp 21) (.tmp 34) (by rfl) _ wr.heap.size HG0.out wr.heap.size (Nat.le_refl _) HSZ.out wr HB0.out pb 0 pc old HOL.out HRP.out (by rfl) (by rfl) ?_; intro g1 cap1 w1 arr hg1))
      obtain ⟨hgb, htk, hasz, hge, hbel⟩ := hg1.out
      have hneg : ∀ k, k < wr.heap.size → k ≠ g1 := fun k hk e => absurd hk (by rw [e]; exact Nat.not_lt.2 hge)
      have HK5 : Hid (∀ wi, Step (fun k => k = g1) (fun k => k = g1) w1 wi → ∀ a u, wr.cell? a = some u → wi.cell? a = some u) := fun wi hst a u hu => by
        have hlt := World.block_lt_of_cell? _ _ hu
        rw [World.cell?_of_block (w := w1) (hst.block _ (Nat.lt_of_lt_of_le hlt hbel.size) (hneg _ hlt)), hbel.cell hlt]
        exact hu
      have HB1 : Hid (Below wr.heap.size wr w1) := hbel
      have HGE : Hid (wr.heap.size ≤ g1) := hge
      have HNG : Hid (∀ k, k < wr.heap.size → k ≠ g1) := hneg
      have HASZ : Hid (256 ≤ arr.size) := hasz
      have hg1l : g1 < w1.heap.size := (Array.getElem?_eq_some_iff.1 hgb).1
      have HG1L : Hid (g1 < w1.heap.size) := hg1l
      have HPOST : Hid (∀ (t : Nat) (ar : Array Value) wi, t = min q.toNat 256 → wi.heap[g1]? = some (.cells ar 5 (0, 0)) → ar.toList.take 256 = byteCells (filled t what old) → Step (fun k => k = g1) (fun k => k = g1) w1 wi →
          ∃ ss2, RefR (wi.setCell ⟨sb, A, none⟩ (.slice (some ⟨g1, 0, none⟩) 256 cap1)) (fun k => Y' k ∨ k = g1) m n (refC (.slice (some ⟨sb, 0, none⟩) n scap) (.slice (some ⟨wb, 0, none⟩) log.length wcap) (.slice (some ⟨hb, 0, none⟩) log.length hcap) true count armed k) (.slice (some ⟨sb, 0, none⟩) n scap) (.slice (some ⟨wb, 0, none⟩) log.length wcap) (.slice (some ⟨hb, 0, none⟩) log.length hcap) ss2 hs (partAll safe z.toNat (log.take (j + 1))) log ∧ Step Y (fun k => Y' k ∨ k = g1) w (wi.setCell ⟨sb, A, none⟩ (.slice (some ⟨g1, 0, none⟩) 256 cap1))) := by
        intro t ar wi htq hgi hti hst
        have hYl : ∀ k, Y' k → k < wr.heap.size := HR.out.lt
        have hrb : RefR wi (fun k => Y' k ∨ k = g1) m n (refC (.slice (some ⟨sb, 0, none⟩) n scap) (.slice (some ⟨wb, 0, none⟩) log.length wcap) (.slice (some ⟨hb, 0, none⟩) log.length hcap) true count armed k) (.slice (some ⟨sb, 0, none⟩) n scap) (.slice (some ⟨wb, 0, none⟩) log.length wcap) (.slice (some ⟨hb, 0, none⟩) log.length hcap) ss' hs (partAll safe z.toNat (log.take j)) log := by
          refine HR.out.keep (fun k hk => ?_) (fun _ h => .inl h) ?_
          · rw [hst.block _ (Nat.lt_of_lt_of_le (hYl k hk) hbel.size) (hneg _ (hYl k hk)), hbel.block _ (hYl k hk)]
          · rintro k (hk | rfl)
            · exact Nat.lt_of_lt_of_le (hYl k hk) (Nat.le_trans hbel.size hst.size)
            · exact Nat.lt_of_lt_of_le hg1l hst.size
        have hfl : (filled t what old).length = 256 := by rw [filled_length t what old (by rw [hx2, HOL.out]), HOL.out]
        obtain ⟨ss2, hl2⟩ := hrb.lay A hx1 (.slice (some ⟨g1, 0, none⟩) 256 cap1) (partAll safe z.toNat (log.take (j + 1))) sb scap rfl (by
          rw [HO.out.1, HKT.out, ← htq]
          exact ⟨g1, cap1, ar, rfl, .inr rfl, hgi, hti, hfl⟩) HO.out.2
        refine ⟨ss2, hl2, (HS.out.trans ⟨?_, ?_, ?_, ?_, ?_, ?_⟩).set (hrb.ys _ rfl) _⟩
        · exact hst.os.trans hbel.os
        · exact hst.tape.trans hbel.tape
        · exact hst.output.trans hbel.output
        · exact Nat.le_trans hbel.size hst.size
        · intro k hk hny
          rw [hst.block _ (Nat.lt_of_lt_of_le hk hbel.size) (hneg _ hk), hbel.block _ hk]
        · rintro k (hk | rfl)
          · exact .inl hk
          · exact .inr hge
      have HQT : Hid (∀ t : Nat, t = min q.toNat 256 → ((q - t).toNat = z.toNat - (j + 1) * 256) ∧ q - t ≤ z ∧ -9223372036854775808 ≤ q - t) := by
        intro t ht
        have := HQ.out
        omega
      have HW : Hid (what.length = 256) := hx2
      have HRQ : Hid (∀ t, t < 256 → wr.cell? ⟨qb, t, none⟩ = some (.int .u8 ((what.getD t 0).toNat : Int))) := fun t ht => by
        have := rq t (.int .u8 ((what.getD t 0).toNat : Int)) (by simp [byteCells, List.getElem?_eq_getElem (show t < what.length by omega)])
        rw [Nat.zero_add] at this
        exact this
      have HFS : Hid (∀ wi, Step (fun k => k = g1) (fun k => k = g1) w1 wi → wi.frozen? ⟨sb, A, none⟩ = false) := fun wi hst => by
        have hlt := World.block_lt_of_cell? _ _ cs
        rw [World.frozen?_of_block (w := w1) (hst.block _ (Nat.lt_of_lt_of_le hlt hbel.size) (hneg _ hlt)), hbel.frozen hlt]
        exact fs
      have hS37 := own_ne HR.out.bs rfl
      have hW3 := own_ne HR.out.bw rfl
      have HNM : Hid (sb ≠ m) := by obtain ⟨c, hc⟩ := hS37; exact ne_type hc HR.out.b0 (by decide)
      have HNW : Hid (sb ≠ wb) := by obtain ⟨c, hc⟩ := hS37; obtain ⟨c', hc'⟩ := hW3; exact ne_type hc hc' (by decide)
      clear hS37 hW3
      have HC0 := HK5.out
      clear hbel hge hneg hasz hg1l hg1 HK4 HRP HG0 HB0 HSZ HO HKT rq hx2 HC0
      have HGB : Hid (w1.heap[g1]? = some (.cells arr 5 (0, 0))) := hgb
      have HTK : Hid (arr.toList.take 256 = byteCells old) := htk
      have hW0 : w1.cell? ⟨m, 0, none⟩ = some (.slice (some ⟨sb, 0, none⟩) n scap) := HK5.out w1 (Step.refl _ _) _ _ k0
      clear hgb htk hW0
      go_wp2_with fail
      go_loopw [1, 6] (fun kc jj wi => ∃ (t : Nat) (ar : Array Value), t ≤ 256 ∧ (t = 0 ∨ (t : Int) ≤ q) ∧ jj = .int .i64 t ∧ kc = .int .i64 (q - t) ∧ Hid (wi.heap[g1]? = some (.cells ar 5 (0, 0))) ∧ Hid (ar.size = arr.size) ∧ Hid (ar.toList.take 256 = byteCells (filled t what old)) ∧ Hid (Step (fun k => k = g1) (fun k => k = g1) w1 wi)) (fun _ jj _ => 256 - (RowKit.intOf jj).toNat)
      case atStart => exact ⟨0, arr, by omega, .inl rfl, rfl, int_eq (by omega), HGB, rfl, HTK, Step.refl _ _⟩
      case round =>
        obtain ⟨t, ar, ht, htq, rfl, rfl, hgi, hai, hti, hst⟩ := hrel
        by_cases hc : t < 256 ∧ 0 < q - t
        · obtain ⟨hc1, hc2⟩ := hc
          have e2 := HK5.out wr hst.out _ _ k2
          have eh := HK5.out wr hst.out _ _ ch
          have eq := HK5.out wr hst.out _ _ (HRQ.out t hc1)
          have hta : t < ar.size := by rw [hai.out]; exact Nat.lt_of_lt_of_le hc1 HASZ.out
          obtain ⟨x0, eg⟩ : ∃ x, wr.cell? ⟨g1, t, none⟩ = some x := ⟨ar[t], by rw [cell_of_row _ _ _ _ _ _ hgi.out]; exact Array.getElem?_eq_getElem hta⟩
          have ef : wr.frozen? ⟨g1, t, none⟩ = false := frozen_of_row _ _ _ _ _ hgi.out
          have t0 : (0 : Int) ≤ (t : Int) := by omega
          have t1 : (t : Int) < 256 := by omega
          have HN : Hid (∃ ar2 : Array Value, (wr.setCell ⟨g1, t, none⟩ (.int .u8 ((what.getD t 0).toNat : Int))).heap[g1]? = some (.cells ar2 5 (0, 0)) ∧ ar2.size = arr.size ∧ ar2.toList.take 256 = byteCells (filled (t + 1) what old) ∧ Step (fun k => k = g1) (fun k => k = g1) w1 (wr.setCell ⟨g1, t, none⟩ (.int .u8 ((what.getD t 0).toNat : Int)))) := by
            refine ⟨_, heap_setCell_same _ _ _ _ _ _ hgi.out, by simpa using hai.out, ?_, Step.set (a := ⟨g1, t, none⟩) hst.out rfl _⟩
            rw [Array.toList_setIfInBounds, List.take_set, hti.out]
            have := congrArg Array.toList (filled_set t what old (by rw [HW.out]; exact hc1) (by rw [HW.out, HOL.out]))
            simpa using this
          clear hgi hai hti hst hta
          generalize (what.getD t 0) = u at *
          go_wp2_with fail
          go_roundw
          case rel =>
            obtain ⟨ar2, r1, r2, r3, r4⟩ := HN.out
            exact ⟨t + 1, ar2, hc1, .inr (by omega), by go_num, int_eq (by omega), r1, r2, r3, r4⟩
          case measure => simp [RowKit.intOf]; omega
        · have htm : Hid (t = min q.toNat 256) := by show _ = _; omega
          have h3 : ¬ t < 256 ∨ (t < 256 ∧ ¬ 0 < q - t) := by omega
          rcases h3 with h1 | ⟨h1, h2⟩
          · have h1' : ¬ (t : Int) < 256 := by omega
            clear hc
            have e0 := HK5.out wr hst.out _ _ k0
            have e1 := HK5.out wr hst.out _ _ k1
            have ew := HK5.out wr hst.out _ _ cw
            have es := HK5.out wr hst.out _ _ cs
            have ef : wr.frozen? ⟨sb, A, none⟩ = false := HFS.out wr hst.out
            obtain ⟨p1, p2, p3⟩ := HQT.out t htm.out
            obtain ⟨ss2, q1, q2⟩ := HPOST.out t ar wr htm.out hgi.out hti.out hst.out
            have HK10 : Hid (∀ v, (wr.setCell ⟨sb, A, none⟩ v).cell? ⟨m, 0, none⟩ = some (.slice (some ⟨sb, 0, none⟩) n scap) ∧ (wr.setCell ⟨sb, A, none⟩ v).cell? ⟨m, 1, none⟩ = some (.slice (some ⟨wb, 0, none⟩) log.length wcap) ∧ (wr.setCell ⟨sb, A, none⟩ v).cell? ⟨wb, j, none⟩ = some (.int .i64 (A : Int))) := fun v =>
              ⟨(World.cell?_setCell_other _ _ _ _ (fun e => HNM.out (Addr.mk.inj e).1)).trans e0, (World.cell?_setCell_other _ _ _ _ (fun e => HNM.out (Addr.mk.inj e).1)).trans e1, (World.cell?_setCell_other _ _ _ _ (fun e => HNW.out (Addr.mk.inj e).1)).trans ew⟩
            have HQ1 : Hid (RefR _ _ m n _ _ _ _ ss2 hs _ log) := q1
            have HQ2 : Hid (Step Y _ w _) := q2
            clear q1 q2
            go_upto_region 10 with fail
            go_region_held3 (fun w' => w'.cell? ⟨m, 0, none⟩ = some (.slice (some ⟨sb, 0, none⟩) n scap) ∧ w'.cell? ⟨m, 1, none⟩ = some (.slice (some ⟨wb, 0, none⟩) log.length wcap) ∧ w'.cell? ⟨wb, j, none⟩ = some (.int .i64 (A : Int))) (first | exact ⟨e0, e1, ew⟩ | exact HK10.out _) (fail)
            go_wp2_with fail
            go_roundw
            case rel => exact ⟨j + 1, q - t, _, ss2, hlt, by go_num, rfl, p2, p3, p1, HQ1.out.drew, HQ2.out.drew⟩
            case measure => simp [RowKit.intOf]; omega
          · have h1' : (t : Int) < 256 := by omega
            clear hc
            have e0 := HK5.out wr hst.out _ _ k0
            have e1 := HK5.out wr hst.out _ _ k1
            have ew := HK5.out wr hst.out _ _ cw
            have es := HK5.out wr hst.out _ _ cs
            have ef : wr.frozen? ⟨sb, A, none⟩ = false := HFS.out wr hst.out
            obtain ⟨p1, p2, p3⟩ := HQT.out t htm.out
            obtain ⟨ss2, q1, q2⟩ := HPOST.out t ar wr htm.out hgi.out hti.out hst.out
            have HK10 : Hid (∀ v, (wr.setCell ⟨sb, A, none⟩ v).cell? ⟨m, 0, none⟩ = some (.slice (some ⟨sb, 0, none⟩) n scap) ∧ (wr.setCell ⟨sb, A, none⟩ v).cell? ⟨m, 1, none⟩ = some (.slice (some ⟨wb, 0, none⟩) log.length wcap) ∧ (wr.setCell ⟨sb, A, none⟩ v).cell? ⟨wb, j, none⟩ = some (.int .i64 (A : Int))) := fun v =>
              ⟨(World.cell?_setCell_other _ _ _ _ (fun e => HNM.out (Addr.mk.inj e).1)).trans e0, (World.cell?_setCell_other _ _ _ _ (fun e => HNM.out (Addr.mk.inj e).1)).trans e1, (World.cell?_setCell_other _ _ _ _ (fun e => HNW.out (Addr.mk.inj e).1)).trans ew⟩
            have HQ1 : Hid (RefR _ _ m n _ _ _ _ ss2 hs _ log) := q1
            have HQ2 : Hid (Step Y _ w _) := q2
            clear q1 q2
            go_upto_region 10 with fail
            go_region_held3 (fun w' => w'.cell? ⟨m, 0, none⟩ = some (.slice (some ⟨sb, 0, none⟩) n scap) ∧ w'.cell? ⟨m, 1, none⟩ = some (.slice (some ⟨wb, 0, none⟩) log.length wcap) ∧ w'.cell? ⟨wb, j, none⟩ = some (.int .i64 (A : Int))) (first | exact ⟨e0, e1, ew⟩ | exact HK10.out _) (fail)
            go_wp2_with fail
            go_roundw
            case rel => exact ⟨j + 1, q - t, _, ss2, hlt, by go_num, rfl, p2, p3, p1, HQ1.out.drew, HQ2.out.drew⟩
            case measure => simp [RowKit.intOf]; omega
    · have hje : log.take j = log := List.take_of_length_le (by omega)
      rw [hje] at HR
      go_wp2_with fail
      go_end0
      exact ⟨Y', rfl, ⟨_, _, _, ss', [], (((((HR.out.set 1 _).set 2 _).set 3 _).set 5 _).free)⟩, (((HS.out.set HR.out.hm _).set HR.out.hm _).set HR.out.hm _).set HR.out.hm _⟩
end Go.Proofs.Ytgbgeoplbmjcbaa
