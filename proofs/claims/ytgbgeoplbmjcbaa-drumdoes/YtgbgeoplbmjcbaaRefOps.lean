/- What the document's own operation, Look, Read and Flush do. -/
import Derived.Test.YtgbgeoplbmjcbaaRefOff
namespace Go.Proofs.Ytgbgeoplbmjcbaa
open Go.RowKit Go.Lib
attribute [local go_sem ↓] Go.wp_at_zero Go.wp_at_succ

theorem opr0 (w : World) (Y : Nat → Prop) (m n : Nat) (safe : List UInt8) (log : List (Nat × List UInt8)) (count : Nat) (power : Bool) (k : Int) (hc : count ≤ 1000000) (h : Ref w Y m n safe log count power 0 k) :
    Calls Try.prog 29 #[.pointer (some ⟨m, 0, none⟩)] w fun e w' => e = .returned (.bool false) ∧ Ref w' Y m n safe log (count + 1) power 0 k ∧ Step Y Y w w' := by
  obtain ⟨sv, wv, hv, ss, hs, hr⟩ := h
  obtain ⟨c0, c1, c2, c3, c4, c5, c6, fz⟩ := hr.cells
  go_enter Try.func29, Try.ntmps29
  go_wp2
  go_ret
  exact ⟨rfl, ⟨sv, wv, hv, ss, hs, hr.set 4 _⟩, (Step.refl Y w).set hr.hm _⟩
theorem opr2 (w : World) (Y : Nat → Prop) (m n : Nat) (safe : List UInt8) (log : List (Nat × List UInt8)) (count : Nat) (power : Bool) (armed : Nat) (k : Int) (hc : count ≤ 1000000) (ha : armed + 2 < 9223372036854775808) (h : Ref w Y m n safe log count power (armed + 2) k) :
    Calls Try.prog 29 #[.pointer (some ⟨m, 0, none⟩)] w fun e w' => e = .returned (.bool false) ∧ Ref w' Y m n safe log (count + 1) power (armed + 1) k ∧ Step Y Y w w' := by
  obtain ⟨sv, wv, hv, ss, hs, hr⟩ := h
  obtain ⟨c0, c1, c2, c3, c4, c5, c6, fz⟩ := hr.cells
  have hR : Ref ((w.setCell ⟨m, 4, none⟩ (.int .i64 ((count : Int) + 1))).setCell ⟨m, 5, none⟩ (.int .i64 ((armed : Int) + 1))) Y m n safe log (count + 1) power (armed + 1) k := ⟨sv, wv, hv, ss, hs, (hr.set 4 _).set 5 _⟩
  have hst : Step Y Y w ((w.setCell ⟨m, 4, none⟩ (.int .i64 ((count : Int) + 1))).setCell ⟨m, 5, none⟩ (.int .i64 ((armed : Int) + 1))) := ((Step.refl Y w).set hr.hm _).set hr.hm _
  have c5' : w.cell? ⟨m, 5, none⟩ = some (.int .i64 ((armed : Int) + 2)) := c5
  clear c5
  have h0 : ¬ ((armed : Int) + 2 = 0) := by omega
  have e1 : (armed : Int) + 2 - 1 = (armed : Int) + 1 := by omega
  go_enter Try.func29, Try.ntmps29
  go_wp2
  go_ret
  exact ⟨rfl, hR, hst⟩
theorem opr1 (w : World) (Y : Nat → Prop) (m n : Nat) (safe : List UInt8) (log : List (Nat × List UInt8)) (count : Nat) (k : Int) (hc : count ≤ 1000000) (hk : -9223372036854775808 ≤ k) (hk' : k < 9223372036854775808) (hP : safe.length = n * 256) (hlog : LogOk n log) (hll : log.length ≤ 1000) (h : Ref w Y m n safe log count true 1 k) :
    Calls Try.prog 29 #[.pointer (some ⟨m, 0, none⟩)] w fun e w' => ∃ Y', e = .returned (.bool true) ∧ Ref w' Y' m n (partAll safe k.toNat log) [] (count + 1) false 0 k ∧ Step Y Y' w w' := by
  obtain ⟨sv, wv, hv, ss, hs, hr⟩ := h
  obtain ⟨c0, c1, c2, c3, c4, c5, c6, fz⟩ := hr.cells
  have hR : Ref ((w.setCell ⟨m, 4, none⟩ (.int .i64 ((count : Int) + 1))).setCell ⟨m, 5, none⟩ (.int .i64 0)) Y m n safe log (count + 1) true 0 k := ⟨sv, wv, hv, ss, hs, (hr.set 4 _).set 5 _⟩
  have hst : Step Y Y w ((w.setCell ⟨m, 4, none⟩ (.int .i64 ((count : Int) + 1))).setCell ⟨m, 5, none⟩ (.int .i64 0)) := ((Step.refl Y w).set hr.hm _).set hr.hm _
  have N20 := off_ref _ Y m n safe log (count + 1) 0 k k hk hk' hP hlog hll hR
  have c5' : w.cell? ⟨m, 5, none⟩ = some (.int .i64 1) := c5
  clear c5
  go_enter Try.func29, Try.ntmps29
  go_wp2_with (go_at_call 20; refine N20.mono ?_; rintro e w2 ⟨Y2, rfl, hr2, hs2⟩)
  go_ret
  exact ⟨Y2, rfl, hr2, hst.trans hs2⟩

/-- The last write to a page. -/
theorem look_last (n : Nat) (P : List UInt8) (hP : P.length = n * 256) (at' : Nat) (ha : at' < n) (log : List (Nat × List UInt8)) (hl : LogOk n log) (j : Nat) (hj : j < log.length) :
    pageOf (appAll P (log.take (j + 1))) at' = if log[j].1 = at' then log[j].2 else pageOf (appAll P (log.take j)) at' := by
  obtain ⟨h1, h2⟩ := hl log[j] (List.getElem_mem hj)
  have hpl := appAll_length n (log.take j) P hP (fun x hx => hl x (List.mem_of_mem_take hx))
  rw [List.take_succ_eq_append_getElem hj, appAll_snoc, pageOf_splice _ n _ _ _ hpl h1 ha (by omega)]
  by_cases e : log[j].1 = at'
  · rw [if_pos e.symm, if_pos e, List.drop_eq_nil_of_le (by rw [pageOf_length _ n _ hpl h1, h2]; exact Nat.le_refl _), List.append_nil]
  · rw [if_neg (Ne.symm e), if_neg e]

set_option maxRecDepth 100000 in
set_option maxHeartbeats 1000000 in
theorem look_ref (w : World) (Y : Nat → Prop) (m n : Nat) (safe : List UInt8) (log : List (Nat × List UInt8)) (count : Nat) (power : Bool) (armed : Nat) (k : Int) (i : Nat) (hi : i < n) (hP : safe.length = n * 256) (hlog : LogOk n log) (hll : log.length ≤ 1000) (h : Ref w Y m n safe log count power armed k) :
    Calls Try.prog 30 #[.pointer (some ⟨m, 0, none⟩), .int .i64 i] w fun e w' => ∃ v, e = .returned v ∧ PgAt w Y v (pageOf (appAll safe log) i) ∧ w' = w := by
  obtain ⟨sv, wv, hv, ss, hs, hr⟩ := h
  obtain ⟨c0, c1, c2, c3, c4, c5, c6, fz⟩ := hr.cells
  obtain ⟨sa, scap, rfl, gs⟩ := row_cells hr.bs
  obtain ⟨wa, wcap, rfl, gw⟩ := row_cells hr.bw
  obtain ⟨ha, hcap, rfl, gh⟩ := row_cells hr.bh
  obtain ⟨pv, eps, hpg⟩ := hr.ps i hi
  obtain ⟨sb, rfl, cs, fs⟩ := gs i _ eps
  have i0 : (0 : Int) ≤ (i : Int) := by omega
  have i1 : (i : Int) < (n : Int) := by omega
  have HP : Hid (safe.length = n * 256) := hP
  have HL : Hid (LogOk n log) := hlog
  have HPG : Hid (PgAt w Y pv (pageOf safe i)) := hpg
  have HR : Hid (RefR w Y m n _ _ _ _ ss hs safe log) := hr
  have GW : Hid (∀ i u, (log.map fun x => Value.int .i64 (x.1 : Int))[i]? = some u → ∃ g, wa = some ⟨g, 0, none⟩ ∧ w.cell? ⟨g, i, none⟩ = some u ∧ w.frozen? ⟨g, i, none⟩ = false) := gw
  have GH : Hid (∀ i u, hs[i]? = some u → ∃ g, ha = some ⟨g, 0, none⟩ ∧ w.cell? ⟨g, i, none⟩ = some u ∧ w.frozen? ⟨g, i, none⟩ = false) := gh
  clear hP hlog gs gw gh eps hpg hr
  go_enter Try.func30, Try.ntmps30
  go_wp2
  go_loop [5, 19] (fun pv jj => ∃ j : Nat, j ≤ log.length ∧ jj = .int .i64 j ∧ Hid (PgAt w Y pv (pageOf (appAll safe (log.take j)) i))) (fun _ jj => log.length - (RowKit.intOf jj).toNat)
  case atStart => exact ⟨0, Nat.zero_le _, rfl, HPG⟩
  case round =>
    rename_i pv1 _ _
    obtain ⟨j, hj, rfl, hpj⟩ := hrel
    by_cases hlt : j < log.length
    · have HLL : Hid (_ = _) := look_last n safe HP.out i hi log HL.out j hlt
      obtain ⟨wb, rfl, cw, -⟩ := GW.out j (.int .i64 (log[j].1 : Int)) (by simp [List.getElem?_eq_getElem hlt])
      obtain ⟨hvv, eh, hph⟩ := HR.out.ph j _ (List.getElem?_eq_getElem hlt)
      obtain ⟨hb, rfl, ch, -⟩ := GH.out j _ eh
      have j0 : (0 : Int) ≤ (j : Int) := by omega
      have j1 : (j : Int) < (log.length : Int) := by omega
      have HPH : Hid (PgAt w Y hvv log[j].2) := hph
      clear eh hph
      by_cases e : log[j].1 = i
      · rw [if_pos e] at HLL
        rw [e] at cw
        generalize log[j].2 = what at *
        clear e
        go_wp2
        go_round
        case rel => exact ⟨j + 1, hlt, by go_num, by rw [HLL.out]; exact HPH.out⟩
        case measure => simp [RowKit.intOf]; omega
      · rw [if_neg e] at HLL
        have e' : ¬ ((log[j].1 : Int) = (i : Int)) := by omega
        generalize log[j].1 = A at *
        clear e
        go_wp2
        go_round
        case rel => exact ⟨j + 1, hlt, by go_num, by rw [HLL.out]; exact hpj.out⟩
        case measure => simp [RowKit.intOf]; omega
    · have ej : log.take j = log := List.take_of_length_le (by omega)
      rw [ej] at hpj
      clear ej
      go_wp2
      go_ret
      exact ⟨_, rfl, hpj.out, rfl⟩

theorem read_ref_bad (w : World) (Y : Nat → Prop) (m n : Nat) (safe : List UInt8) (log : List (Nat × List UInt8)) (count : Nat) (power : Bool) (armed : Nat) (k a : Int) (S : DS) (hS : S.down = !power) (hb : S.readCode n a ≠ 0) (h : Ref w Y m n safe log count power armed k) :
    Calls Try.prog 18 #[.pointer (some ⟨m, 0, none⟩), .int .i64 a] w fun e w' => e = .returned (.tuple #[.slice none 0 0, .int .i64 (S.readCode n a)]) ∧ w' = w := by
  obtain ⟨sv, wv, hv, ss, hs, hr⟩ := h
  obtain ⟨c0, c1, c2, c3, c4, c5, c6, fz⟩ := hr.cells
  obtain ⟨sa, scap, rfl, -⟩ := row_cells hr.bs
  unfold DS.readCode at hb ⊢
  by_cases h0 : 0 ≤ a
  · by_cases h1 : a < n
    · rw [if_pos ⟨h0, h1⟩] at hb ⊢
      have hp : power = false := by
        cases power
        · rfl
        · simp [hS] at hb
      subst hp
      rw [if_pos (by simpa using hS)]
      clear hb
      have h0' : ¬ a < 0 := by omega
      have h1' : ¬ (n : Int) ≤ a := by omega
      go_enter Try.func18, Try.ntmps18
      go_wp2
      go_ret2
      exact ⟨rfl, rfl⟩
    · rw [if_neg (fun h => h1 h.2)]
      have h0' : ¬ a < 0 := by omega
      have h1' : (n : Int) ≤ a := by omega
      clear hb
      go_enter Try.func18, Try.ntmps18
      go_wp2
      go_ret2
      exact ⟨rfl, rfl⟩
  · rw [if_neg (fun h => h0 h.1)]
    have h0' : a < 0 := by omega
    clear hb
    go_enter Try.func18, Try.ntmps18
    go_wp2
    go_ret2
    exact ⟨rfl, rfl⟩

set_option maxRecDepth 100000 in
set_option maxHeartbeats 1000000 in
theorem read_ref_ok (w : World) (Y : Nat → Prop) (m n : Nat) (safe : List UInt8) (log : List (Nat × List UInt8)) (count : Nat) (armed : Nat) (k : Int) (i : Nat) (hi : i < n) (hP : safe.length = n * 256) (hlog : LogOk n log) (hll : log.length ≤ 1000) (h : Ref w Y m n safe log count true armed k) :
    Calls Try.prog 18 #[.pointer (some ⟨m, 0, none⟩), .int .i64 i] w fun e w' => ∃ g c, e = .returned (.tuple #[.slice (some ⟨g, 0, none⟩) 256 c, .int .i64 0]) ∧ w'.rangeAt g 0 (byteCells (pageOf (appAll safe log) i)) ∧ Below w.heap.size w w' := by
  have hb0 : Below w.heap.size w (w.alloc (.cells #[] 5)) := (Below.refl _ _).alloc (Nat.le_refl _) _
  have hR2 : Ref (w.alloc (.cells #[] 5)) Y m n safe log count true armed k := by
    obtain ⟨sv, wv, hv, ss, hs, hr⟩ := h
    exact ⟨sv, wv, hv, ss, hs, hr.on (Step.of_below (X := fun _ => False) hb0) (fun _ _ h => h)⟩
  have N30 := look_ref _ Y m n safe log count true armed k i hi hP hlog hll hR2
  have HPL : Hid ((pageOf (appAll safe log) i).length = 256) := pageOf_length _ n _ (appAll_length n log safe hP hlog) hi
  obtain ⟨sv, wv, hv, ss, hs, hr⟩ := h
  obtain ⟨c0, c1, c2, c3, c4, c5, c6, fz⟩ := hr.cells
  obtain ⟨sa, scap, rfl, -⟩ := row_cells hr.bs
  have h0' : ¬ (i : Int) < 0 := by omega
  have h1' : ¬ (n : Int) ≤ (i : Int) := by omega
  have HB0 : Hid (Below w.heap.size w (w.alloc (.cells #[] 5))) := hb0
  clear hr hb0 hR2
  generalize pageOf (appAll safe log) i = pg at *
  obtain ⟨i0, hi5, hz0, hz1, hz2⟩ := info_parts info5
  have HI : Hid (Try.prog.info? 5 = some i0 ∧ i0.zero = some (.int .u8 0) ∧ i0.size = 1 ∧ i0.bytes = 1) := ⟨hi5, hz0, hz1, hz2⟩
  clear hi5 hz0 hz1 hz2
  go_enter Try.func18, Try.ntmps18
  go_wp2_with (go_at_call 30; refine N30.mono ?_; rintro e w3 ⟨v3, rfl, hpg, rfl⟩; obtain ⟨b, c, rfl, hrg⟩ := hpg.range)
  refine wp_append_lies _ (.tmp 22) (.tmp 25) 37 rfl w.heap.size 5 i0 (.int .u8 0) 1 1 Try.underlying37 HI.out.1 HI.out.2.1 HI.out.2.2.1 HI.out.2.2.2 rfl (by omega) (.slice (some ⟨w.heap.size, 0, none⟩) 0 0) 0 [] rfl ⟨rfl, .inr ⟨w.heap.size, 0, #[], rfl, Nat.le_refl _, heap_alloc_new w _, Nat.le_refl _, Nat.zero_le _, rfl, rfl⟩⟩ ⟨b, 0, none⟩ 256 c (byteCells pg) rfl (by rw [byteCells_length, HPL.out]) (fun j u hj => by rw [Addr.add_mid]; exact hrg j u hj) (fun u hu => by obtain ⟨y, _, rfl⟩ := List.mem_map.1 hu; rfl) (by omega) (by unfold maxLen; omega) (by omega) HB0.out.size _ rfl ?_
  intro g1 cap w1 hown hgrow hat hlt
  have HX : Hid (w1.rangeAt g1 0 (byteCells pg)) := by
    rcases hown.2 with ⟨e, _⟩ | ⟨g', cap', cur, e, hb, hg, hn, hmx, hsz, ht⟩
    · cases e
    · cases e
      intro j u hj
      have hjl := (List.getElem?_eq_some_iff.1 hj).1
      rw [byteCells_length, HPL.out] at hjl
      rw [Nat.zero_add, cell_of_row _ _ _ _ _ _ hg, ← hj]
      rw [List.nil_append] at ht
      rw [← ht, List.getElem?_take_of_lt (by omega), Array.getElem?_toList]
  have HY : Hid (Below w.heap.size w w1) := HB0.out.grown hgrow HB0.out.size (fun k hk => by cases hk; exact Nat.le_refl _)
  clear hown hgrow hat hlt
  go_wp2_with fail
  go_ret2
  exact ⟨g1, cap, rfl, HX.out, HY.out⟩

theorem flush_ref_down (w : World) (Y : Nat → Prop) (m n : Nat) (safe : List UInt8) (log : List (Nat × List UInt8)) (count : Nat) (armed : Nat) (k : Int) (h : Ref w Y m n safe log count false armed k) :
    Calls Try.prog 16 #[.pointer (some ⟨m, 0, none⟩)] w fun e w' => e = .returned (.int .i64 20) ∧ w' = w := by
  obtain ⟨sv, wv, hv, ss, hs, hr⟩ := h
  obtain ⟨c0, c1, c2, c3, c4, c5, c6, fz⟩ := hr.cells
  go_enter Try.func16, Try.ntmps16
  go_wp2
  go_ret
  exact ⟨rfl, rfl⟩
theorem flush_ref1 (w : World) (Y : Nat → Prop) (m n : Nat) (safe : List UInt8) (log : List (Nat × List UInt8)) (count : Nat) (k : Int) (hc : count ≤ 1000000) (hk : -9223372036854775808 ≤ k) (hk' : k < 9223372036854775808) (hP : safe.length = n * 256) (hlog : LogOk n log) (hll : log.length ≤ 1000) (h : Ref w Y m n safe log count true 1 k) :
    Calls Try.prog 16 #[.pointer (some ⟨m, 0, none⟩)] w fun e w' => ∃ Y', e = .returned (.int .i64 20) ∧ Ref w' Y' m n (partAll safe k.toNat log) [] (count + 1) false 0 k ∧ Step Y Y' w w' := by
  have N29 := opr1 w Y m n safe log count k hc hk hk' hP hlog hll h
  obtain ⟨sv, wv, hv, ss, hs, hr⟩ := h
  obtain ⟨c0, c1, c2, c3, c4, c5, c6, fz⟩ := hr.cells
  go_enter Try.func16, Try.ntmps16
  go_wp2_with (go_at_call 29; refine N29.mono ?_; rintro e w2 ⟨Y2, rfl, hr2, hs2⟩)
  go_ret
  exact ⟨Y2, rfl, hr2, hs2⟩
set_option maxRecDepth 100000 in
set_option maxHeartbeats 1000000 in
theorem flush_ref (w : World) (Y : Nat → Prop) (m n : Nat) (safe : List UInt8) (log : List (Nat × List UInt8)) (count : Nat) (armed armed2 : Nat) (k : Int) (hP : safe.length = n * 256) (hlog : LogOk n log) (hll : log.length ≤ 1000) (h : Ref w Y m n safe log count true armed k)
    (N29 : Calls Try.prog 29 #[.pointer (some ⟨m, 0, none⟩)] w fun e w' => e = .returned (.bool false) ∧ Ref w' Y m n safe log (count + 1) true armed2 k ∧ Step Y Y w w') :
    Calls Try.prog 16 #[.pointer (some ⟨m, 0, none⟩)] w fun e w' => e = .returned (.int .i64 0) ∧ Ref w' Y m n (appAll safe log) [] (count + 1) true armed2 k ∧ Step Y Y w w' := by
  obtain ⟨sv, wv, hv, ss, hs, hr⟩ := h
  obtain ⟨c0, c1, c2, c3, c4, c5, c6, fz⟩ := hr.cells
  have HP : Hid (safe.length = n * 256) := hP
  have HL : Hid (LogOk n log) := hlog
  clear hP hlog hr
  go_enter Try.func16, Try.ntmps16
  go_wp2_with (go_at_call 29; refine N29.mono ?_; rintro e w2 ⟨rfl, ⟨sv2, wv2, hv2, ss2, hs2, hr2⟩, hst2⟩; obtain ⟨sa, scap, rfl, -⟩ := row_cells hr2.bs; obtain ⟨wa, wcap, rfl, -⟩ := row_cells hr2.bw; obtain ⟨ha, hcap, rfl, -⟩ := row_cells hr2.bh; obtain ⟨d0, d1, d2, d3, d4, d5, d6, dz⟩ := hr2.cells)
  clear c0 c1 c2 c3 c4 c5 c6 fz N29
  go_loopw [18] (fun i wr => ∃ (j : Nat) (ss' : List Value), j ≤ log.length ∧ i = .int .i64 j ∧ Hid (RefR wr Y m n (refC (.slice sa n scap) (.slice wa log.length wcap) (.slice ha log.length hcap) true ((count + 1 : Nat) : Int) armed2 k) (.slice sa n scap) (.slice wa log.length wcap) (.slice ha log.length hcap) ss' hs2 (appAll safe (log.take j)) log) ∧ Hid (Step Y Y w wr)) (fun i _ => log.length - (RowKit.intOf i).toNat)
  case atStart => exact ⟨0, ss2, Nat.zero_le _, rfl, hr2, hst2⟩
  case round =>
    clear hr2 hst2 d0 d1 d2 d3 d4 d5 d6 dz
    obtain ⟨j, ss', hj, rfl, HR, HS⟩ := hrel
    obtain ⟨k0, k1, k2, k3, k4, k5, k6, kz⟩ := HR.out.cells
    by_cases hlt : j < log.length
    · obtain ⟨hx1, hx2⟩ := HL.out (log[j]) (List.getElem_mem hlt)
      obtain ⟨wa', wcap', e, gw⟩ := row_cells HR.out.bw
      cases e
      obtain ⟨wb, rfl, cw, -⟩ := gw j (.int .i64 (log[j].1 : Int)) (by simp [List.getElem?_eq_getElem hlt])
      obtain ⟨pv, eps, hpg⟩ := HR.out.ps log[j].1 hx1
      obtain ⟨sa', scap', e, gs⟩ := row_cells HR.out.bs
      cases e
      obtain ⟨sb, rfl, cs, fs⟩ := gs log[j].1 _ eps
      obtain ⟨hvv, eh, hph⟩ := HR.out.ph j _ (List.getElem?_eq_getElem hlt)
      obtain ⟨qb, qc, rfl, -⟩ := hph.range
      obtain ⟨ha', hcap', e, gh⟩ := row_cells HR.out.bh
      cases e
      obtain ⟨hb, rfl, ch, -⟩ := gh j _ eh
      have HLY : Hid (∃ ss2, RefR (wr.setCell ⟨sb, log[j].1, none⟩ (.slice (some ⟨qb, 0, none⟩) 256 qc)) Y m n (refC (.slice (some ⟨sb, 0, none⟩) n scap) (.slice (some ⟨wb, 0, none⟩) log.length wcap) (.slice (some ⟨hb, 0, none⟩) log.length hcap) true ((count + 1 : Nat) : Int) armed2 k) (.slice (some ⟨sb, 0, none⟩) n scap) (.slice (some ⟨wb, 0, none⟩) log.length wcap) (.slice (some ⟨hb, 0, none⟩) log.length hcap) ss2 hs2 (appAll safe (log.take (j + 1))) log) := by
        refine HR.out.lay log[j].1 hx1 (.slice (some ⟨qb, 0, none⟩) 256 qc) (appAll safe (log.take (j + 1))) sb scap rfl ?_ ?_
        · rw [look_last n safe HP.out _ hx1 log HL.out j hlt, if_pos rfl]
          exact hph
        · intro i hi hne
          rw [look_last n safe HP.out i hi log HL.out j hlt, if_neg (Ne.symm hne)]
      have hS37 := own_ne HR.out.bs rfl
      have hW3 := own_ne HR.out.bw rfl
      have hH37 : sb ≠ hb := fun e => HR.out.ne sb rfl (by rw [e]; rfl)
      have HNM : Hid (sb ≠ m) := by obtain ⟨c, hc⟩ := hS37; exact ne_type hc HR.out.b0 (by decide)
      have HNW : Hid (sb ≠ wb) := by obtain ⟨c, hc⟩ := hS37; obtain ⟨c', hc'⟩ := hW3; exact ne_type hc hc' (by decide)
      have HNH : Hid (sb ≠ hb) := hH37
      have HYS : Hid (Y sb) := HR.out.ys sb rfl
      clear gw gs gh eps hpg eh hph hS37 hW3 hH37
      generalize hAe : log[j].1 = A at *
      clear hAe hx2
      have j0 : (0 : Int) ≤ (j : Int) := by omega
      have j1 : (j : Int) < (log.length : Int) := by omega
      have a0 : (0 : Int) ≤ (A : Int) := by omega
      have a1 : (A : Int) < (n : Int) := by omega
      have HK : Hid (∀ v, (wr.setCell ⟨sb, A, none⟩ v).cell? ⟨m, 0, none⟩ = some (.slice (some ⟨sb, 0, none⟩) n scap) ∧ (wr.setCell ⟨sb, A, none⟩ v).cell? ⟨m, 1, none⟩ = some (.slice (some ⟨wb, 0, none⟩) log.length wcap) ∧ (wr.setCell ⟨sb, A, none⟩ v).cell? ⟨m, 2, none⟩ = some (.slice (some ⟨hb, 0, none⟩) log.length hcap) ∧ (wr.setCell ⟨sb, A, none⟩ v).cell? ⟨wb, j, none⟩ = some (.int .i64 (A : Int)) ∧ (wr.setCell ⟨sb, A, none⟩ v).cell? ⟨hb, j, none⟩ = some (.slice (some ⟨qb, 0, none⟩) 256 qc)) := fun v =>
        ⟨(World.cell?_setCell_other _ _ _ _ (fun e => HNM.out (Addr.mk.inj e).1)).trans k0, (World.cell?_setCell_other _ _ _ _ (fun e => HNM.out (Addr.mk.inj e).1)).trans k1, (World.cell?_setCell_other _ _ _ _ (fun e => HNM.out (Addr.mk.inj e).1)).trans k2, (World.cell?_setCell_other _ _ _ _ (fun e => HNW.out (Addr.mk.inj e).1)).trans cw, (World.cell?_setCell_other _ _ _ _ (fun e => HNH.out (Addr.mk.inj e).1)).trans ch⟩
      go_upto_region 6 with fail
      go_region_held3 (fun w' => w'.cell? ⟨m, 0, none⟩ = some (.slice (some ⟨sb, 0, none⟩) n scap) ∧ w'.cell? ⟨m, 1, none⟩ = some (.slice (some ⟨wb, 0, none⟩) log.length wcap) ∧ w'.cell? ⟨m, 2, none⟩ = some (.slice (some ⟨hb, 0, none⟩) log.length hcap) ∧ w'.cell? ⟨wb, j, none⟩ = some (.int .i64 (A : Int)) ∧ w'.cell? ⟨hb, j, none⟩ = some (.slice (some ⟨qb, 0, none⟩) 256 qc)) (first | exact ⟨k0, k1, k2, cw, ch⟩ | exact HK.out _) (fail)
      go_wp2_with fail
      go_roundw
      case rel =>
        obtain ⟨ss3, hl3⟩ := HLY.out
        exact ⟨j + 1, ss3, hlt, by go_num, hl3.drew, (HS.out.set HYS.out _).drew⟩
      case measure => simp [RowKit.intOf]; omega
    · have hje : log.take j = log := List.take_of_length_le (by omega)
      rw [hje] at HR
      go_wp2_with fail
      go_ret
      exact ⟨rfl, ⟨_, _, _, ss', [], (((HR.out.set 1 _).set 2 _).free)⟩, (HS.out.set HR.out.hm _).set HR.out.hm _⟩
end Go.Proofs.Ytgbgeoplbmjcbaa
