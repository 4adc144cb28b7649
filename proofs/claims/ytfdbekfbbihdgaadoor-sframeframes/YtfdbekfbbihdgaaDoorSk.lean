
/- A frame that is read of bytes, where its head can be. Conditions: those that each row states. -/
import Derived.Test.YtfdbekfbbihdgaaDoorSj
namespace Go.Proofs.YtfdbekfbbihdgaaDoor
open Go.RowKit Go.Lib
set_option maxRecDepth 100000
set_option linter.unusedSimpArgs false

set_option maxHeartbeats 4000000 in
theorem frame_good (w : World) (b B : Nat) (s : Bs) (hr : Cr w b s) (hb : b < w.heap.size) (hs : s.length ≤ 100000000) (hV : Vars B w) (hB : B ≤ b) (c : Bs) (ls : List Bs) (r : Bs) (hh : headA [] [] s = some (c :: ls, r)) (hic : isCmd c = true) (h32 : ls.length ≤ 32) :
    Calls Tryd.prog 37 #[.pointer (some ⟨b, 0, none⟩)] w fun e w' => FrameP w b (readL s) e w' := by
  have hR : readL s = (match hdrsL (bare c) ls with
      | none => .error 40
      | some H => match bodyL H r with
        | .error e => .error e
        | .ok (b, r') => .ok (⟨c, H, b⟩, r')) := by
    unfold readL
    rw [hh]
    simp only []
    rw [if_pos ⟨hic, h32⟩]
    rfl
  have hz : decide ((ls.length : Int) ≤ 32) = true := decide_eq_true (by omega)
  obtain ⟨R, hRR⟩ : ∃ R, readL s = R := ⟨_, rfl⟩
  have HR : Hid (R = (match hdrsL (bare c) ls with
      | none => .error 40
      | some H => match bodyL H r with
        | .error e => .error e
        | .ok (b, r') => .ok (⟨c, H, b⟩, r'))) := by rw [← hRR]; exact hR
  rw [hRR]
  clear hR hRR
  have kQ := Blk.new w FR 24
  have hb0 := below_new w (.cells FR 24)
  have HD := head_any (w.alloc (.cells FR 24)) b s (hr.on hb0 hb) (by simp; omega) hs
  have hll : Hid (∀ l ∈ c :: ls, l.length ≤ 100000000) := fun l hl => by
    rcases headA_lens _ _ _ hh l hl with h | h
    · cases h
    · simp at h; omega
  have hrl := headA_left _ _ _ hh
  rw [hh] at HD
  go_enter Tryd.func37, Tryd.ntmps37
  go_upto_region 1 with fail
  generalize w.alloc (.cells FR 24) = w0 at *
  have hs0 := hb0.size
  have hq0 := kQ.lt
  go_wp2_with fail
  refine HD.mono ?_
  rintro e w1 ⟨hA, ⟨L', r', v, h1, rfl, ho, hc, hlen⟩ | ⟨h1, rfl⟩⟩
  · injection h1 with h1
    injection h1 with h1 h2
    subst h1 h2
    have hA1 : Alb w.heap.size w w1 b := (Alb.below hb0).trans ⟨hA.os, hA.tape, hA.output, hA.size, fun k hk => hA.block k (by omega)⟩
    have kQ1 := kQ.alb hA (by omega)
    have hw1 := hA1.size
    have hrd := ho.rd
    clear HD ho hh hr kQ
    obtain ⟨g1, o, cp, rfl, hcp, hcell⟩ : ∃ g1 o cp, v = .slice (some ⟨g1, o, none⟩) (c :: ls).length cp ∧ (c :: ls).length ≤ cp ∧ ∀ i (h : i < (c :: ls).length), w1.cell? ⟨g1, o + i, none⟩ = some (str (c :: ls)[i]) := by
      rcases hrd with ⟨_, h⟩ | ⟨g1, o, cp, h1, h2, h3⟩
      · cases h
      · exact ⟨g1, o, cp, h1, h2, h3⟩
    have hwz : wrap64 (ls.length : Int) = (ls.length : Int) := by unfold wrap64; omega
    have hcH : Hid (∀ i (h : i < (c :: ls).length), w1.cell? ⟨g1, o + i, none⟩ = some (str (c :: ls)[i])) := hcell
    have c0 := hcell 0 (by simp)
    simp only [Nat.add_zero, List.getElem_cons_zero] at c0
    have HC := fun w => iscmd_any w c (by have := hll.out c (by simp); omega)
    rw [hic] at HC
    have KC := fun w => clone_any w c (by have := hll.out c (by simp); omega)
    have HX : Hid (ls.length ≤ 32 ∧ (c :: ls).length ≤ s.length ∧ (c :: ls).length ≤ cp ∧ w.heap.size < w0.heap.size ∧ w.heap.size ≤ w0.heap.size ∧ w.heap.size ≤ w1.heap.size ∧ r.length < s.length) := ⟨h32, hlen, hcp, hq0, hs0, hw1, hrl⟩
    clear hcell hrd h32 hlen hcp hq0 hs0 hw1 hrl
    go_wp2_with fail
    refine (HC _).mono ?_
    rintro e w2 ⟨rfl, b2⟩
    have c02 : w2.cell? ⟨g1, o, none⟩ = some (str c) := by rw [b2.cell (p := ⟨g1, o, none⟩) (World.block_lt_of_cell? w1 _ c0)]; exact c0
    go_wp2_with fail
    refine (insist_ok _ _).mono ?_
    rintro e w2 ⟨rfl, rfl⟩
    clear hz hwz
    obtain ⟨h32, hlen, hcp, hq0, hs0, hw1, hrl⟩ := HX.out
    clear HX
    go_wp2_with fail
    refine (KC _).mono ?_
    rintro e w3 ⟨rfl, b3⟩
    have b13 := b2.trans (b3.mono b2.size)
    have hs13 := b13.size
    have hA3 := hA1.trans (.below (b13.mono hw1))
    have kQ3 := (kQ1.on b13)
    have hc3 := hc.on b13 (by omega)
    have hL3 : Hid (∀ i (h : i < ls.length), w3.cell? ⟨g1, o + 1 + i, none⟩ = some (str ls[i])) := fun i h => by
      have := hcH.out (i + 1) (by simp; omega)
      simp only [List.getElem_cons_succ] at this
      rw [b13.cell (p := ⟨g1, o + 1 + i, none⟩) (World.block_lt_of_cell? w1 ⟨g1, o + 1 + i, none⟩ (by rw [show o + 1 + i = o + (i + 1) by omega]; exact this)), show o + 1 + i = o + (i + 1) by omega]
      exact this
    clear hcH c0 c02 HC KC b2 b3 kQ1 hc hA
    have kF := Blk.new w3 #[str c, .slice none 0 0, str []] 24
    have hb4 := below_new w3 (.cells #[str c, .slice none 0 0, str []] 24)
    go_upto_region 4 with fail
    generalize w3.alloc (.cells #[str c, .slice none 0 0, str []] 24) = w4 at *
    have hq4 := kF.lt
    have hs3 := hA3.size
    have hq3 := kQ3.lt
    go_wp2_with fail
    · go_loopw [33] (fun i wr => ∃ (k : Nat) (hv : Value) (out : List Hd), k ≤ ls.length ∧ i = .int .i64 k ∧ out.length = k ∧ Blk wr w3.heap.size #[str c, hv, str []] 24 ∧ OwnH wr (w3.heap.size + 1) hv out ∧ Below w3.heap.size w3 wr ∧ Hid (hdrsL (bare c) ls = uponH out (hdrsL (bare c) (ls.drop k)))) (fun i _ => ls.length - (RowKit.intOf i).toNat)
      case atStart => exact ⟨0, _, [], Nat.zero_le _, rfl, rfl, kF, OwnH.nil _ _, hb4, by show _ = _; simp [uponH]⟩
      case round =>
        clear kF hb4
        obtain ⟨k, hv, out, hk, rfl, hol, kr, hor, hbr, hH⟩ := hrel
        have hqr := kr.lt
        by_cases hlt : k < ls.length
        · exact absurd hlt (by simp at hcp; omega)
        · obtain rfl : k = ls.length := by omega
          have hHs : hdrsL (bare c) ls = some out := by rw [hH.out, List.drop_length]; simp [uponH, hdrsL]
          have hf := HR.out
          rw [hHs] at hf
          simp only [] at hf
          have htl : ∀ h ∈ out, h.2.length ≤ 100000000 := fun h hh => by
            obtain ⟨l, h1, h2⟩ := (hdrsL_mem hHs).2 h hh
            have := (hdrL_len h2).1
            have := hll.out l (by simp [h1])
            omega
          have BV : Below B w wr := ⟨hbr.os.trans hA3.os, hbr.tape.trans hA3.tape, hbr.output.trans hA3.output, Nat.le_trans hA3.size hbr.size, fun k hk => (hbr.block k (by omega)).trans (hA3.block k (by omega) (by omega))⟩
          have BD := body_any wr b B r c [] hv out (hc3.on hbr (by omega)) (by omega) (by omega) (hV.on BV) hB hor.rd (by omega) htl
          have kQr := kQ3.below hbr (by omega)
          have d0 := kr.cell 0
          have d1 := kr.cell 1
          have d2 := kr.cell 2
          simp only [List.getElem?_toArray, List.getElem?_cons_zero, List.getElem?_cons_succ] at d0 d1 d2
          obtain ⟨ha, hn, hc, rfl⟩ := hor.shape
          have HF : Hid (R = match bodyL out r with
            | .error e => .error e
            | .ok (b, r') => .ok (⟨c, out, b⟩, r')) := hf
          have HA : Hid (Alb w.heap.size w w3 b) := hA3
          clear htl hf hHs hH HR BV hll hL3 hA3 hb0 hA1
          go_wp2_with fail
          refine BD.mono ?_
          rintro e w6 ⟨hA6, ⟨x, r', hR6, rfl, hc6⟩ | ⟨g6, hR6, rfl⟩⟩
          · have k6 := kr.alb hA6 (by omega)
            have kQ6 := kQr.alb hA6 (by omega)
            have ho6 := hor.alb hA6 (by omega)
            have hs6 := hA6.size
            have hf := HF.out
            rw [hR6] at hf
            simp only [] at hf
            clear BD kr kQr hor d0 d1 d2
            go_wp2_with (refine wpl_set rfl (.tmp 51) (.tmp 50) rfl w3.heap.size 2 _ rfl rfl k6 (by kernel_rfl) rfl rfl (by simp) ?_)
            intro W7 k7 g7 s7
            have k7 : Blk W7 w3.heap.size #[str c, .slice ha hn hc, str x] 24 := k7
            have kQ7 := kQ6.grown g7 (by simp; omega)
            have ho7 := ho6.grown g7 (fun k hk => by cases hk; omega)
            have b7 : Below w3.heap.size w6 W7 := (Below.refl _ _).grown g7 (by omega) (fun k hk => by cases hk; omega)
            have hc7 := hc6.on b7 (by omega)
            have d0 := k7.cell 0
            have d1 := k7.cell 1
            have d2 := k7.cell 2
            simp only [List.getElem?_toArray, List.getElem?_cons_zero, List.getElem?_cons_succ] at d0 d1 d2
            go_wp2_with (refine wpl_put rfl (.tmp 2) (.tmp 52) rfl w.heap.size _ rfl rfl kQ7 (by kernel_rfl) rfl (by kernel_rfl) ?_)
            intro W8 k8 g8 s8
            have ho8 := ho7.grown g8 (fun k hk => by cases hk; omega)
            have b8 : Below w.heap.size W7 W8 := (Below.refl _ _).grown g8 (by have := b7.size; omega) (fun k hk => by cases hk; omega)
            have hc8 := hc7.on b8 hb
            go_wp2
            refine ret24 Tryd.results37 k8 rfl rfl ⟨?_, .inl ⟨⟨c, out, x⟩, r', _, hf, rfl, ho8.low (by omega), hc8⟩⟩
            exact (((HA.out.trans (.below (hbr.mono (by omega)))).trans ⟨hA6.os, hA6.tape, hA6.output, hA6.size, fun k hk => hA6.block k (by omega)⟩).trans (.below (b7.mono (by omega)))).trans (.below b8)
          · have hf := HF.out
            rw [hR6] at hf
            simp only [] at hf
            exact ⟨rfl, (HA.out.trans (.below (hbr.mono (by omega)))).trans ⟨hA6.os, hA6.tape, hA6.output, hA6.size, fun k hk => hA6.block k (by omega)⟩, .inr ⟨g6, hf, rfl⟩⟩
    · go_loopw [33] (fun i wr => ∃ (k : Nat) (hv : Value) (out : List Hd), k ≤ ls.length ∧ i = .int .i64 k ∧ out.length = k ∧ Blk wr w3.heap.size #[str c, hv, str []] 24 ∧ OwnH wr (w3.heap.size + 1) hv out ∧ Below w3.heap.size w3 wr ∧ Hid (hdrsL (bare c) ls = uponH out (hdrsL (bare c) (ls.drop k)))) (fun i _ => ls.length - (RowKit.intOf i).toNat)
      case atStart => exact ⟨0, _, [], Nat.zero_le _, rfl, rfl, kF, OwnH.nil _ _, hb4, by show _ = _; simp [uponH]⟩
      case round =>
        clear kF hb4
        obtain ⟨k, hv, out, hk, rfl, hol, kr, hor, hbr, hH⟩ := hrel
        have hqr := kr.lt
        by_cases hlt : k < ls.length
        · have c0 := hL3.out k hlt
          have c0 : wr.cell? ⟨g1, o + 1 + k, none⟩ = some (str ls[k]) := by rw [hbr.cell (p := ⟨g1, o + 1 + k, none⟩) (World.block_lt_of_cell? w3 _ c0)]; exact c0
          have hl := hll.out ls[k] (by simp)
          have HNo : Hid (hdrL (bare c) ls[k] = none → hdrsL (bare c) ls = none) := hdrs_no hlt hH.out
          have HSt : Hid (∀ x, hdrL (bare c) ls[k] = some x → hdrsL (bare c) ls = uponH (out ++ [x]) (hdrsL (bare c) (ls.drop (k + 1)))) := fun x h => hdrs_step hlt hH.out h
          generalize ls[k] = l at *
          have hkz : (k : Int) < (ls.length : Int) := by omega
          go_upto_region 7 with fail
          clear c0
          refine wp_region_held (S := fun W => W.cell? ⟨w3.heap.size, 0, none⟩ = some (str c)) hmix ?_
          show wpAnyH _ _ _ _ _ _ _ _ (World.drew _)
          have k5 : Blk wr.drew w3.heap.size #[str c, hv, str []] 24 := ⟨kr.h⟩
          have hS5 := k5.cell 0
          simp only [List.getElem?_toArray, List.getElem?_cons_zero, List.getElem?_cons_succ] at hS5
          have ho5 := hor.up (Below.refl _ wr).drew
          have B5 : Below w3.heap.size w3 wr.drew := hbr.drew
          clear kr hor hbr hqr hH
          generalize wr.drew = W5 at *
          refine tks [0, 2, 3, 4] [.pointer (some ⟨w3.heap.size, 1, none⟩), str l, .pointer (some ⟨w3.heap.size, 0, none⟩), str c] 7 ?_ hS5 ?_
          · simp only [tkY, tkf]
            refine ⟨.yes ?_, .yes ?_, .yes ?_, .yes ?_, trivial⟩
            all_goals
              intro W' hW'
              go_simp
          simp only [tkA, tkf]
          refine wpAnyH_two (i := 1) (j := 5) (by kernel_rfl) rfl (by rfl) rfl (by rfl) (fun K hK => ?_) (fun K hK => ?_)
          · have d1 := k5.cell 1
            simp only [List.getElem?_toArray, List.getElem?_cons_zero, List.getElem?_cons_succ] at d1
            go_wp2_with fail
            refine hK _ _ hS5 ?_
            clear hK K d1
            refine ak 5 (fun K hK => ?_)
            go_wp2_with (go_at_call 32; refine (isbare_any _ c).mono ?_; rintro e W5 ⟨rfl, rfl⟩)
            refine hK _ _ hS5 ?_
            clear hK K
            refine ak 6 (fun K hK => ?_)
            go_wp2_with fail
            refine (header_any W5 l (bare c) hl).mono ?_
            rintro e W6 ⟨b6, ⟨⟨xn, xt⟩, hx, rfl⟩ | ⟨hx, rfl⟩⟩
            · have hq5 := k5.lt
              have k6 := k5.on b6
              have ho6 := ho5.up b6
              have B6 := B5.trans (b6.mono (by omega))
              have hS6 : W6.cell? ⟨w3.heap.size, 0, none⟩ = some (str c) := by rw [b6.cell (p := ⟨w3.heap.size, 0, none⟩) hq5]; exact hS5
              have hH6 := HSt.out (xn, xt) hx
              have hq6 := k6.lt
              refine hK _ _ hS6 ?_
              clear hK K k5 ho5 B5 hS5 b6 hq5 HSt HNo
              refine ak 7 (fun K hK => ?_)
              go_wp2_with fail
              refine hK _ _ (by rw [World.cell?_alloc_old (h := Nat.ne_of_lt hq6)]; exact hS6) ?_
              clear hK K
              refine ak 8 (fun K hK => ?_)
              refine appH1 (.tmp 38) (.tmp 44) rfl (w3.heap.size + 1) hv out (xn, xt) W6 rfl ho6 rfl (by omega) (by omega) ?_
              intro v8 W8 ho8 b8
              have k8 := k6.below b8 (Nat.lt_succ_self _)
              have B8 := B6.trans (b8.mono (by omega))
              have hS8 : W8.cell? ⟨w3.heap.size, 0, none⟩ = some (str c) := by rw [b8.cell (p := ⟨w3.heap.size, 0, none⟩) (Nat.lt_succ_self _)]; exact hS6
              refine hK _ _ hS8 ?_
              clear hK K k6 ho6 B6 hS6 b8 hq6
              refine ak 9 (fun K hK => ?_)
              go_wp2_with fail
              refine hK _ _ hS8 ?_
              clear hK K
              refine ak 10 (fun K hK => ?_)
              obtain ⟨a8, n8, c8, rfl⟩ := ho8.shape
              refine opw_set (.tmp 46) (.tmp 45) rfl w3.heap.size 1 _ rfl rfl k8 (by kernel_rfl) rfl rfl (by simp) ?_
              intro W10 k10 g10 s10
              have k11 : Blk W10 w3.heap.size #[str c, .slice a8 n8 c8, str []] 24 := k10
              have hq8 := k8.lt
              have B10 := B8.grown g10 (by omega) (fun k hk => by cases hk; omega)
              have ho10 := ho8.grown g10 (fun k hk => by cases hk; omega)
              have hS10 := k11.cell 0
              simp only [List.getElem?_toArray, List.getElem?_cons_zero, List.getElem?_cons_succ] at hS10
              refine hK _ _ hS10 ?_
              clear hK K hS8 k8 B8 ho8 k10 g10 s10 hq8
              refine wpAnyH_done (by kernel_rfl) ?_ _
              go_wp2_with fail
              go_roundw
              case rel => exact ⟨k + 1, _, _, by omega, by go_num, by simp; omega, k11, ho10, B10, hH6⟩
              case measure => simp [RowKit.intOf]; omega
            · have hf := HR.out
              rw [HNo.out hx] at hf
              exact ⟨rfl, (hA3.trans (.below (B5.mono (by omega)))).trans (.below (b6.mono (by have := k5.lt; omega))), .inr ⟨40, hf, rfl⟩⟩
          · go_wp2_with (go_at_call 32; refine (isbare_any _ c).mono ?_; rintro e W5 ⟨rfl, rfl⟩)
            refine hK _ _ hS5 ?_
            clear hK K
            refine wpAnyH_two (i := 1) (j := 6) (by kernel_rfl) rfl (by rfl) rfl (by rfl) (fun K hK => ?_) (fun K hK => ?_)
            · have d1 := k5.cell 1
              simp only [List.getElem?_toArray, List.getElem?_cons_zero, List.getElem?_cons_succ] at d1
              go_wp2_with fail
              refine hK _ _ hS5 ?_
              clear hK K d1
              refine ak 6 (fun K hK => ?_)
              go_wp2_with fail
              refine (header_any W5 l (bare c) hl).mono ?_
              rintro e W6 ⟨b6, ⟨⟨xn, xt⟩, hx, rfl⟩ | ⟨hx, rfl⟩⟩
              · have hq5 := k5.lt
                have k6 := k5.on b6
                have ho6 := ho5.up b6
                have B6 := B5.trans (b6.mono (by omega))
                have hS6 : W6.cell? ⟨w3.heap.size, 0, none⟩ = some (str c) := by rw [b6.cell (p := ⟨w3.heap.size, 0, none⟩) hq5]; exact hS5
                have hH6 := HSt.out (xn, xt) hx
                have hq6 := k6.lt
                refine hK _ _ hS6 ?_
                clear hK K k5 ho5 B5 hS5 b6 hq5 HSt HNo
                refine ak 7 (fun K hK => ?_)
                go_wp2_with fail
                refine hK _ _ (by rw [World.cell?_alloc_old (h := Nat.ne_of_lt hq6)]; exact hS6) ?_
                clear hK K
                refine ak 8 (fun K hK => ?_)
                refine appH1 (.tmp 38) (.tmp 44) rfl (w3.heap.size + 1) hv out (xn, xt) W6 rfl ho6 rfl (by omega) (by omega) ?_
                intro v8 W8 ho8 b8
                have k8 := k6.below b8 (Nat.lt_succ_self _)
                have B8 := B6.trans (b8.mono (by omega))
                have hS8 : W8.cell? ⟨w3.heap.size, 0, none⟩ = some (str c) := by rw [b8.cell (p := ⟨w3.heap.size, 0, none⟩) (Nat.lt_succ_self _)]; exact hS6
                refine hK _ _ hS8 ?_
                clear hK K k6 ho6 B6 hS6 b8 hq6
                refine ak 9 (fun K hK => ?_)
                go_wp2_with fail
                refine hK _ _ hS8 ?_
                clear hK K
                refine ak 10 (fun K hK => ?_)
                obtain ⟨a8, n8, c8, rfl⟩ := ho8.shape
                refine opw_set (.tmp 46) (.tmp 45) rfl w3.heap.size 1 _ rfl rfl k8 (by kernel_rfl) rfl rfl (by simp) ?_
                intro W10 k10 g10 s10
                have k11 : Blk W10 w3.heap.size #[str c, .slice a8 n8 c8, str []] 24 := k10
                have hq8 := k8.lt
                have B10 := B8.grown g10 (by omega) (fun k hk => by cases hk; omega)
                have ho10 := ho8.grown g10 (fun k hk => by cases hk; omega)
                have hS10 := k11.cell 0
                simp only [List.getElem?_toArray, List.getElem?_cons_zero, List.getElem?_cons_succ] at hS10
                refine hK _ _ hS10 ?_
                clear hK K hS8 k8 B8 ho8 k10 g10 s10 hq8
                refine wpAnyH_done (by kernel_rfl) ?_ _
                go_wp2_with fail
                go_roundw
                case rel => exact ⟨k + 1, _, _, by omega, by go_num, by simp; omega, k11, ho10, B10, hH6⟩
                case measure => simp [RowKit.intOf]; omega
              · have hf := HR.out
                rw [HNo.out hx] at hf
                exact ⟨rfl, (hA3.trans (.below (B5.mono (by omega)))).trans (.below (b6.mono (by have := k5.lt; omega))), .inr ⟨40, hf, rfl⟩⟩
            · go_wp2_with fail
              refine (header_any W5 l (bare c) hl).mono ?_
              rintro e W6 ⟨b6, ⟨⟨xn, xt⟩, hx, rfl⟩ | ⟨hx, rfl⟩⟩
              · have hq5 := k5.lt
                have k6 := k5.on b6
                have ho6 := ho5.up b6
                have B6 := B5.trans (b6.mono (by omega))
                have hS6 : W6.cell? ⟨w3.heap.size, 0, none⟩ = some (str c) := by rw [b6.cell (p := ⟨w3.heap.size, 0, none⟩) hq5]; exact hS5
                have hH6 := HSt.out (xn, xt) hx
                have hq6 := k6.lt
                refine hK _ _ hS6 ?_
                clear hK K k5 ho5 B5 hS5 b6 hq5 HSt HNo
                refine wpAnyH_two (i := 1) (j := 7) (by kernel_rfl) rfl (by rfl) rfl (by rfl) (fun K hK => ?_) (fun K hK => ?_)
                · have d1 := k6.cell 1
                  simp only [List.getElem?_toArray, List.getElem?_cons_zero, List.getElem?_cons_succ] at d1
                  go_wp2_with fail
                  refine hK _ _ hS6 ?_
                  clear hK K d1
                  refine ak 7 (fun K hK => ?_)
                  go_wp2_with fail
                  refine hK _ _ (by rw [World.cell?_alloc_old (h := Nat.ne_of_lt hq6)]; exact hS6) ?_
                  clear hK K
                  refine ak 8 (fun K hK => ?_)
                  refine appH1 (.tmp 38) (.tmp 44) rfl (w3.heap.size + 1) hv out (xn, xt) W6 rfl ho6 rfl (by omega) (by omega) ?_
                  intro v8 W8 ho8 b8
                  have k8 := k6.below b8 (Nat.lt_succ_self _)
                  have B8 := B6.trans (b8.mono (by omega))
                  have hS8 : W8.cell? ⟨w3.heap.size, 0, none⟩ = some (str c) := by rw [b8.cell (p := ⟨w3.heap.size, 0, none⟩) (Nat.lt_succ_self _)]; exact hS6
                  refine hK _ _ hS8 ?_
                  clear hK K k6 ho6 B6 hS6 b8 hq6
                  refine ak 9 (fun K hK => ?_)
                  go_wp2_with fail
                  refine hK _ _ hS8 ?_
                  clear hK K
                  refine ak 10 (fun K hK => ?_)
                  obtain ⟨a8, n8, c8, rfl⟩ := ho8.shape
                  refine opw_set (.tmp 46) (.tmp 45) rfl w3.heap.size 1 _ rfl rfl k8 (by kernel_rfl) rfl rfl (by simp) ?_
                  intro W10 k10 g10 s10
                  have k11 : Blk W10 w3.heap.size #[str c, .slice a8 n8 c8, str []] 24 := k10
                  have hq8 := k8.lt
                  have B10 := B8.grown g10 (by omega) (fun k hk => by cases hk; omega)
                  have ho10 := ho8.grown g10 (fun k hk => by cases hk; omega)
                  have hS10 := k11.cell 0
                  simp only [List.getElem?_toArray, List.getElem?_cons_zero, List.getElem?_cons_succ] at hS10
                  refine hK _ _ hS10 ?_
                  clear hK K hS8 k8 B8 ho8 k10 g10 s10 hq8
                  refine wpAnyH_done (by kernel_rfl) ?_ _
                  go_wp2_with fail
                  go_roundw
                  case rel => exact ⟨k + 1, _, _, by omega, by go_num, by simp; omega, k11, ho10, B10, hH6⟩
                  case measure => simp [RowKit.intOf]; omega
                · go_wp2_with fail
                  refine hK _ _ (by rw [World.cell?_alloc_old (h := Nat.ne_of_lt hq6)]; exact hS6) ?_
                  clear hK K
                  refine ak 1 (fun K hK => ?_)
                  have k7 := k6.alloc (.cells (hdA (xn, xt)) 42)
                  have d1 := k7.cell 1
                  simp only [List.getElem?_toArray, List.getElem?_cons_zero, List.getElem?_cons_succ] at d1
                  go_wp2_with fail
                  refine hK _ _ (by rw [World.cell?_alloc_old (h := Nat.ne_of_lt hq6)]; exact hS6) ?_
                  clear hK K d1 k7
                  refine ak 8 (fun K hK => ?_)
                  refine appH1 (.tmp 38) (.tmp 44) rfl (w3.heap.size + 1) hv out (xn, xt) W6 rfl ho6 rfl (by omega) (by omega) ?_
                  intro v8 W8 ho8 b8
                  have k8 := k6.below b8 (Nat.lt_succ_self _)
                  have B8 := B6.trans (b8.mono (by omega))
                  have hS8 : W8.cell? ⟨w3.heap.size, 0, none⟩ = some (str c) := by rw [b8.cell (p := ⟨w3.heap.size, 0, none⟩) (Nat.lt_succ_self _)]; exact hS6
                  refine hK _ _ hS8 ?_
                  clear hK K k6 ho6 B6 hS6 b8 hq6
                  refine ak 9 (fun K hK => ?_)
                  go_wp2_with fail
                  refine hK _ _ hS8 ?_
                  clear hK K
                  refine ak 10 (fun K hK => ?_)
                  obtain ⟨a8, n8, c8, rfl⟩ := ho8.shape
                  refine opw_set (.tmp 46) (.tmp 45) rfl w3.heap.size 1 _ rfl rfl k8 (by kernel_rfl) rfl rfl (by simp) ?_
                  intro W10 k10 g10 s10
                  have k11 : Blk W10 w3.heap.size #[str c, .slice a8 n8 c8, str []] 24 := k10
                  have hq8 := k8.lt
                  have B10 := B8.grown g10 (by omega) (fun k hk => by cases hk; omega)
                  have ho10 := ho8.grown g10 (fun k hk => by cases hk; omega)
                  have hS10 := k11.cell 0
                  simp only [List.getElem?_toArray, List.getElem?_cons_zero, List.getElem?_cons_succ] at hS10
                  refine hK _ _ hS10 ?_
                  clear hK K hS8 k8 B8 ho8 k10 g10 s10 hq8
                  refine wpAnyH_done (by kernel_rfl) ?_ _
                  go_wp2_with fail
                  go_roundw
                  case rel => exact ⟨k + 1, _, _, by omega, by go_num, by simp; omega, k11, ho10, B10, hH6⟩
                  case measure => simp [RowKit.intOf]; omega
              · have hf := HR.out
                rw [HNo.out hx] at hf
                exact ⟨rfl, (hA3.trans (.below (B5.mono (by omega)))).trans (.below (b6.mono (by have := k5.lt; omega))), .inr ⟨40, hf, rfl⟩⟩
        · obtain rfl : k = ls.length := by omega
          have hHs : hdrsL (bare c) ls = some out := by rw [hH.out, List.drop_length]; simp [uponH, hdrsL]
          have hf := HR.out
          rw [hHs] at hf
          simp only [] at hf
          have htl : ∀ h ∈ out, h.2.length ≤ 100000000 := fun h hh => by
            obtain ⟨l, h1, h2⟩ := (hdrsL_mem hHs).2 h hh
            have := (hdrL_len h2).1
            have := hll.out l (by simp [h1])
            omega
          have BV : Below B w wr := ⟨hbr.os.trans hA3.os, hbr.tape.trans hA3.tape, hbr.output.trans hA3.output, Nat.le_trans hA3.size hbr.size, fun k hk => (hbr.block k (by omega)).trans (hA3.block k (by omega) (by omega))⟩
          have BD := body_any wr b B r c [] hv out (hc3.on hbr (by omega)) (by omega) (by omega) (hV.on BV) hB hor.rd (by omega) htl
          have kQr := kQ3.below hbr (by omega)
          have d0 := kr.cell 0
          have d1 := kr.cell 1
          have d2 := kr.cell 2
          simp only [List.getElem?_toArray, List.getElem?_cons_zero, List.getElem?_cons_succ] at d0 d1 d2
          obtain ⟨ha, hn, hc, rfl⟩ := hor.shape
          have HF : Hid (R = match bodyL out r with
            | .error e => .error e
            | .ok (b, r') => .ok (⟨c, out, b⟩, r')) := hf
          have HA : Hid (Alb w.heap.size w w3 b) := hA3
          clear htl hf hHs hH HR BV hll hL3 hA3 hb0 hA1
          go_wp2_with fail
          refine BD.mono ?_
          rintro e w6 ⟨hA6, ⟨x, r', hR6, rfl, hc6⟩ | ⟨g6, hR6, rfl⟩⟩
          · have k6 := kr.alb hA6 (by omega)
            have kQ6 := kQr.alb hA6 (by omega)
            have ho6 := hor.alb hA6 (by omega)
            have hs6 := hA6.size
            have hf := HF.out
            rw [hR6] at hf
            simp only [] at hf
            clear BD kr kQr hor d0 d1 d2
            go_wp2_with (refine wpl_set rfl (.tmp 51) (.tmp 50) rfl w3.heap.size 2 _ rfl rfl k6 (by kernel_rfl) rfl rfl (by simp) ?_)
            intro W7 k7 g7 s7
            have k7 : Blk W7 w3.heap.size #[str c, .slice ha hn hc, str x] 24 := k7
            have kQ7 := kQ6.grown g7 (by simp; omega)
            have ho7 := ho6.grown g7 (fun k hk => by cases hk; omega)
            have b7 : Below w3.heap.size w6 W7 := (Below.refl _ _).grown g7 (by omega) (fun k hk => by cases hk; omega)
            have hc7 := hc6.on b7 (by omega)
            have d0 := k7.cell 0
            have d1 := k7.cell 1
            have d2 := k7.cell 2
            simp only [List.getElem?_toArray, List.getElem?_cons_zero, List.getElem?_cons_succ] at d0 d1 d2
            go_wp2_with (refine wpl_put rfl (.tmp 2) (.tmp 52) rfl w.heap.size _ rfl rfl kQ7 (by kernel_rfl) rfl (by kernel_rfl) ?_)
            intro W8 k8 g8 s8
            have ho8 := ho7.grown g8 (fun k hk => by cases hk; omega)
            have b8 : Below w.heap.size W7 W8 := (Below.refl _ _).grown g8 (by have := b7.size; omega) (fun k hk => by cases hk; omega)
            have hc8 := hc7.on b8 hb
            go_wp2
            refine ret24 Tryd.results37 k8 rfl rfl ⟨?_, .inl ⟨⟨c, out, x⟩, r', _, hf, rfl, ho8.low (by omega), hc8⟩⟩
            exact (((HA.out.trans (.below (hbr.mono (by omega)))).trans ⟨hA6.os, hA6.tape, hA6.output, hA6.size, fun k hk => hA6.block k (by omega)⟩).trans (.below (b7.mono (by omega)))).trans (.below b8)
          · have hf := HF.out
            rw [hR6] at hf
            simp only [] at hf
            exact ⟨rfl, (HA.out.trans (.below (hbr.mono (by omega)))).trans ⟨hA6.os, hA6.tape, hA6.output, hA6.size, fun k hk => hA6.block k (by omega)⟩, .inr ⟨g6, hf, rfl⟩⟩
  · cases h1
theorem frame_any (w : World) (b B : Nat) (s : Bs) (hr : Cr w b s) (hb : b < w.heap.size) (hs : s.length ≤ 100000000) (hV : Vars B w) (hB : B ≤ b) :
    Calls Tryd.prog 37 #[.pointer (some ⟨b, 0, none⟩)] w fun e w' => FrameP w b (readL s) e w' := by
  cases hh : headA [] [] s with
  | none => exact frame_none w b s hr hb hs hh
  | some p =>
    obtain ⟨L, r⟩ := p
    by_cases hg : ∃ c ls, L = c :: ls ∧ isCmd c = true ∧ ls.length ≤ 32
    · obtain ⟨c, ls, rfl, h1, h2⟩ := hg
      exact frame_good w b B s hr hb hs hV hB c ls r hh h1 h2
    · exact frame_bad w b s hr hb hs L r hh (fun c ls h h2 => hg ⟨c, ls, h, h2.1, h2.2⟩)
end Go.Proofs.YtfdbekfbbihdgaaDoor
