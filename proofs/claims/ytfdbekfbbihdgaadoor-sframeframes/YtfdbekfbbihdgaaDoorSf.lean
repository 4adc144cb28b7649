
/- The lines ahead of an empty one; a header of a line. Conditions: those that each row states. -/
import Derived.Test.YtfdbekfbbihdgaaDoorSd
import Derived.Test.YtfdbekfbbihdgaaDoorSe
namespace Go.Proofs.YtfdbekfbbihdgaaDoor
open Go.RowKit Go.Lib
set_option maxRecDepth 100000
set_option linter.unusedSimpArgs false

def lenAt (w : World) (b : Nat) : Nat := match w.cell? ⟨b, 0, none⟩ with
  | some (.string s) => s.size
  | _ => 0
theorem Cr.lenAt {w : World} {b : Nat} {s : Bs} (h : Cr w b s) : lenAt w b = s.length := by
  unfold Proofs.YtfdbekfbbihdgaaDoor.lenAt
  rw [h.c0]
  rfl
theorem Cr.set {w : World} {b : Nat} {s : Bs} (h : Cr w b s) (r : Bs) : Cr (w.setCell ⟨b, 0, none⟩ (str r)) b r :=
  ⟨World.cell?_setCell_same (h := h.c0) .., by rw [World.frozen?_setCell]; exact h.f0⟩
set_option maxHeartbeats 1000000 in
theorem head_any (w : World) (b : Nat) (s : Bs) (hr : Cr w b s) (hb : b < w.heap.size) (hs : s.length ≤ 100000000) :
    Calls Tryd.prog 44 #[.pointer (some ⟨b, 0, none⟩)] w fun e w' => Alb w.heap.size w w' b ∧ ((∃ L r v, headA [] [] s = some (L, r) ∧ e = .returned v ∧ OwnL w' w.heap.size v L ∧ Cr w' b r ∧ L.length ≤ s.length) ∨ (headA [] [] s = none ∧ e = .panicked (gup 41))) := by
  have HI := fun w => insist_no w 41
  obtain ⟨g, hg⟩ : ∃ g, gup 41 = g := ⟨_, rfl⟩
  rw [hg] at HI ⊢
  clear hg
  go_enter Tryd.func44, Tryd.ntmps44
  go_wp2_with fail
  go_loopw [3] (fun v wr => ∃ (out : List Bs) (cur : Bs), OwnL wr w.heap.size v out ∧ Cr wr b cur ∧ Alb w.heap.size w wr b ∧ out.length + cur.length ≤ s.length ∧ Hid (headA [] [] s = headA out [] cur)) (fun _ wr => lenAt wr b)
  case atStart => exact ⟨[], s, OwnL.nil _ _, hr, Alb.refl _ _ _, by simp, rfl⟩
  case round =>
    obtain ⟨out, cur, ho, hc, hA, hlen, hH⟩ := hrel
    have hwr := hA.size
    have hst := headA_cut out cur
    have K := line29 wr cur (by omega)
    have hla := hc.lenAt
    obtain ⟨c0, f0⟩ := hc
    unfold lineV at K
    cases hcut : cutN 10 cur with
    | none =>
      rw [hcut] at K hst
      simp only [] at K hst
      have HN : headA [] [] s = none := by rw [hH.out, hst]
      go_wp2_with fail
      refine K.mono ?_
      rintro e w1 ⟨rfl, b1⟩
      go_wp2_with fail
      refine (HI _).mono ?_
      rintro e w' ⟨rfl, rfl⟩
      exact ⟨rfl, hA.trans (.below (b1.mono hwr)), .inr ⟨HN, rfl⟩⟩
    | some p =>
      obtain ⟨a, r⟩ := p
      obtain ⟨hp, _⟩ := cutN_some hcut
      have hl2 : a.length + 1 + r.length = cur.length := by rw [hp]; simp; omega
      rw [hcut] at K hst
      simp only [] at K hst
      clear hcut hp
      by_cases ht : trimR a = []
      · rw [if_pos ht] at hst
        rw [ht] at K
        have HN : Hid (headA [] [] s = some (out, r)) := by show _ = _; rw [hH.out, hst]
        clear ht hst
        go_wp2_with fail
        refine K.mono ?_
        rintro e w1 ⟨rfl, b1⟩
        have hc1 : Cr w1 b cur := Cr.on ⟨c0, f0⟩ b1 (by omega)
        have ho1 := ho.up b1
        have hA1 := hA.trans (.below (b1.mono hwr))
        have hs1 := b1.size
        obtain ⟨c1, f1⟩ := hc1
        go_wp2_with (first | (go_at_call 45; refine (insist_ok _ _).mono ?_; rintro e w1 ⟨rfl, rfl⟩))
        go_ret
        have hq := Alb.but (B := w1.heap.size) (But.set w1 b 0 (str r))
        exact ⟨hA1.trans ⟨hq.os, hq.tape, hq.output, hq.size, fun k hk => hq.block k (by omega)⟩, .inl ⟨out, r, _, HN.out, rfl, ho1.alb hq hb, Cr.set ⟨c1, f1⟩ r, by omega⟩⟩
      · rw [if_neg ht] at hst
        have htb : (trimR a == []) = false := by rw [beq_l]; simpa using ht
        have HN : Hid (headA [] [] s = headA (out ++ [trimR a]) [] r) := by show _ = _; rw [hH.out, hst]
        have hlt := trimR_len a
        clear hst ht
        generalize trimR a = l at *
        go_wp2_with fail
        refine K.mono ?_
        rintro e w1 ⟨rfl, b1⟩
        have hc1 : Cr w1 b cur := Cr.on ⟨c0, f0⟩ b1 (by omega)
        have ho1 := ho.up b1
        have hA1 := hA.trans (.below (b1.mono hwr))
        have hs1 := b1.size
        obtain ⟨c1, f1⟩ := hc1
        have hq := Alb.but (B := w1.heap.size) (But.set w1 b 0 (str r))
        have hA2 : Alb w.heap.size w (w1.setCell ⟨b, 0, none⟩ (str r)) b := hA1.trans ⟨hq.os, hq.tape, hq.output, hq.size, fun k hk => hq.block k (by omega)⟩
        have ho2 := ho1.alb hq hb
        have hc2 : Cr (w1.setCell ⟨b, 0, none⟩ (str r)) b r := Cr.set ⟨c1, f1⟩ r
        go_upto_region 5 with (first | (go_at_call 45; refine (insist_ok _ _).mono ?_; rintro e w1 ⟨rfl, rfl⟩))
        clear hq hA1 ho1 c1 f1
        generalize w1.setCell ⟨b, 0, none⟩ (str r) = w2 at *
        go_wp2_with (at_builtin; refine wpList_plain rfl fun K hK => ?_; refine appL1 (.tmp 25) (.tmp 27) rfl w.heap.size _ out l w2 rfl ho2 rfl (by omega) hA2.size ?_; intro v3 w3 ho3 b3; refine hK _ _ ?_)
        have hc3 : Cr w3 b r := Cr.on hc2 b3 hb
        go_roundw
        case rel => exact ⟨_, r, ho3, hc3, hA2.trans (.below b3), by simp; omega, HN⟩
        case measure => rw [hc3.lenAt, hla]; omega

theorem ret42 {fn : Func} {p : Tmp} {tmps : Array Value} {W : World} {g : Nat} {cs : Array Value} {R : Ending → World → Prop} (hf : fn.results = #[.cell p 42]) (h : Blk W g cs 42) (hs : cs.size = 2) (hp : tmps.getD p undef = .pointer (some ⟨g, 0, none⟩)) (hR : R (.returned (.agg cs)) W) :
    bodyPost Tryd.prog fn R .ret { tmps := tmps, defers := [] } W :=
  bodyPost_ret (results_cell_row hf tmps W g 42 cs (0, 0) _ hp h.h Tryd.underlying42 rfl (by rw [hs]; kernel_rfl)) rfl hR
set_option maxHeartbeats 2000000 in
theorem header_any (w : World) (l : Bs) (ba : Bool) (hl : l.length ≤ 100000000) : Calls Tryd.prog 47 #[str l, .bool ba] w fun e w' => Below w.heap.size w w' ∧ ((∃ h, hdrL ba l = some h ∧ e = .returned (.agg (hdA h))) ∨ (hdrL ba l = none ∧ e = .panicked (gup 40))) := by
  have HI := fun w => insist_no w 40
  have HU := fun w s h => unm_any w s h
  obtain ⟨g, hg⟩ : ∃ g, gup 40 = g := ⟨_, rfl⟩
  rw [hg] at HI HU ⊢
  clear hg
  have K := fun w => cut39 w l 58 (by omega)
  unfold cutV at K
  have hst : hdrL ba l = (match cutN 58 l with
      | none => none
      | some (n, t) => if n = [] then none else if ba then some (n, t) else match unm n with
        | none => none
        | some n' => (unm t).map fun t' => (n', t')) := rfl
  have kR := Blk.new w #[str [], str []] 42
  have hb0 := below_new w (.cells #[str [], str []] 42)
  cases hcut : cutN 58 l with
  | none =>
    rw [hcut] at K hst
    simp only [] at K hst
    go_enter Tryd.func47, Tryd.ntmps47
    go_wp2_with fail
    refine (K _).mono ?_
    rintro e w1 ⟨rfl, b1⟩
    go_wp2_with fail
    refine (HI _).mono ?_
    rintro e w' ⟨rfl, rfl⟩
    exact ⟨rfl, hb0.trans (b1.mono (by simp)), .inr ⟨hst, rfl⟩⟩
  | some p =>
    obtain ⟨n, t⟩ := p
    obtain ⟨hp, _⟩ := cutN_some hcut
    have hl2 : n.length + 1 + t.length = l.length := by rw [hp]; simp; omega
    rw [hcut] at K hst
    simp only [] at K hst
    clear hcut hp
    by_cases hn : n = []
    · rw [if_pos hn] at hst
      rw [hn] at K
      clear hn
      go_enter Tryd.func47, Tryd.ntmps47
      go_wp2_with fail
      refine (K _).mono ?_
      rintro e w1 ⟨rfl, b1⟩
      go_wp2_with fail
      refine (HI _).mono ?_
      rintro e w' ⟨rfl, rfl⟩
      exact ⟨rfl, hb0.trans (b1.mono (by simp)), .inr ⟨hst, rfl⟩⟩
    · rw [if_neg hn] at hst
      have hnb : (n == []) = false := by rw [beq_l]; simpa using hn
      clear hn
      cases ba with
      | true =>
        rw [if_pos rfl] at hst
        have C1 := fun w => clone_any w n (by omega)
        have C2 := fun w => clone_any w t (by omega)
        go_enter Tryd.func47, Tryd.ntmps47
        go_wp2_with fail
        refine (K _).mono ?_
        rintro e w1 ⟨rfl, b1⟩
        have k1 := kR.on b1
        have h1 := hb0.trans (b1.mono (by simp))
        go_wp2_with (first | (go_at_call 45; refine (insist_ok _ _).mono ?_; rintro e w1 ⟨rfl, rfl⟩))
        refine (C1 _).mono ?_
        rintro e w2 ⟨rfl, b2⟩
        have k2 := k1.on b2
        have h2 := h1.trans (b2.mono h1.size)
        go_wp2_with fail
        refine (C2 _).mono ?_
        rintro e w3 ⟨rfl, b3⟩
        have k3 := k2.on b3
        have h3 := h2.trans (b3.mono h2.size)
        go_wp2_with (refine wpl_put rfl (.tmp 4) (.tmp 25) rfl w.heap.size _ rfl rfl k3 (by kernel_rfl) rfl (by kernel_rfl) ?_)
        intro W' kW gW sW
        go_wp2
        exact ret42 Tryd.results47 kW rfl rfl ⟨h3.grown gW h3.size (fun k hk => by injection hk with hk; omega), .inl ⟨_, hst, rfl⟩⟩
      | false =>
        rw [if_neg (by decide)] at hst
        have C1 := fun w => HU w n (by omega)
        have C2 := fun w => HU w t (by omega)
        have HS : Hid (hdrL false l = match unm n with
          | none => none
          | some n' => (unm t).map fun t' => (n', t')) := hst
        clear hst HU
        go_enter Tryd.func47, Tryd.ntmps47
        go_wp2_with fail
        refine (K _).mono ?_
        rintro e w1 ⟨rfl, b1⟩
        have k1 := kR.on b1
        have h1 := hb0.trans (b1.mono (by simp))
        go_wp2_with (first | (go_at_call 45; refine (insist_ok _ _).mono ?_; rintro e w1 ⟨rfl, rfl⟩))
        refine (C1 _).mono ?_
        rintro e w2 ⟨b2, ⟨n', hn', rfl⟩ | ⟨hn', rfl⟩⟩
        · have k2 := k1.on b2
          have h2 := h1.trans (b2.mono h1.size)
          go_wp2_with fail
          refine (C2 _).mono ?_
          rintro e w3 ⟨b3, ⟨t', ht', rfl⟩ | ⟨ht', rfl⟩⟩
          · have k3 := k2.on b3
            have h3 := h2.trans (b3.mono h2.size)
            have hf := HS.out
            rw [hn', ht'] at hf
            go_wp2_with (refine wpl_put rfl (.tmp 4) (.tmp 30) rfl w.heap.size _ rfl rfl k3 (by kernel_rfl) rfl (by kernel_rfl) ?_)
            intro W' kW gW sW
            go_wp2
            exact ret42 Tryd.results47 kW rfl rfl ⟨h3.grown gW h3.size (fun k hk => by injection hk with hk; omega), .inl ⟨(n', t'), hf, rfl⟩⟩
          · have hf := HS.out
            rw [hn', ht'] at hf
            exact ⟨rfl, h2.trans (b3.mono h2.size), .inr ⟨hf, rfl⟩⟩
        · have hf := HS.out
          rw [hn'] at hf
          exact ⟨rfl, h1.trans (b2.mono h1.size), .inr ⟨hf, rfl⟩⟩
end Go.Proofs.YtfdbekfbbihdgaaDoor
