
/- Whether a frame can be. Conditions: those that each row states. -/
import Derived.Test.YtfdbekfbbihdgaaDoorCg
namespace Go.Proofs.YtfdbekfbbihdgaaDoor
open Go.RowKit Go.Lib
set_option maxRecDepth 100000
set_option linter.unusedSimpArgs false

set_option maxHeartbeats 4000000 in
theorem can_some (w : World) (B : Nat) (c b : Bs) (H : List Hd) (g o cp : Nat) (hcp : H.length ≤ cp) (h : ∀ i (h : i < H.length), HdAt w g (o + i * 2) H[i]) (hc : c.length ≤ 1000000000) (hb : b.length ≤ 1000000000) (hH : H.length ≤ 1000000000) (hm : ∀ h ∈ H, h.1.length ≤ 1000000000 ∧ h.2.length ≤ 1000000000) (hV : Vars B w) (hB : B ≤ w.heap.size) :
    Calls Tryd.prog 19 #[frV c (.slice (some ⟨g, o, none⟩) H.length cp) b] w fun e w' => e = .returned (.bool (canL ⟨c, H, b⟩)) ∧ Below w.heap.size w w' := by
  have HD : Hid (canL ⟨c, H, b⟩ = (isCmd c && (decide (H.length ≤ 32) && (decide (b.length ≤ 1024) && (H.all (stN (bare c)) && clN ⟨c, H, b⟩))))) := (rfl : canL ⟨c, H, b⟩ = _)
  have HC : Hid (clN ⟨c, H, b⟩ = (match getL CL H with | some t => decide (t = itoa (b.length : Int)) | none => (cutN 0 b).isNone)) := (rfl : clN ⟨c, H, b⟩ = _)
  have IC := fun w => iscmd_any w c (by omega)
  have IB := fun w => isbare_any w c
  have HI : ∀ w, Calls Tryd.prog 34 #[str b, .int .u8 0] w fun e w' => e = .returned (.int .i64 (match cutN 0 b with | some (a, _) => (a.length : Int) | none => -1)) ∧ w' = w := fun w => ib_any w b 0
  have HM : Hid (∀ h ∈ H, h.1.length ≤ 1000000000 ∧ h.2.length ≤ 1000000000) := hm
  generalize canL ⟨c, H, b⟩ = r at *
  generalize clN ⟨c, H, b⟩ = cl at *
  generalize isCmd c = ic at *
  generalize bare c = bb at *
  clear hm
  have H1 : Hid (∀ i (h : i < H.length), HdAt w g (o + i * 2) H[i]) := h
  clear h
  have hr0 : RdH w (.slice (some ⟨g, o, none⟩) H.length cp) H := .inr ⟨g, o, cp, rfl, hcp, H1.out⟩
  have k0 := Blk.new w #[str c, (.slice (some ⟨g, o, none⟩) H.length cp), str b] 24
  have b0 := below_new w (.cells #[str c, (.slice (some ⟨g, o, none⟩) H.length cp), str b] 24)
  have hw0 : (w.alloc (.cells #[str c, (.slice (some ⟨g, o, none⟩) H.length cp), str b] 24)).heap.size = w.heap.size + 1 := by simp
  go_enter Tryd.func19, Tryd.ntmps19
  go_upto_region 1 with fail
  generalize w.alloc (.cells #[str c, (.slice (some ⟨g, o, none⟩) H.length cp), str b] 24) = w0 at *
  have d0 := k0.cell 0
  have d1 := k0.cell 1
  simp only [List.getElem?_toArray, List.getElem?_cons_zero, List.getElem?_cons_succ] at d0 d1
  cases ic with
  | false =>
    have hr : r = false := by rw [HD.out]; rfl
    subst hr
    go_wp2_with (go_at_call 30; refine (IC _).mono ?_; rintro e w1 ⟨rfl, b1⟩)
    go_ret
    exact ⟨rfl, b0.trans (b1.mono (by omega))⟩
  | true =>
    by_cases h32 : 32 < H.length
    · have hr : r = false := by rw [HD.out]; simp; omega
      subst hr
      have z1 : decide ((32 : Int) < (H.length : Int)) = true := by simp; omega
      go_wp2_with (go_at_call 30; refine (IC _).mono ?_; rintro e w1 ⟨rfl, b1⟩; have e1 := (k0.on b1).cell 1; simp only [List.getElem?_toArray, List.getElem?_cons_zero, List.getElem?_cons_succ] at e1)
      go_ret
      exact ⟨rfl, b0.trans (b1.mono (by omega))⟩
    have z1 : decide ((32 : Int) < (H.length : Int)) = false := by simp; omega
    by_cases h1k : 1024 < b.length
    · have hr : r = false := by rw [HD.out]; simp; omega
      subst hr
      have z2 : decide ((1024 : Int) < (b.length : Int)) = true := by simp; omega
      go_wp2_with (go_at_call 30; refine (IC _).mono ?_; rintro e w1 ⟨rfl, b1⟩; have e1 := (k0.on b1).cell 1; have e2 := (k0.on b1).cell 2; simp only [List.getElem?_toArray, List.getElem?_cons_zero, List.getElem?_cons_succ] at e1 e2)
      go_ret
      exact ⟨rfl, b0.trans (b1.mono (by omega))⟩
    have z2 : decide ((1024 : Int) < (b.length : Int)) = false := by simp; omega
    have hr : Hid (r = (H.all (stN bb) && cl)) := by
      show r = _
      rw [HD.out, decide_eq_true (by omega : H.length ≤ 32), decide_eq_true (by omega : b.length ≤ 1024)]
      simp
    clear HD
    go_wp2_with (go_at_call 30; refine (IC _).mono ?_; rintro e w1 ⟨rfl, b1⟩; have e1 := (k0.on b1).cell 1; have e2 := (k0.on b1).cell 2; simp only [List.getElem?_toArray, List.getElem?_cons_zero, List.getElem?_cons_succ] at e1 e2)
    have k1 := k0.on b1
    have s1 := b1.size
    have B1 := b0.trans (b1.mono (by omega))
    clear d0 d1 k0 b0 b1 IC
    go_loopw [26] (fun i wr => ∃ k : Nat, k ≤ H.length ∧ i = .int .i64 k ∧ Below w1.heap.size w1 wr ∧ Hid (∀ (j : Nat) (h : j < H.length), j < k → stN bb H[j] = true)) (fun i _ => H.length - (RowKit.intOf i).toNat)
    case atStart => exact ⟨0, Nat.zero_le _, rfl, Below.refl _ _, fun j _ h => absurd h (Nat.not_lt_zero _)⟩
    case round =>
      obtain ⟨k, hk, rfl, hbr, HB⟩ := hrel
      have kr := k1.on hbr
      have sr := hbr.size
      have Br := B1.trans (hbr.mono (by omega))
      have rr := hr0.on Br
      by_cases hlt : k < H.length
      · obtain ⟨a0, a1⟩ := (H1.out k hlt).on Br
        have hmk := HM.out H[k] (List.getElem_mem hlt)
        have HY : Hid (stN bb H[k] = true → (∀ (j : Nat) (h : j < H.length), j < k + 1 → stN bb H[j] = true)) := fun h j hj hj2 => by
          rcases Nat.lt_or_ge j k with h3 | h3
          · exact HB.out j hj h3
          · have : j = k := by omega
            subst this; exact h
        have HN : Hid (stN bb H[k] = false → r = false) := fun h => by
          rw [hr.out, List.all_eq_false.2 ⟨H[k], List.getElem_mem hlt, by simp [h]⟩, Bool.false_and]
        obtain ⟨⟨pn, pt⟩, hp⟩ : ∃ p, p = H[k] := ⟨_, rfl⟩
        rw [← hp] at a0 a1 hmk HY HN
        dsimp only at a0 a1 hmk HY HN
        clear hp
        have ST := fun w => stand_any w pn pt bb hmk.1 hmk.2
        generalize stN bb (pn, pt) = st at *
        have hkz : (k : Int) < (H.length : Int) := by omega
        have k6 := Blk.new wr #[str pn, str pt] 42
        have k16 := kr.alloc (.cells #[str pn, str pt] 42)
        have bn := below_new wr (.cells #[str pn, str pt] 42)
        have sn : wr.heap.size < (wr.alloc (.cells #[str pn, str pt] 42)).heap.size := by simp
        go_upto_region 6 with fail
        generalize wr.alloc (.cells #[str pn, str pt] 42) = wq at *
        refine wp_region_held (S := fun W => Blk W w.heap.size #[str c, (.slice (some ⟨g, o, none⟩) H.length cp), str b] 24 ∧ Blk W wr.heap.size #[str pn, str pt] 42) hmix ?_
        show wpAnyH _ _ _ _ _ _ _ _ (World.drew _)
        have bq := bn.trans (((Below.refl _ wq).drew).mono (Nat.le_of_lt sn))
        have k7 := k6.on (Below.refl _ wq).drew
        have k17 := k16.on (Below.refl _ wq).drew
        generalize wq.drew = W0 at *
        refine tks [0, 1, 2] [.agg #[str pn, str pt], .pointer (some ⟨w.heap.size, 0, none⟩), str c] 3 ?_ ⟨k17, k7⟩ ?_
        · simp only [tkY, tkf]
          refine ⟨.yes ?_, .yes ?_, .yes ?_, trivial⟩
          all_goals
            rintro W' ⟨h1, h2⟩
            have d0 := h1.cell 0
            have f0 := h2.cell 0
            have f1 := h2.cell 1
            simp only [List.getElem?_toArray, List.getElem?_cons_zero, List.getElem?_cons_succ] at d0 f0 f1
            go_simp
        simp only [tkA, tkf]
        refine ak 3 (fun K hK => ?_)
        go_wp2_with fail
        refine (IB _).mono ?_
        rintro e W0 ⟨rfl, rfl⟩
        go_wp2_with fail
        refine hK _ _ ⟨k17, k7⟩ ?_
        clear hK K
        refine ak 4 (fun K hK => ?_)
        go_wp2_with fail
        refine (ST _).mono ?_
        rintro e W1 ⟨rfl, bS⟩
        go_wp2_with fail
        refine hK _ _ ⟨k17.on bS, k7.on bS⟩ ?_
        clear hK K
        refine ak 5 (fun K hK => ?_)
        go_wp2_with fail
        refine hK _ _ ⟨k17.on bS, k7.on bS⟩ ?_
        clear hK K
        refine wpAnyH_done (by kernel_rfl) ?_ _
        have bE := hbr.trans ((bq.trans (bS.mono bq.size)).mono sr)
        cases st with
        | false =>
          have hf := HN.out rfl
          subst hf
          go_wp2
          go_ret
          exact ⟨rfl, B1.trans (bE.mono (by omega))⟩
        | true =>
          have HY2 := HY.out rfl
          have HY3 : Hid (∀ (j : Nat) (h : j < H.length), j < k + 1 → stN bb H[j] = true) := HY2
          clear HY2 HY HN
          go_wp2
          all_goals
            go_roundw
            case rel => exact ⟨k + 1, by omega, by go_num, bE, HY3⟩
            case measure => simp [RowKit.intOf]; omega
      · obtain rfl : k = H.length := by omega
        have hall : H.all (stN bb) = true := List.all_eq_true.2 fun x hx => by
          obtain ⟨i, hi, rfl⟩ := List.getElem_of_mem hx
          exact HB.out i hi hi
        have hcl : r = cl := by rw [hr.out, hall, Bool.true_and]
        clear hall HB hr
        subst hcl
        have G := get_any wr c b CL (.slice (some ⟨g, o, none⟩) H.length cp) H rr (by omega)
        have HC2 := HC.out
        unfold getV at G
        have d0 := kr.cell 0
        have d1 := kr.cell 1
        have d2 := kr.cell 2
        simp only [List.getElem?_toArray, List.getElem?_cons_zero, List.getElem?_cons_succ] at d0 d1 d2
        cases hg : getL CL H with
        | some t =>
          rw [hg] at G HC2
          simp only [] at G HC2
          have hq : (t == itoa (b.length : Int)) = r := by rw [HC2, beq_l]
          clear HC HC2 hg
          go_wp2_with (first
            | (go_at_call 14; refine G.mono ?_; rintro e w2 ⟨rfl, b2⟩; have e3 := (kr.on b2).cell 2; simp only [List.getElem?_toArray, List.getElem?_cons_zero, List.getElem?_cons_succ] at e3)
            | (go_at_call 33; refine (itoa_any w2 B (b.length : Int) (by omega) (by omega) ((hV.on (Br.mono hB)).on (b2.mono (Nat.le_trans hB Br.size)))).mono ?_; rintro e w3 ⟨rfl, b3⟩))
          go_ret
          exact ⟨rfl, Br.trans ((b2.trans (b3.mono b2.size)).mono Br.size)⟩
        | none =>
          rw [hg] at G HC2
          simp only [] at G HC2
          clear HC hg
          cases hz : cutN 0 b with
          | none =>
            rw [hz] at HC2 HI
            simp only [] at HI
            have hr : r = true := by rw [HC2]; rfl
            clear HC2
            subst hr
            go_wp2_with (first
              | (go_at_call 14; refine G.mono ?_; rintro e w2 ⟨rfl, b2⟩; have e3 := (kr.on b2).cell 2; simp only [List.getElem?_toArray, List.getElem?_cons_zero, List.getElem?_cons_succ] at e3)
              | (go_at_call 34; refine (HI _).mono ?_; rintro e w2 ⟨rfl, rfl⟩))
            go_ret
            exact ⟨rfl, Br.trans (b2.mono Br.size)⟩
          | some p =>
            obtain ⟨p, q⟩ := p
            rw [hz] at HC2 HI
            simp only [] at HI
            have hr : r = false := by rw [HC2]; rfl
            clear HC2
            subst hr
            have hz2 : decide ((p.length : Int) < 0) = false := by simp
            go_wp2_with (first
              | (go_at_call 14; refine G.mono ?_; rintro e w2 ⟨rfl, b2⟩; have e3 := (kr.on b2).cell 2; simp only [List.getElem?_toArray, List.getElem?_cons_zero, List.getElem?_cons_succ] at e3)
              | (go_at_call 34; refine (HI _).mono ?_; rintro e w2 ⟨rfl, rfl⟩))
            go_ret
            exact ⟨rfl, Br.trans (b2.mono Br.size)⟩
set_option maxHeartbeats 4000000 in
theorem can_nil (w : World) (B : Nat) (c b : Bs) (H : List Hd) (a : Option Addr) (cp : Nat) (hnil : H = []) (hc : c.length ≤ 1000000000) (hb : b.length ≤ 1000000000) (hH : H.length ≤ 1000000000) (hm : ∀ h ∈ H, h.1.length ≤ 1000000000 ∧ h.2.length ≤ 1000000000) (hV : Vars B w) (hB : B ≤ w.heap.size) :
    Calls Tryd.prog 19 #[frV c (.slice a 0 cp) b] w fun e w' => e = .returned (.bool (canL ⟨c, H, b⟩)) ∧ Below w.heap.size w w' := by
  have HD : Hid (canL ⟨c, H, b⟩ = (isCmd c && (decide (H.length ≤ 32) && (decide (b.length ≤ 1024) && (H.all (stN (bare c)) && clN ⟨c, H, b⟩))))) := (rfl : canL ⟨c, H, b⟩ = _)
  have HC : Hid (clN ⟨c, H, b⟩ = (match getL CL H with | some t => decide (t = itoa (b.length : Int)) | none => (cutN 0 b).isNone)) := (rfl : clN ⟨c, H, b⟩ = _)
  have IC := fun w => iscmd_any w c (by omega)
  have IB := fun w => isbare_any w c
  have HI : ∀ w, Calls Tryd.prog 34 #[str b, .int .u8 0] w fun e w' => e = .returned (.int .i64 (match cutN 0 b with | some (a, _) => (a.length : Int) | none => -1)) ∧ w' = w := fun w => ib_any w b 0
  have HM : Hid (∀ h ∈ H, h.1.length ≤ 1000000000 ∧ h.2.length ≤ 1000000000) := hm
  generalize canL ⟨c, H, b⟩ = r at *
  generalize clN ⟨c, H, b⟩ = cl at *
  generalize isCmd c = ic at *
  generalize bare c = bb at *
  clear hm
  have hr0 : RdH w (.slice a 0 cp) H := .inl ⟨⟨a, cp, rfl⟩, hnil⟩
  have k0 := Blk.new w #[str c, (.slice a 0 cp), str b] 24
  have b0 := below_new w (.cells #[str c, (.slice a 0 cp), str b] 24)
  have hw0 : (w.alloc (.cells #[str c, (.slice a 0 cp), str b] 24)).heap.size = w.heap.size + 1 := by simp
  go_enter Tryd.func19, Tryd.ntmps19
  go_upto_region 1 with fail
  generalize w.alloc (.cells #[str c, (.slice a 0 cp), str b] 24) = w0 at *
  have d0 := k0.cell 0
  have d1 := k0.cell 1
  simp only [List.getElem?_toArray, List.getElem?_cons_zero, List.getElem?_cons_succ] at d0 d1
  cases ic with
  | false =>
    have hr : r = false := by rw [HD.out]; rfl
    subst hr
    go_wp2_with (go_at_call 30; refine (IC _).mono ?_; rintro e w1 ⟨rfl, b1⟩)
    go_ret
    exact ⟨rfl, b0.trans (b1.mono (by omega))⟩
  | true =>
    by_cases h32 : 32 < H.length
    · exact absurd h32 (by rw [hnil]; decide)
    have z1 : decide ((32 : Int) < (H.length : Int)) = false := by simp; omega
    by_cases h1k : 1024 < b.length
    · have hr : r = false := by rw [HD.out]; simp; omega
      subst hr
      have z2 : decide ((1024 : Int) < (b.length : Int)) = true := by simp; omega
      go_wp2_with (go_at_call 30; refine (IC _).mono ?_; rintro e w1 ⟨rfl, b1⟩; have e1 := (k0.on b1).cell 1; have e2 := (k0.on b1).cell 2; simp only [List.getElem?_toArray, List.getElem?_cons_zero, List.getElem?_cons_succ] at e1 e2)
      go_ret
      exact ⟨rfl, b0.trans (b1.mono (by omega))⟩
    have z2 : decide ((1024 : Int) < (b.length : Int)) = false := by simp; omega
    have hr : Hid (r = (H.all (stN bb) && cl)) := by
      show r = _
      rw [HD.out, decide_eq_true (by omega : H.length ≤ 32), decide_eq_true (by omega : b.length ≤ 1024)]
      simp
    clear HD
    go_wp2_with (go_at_call 30; refine (IC _).mono ?_; rintro e w1 ⟨rfl, b1⟩; have e1 := (k0.on b1).cell 1; have e2 := (k0.on b1).cell 2; simp only [List.getElem?_toArray, List.getElem?_cons_zero, List.getElem?_cons_succ] at e1 e2)
    have k1 := k0.on b1
    have s1 := b1.size
    have B1 := b0.trans (b1.mono (by omega))
    clear d0 d1 k0 b0 b1 IC
    go_loopw [26] (fun i wr => ∃ k : Nat, k ≤ 0 ∧ i = .int .i64 k ∧ Below w1.heap.size w1 wr ∧ Hid (∀ (j : Nat) (h : j < H.length), j < k → stN bb H[j] = true)) (fun i _ => 0 - (RowKit.intOf i).toNat)
    case atStart => exact ⟨0, Nat.zero_le _, rfl, Below.refl _ _, fun j _ h => absurd h (Nat.not_lt_zero _)⟩
    case round =>
      obtain ⟨k, hk, rfl, hbr, HB⟩ := hrel
      have kr := k1.on hbr
      have sr := hbr.size
      have Br := B1.trans (hbr.mono (by omega))
      have rr := hr0.on Br
      · obtain rfl : k = 0 := by omega
        have hall : H.all (stN bb) = true := by rw [hnil]; rfl
        have hcl : r = cl := by rw [hr.out, hall, Bool.true_and]
        clear hall HB hr
        subst hcl
        have G := get_any wr c b CL (.slice a 0 cp) H rr (by omega)
        have HC2 := HC.out
        unfold getV at G
        have d0 := kr.cell 0
        have d1 := kr.cell 1
        have d2 := kr.cell 2
        simp only [List.getElem?_toArray, List.getElem?_cons_zero, List.getElem?_cons_succ] at d0 d1 d2
        cases hg : getL CL H with
        | some t =>
          rw [hg] at G HC2
          simp only [] at G HC2
          have hq : (t == itoa (b.length : Int)) = r := by rw [HC2, beq_l]
          clear HC HC2 hg
          go_wp2_with (first
            | (go_at_call 14; refine G.mono ?_; rintro e w2 ⟨rfl, b2⟩; have e3 := (kr.on b2).cell 2; simp only [List.getElem?_toArray, List.getElem?_cons_zero, List.getElem?_cons_succ] at e3)
            | (go_at_call 33; refine (itoa_any w2 B (b.length : Int) (by omega) (by omega) ((hV.on (Br.mono hB)).on (b2.mono (Nat.le_trans hB Br.size)))).mono ?_; rintro e w3 ⟨rfl, b3⟩))
          go_ret
          exact ⟨rfl, Br.trans ((b2.trans (b3.mono b2.size)).mono Br.size)⟩
        | none =>
          rw [hg] at G HC2
          simp only [] at G HC2
          clear HC hg
          cases hz : cutN 0 b with
          | none =>
            rw [hz] at HC2 HI
            simp only [] at HI
            have hr : r = true := by rw [HC2]; rfl
            clear HC2
            subst hr
            go_wp2_with (first
              | (go_at_call 14; refine G.mono ?_; rintro e w2 ⟨rfl, b2⟩; have e3 := (kr.on b2).cell 2; simp only [List.getElem?_toArray, List.getElem?_cons_zero, List.getElem?_cons_succ] at e3)
              | (go_at_call 34; refine (HI _).mono ?_; rintro e w2 ⟨rfl, rfl⟩))
            go_ret
            exact ⟨rfl, Br.trans (b2.mono Br.size)⟩
          | some p =>
            obtain ⟨p, q⟩ := p
            rw [hz] at HC2 HI
            simp only [] at HI
            have hr : r = false := by rw [HC2]; rfl
            clear HC2
            subst hr
            have hz2 : decide ((p.length : Int) < 0) = false := by simp
            go_wp2_with (first
              | (go_at_call 14; refine G.mono ?_; rintro e w2 ⟨rfl, b2⟩; have e3 := (kr.on b2).cell 2; simp only [List.getElem?_toArray, List.getElem?_cons_zero, List.getElem?_cons_succ] at e3)
              | (go_at_call 34; refine (HI _).mono ?_; rintro e w2 ⟨rfl, rfl⟩))
            go_ret
            exact ⟨rfl, Br.trans (b2.mono Br.size)⟩
theorem can_any (w : World) (B : Nat) (c b : Bs) (hv : Value) (H : List Hd) (hr : RdH w hv H) (hc : c.length ≤ 1000000000) (hb : b.length ≤ 1000000000) (hH : H.length ≤ 1000000000) (hm : ∀ h ∈ H, h.1.length ≤ 1000000000 ∧ h.2.length ≤ 1000000000) (hV : Vars B w) (hB : B ≤ w.heap.size) :
    Calls Tryd.prog 19 #[frV c hv b] w fun e w' => e = .returned (.bool (canL ⟨c, H, b⟩)) ∧ Below w.heap.size w w' := by
  rcases hr with ⟨⟨a, cp, rfl⟩, rfl⟩ | ⟨g, o, cp, rfl, hcp, h⟩
  · exact can_nil w B c b [] a cp rfl hc hb hH hm hV hB
  · exact can_some w B c b H g o cp hcp h hc hb hH hm hV hB
end Go.Proofs.YtfdbekfbbihdgaaDoor
