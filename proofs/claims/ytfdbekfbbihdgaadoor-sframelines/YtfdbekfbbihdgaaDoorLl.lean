
/- The law of SframeLines: it answers true at any frame and any number. Conditions: those that each row states. -/
import Derived.Test.YtfdbekfbbihdgaaDoorLb
import Derived.Test.YtfdbekfbbihdgaaDoorPl
namespace Go.Proofs.YtfdbekfbbihdgaaDoor
open Go.RowKit Go.Lib
set_option maxRecDepth 100000
set_option linter.unusedSimpArgs false

set_option maxHeartbeats 4000000 in
theorem lines_law (w : World) (c b : Bs) (hv : Value) (H : List Hd) (z : Int) (hr : RdH w hv H) (hl : H.length ≤ 9000000000000000000) (hcb : c.length + b.length ≤ 1000000000000000000) (hw : ∀ h ∈ H, h.1.length + h.2.length ≤ 1000000000000000000) (hV : Vars w.heap.size w) :
    Calls Tryd.prog 6 #[frV c hv b, .int .i64 z] w fun e w' => e = .returned (.bool true) ∧ Below w.heap.size w w' := by
  obtain ⟨ha, hn, hc, rfl⟩ : ∃ a n c, hv = .slice a n c := by
    rcases hr with ⟨⟨a, cp, rfl⟩, rfl⟩ | ⟨g, o, cp, rfl, _⟩
    · exact ⟨_, _, _, rfl⟩
    · exact ⟨_, _, _, rfl⟩
  have b2 := below_new w (.cells #[str c, .slice ha hn hc, str b] 24)
  have k1 := Blk.new w #[str c, .slice ha hn hc, str b] 24
  generalize hw1 : w.alloc (.cells #[str c, .slice ha hn hc, str b] 24) = w2 at *
  have W := wakes_any w2 ((hV.on b2).mono b2.size)
  have hr2 := hr.on b2
  clear hr
  go_enter Tryd.func6, Tryd.ntmps6
  go_wp2_with fail
  refine W.mono ?_
  rintro e w3 ⟨rfl, b3⟩
  have B3 := b2.trans (b3.mono b2.size)
  have k3 := k1.on b3
  have hr3 := hr2.on b3
  have HV := heavy_any w3 c b _ H hr3 hl hcb hw
  have d0 := k3.cell 0
  have d1 := k3.cell 1
  have d2 := k3.cell 2
  simp only [List.getElem?_toArray, List.getElem?_cons_zero, List.getElem?_cons_succ] at d0 d1 d2
  clear W b3 k1 hr2 hw1
  go_wp2_with fail
  refine HV.mono ?_
  rintro e w4 ⟨rfl | ⟨rfl, hwt⟩, b4⟩
  · go_wp2
    go_ret
    exact ⟨rfl, B3.trans (b4.mono B3.size)⟩
  have B4 := B3.trans (b4.mono B3.size)
  have k4 := k3.on b4
  have hr4 := hr3.on b4
  have hHl := (wtL_mem H).1
  have hHl2 : H.length ≤ 32768 := by omega
  clear HV d0 d1 d2 k3 hr3 b4 hcb hw hl hHl
  by_cases hz0 : z < 0
  · have z4 : decide (z < 0) = true := decide_eq_true hz0
    go_wp2
    go_ret
    exact ⟨rfl, B4⟩
  have z4 : decide (z < 0) = false := decide_eq_false hz0
  by_cases hz1 : 100 < z
  · have z5 : decide (100 < z) = true := decide_eq_true hz1
    go_wp2
    go_ret
    exact ⟨rfl, B4⟩
  have z5 : decide (100 < z) = false := decide_eq_false hz1
  have EN := encode_any w4 w4.heap.size c b _ H hr4 hwt ((hV.on B4).mono B4.size) (Nat.le_refl _)
  have d0 := k4.cell 0
  have d1 := k4.cell 1
  have d2 := k4.cell 2
  simp only [List.getElem?_toArray, List.getElem?_cons_zero, List.getElem?_cons_succ] at d0 d1 d2
  go_wp2_with fail
  refine EN.mono ?_
  rintro e w5 ⟨⟨va, vc, rfl, hcan, hlen, ho5⟩ | rfl, b5⟩
  rotate_left
  · go_wp2
    go_ret
    exact ⟨rfl, B4.trans (b5.mono B4.size)⟩
  have B5 := B4.trans (b5.mono B4.size)
  have k5 := k4.on b5
  have hr5 := hr4.on b5
  have hne : writeL ⟨c, H, b⟩ ≠ [] := by unfold writeL; simp
  obtain ⟨g5, rfl, hvc⟩ : ∃ g, va = some ⟨g, 0, none⟩ ∧ (writeL ⟨c, H, b⟩).length ≤ vc := by
    rcases ho5 with ⟨_, h⟩ | ⟨g, cap, cur, fz, e, _, _, _, h, _⟩
    · exact absurd h hne
    · injection e with e1 _ e3
      exact ⟨g, e1, by omega⟩
  have hrd := ho5.rd
  have HC : Hid (∀ (j : Nat) (h : j < (writeL ⟨c, H, b⟩).length), w5.cell? ⟨g5, j, none⟩ = some (.int .u8 ((writeL ⟨c, H, b⟩)[j].toNat : Int))) := fun j h => by
    rcases hrd with ⟨h, _⟩ | ⟨b', o', c', e, _, h2⟩
    · cases h
    · injection e with e1 _ _
      injection e1 with e1
      injection e1 with e1 e2 _
      subst e1 e2
      have := h2 j h
      rw [Nat.zero_add] at this
      rw [this, List.getD_eq_getElem?_getD, List.getElem?_eq_getElem h]
      rfl
  have HA : Hid (accE ((writeL ⟨c, H, b⟩).length - 1 - b.length) (writeL ⟨c, H, b⟩) = writeE [13, 10] ⟨c, H, b⟩) := accE_all hcan
  have HN : Hid ((writeE [13, 10] ⟨c, H, b⟩).length ≤ 16384 → ∀ k, nextL (leadL k ++ writeE [13, 10] ⟨c, H, b⟩) = (⟨c, H, b⟩, (leadL k ++ writeE [13, 10] ⟨c, H, b⟩).length, 0)) := fun hl k => next_lead (.inr rfl) hcan hl k
  have hbl : b.length + 1 ≤ (writeL ⟨c, H, b⟩).length := by unfold writeL; simp only [List.length_append, List.length_cons, List.length_nil]; omega
  clear hrd hne ho5 EN d0 d1 d2 b5 k4 hr4 hcan hwt
  generalize writeL ⟨c, H, b⟩ = L at *
  generalize writeE [13, 10] ⟨c, H, b⟩ = E at *
  have d0 := k5.cell 0
  have d1 := k5.cell 1
  have d2 := k5.cell 2
  simp only [List.getElem?_toArray, List.getElem?_cons_zero, List.getElem?_cons_succ] at d0 d1 d2
  obtain ⟨hd, hhd⟩ : ∃ hd, hd = L.length - 1 - b.length := ⟨_, rfl⟩
  rw [← hhd] at HA
  have hbz : b.length ≤ 40000 := by omega
  have HD : Hid (hd = L.length - 1 - b.length) := hhd
  obtain ⟨K, rfl⟩ : ∃ K : Nat, z = K := ⟨z.toNat, by omega⟩
  have hK : K ≤ 100 := by omega
  have HX : Hid (b.length + 1 ≤ L.length ∧ L.length ≤ vc) := ⟨hbl, hvc⟩
  clear hz0 hz1 z4 z5 hbl hvc hhd
  have s5 := B5.size
  go_wp2_with fail
  go_loopw [8, 9] (fun u i wr => ∃ k : Nat, k ≤ K ∧ i = .int .i64 k ∧ OwnW wr w5.heap.size u (leadL k) ∧ Below w5.heap.size w5 wr) (fun _ i _ => K - (RowKit.intOf i).toNat)
  case atStart => exact ⟨0, Nat.zero_le _, rfl, .inl ⟨rfl, rfl⟩, Below.refl _ _⟩
  case round =>
    obtain ⟨k, hk, rfl, ho, hbr⟩ := hrel
    have sr := hbr.size
    have hll := leadL_len k
    have hbr0 := hbr
    clear d0 d1 d2
    by_cases hlt : k < K
    · have hkz : (k : Int) < (K : Int) := by omega
      have x0 : (⟨#[13, 10]⟩ : ByteArray).extract 0 2 = ⟨#[13, 10]⟩ := by decide
      have x1 : (⟨#[13, 10]⟩ : ByteArray).extract 1 2 = ⟨#[10]⟩ := by decide
      have HE : Hid (leadL (k + 1) = leadL k ++ endK k) := rfl
      by_cases h2 : k % 2 = 0
      · have he : endK k = [13, 10] := by unfold endK; rw [if_pos h2]
        have q4 : (k : Int).tmod 2 = 0 := by
          have : (k : Int).tmod 2 = ((k % 2 : Nat) : Int) := rfl
          rw [this]
          omega
        have q3 : wrap64 ((k : Int).tmod 2) = 0 := by rw [q4]; simp [wrap64]
        rw [he] at HE
        go_wp2_with (at_builtin; refine wpList_plain rfl fun K hK => ?_; refine appWS (.tmp 46) (.tmp 49) rfl w5.heap.size _ (leadL k) [13, 10] wr rfl ho rfl (by simp only [List.length_cons, List.length_nil]; omega) (by omega) ?_; intro v7 w7 ho7 g7; refine hK _ _ ?_)
        have hb7 := hbr.trans (g7.below ho sr)
        rw [← HE.out] at ho7
        go_roundw
        case rel => exact ⟨k + 1, by omega, by go_num, ho7, hb7⟩
        case measure => simp [RowKit.intOf]; omega
      · have he : endK k = [10] := by unfold endK; rw [if_neg h2]
        have q4 : (k : Int).tmod 2 = 1 := by
          have : (k : Int).tmod 2 = ((k % 2 : Nat) : Int) := rfl
          rw [this]
          omega
        have q3 : wrap64 ((k : Int).tmod 2) = 1 := by rw [q4]; simp [wrap64]
        rw [he] at HE
        go_wp2_with (at_builtin; refine wpList_plain rfl fun K hK => ?_; refine appWS (.tmp 46) (.tmp 49) rfl w5.heap.size _ (leadL k) [10] wr rfl ho rfl (by simp only [List.length_cons, List.length_nil]; omega) (by omega) ?_; intro v7 w7 ho7 g7; refine hK _ _ ?_)
        have hb7 := hbr.trans (g7.below ho sr)
        rw [← HE.out] at ho7
        go_roundw
        case rel => exact ⟨k + 1, by omega, by go_num, ho7, hb7⟩
        case measure => simp [RowKit.intOf]; omega
    · obtain rfl : k = K := by omega
      have hkz : decide ((k : Int) < (k : Int)) = false := by simp
      obtain ⟨ua, uc, rfl⟩ := ho.shape
      obtain ⟨wl, hwl⟩ : ∃ wl, wl = wr := ⟨_, rfl⟩
      subst hwl
      go_wp2_with fail
      have HW : Hid (∀ (j : Nat) (h : j < L.length), g5 < w5.heap.size ∧ wl.cell? ⟨g5, j, none⟩ = some (.int .u8 (L[j].toNat : Int))) := fun j h => by
        have h0 := HC.out j h
        have h1 := World.block_lt_of_cell? w5 _ h0
        exact ⟨h1, by rw [hbr.cell (p := ⟨g5, j, none⟩) h1]; exact h0⟩
      go_loopw [8, 55] (fun u i wx => ∃ j : Nat, j ≤ L.length ∧ i = .int .i64 j ∧ OwnW wx w5.heap.size u (leadL k ++ accE hd (L.take j)) ∧ Below w5.heap.size wl wx) (fun _ i _ => L.length - (RowKit.intOf i).toNat)
      case atStart => exact ⟨0, Nat.zero_le _, rfl, by rw [List.take_zero]; simpa [accE] using ho, Below.refl _ _⟩
      case round =>
        obtain ⟨j, hj, rfl, ho2, hbr2⟩ := hrel
        have sr2 := hbr2.size
        have sr3 : w5.heap.size ≤ wr.heap.size := by omega
        clear ho
        by_cases hlt2 : j < L.length
        · have hjz : (j : Int) < (L.length : Int) := by omega
          have cj : wr.cell? ⟨g5, j, none⟩ = some (.int .u8 (L[j].toNat : Int)) := by
            obtain ⟨h1, h2⟩ := HW.out j hlt2
            rw [hbr2.cell (p := ⟨g5, j, none⟩) h1]
            exact h2
          have HT : Hid (leadL k ++ accE hd (L.take (j + 1)) = leadL k ++ accE hd (L.take j) ++ (if L[j] = 10 ∧ j < hd then [13, 10] else [L[j]])) := by
            show _ = _
            rw [accE_take L hd j hlt2, List.append_assoc]
          have hal : (leadL k ++ accE hd (L.take j)).length ≤ 40000 := by
            have := accE_len (L.take j) hd
            rw [List.length_take] at this
            rw [List.length_append]
            omega
          generalize L[j] = y at *
          generalize leadL k ++ accE hd (L.take j) = M at *
          by_cases hjd : j < hd
          · have hjd2 : (j : Int) < (L.length : Int) - 1 - (b.length : Int) := by have := HD.out; have := HX.out.1; omega
            by_cases h13 : y = 13
            · subst h13
              go_wp2_with fail
              go_ret
              exact ⟨rfl, B5.trans ((hbr.trans hbr2).mono s5)⟩
            · have n13 : ((y.toNat : Int) == 13) = false := by
                rw [beq_eq_false_iff_ne]; intro e; exact h13 (UInt8.toNat.inj (show y.toNat = 13 by omega))
              by_cases h10 : y = 10
              · subst h10
                rw [if_pos ⟨rfl, hjd⟩] at HT
                go_wp2_with (first
                  | (at_builtin; refine wpList_plain rfl fun K hK => ?_; refine appW1 (.tmp 74) (.tmp 75) rfl w5.heap.size _ M 13 wr _ (by rfl) rfl ho2 rfl (by omega) sr3 ?_; intro v7 w7 ho7 g7; have s7 := g7.g.size; refine hK _ _ ?_)
                  | (at_builtin; refine wpList_plain rfl fun K hK => ?_; refine appW1 (.tmp 77) (.tmp 79) rfl w5.heap.size v7 (M ++ [13]) 10 w7 _ (by rfl) rfl ho7 rfl (by simp only [List.length_append, List.length_cons, List.length_nil]; omega) (by omega) ?_; intro v8 w8 ho8 g8; refine hK _ _ ?_))
                have hb8 := (hbr2.trans (g7.below ho2 sr3)).trans (g8.below ho7 (by omega))
                have e8 : M ++ [13] ++ [10] = M ++ [13, 10] := by simp
                rw [e8, ← HT.out] at ho8
                go_roundw
                case rel => exact ⟨j + 1, by omega, by go_num, ho8, hb8⟩
                case measure => simp [RowKit.intOf]; omega
              · have n10 : ((y.toNat : Int) == 10) = false := by
                  rw [beq_eq_false_iff_ne]; intro e; exact h10 (UInt8.toNat.inj (show y.toNat = 10 by omega))
                rw [if_neg (fun h => h10 h.1)] at HT
                go_wp2_with (at_builtin; refine wpList_plain rfl fun K hK => ?_; refine appW1 (.tmp 77) (.tmp 79) rfl w5.heap.size _ M y wr _ (by rfl) rfl ho2 rfl (by omega) sr3 ?_; intro v7 w7 ho7 g7; refine hK _ _ ?_)
                have hb8 := hbr2.trans (g7.below ho2 sr3)
                rw [← HT.out] at ho7
                go_roundw
                case rel => exact ⟨j + 1, by omega, by go_num, ho7, hb8⟩
                case measure => simp [RowKit.intOf]; omega
          · have hjd2 : decide ((j : Int) < (L.length : Int) - 1 - (b.length : Int)) = false := decide_eq_false (by have := HD.out; have := HX.out.1; omega)
            rw [if_neg (fun h => hjd h.2)] at HT
            by_cases h13 : y = 13
            · subst h13
              go_wp2_with (at_builtin; refine wpList_plain rfl fun K hK => ?_; refine appW1 (.tmp 77) (.tmp 79) rfl w5.heap.size _ M 13 wr _ (by rfl) rfl ho2 rfl (by omega) sr3 ?_; intro v7 w7 ho7 g7; refine hK _ _ ?_)
              have hb8 := hbr2.trans (g7.below ho2 sr3)
              rw [← HT.out] at ho7
              go_roundw
              case rel => exact ⟨j + 1, by omega, by go_num, ho7, hb8⟩
              case measure => simp [RowKit.intOf]; omega
            · have n13 : ((y.toNat : Int) == 13) = false := by
                rw [beq_eq_false_iff_ne]; intro e; exact h13 (UInt8.toNat.inj (show y.toNat = 13 by omega))
              by_cases h10 : y = 10
              · subst h10
                go_wp2_with (at_builtin; refine wpList_plain rfl fun K hK => ?_; refine appW1 (.tmp 77) (.tmp 79) rfl w5.heap.size _ M 10 wr _ (by rfl) rfl ho2 rfl (by omega) sr3 ?_; intro v7 w7 ho7 g7; refine hK _ _ ?_)
                have hb8 := hbr2.trans (g7.below ho2 sr3)
                rw [← HT.out] at ho7
                go_roundw
                case rel => exact ⟨j + 1, by omega, by go_num, ho7, hb8⟩
                case measure => simp [RowKit.intOf]; omega
              · have n10 : ((y.toNat : Int) == 10) = false := by
                  rw [beq_eq_false_iff_ne]; intro e; exact h10 (UInt8.toNat.inj (show y.toNat = 10 by omega))
                go_wp2_with (at_builtin; refine wpList_plain rfl fun K hK => ?_; refine appW1 (.tmp 77) (.tmp 79) rfl w5.heap.size _ M y wr _ (by rfl) rfl ho2 rfl (by omega) sr3 ?_; intro v7 w7 ho7 g7; refine hK _ _ ?_)
                have hb8 := hbr2.trans (g7.below ho2 sr3)
                rw [← HT.out] at ho7
                go_roundw
                case rel => exact ⟨j + 1, by omega, by go_num, ho7, hb8⟩
                case measure => simp [RowKit.intOf]; omega
        · obtain rfl : j = L.length := by omega
          have hkz2 : decide ((L.length : Int) < (L.length : Int)) = false := by simp
          rw [List.take_length, HA.out] at ho2
          have B7 := B5.trans ((hbr.trans hbr2).mono s5)
          have hEl : E.length ≤ 40000 := by
            have := accE_len L hd
            rw [HA.out] at this
            omega
          obtain ⟨xa, xc, rfl⟩ := ho2.shape
          have hlen2 : (leadL k ++ E).length = (leadL k).length + E.length := List.length_append
          have hcv := conv_any ho2.rd
          have hbb := hbr.trans hbr2
          have hr7 := hr5.on hbb
          have k7 := k5.on hbb
          by_cases hE : 16384 < E.length
          · have z6 : decide ((16384 : Int) < ((leadL k ++ E).length : Int) - ((leadL k).length : Int)) = true := decide_eq_true (by omega)
            go_wp2_with fail
            go_ret
            exact ⟨rfl, B7⟩
          · have z6 : decide ((16384 : Int) < ((leadL k ++ E).length : Int) - ((leadL k).length : Int)) = false := decide_eq_false (by omega)
            have NX := next_any wr (leadL k ++ E) (by omega) ((hV.on B7).mono B7.size)
            unfold NextP at NX
            rw [HN.out (by omega) k] at NX
            dsimp only at NX
            have hM : (leadL k ++ E).length ≤ 80000 := by omega
            clear hlen2 ho2 HA HN HC HW hr5 k5
            generalize leadL k ++ E = M at *
            go_wp2_with fail
            refine NX.mono ?_
            rintro e w8 ⟨b8, hv', rfl, ho8⟩
            obtain ⟨ha', hn', hc', rfl⟩ := ho8.shape
            have B8 := B7.trans (b8.mono B7.size)
            have k8 := (k7.on b8).alloc (.cells #[str c, .slice ha' hn' hc', str b] 24)
            have k8' := Blk.new w8 #[str c, .slice ha' hn' hc', str b] 24
            have b9 := below_new w8 (.cells #[str c, .slice ha' hn' hc', str b] 24)
            have B9 := B8.trans (b9.mono B8.size)
            have hr9 := (hr7.on b8).on b9
            have hr9' := ho8.rd.on b9
            clear NX ho8 b8 b9 hr7 k7 hcv
            go_upto_region 27 with fail
            generalize w8.alloc (.cells #[str c, .slice ha' hn' hc', str b] 24) = w9 at *
            have S := same_any w9 c b c b _ _ H H hr9' hr9 (by omega)
            have e1 : sameB c b H c b H = true := by unfold sameB; simp
            rw [e1] at S
            have d0 := k8.cell 0
            have d1 := k8.cell 1
            have d2 := k8.cell 2
            have d3 := k8'.cell 0
            have d4 := k8'.cell 1
            have d5 := k8'.cell 2
            simp only [List.getElem?_toArray, List.getElem?_cons_zero, List.getElem?_cons_succ] at d0 d1 d2 d3 d4 d5
            go_wp2_with fail
            refine S.mono ?_
            rintro e w10 ⟨rfl, b10⟩
            go_wp2
            go_ret
            exact ⟨rfl, B9.trans (b10.mono B9.size)⟩
end Go.Proofs.YtfdbekfbbihdgaaDoor
