
/- The document's Encode. Conditions: those that each row states. -/
import Derived.Test.YtfdbekfbbihdgaaDoorCj
import Derived.Test.YtfdbekfbbihdgaaDoorPz
import Derived.Test.YtfdbekfbbihdgaaDoorRy
import Derived.Test.YtfdbekfbbihdgaaDoorRw
import Derived.Deep.DeepCutAuto
import Derived.OrdersHeld
namespace Go.Proofs.YtfdbekfbbihdgaaDoor
open Go.RowKit Go.Lib
set_option maxRecDepth 100000
set_option linter.unusedSimpArgs false

def hb (n : Int) (s : Bs) : Bool := decide (UInt8.ofNat n.toNat ∈ s)
theorem rholds_g (w : World) (s : Bs) (n : Int) (h : s.length ≤ 32768 ∧ 0 ≤ n ∧ n < 256) : Calls Tryd.prog 23 #[str s, .int .u8 n] w fun e w' => e = .returned (.bool (hb n s)) ∧ w' = w := by
  obtain ⟨h1, h2, h3⟩ := h
  have := rholds_any w s (UInt8.ofNat n.toNat) (by omega)
  have hc : (((UInt8.ofNat n.toNat).toNat : Nat) : Int) = n := by
    rw [UInt8.toNat_ofNat']
    omega
  rw [hc] at this
  exact this
theorem ownW_empty (w : World) (B : Nat) (hB : B ≤ w.heap.size) : OwnW (w.alloc (.cells #[] 5)) B (.slice (some ⟨w.heap.size, 0, none⟩) 0 0) [] :=
  .inr ⟨w.heap.size, 0, #[], (0, 0), rfl, hB, heap_alloc_new w _, .inl rfl, Nat.le_refl _, Nat.zero_le _, rfl, rfl⟩
theorem one_cell {W : World} {g : Nat} {y : UInt8} (h : Blk W g #[.int .u8 (y.toNat : Int)] 5) : ∀ j u, (byteCells [y])[j]? = some u → W.cell? ((⟨g, 0, none⟩ : Addr).add j) = some u
  | 0, u, hu => by
    have h0 := h.cell 0
    rw [Addr.add_lit]
    simp [byteCells] at hu
    subst hu
    exact h0
  | j + 1, u, hu => by simp [byteCells] at hu
theorem cell_on {w w' : World} {b o : Nat} {x : Value} (h : w.cell? ⟨b, o, none⟩ = some x) (hb : Below w.heap.size w w') : w'.cell? ⟨b, o, none⟩ = some x := by
  rw [hb.cell (p := ⟨b, o, none⟩) (World.block_lt_of_cell? w _ h)]; exact h
theorem cell_gw {w w' : World} {v v' : Value} {b o : Nat} {x : Value} (h : w.cell? ⟨b, o, none⟩ = some x) (hg : GW w w' v v') (hne : v.ownBlock ≠ some b) : w'.cell? ⟨b, o, none⟩ = some x := by
  rw [hg.cell (World.block_lt_of_cell? w _ h) hne]; exact h
theorem refuse_of {f : Fr} (h : ¬ (okD f = true ∧ f.hs.all (stD (bare f.cmd)) = true ∧ (writeL f).length ≤ 16384)) : canL f = false ∨ 16384 < (writeL f).length := by
  by_cases h1 : 16384 < (writeL f).length
  · exact .inr h1
  · left
    cases hc : canL f with
    | false => rfl
    | true => exact absurd ((can_D f).1 ⟨hc, by omega⟩) h
theorem sizeI_ge (H : List Hd) : -2 ≤ sizeI H := by
  unfold sizeI lenI
  split
  · split <;> omega
  · omega
set_option maxHeartbeats 40000000 in
theorem renc_some (w : World) (c b : Bs) (H : List Hd) (g o cp : Nat) (hcp : H.length ≤ cp) (h : ∀ i (h : i < H.length), HdAt w g (o + i * 2) H[i]) (hwt : c.length + b.length + wtL H ≤ 32768) :
    Calls Tryd.prog 11 #[frV c (.slice (some ⟨g, o, none⟩) H.length cp) b] w fun e w' => EncQ w w' ⟨c, H, b⟩ e ∧ Below w.heap.size w w' := by
  obtain ⟨hw1, hw2⟩ := wtL_mem H
  have hWL : Hid (writeL ⟨c, H, b⟩ = c ++ [10] ++ hdsP (bare c) H ++ [10] ++ b ++ [0]) := (rfl : writeL ⟨c, H, b⟩ = _)
  have hr0 : RdH w (.slice (some ⟨g, o, none⟩) H.length cp) H := .inr ⟨g, o, cp, rfl, hcp, h⟩
  have REF : Hid (¬ (okD ⟨c, H, b⟩ = true ∧ H.all (stD (bare c)) = true ∧ (writeL ⟨c, H, b⟩).length ≤ 16384) → ∀ w', EncQ w w' ⟨c, H, b⟩ (.returned (.tuple #[.slice none 0 0, .int .i64 1]))) := fun h w' => .inr ⟨refuse_of h, rfl⟩
  have HOK : Hid (okD ⟨c, H, b⟩ = (isCmd c && (decide (H.length ≤ 32) && (decide (b.length ≤ 1024) && okZ (sizeI H) b)))) := (rfl : okD ⟨c, H, b⟩ = _)
  have EQ : Hid (okD ⟨c, H, b⟩ = true → H.all (stD (bare c)) = true → (16384 < (writeL ⟨c, H, b⟩).length → ∀ w', EncQ w w' ⟨c, H, b⟩ (.returned (.tuple #[.slice none 0 0, .int .i64 1]))) ∧ (¬ 16384 < (writeL ⟨c, H, b⟩).length → ∀ w' a cp, OwnW w' w.heap.size (.slice a (writeL ⟨c, H, b⟩).length cp) (writeL ⟨c, H, b⟩) → EncQ w w' ⟨c, H, b⟩ (.returned (.tuple #[.slice a (writeL ⟨c, H, b⟩).length cp, .int .i64 0])))) := fun h1 h2 => ⟨fun h3 w' => .inr ⟨.inr h3, rfl⟩, fun h3 w' a cp ho => .inl ⟨((can_D ⟨c, H, b⟩).2 ⟨h1, h2, by omega⟩).1, by omega, a, cp, rfl, ho⟩⟩
  have hz2 := sizeI_ge H
  have SZ := fun w' (hb : Below w.heap.size w w') => rsize_any w' c b _ H (hr0.on hb) (by omega) (fun h hh => by have := hw2 h hh; omega)
  have IC := fun w => rcommand_any w c (by omega)
  have IB := fun w => rplain_any w c
  have HZ0 : ∀ w, Calls Tryd.prog 23 #[str b, .int .u8 0] w fun e w' => e = .returned (.bool (decide (0 ∈ b))) ∧ w' = w := fun w => rholds_any w b 0 (by omega)
  have HLn : Hid (∀ k, (hdsP (bare c) (H.take k)).length ≤ 65536) := fun k => by
    have h1 := hdsP_len (bare c) (H.take k)
    have h2 := wtL_take H k
    omega
  have HS : Hid (∀ (k : Nat) (h : k < H.length), hdsP (bare c) (H.take (k + 1)) = hdsP (bare c) (H.take k) ++ hdP (bare c) H[k]) := fun k h => hdsP_snoc (bare c) H k h
  have HM : Hid (∀ h ∈ H, h.1.length + h.2.length ≤ 32768) := fun h hh => by have := hw2 h hh; omega
  have H1 : Hid (∀ i (h : i < H.length), HdAt w g (o + i * 2) H[i]) := h
  clear h
  have hHn : H.length ≤ 32768 := by omega
  have hcl : c.length ≤ 32768 := by omega
  have hbl : b.length ≤ 32768 := by omega
  have k0 := Blk.new w #[str c, (.slice (some ⟨g, o, none⟩) H.length cp), str b] 24
  have b0 := below_new w (.cells #[str c, (.slice (some ⟨g, o, none⟩) H.length cp), str b] 24)
  have s0 : (w.alloc (.cells #[str c, (.slice (some ⟨g, o, none⟩) H.length cp), str b] 24)).heap.size = w.heap.size + 1 := by simp
  clear hwt hw1 hw2 hr0
  obtain ⟨f, hf⟩ : ∃ f, Hid ((⟨c, H, b⟩ : Fr) = f) := ⟨_, (rfl : (⟨c, H, b⟩ : Fr) = _)⟩
  rw [hf.out] at hWL REF HOK EQ ⊢
  generalize okD f = od at *
  generalize bare c = bb at *
  generalize isCmd c = ic at *
  generalize sizeI H = z at *
  go_enter Tryd.func11, Tryd.ntmps11
  go_upto_region 1 with fail
  generalize w.alloc (.cells #[str c, (.slice (some ⟨g, o, none⟩) H.length cp), str b] 24) = w1 at *
  have d0 := k0.cell 0
  have d1 := k0.cell 1
  have d2 := k0.cell 2
  simp only [List.getElem?_toArray, List.getElem?_cons_zero, List.getElem?_cons_succ] at d0 d1 d2
  have SZ1 := SZ w1 b0
  go_wp2_with fail
  refine SZ1.mono ?_
  rintro e w2 ⟨rfl, b2⟩
  have k2 := k0.on b2
  have B2 := b0.trans (b2.mono (by omega))
  have s2 := b2.size
  have d0 := k2.cell 0
  have d1 := k2.cell 1
  have d2 := k2.cell 2
  simp only [List.getElem?_toArray, List.getElem?_cons_zero, List.getElem?_cons_succ] at d0 d1 d2
  clear SZ SZ1 k0 b0 b2
  go_upto_region 2 with fail
  go_cut [50] (fun s W => s = .bool (!od) ∧ w2 = W)
  case first =>
    cases ic with
    | false =>
      have hz : od = false := by rw [HOK.out]; rfl
      go_wp2_with (go_at_call 22; refine (IC _).mono ?_; rintro e wq ⟨rfl, rfl⟩)
      go_meet
      case rel => exact ⟨by rw [hz]; rfl, rfl⟩
    | true =>
      by_cases h32 : 32 < H.length
      · have hz : od = false := by rw [HOK.out, decide_eq_false (by omega : ¬ H.length ≤ 32)]; rfl
        have z1 : decide ((32 : Int) < (H.length : Int)) = true := decide_eq_true (by omega)
        go_wp2_with (go_at_call 22; refine (IC _).mono ?_; rintro e wq ⟨rfl, rfl⟩)
        go_meet
        case rel => exact ⟨by rw [hz]; rfl, rfl⟩
      have z1 : decide ((32 : Int) < (H.length : Int)) = false := decide_eq_false (by omega)
      by_cases h1k : 1024 < b.length
      · have hz : od = false := by rw [HOK.out, decide_eq_false (by omega : ¬ b.length ≤ 1024)]; cases decide (H.length ≤ 32) <;> rfl
        have z2 : decide ((1024 : Int) < (b.length : Int)) = true := decide_eq_true (by omega)
        go_wp2_with (go_at_call 22; refine (IC _).mono ?_; rintro e wq ⟨rfl, rfl⟩)
        go_meet
        case rel => exact ⟨by rw [hz]; rfl, rfl⟩
      have z2 : decide ((1024 : Int) < (b.length : Int)) = false := decide_eq_false (by omega)
      have hod : Hid (od = okZ z b) := by
        show od = _
        rw [HOK.out, decide_eq_true (by omega : H.length ≤ 32), decide_eq_true (by omega : b.length ≤ 1024)]
        rfl
      clear HOK h32 h1k
      by_cases hm2 : z = -2
      · subst hm2
        have hz : od = false := by rw [hod.out]; rfl
        go_wp2_with (go_at_call 22; refine (IC _).mono ?_; rintro e wq ⟨rfl, rfl⟩)
        go_meet
        case rel => exact ⟨by rw [hz]; rfl, rfl⟩
      have zm2 : (z == -2) = false := by rw [beq_eq_false_iff_ne]; exact hm2
      by_cases hm0 : 0 ≤ z ∧ z ≠ (b.length : Int)
      · have hz : od = false := by rw [hod.out]; unfold okZ; rw [decide_eq_true hm0.1, decide_eq_false hm0.2]; cases decide (z = -2) <;> rfl
        have zz : decide (0 ≤ z) = true := decide_eq_true hm0.1
        have zn : (z != (b.length : Int)) = true := by unfold bne; rw [(by rw [beq_eq_false_iff_ne]; exact hm0.2 : (z == (b.length : Int)) = false)]; rfl
        clear hm0
        go_wp2_with (go_at_call 22; refine (IC _).mono ?_; rintro e wq ⟨rfl, rfl⟩)
        go_meet
        case rel => exact ⟨by rw [hz]; rfl, rfl⟩
      by_cases hm1 : z = -1 ∧ 0 ∈ b
      · have hz : od = false := by rw [hod.out]; unfold okZ; rw [decide_eq_true hm1.1, decide_eq_true hm1.2]; cases decide (z = -2) <;> cases (decide (0 ≤ z) && !decide (z = (b.length : Int))) <;> rfl
        obtain ⟨rfl, hm⟩ := hm1
        have zh : decide (0 ∈ b) = true := decide_eq_true hm
        rw [zh] at HZ0
        clear hm zh
        go_wp2_with (first | (go_at_call 22; refine (IC _).mono ?_; rintro e wq ⟨rfl, rfl⟩) | (go_at_call 23; refine (HZ0 _).mono ?_; rintro e wq ⟨rfl, rfl⟩))
        go_meet
        case rel => exact ⟨by rw [hz]; rfl, rfl⟩
      have hz : od = true := by
        rw [hod.out]
        unfold okZ
        rw [decide_eq_false hm2]
        simp only [Bool.not_false, Bool.true_and, Bool.and_eq_true, Bool.not_eq_true']
        refine ⟨?_, ?_⟩
        · rw [Bool.and_eq_false_iff]
          by_cases h : 0 ≤ z
          · right
            have : z = (b.length : Int) := Classical.byContradiction fun h2 => hm0 ⟨h, h2⟩
            simp [this]
          · left; exact decide_eq_false h
        · rw [Bool.and_eq_false_iff]
          by_cases h : z = -1
          · right; exact decide_eq_false fun h2 => hm1 ⟨h, h2⟩
          · left; exact decide_eq_false h
      refine (fun {Q : Prop} (k : (z = (b.length : Int) ∨ (z = -1 ∧ decide (0 ∈ b) = false)) → Q) => k (by
        by_cases h : 0 ≤ z
        · exact .inl (Classical.byContradiction fun h2 => hm0 ⟨h, h2⟩)
        · have : z = -1 := by omega
          exact .inr ⟨this, decide_eq_false fun h2 => hm1 ⟨this, h2⟩⟩)) fun hcase => ?_
      clear hm0 hm1 hm2 hod hz2
      rcases hcase with hzb | ⟨hzb, zh⟩
      · have zz : decide (0 ≤ z) = true := decide_eq_true (by omega)
        have zn : (z != (b.length : Int)) = false := by rw [hzb]; simp
        have z9 : (z == -1) = false := by rw [beq_eq_false_iff_ne]; omega
        clear hzb
        go_wp2_with (go_at_call 22; refine (IC _).mono ?_; rintro e wq ⟨rfl, rfl⟩)
        go_meet
        case rel => exact ⟨by rw [hz]; rfl, rfl⟩
      · have zz : decide (0 ≤ z) = false := decide_eq_false (by omega)
        have z9 : (z == -1) = true := by rw [hzb]; rfl
        rw [zh] at HZ0
        clear hzb zh
        go_wp2_with (first | (go_at_call 22; refine (IC _).mono ?_; rintro e wq ⟨rfl, rfl⟩) | (go_at_call 23; refine (HZ0 _).mono ?_; rintro e wq ⟨rfl, rfl⟩))
        go_meet
        case rel => exact ⟨by rw [hz]; rfl, rfl⟩
  case rest =>
    obtain ⟨e50, ew⟩ := hcut
    subst e50
    subst ew
    clear HOK hz2 HZ0 IC
    cases od with
    | false =>
      have hr := REF.out (fun h => by cases h.1)
      go_wp2_with fail
      go_ret2
      exact ⟨hr _, B2⟩
    | true =>
      have EQ2 : Hid (H.all (stD bb) = true → (16384 < (writeL f).length → ∀ w', EncQ w w' f (.returned (.tuple #[.slice none 0 0, .int .i64 1]))) ∧ (¬ 16384 < (writeL f).length → ∀ w' a cp, OwnW w' w.heap.size (.slice a (writeL f).length cp) (writeL f) → EncQ w w' f (.returned (.tuple #[.slice a (writeL f).length cp, .int .i64 0])))) := EQ.out rfl
      clear EQ
      have hlB : w.heap.size < w2.heap.size := by omega
      have hll : (c ++ [10]).length ≤ 32770 := by simp only [List.length_append, List.length_cons, List.length_nil]; omega
      go_upto_region 5 with (go_at_call 24; refine (IB _).mono ?_; rintro e w2 ⟨rfl, rfl⟩)
      have o0 := ownW_empty w2 w2.heap.size (Nat.le_refl _)
      have b3 := below_new w2 (.cells #[] 5)
      have s3 := b3.size
      have k3 := k2.on b3
      have d0 := k3.cell 0
      simp only [List.getElem?_toArray, List.getElem?_cons_zero, List.getElem?_cons_succ] at d0
      go_upto_region 7 with (first
        | (at_builtin; refine wpList_plain rfl fun K hK => ?_; refine appWS (.tmp 54) (.tmp 56) rfl w2.heap.size _ [] c _ rfl o0 rfl (by simp only [List.length_nil]; omega) s3 ?_; intro v3 w3 ho3 g3; have s4 := g3.g.size; refine hK _ _ ?_)
        | (at_builtin; refine wpList_plain rfl fun K hK => ?_; refine appW1 (.tmp 58) (.tmp 59) rfl w2.heap.size v3 ([] ++ c) 10 w3 _ (by rfl) rfl ho3 rfl (by simp only [List.length_append, List.length_nil]; omega) (by omega) ?_; intro v4 w4 ho4 g4; refine hK _ _ ?_))
      rw [List.nil_append] at ho4
      have BB : Below w2.heap.size w2 w4 := (b3.trans (g3.below o0 s3)).trans (g4.below ho3 (by omega))
      have k4 := k2.on BB
      have s4b := BB.size
      have d0 := k4.cell 0
      have d1 := k4.cell 1
      have d2 := k4.cell 2
      simp only [List.getElem?_toArray, List.getElem?_cons_zero, List.getElem?_cons_succ] at d0 d1 d2
      clear o0 b3 g3 g4 ho3 k3 s3 s4
      go_wp2_with fail
      go_loopw [6, 64] (fun u i wr => ∃ (k : Nat) (v : Value), k ≤ H.length ∧ v = u ∧ i = .int .i64 k ∧ OwnW wr w2.heap.size v (c ++ [10] ++ hdsP bb (H.take k)) ∧ Below w2.heap.size w4 wr ∧ Hid (∀ (j : Nat) (h : j < H.length), j < k → stD bb H[j] = true)) (fun _ i _ => H.length - (RowKit.intOf i).toNat)
      case atStart => exact ⟨0, _, Nat.zero_le _, rfl, rfl, by simpa [hdsP] using ho4, Below.refl _ _, fun j _ h => absurd h (Nat.not_lt_zero _)⟩
      case round =>
        clear ho4 d0 d1 d2
        obtain ⟨k, v, hk, rfl, rfl, ho, hbr, HB⟩ := hrel
        have s3 := hbr.size
        have BR := BB.trans hbr
        have kr := k2.on BR
        have hLl : (c ++ [10] ++ hdsP bb (H.take k)).length ≤ 98306 := by
          have := HLn.out k
          rw [List.length_append]
          omega
        have hkr := kr.lt
        by_cases hlt : k < H.length
        · obtain ⟨a0, a1⟩ := ((H1.out k hlt).on B2).on BR
          have hmk := HM.out H[k] (List.getElem_mem hlt)
          have HSk : Hid (c ++ [10] ++ hdsP bb (H.take (k + 1)) = c ++ [10] ++ hdsP bb (H.take k) ++ putL bb H[k].1 ++ [58] ++ putL bb H[k].2 ++ [10]) := by
            show _ = _
            rw [HS.out k hlt]
            simp [hdP, List.append_assoc]
          have HY : Hid (stD bb H[k] = true → (∀ (j : Nat) (h : j < H.length), j < k + 1 → stD bb H[j] = true)) := fun h j hj hj2 => by
            rcases Nat.lt_or_ge j k with h3 | h3
            · exact HB.out j hj h3
            · have : j = k := by omega
              subst this; exact h
          have HF : Hid (stD bb H[k] = false → ∀ w', EncQ w w' f (.returned (.tuple #[.slice none 0 0, .int .i64 1]))) := fun h w' => REF.out (fun h2 => by
            have := List.all_eq_true.1 h2.2.1 H[k] (List.getElem_mem hlt)
            rw [h] at this; cases this) w'
          obtain ⟨⟨pn, pt⟩, hp⟩ : ∃ p, p = H[k] := ⟨_, rfl⟩
          rw [← hp] at a0 a1 hmk HSk HY HF
          dsimp only at a0 a1 hmk HSk HY HF
          clear hp HB
          have hkz : (k : Int) < (H.length : Int) := by omega
          have hl1 := putL_len bb pn
          have hl2 := putL_len bb pt
          have hpnl : pn.length ≤ 32768 := by omega
          have hptl : pt.length ≤ 32768 := by omega
          have HSt : Hid (stD bb (pn, pt) = (!decide (pn = []) && (!bb || !(hb 58 pn || (hb 13 pn || (hb 10 pn || (hb 13 pt || hb 10 pt))))))) := (rfl : stD bb (pn, pt) = _)
          generalize c ++ [10] ++ hdsP bb (H.take k) = L at *
          have k6 := Blk.new wr #[str pn, str pt] 42
          have bn := below_new wr (.cells #[str pn, str pt] 42)
          have ho1 := ho.on bn
          have sn : wr.heap.size < (wr.alloc (.cells #[str pn, str pt] 42)).heap.size := by simp
          have hne6 : ∀ x, v.ownBlock = some x → x ≠ wr.heap.size := fun x hx => Nat.ne_of_lt (ho.lt x hx).2
          have BN : Below w.heap.size w (wr.alloc (.cells #[str pn, str pt] 42)) := B2.trans ((BR.trans (bn.mono (by omega))).mono (by omega))
          generalize hst : stD bb (pn, pt) = st at *
          go_upto_region 10 with fail
          go_cut [98] (fun s W => s = .bool (!st) ∧ W = wr.alloc (.cells #[str pn, str pt] 42))
          case first =>
            by_cases hpn : pn = []
            · have hz : st = false := by rw [HSt.out, decide_eq_true hpn]; rfl
              have hpb : (pn == []) = true := by rw [beq_l]; simpa using hpn
              clear hpn HSt
              go_wp2_with fail
              go_meet
              case rel => exact ⟨by rw [hz]; rfl, rfl⟩
            have hpb : (pn == []) = false := by rw [beq_l]; simpa using hpn
            rw [decide_eq_false hpn] at HSt
            clear hpn
            cases bb with
            | false =>
              have hz : st = true := by rw [HSt.out]; rfl
              clear HSt
              go_wp2_with fail
              go_meet
              case rel => exact ⟨by rw [hz]; rfl, rfl⟩
            | true =>
              rcases q1 : hb 58 pn with _ | _
              rotate_left
              · have hz : st = false := by rw [HSt.out, q1]; rfl
                replace q1 : Hid (hb 58 pn = true) := q1
                clear HSt
                go_wp2_with (go_at_call 23; refine (rholds_g _ _ _ ⟨by assumption, by decide, by decide⟩).mono ?_; rintro e wq ⟨rfl, rfl⟩; first | rw [q1.out])
                go_meet
                case rel => exact ⟨by rw [hz]; rfl, rfl⟩
              replace q1 : Hid (hb 58 pn = false) := q1
              rcases q2 : hb 13 pn with _ | _
              rotate_left
              · have hz : st = false := by rw [HSt.out, q1.out, q2]; rfl
                replace q2 : Hid (hb 13 pn = true) := q2
                clear HSt
                go_wp2_with (go_at_call 23; refine (rholds_g _ _ _ ⟨by assumption, by decide, by decide⟩).mono ?_; rintro e wq ⟨rfl, rfl⟩; first | rw [q1.out] | rw [q2.out])
                go_meet
                case rel => exact ⟨by rw [hz]; rfl, rfl⟩
              replace q2 : Hid (hb 13 pn = false) := q2
              rcases q3 : hb 10 pn with _ | _
              rotate_left
              · have hz : st = false := by rw [HSt.out, q1.out, q2.out, q3]; rfl
                replace q3 : Hid (hb 10 pn = true) := q3
                clear HSt
                go_wp2_with (go_at_call 23; refine (rholds_g _ _ _ ⟨by assumption, by decide, by decide⟩).mono ?_; rintro e wq ⟨rfl, rfl⟩; first | rw [q1.out] | rw [q2.out] | rw [q3.out])
                go_meet
                case rel => exact ⟨by rw [hz]; rfl, rfl⟩
              replace q3 : Hid (hb 10 pn = false) := q3
              rcases q4 : hb 13 pt with _ | _
              rotate_left
              · have hz : st = false := by rw [HSt.out, q1.out, q2.out, q3.out, q4]; rfl
                replace q4 : Hid (hb 13 pt = true) := q4
                clear HSt
                go_wp2_with (go_at_call 23; refine (rholds_g _ _ _ ⟨by assumption, by decide, by decide⟩).mono ?_; rintro e wq ⟨rfl, rfl⟩; first | rw [q1.out] | rw [q2.out] | rw [q3.out] | rw [q4.out])
                go_meet
                case rel => exact ⟨by rw [hz]; rfl, rfl⟩
              replace q4 : Hid (hb 13 pt = false) := q4
              rcases q5 : hb 10 pt with _ | _
              rotate_left
              · have hz : st = false := by rw [HSt.out, q1.out, q2.out, q3.out, q4.out, q5]; rfl
                replace q5 : Hid (hb 10 pt = true) := q5
                clear HSt
                go_wp2_with (go_at_call 23; refine (rholds_g _ _ _ ⟨by assumption, by decide, by decide⟩).mono ?_; rintro e wq ⟨rfl, rfl⟩; first | rw [q1.out] | rw [q2.out] | rw [q3.out] | rw [q4.out] | rw [q5.out])
                go_meet
                case rel => exact ⟨by rw [hz]; rfl, rfl⟩
              replace q5 : Hid (hb 10 pt = false) := q5
              have hz : st = true := by rw [HSt.out, q1.out, q2.out, q3.out, q4.out, q5.out]; rfl
              clear HSt
              go_wp2_with (go_at_call 23; refine (rholds_g _ _ _ ⟨by assumption, by decide, by decide⟩).mono ?_; rintro e wq ⟨rfl, rfl⟩; first | rw [q1.out] | rw [q2.out] | rw [q3.out] | rw [q4.out] | rw [q5.out])
              go_meet
              case rel => exact ⟨by rw [hz]; rfl, rfl⟩
          case rest =>
            clear HSt
            obtain ⟨e98, ew⟩ := hcut
            subst e98
            subst ew
            cases st with
            | false =>
              have hr := HF.out rfl
              go_wp2_with fail
              go_ret2
              exact ⟨hr _, BN⟩
            | true =>
            go_upto_region 12 with fail
            generalize wr.alloc (.cells #[str pn, str pt] 42) = wq at *
            have P1 := rwrite_any wq w2.heap.size v L pn bb ho1 (by omega) (by omega)
            have e0 := k6.cell 0
            simp only [List.getElem?_toArray, List.getElem?_cons_zero, List.getElem?_cons_succ] at e0
            go_wp2_with fail
            refine P1.mono ?_
            rintro e w5 ⟨v5, rfl, ho5, g5⟩
            have k65 := g5.blk k6 (fun e => hne6 _ e rfl)
            have hne5 : ∀ x, v5.ownBlock = some x → x ≠ wr.heap.size := fun x hx => by
              rcases g5.o x hx with h | h
              · exact hne6 x h
              · omega
            have s5 := g5.g.size
            have l5 := ho5
            clear e0 P1
            go_wp2_with (at_builtin; refine wpList_plain rfl fun K hK => ?_; refine appW1 (.tmp 103) (.tmp 104) rfl w2.heap.size v5 (L ++ putL bb pn) 58 w5 _ (by rfl) rfl ho5 rfl (by rw [List.length_append]; omega) (by omega) ?_; intro v6 w6 ho6 g6; have k66 := g6.blk k65 (fun e => hne5 _ e rfl); have e1 := k66.cell 1; simp only [List.getElem?_toArray, List.getElem?_cons_zero, List.getElem?_cons_succ] at e1; refine hK _ _ ?_)
            have s6 := g6.g.size
            have P2 := rwrite_any w6 w2.heap.size v6 (L ++ putL bb pn ++ [58]) pt bb ho6 (by omega) (by simp only [List.length_append, List.length_cons, List.length_nil]; omega)
            refine P2.mono ?_
            rintro e w7 ⟨v7, rfl, ho7, g7⟩
            have s7 := g7.g.size
            clear e1 P2
            go_wp2_with (at_builtin; refine wpList_plain rfl fun K hK => ?_; refine appW1 (.tmp 110) (.tmp 111) rfl w2.heap.size v7 (L ++ putL bb pn ++ [58] ++ putL bb pt) 10 w7 _ (by rfl) rfl ho7 rfl (by simp only [List.length_append, List.length_cons, List.length_nil]; omega) (by omega) ?_; intro v8 w8 ho8 g8; refine hK _ _ ?_)
            have B8 := ((((hbr.trans (bn.mono (by omega))).trans (g5.below ho1 (by omega))).trans (g6.below ho5 (by omega))).trans (g7.below ho6 (by omega))).trans (g8.below ho7 (by omega))
            rw [← HSk.out] at ho8
            go_roundw
            case rel => exact ⟨k + 1, v8, by omega, rfl, by go_num, ho8, B8, HY.out (by trivial)⟩
            case measure => simp [RowKit.intOf]; omega
        · obtain rfl : k = H.length := by omega
          have hall : H.all (stD bb) = true := List.all_eq_true.2 fun x hx => by
            obtain ⟨i, hi, rfl⟩ := List.getElem_of_mem hx
            exact HB.out i hi hi
          rw [List.take_length] at ho
          clear HB
          have hl6 : (c ++ [10] ++ hdsP bb H).length ≤ 98306 := by
            have h1 := HLn.out H.length
            rw [List.take_length] at h1
            rw [List.length_append]
            omega
          have hhr : w2.heap.size ≤ wr.heap.size := by omega
          go_upto_region 15 with fail
          go_cut [6] (fun s W => ∃ a cp, s = .slice a (c ++ [10] ++ hdsP bb H ++ [10] ++ b ++ [0]).length cp ∧ OwnW W w2.heap.size (.slice a (c ++ [10] ++ hdsP bb H ++ [10] ++ b ++ [0]).length cp) (c ++ [10] ++ hdsP bb H ++ [10] ++ b ++ [0]) ∧ Below w2.heap.size wr W)
          case first =>
            generalize c ++ [10] ++ hdsP bb H = L6 at *
            refine wp_region_held (S := fun W => W.cell? ⟨w.heap.size, 2, none⟩ = some (str b)) hmix ?_
            show wpAnyH _ _ _ _ _ _ _ _ (World.drew _)
            have hS0 := (kr.on (Below.refl _ wr).drew).cell 2
            simp only [List.getElem?_toArray, List.getElem?_cons_zero, List.getElem?_cons_succ] at hS0
            have ho0 := ho.on (Below.refl _ wr).drew
            have bw0 : Below w2.heap.size wr wr.drew := (Below.refl _ wr).drew
            clear ho kr
            generalize wr.drew = W0 at *
            refine tks [0, 3, 4] [v, .pointer (some ⟨w.heap.size, 2, none⟩), str b] 6 ?_ hS0 ?_
            · simp only [tkY, tkf]
              refine ⟨.yes ?_, .yes ?_, .yes ?_, trivial⟩
              all_goals
                intro W' hW'
                go_simp
            simp only [tkA, tkf]
            refine wpAnyH_two (i := 1) (j := 6) (by kernel_rfl) rfl (by rfl) rfl (by rfl) (fun K hK => ?_) (fun K hK => ?_)
            · go_wp2_with fail
              have bn1 := below_new W0 (.cells #[.int .u8 10] 5)
              have kn1 := Blk.new W0 #[.int .u8 10] 5
              have ho1 := ho0.on bn1
              have ls1 := Nat.le_trans hhr bw0.size
              have bw1 := bw0.trans (bn1.mono ls1)
              have ne1 : ∀ x, (v : Value).ownBlock = some x → x ≠ (W0).heap.size := fun x hx => Nat.ne_of_lt (ho0.lt x hx).2
              have hS1 := cell_on hS0 bn1
              have sz1 : (W0).heap.size < ((W0).alloc (.cells #[.int .u8 10] 5)).heap.size := by simp
              refine hK _ _ hS1 ?_
              clear hK K
              generalize hg1 : (W0).heap.size = g1 at *
              generalize (W0).alloc (.cells #[.int .u8 10] 5) = W1 at *
              refine wpAnyH_two (i := 2) (j := 6) (by kernel_rfl) rfl (by rfl) rfl (by rfl) (fun K hK => ?_) (fun K hK => ?_)
              · have ls2 := Nat.le_trans hhr bw1.size
                refine appW (.tmp 114) (.tmp 115) rfl w2.heap.size v (L6) [10] W1 ⟨g1, 0, none⟩ 1 rfl ho1 rfl (one_cell kn1) (by simp only [List.length_append, List.length_cons, List.length_nil]; omega) (by omega) ?_
                intro v2 W2 ho2 gw2
                have bw2 := bw1.trans (gw2.below ho1 ls2)
                have hS2 := cell_gw hS1 gw2 (fun e => by have := (ho1.lt _ e).1; omega)
                refine hK _ _ hS2 ?_
                clear hK K
                refine wpAnyH_two (i := 5) (j := 6) (by kernel_rfl) rfl (by rfl) rfl (by rfl) (fun K hK => ?_) (fun K hK => ?_)
                · have ls3 := Nat.le_trans hhr bw2.size
                  refine appWS (.tmp 116) (.tmp 118) rfl w2.heap.size v2 (L6 ++ [10]) b W2 rfl ho2 rfl (by simp only [List.length_append, List.length_cons, List.length_nil]; omega) (by omega) ?_
                  intro v3 W3 ho3 gw3
                  have bw3 := bw2.trans (gw3.below ho2 ls3)
                  have hS3 := cell_gw hS2 gw3 (fun e => by have := (ho2.lt _ e).1; omega)
                  refine hK _ _ hS3 ?_
                  clear hK K
                  refine ak 6 (fun K hK => ?_)
                  go_wp2_with fail
                  have bn4 := below_new W3 (.cells #[.int .u8 0] 5)
                  have kn4 := Blk.new W3 #[.int .u8 0] 5
                  have ho4 := ho3.on bn4
                  have ls4 := Nat.le_trans hhr bw3.size
                  have bw4 := bw3.trans (bn4.mono ls4)
                  have ne4 : ∀ x, (v3 : Value).ownBlock = some x → x ≠ (W3).heap.size := fun x hx => Nat.ne_of_lt (ho3.lt x hx).2
                  have hS4 := cell_on hS3 bn4
                  have sz4 : (W3).heap.size < ((W3).alloc (.cells #[.int .u8 0] 5)).heap.size := by simp
                  refine hK _ _ hS4 ?_
                  clear hK K
                  generalize hg4 : (W3).heap.size = g4 at *
                  generalize (W3).alloc (.cells #[.int .u8 0] 5) = W4 at *
                  refine ak 7 (fun K hK => ?_)
                  have ls5 := Nat.le_trans hhr bw4.size
                  refine appW (.tmp 119) (.tmp 120) rfl w2.heap.size v3 (L6 ++ [10] ++ b) [0] W4 ⟨g4, 0, none⟩ 1 rfl ho4 rfl (one_cell kn4) (by simp only [List.length_append, List.length_cons, List.length_nil]; omega) (by omega) ?_
                  intro v5 W5 ho5 gw5
                  have bw5 := bw4.trans (gw5.below ho4 ls5)
                  have hS5 := cell_gw hS4 gw5 (fun e => by have := (ho4.lt _ e).1; omega)
                  refine hK _ _ hS5 ?_
                  clear hK K
                  refine ak 8 (fun K hK => ?_)
                  go_wp2_with fail
                  refine hK _ _ hS5 ?_
                  clear hK K
                  refine wpAnyH_done (by kernel_rfl) ?_ _
                  obtain ⟨a9, c9, rfl⟩ := ho5.shape
                  have hof := ho5
                  have bwf := bw5
                  go_wp2_with fail
                  go_meet
                  case rel => exact ⟨a9, c9, rfl, hof, bwf⟩
                · go_wp2_with fail
                  have bn6 := below_new W2 (.cells #[.int .u8 0] 5)
                  have kn6 := Blk.new W2 #[.int .u8 0] 5
                  have ho6 := ho2.on bn6
                  have ls6 := Nat.le_trans hhr bw2.size
                  have bw6 := bw2.trans (bn6.mono ls6)
                  have ne6 : ∀ x, (v2 : Value).ownBlock = some x → x ≠ (W2).heap.size := fun x hx => Nat.ne_of_lt (ho2.lt x hx).2
                  have hS6 := cell_on hS2 bn6
                  have sz6 : (W2).heap.size < ((W2).alloc (.cells #[.int .u8 0] 5)).heap.size := by simp
                  refine hK _ _ hS6 ?_
                  clear hK K
                  generalize hg6 : (W2).heap.size = g6 at *
                  generalize (W2).alloc (.cells #[.int .u8 0] 5) = W6 at *
                  refine ak 5 (fun K hK => ?_)
                  have ls7 := Nat.le_trans hhr bw6.size
                  refine appWS (.tmp 116) (.tmp 118) rfl w2.heap.size v2 (L6 ++ [10]) b W6 rfl ho6 rfl (by simp only [List.length_append, List.length_cons, List.length_nil]; omega) (by omega) ?_
                  intro v7 W7 ho7 gw7
                  have bw7 := bw6.trans (gw7.below ho6 ls7)
                  have hS7 := cell_gw hS6 gw7 (fun e => by have := (ho6.lt _ e).1; omega)
                  have kxB7 := gw7.blk kn6 (fun e => ne6 _ e rfl)
                  have nxB7 : ∀ x, v7.ownBlock = some x → x ≠ g6 := fun x hx => by
                    rcases gw7.o x hx with h | h
                    · exact ne6 x h
                    · have := kn6.lt; omega
                  refine hK _ _ hS7 ?_
                  clear hK K
                  refine ak 7 (fun K hK => ?_)
                  have ls8 := Nat.le_trans hhr bw7.size
                  refine appW (.tmp 119) (.tmp 120) rfl w2.heap.size v7 (L6 ++ [10] ++ b) [0] W7 ⟨g6, 0, none⟩ 1 rfl ho7 rfl (one_cell kxB7) (by simp only [List.length_append, List.length_cons, List.length_nil]; omega) (by omega) ?_
                  intro v8 W8 ho8 gw8
                  have bw8 := bw7.trans (gw8.below ho7 ls8)
                  have hS8 := cell_gw hS7 gw8 (fun e => by have := (ho7.lt _ e).1; omega)
                  refine hK _ _ hS8 ?_
                  clear hK K
                  refine ak 8 (fun K hK => ?_)
                  go_wp2_with fail
                  refine hK _ _ hS8 ?_
                  clear hK K
                  refine wpAnyH_done (by kernel_rfl) ?_ _
                  obtain ⟨a9, c9, rfl⟩ := ho8.shape
                  have hof := ho8
                  have bwf := bw8
                  go_wp2_with fail
                  go_meet
                  case rel => exact ⟨a9, c9, rfl, hof, bwf⟩
              · go_wp2_with fail
                have bn9 := below_new W1 (.cells #[.int .u8 0] 5)
                have kn9 := Blk.new W1 #[.int .u8 0] 5
                have ho9 := ho1.on bn9
                have ls9 := Nat.le_trans hhr bw1.size
                have bw9 := bw1.trans (bn9.mono ls9)
                have ne9 : ∀ x, (v : Value).ownBlock = some x → x ≠ (W1).heap.size := fun x hx => Nat.ne_of_lt (ho1.lt x hx).2
                have hS9 := cell_on hS1 bn9
                have sz9 : (W1).heap.size < ((W1).alloc (.cells #[.int .u8 0] 5)).heap.size := by simp
                have kxA9 := kn1.on bn9
                refine hK _ _ hS9 ?_
                clear hK K
                generalize hg9 : (W1).heap.size = g9 at *
                generalize (W1).alloc (.cells #[.int .u8 0] 5) = W9 at *
                refine ak 2 (fun K hK => ?_)
                have ls10 := Nat.le_trans hhr bw9.size
                refine appW (.tmp 114) (.tmp 115) rfl w2.heap.size v (L6) [10] W9 ⟨g1, 0, none⟩ 1 rfl ho9 rfl (one_cell kxA9) (by simp only [List.length_append, List.length_cons, List.length_nil]; omega) (by omega) ?_
                intro v10 W10 ho10 gw10
                have bw10 := bw9.trans (gw10.below ho9 ls10)
                have hS10 := cell_gw hS9 gw10 (fun e => by have := (ho9.lt _ e).1; omega)
                have kxB10 := gw10.blk kn9 (fun e => ne9 _ e rfl)
                have nxB10 : ∀ x, v10.ownBlock = some x → x ≠ g9 := fun x hx => by
                  rcases gw10.o x hx with h | h
                  · exact ne9 x h
                  · have := kn9.lt; omega
                refine hK _ _ hS10 ?_
                clear hK K
                refine ak 5 (fun K hK => ?_)
                have ls11 := Nat.le_trans hhr bw10.size
                refine appWS (.tmp 116) (.tmp 118) rfl w2.heap.size v10 (L6 ++ [10]) b W10 rfl ho10 rfl (by simp only [List.length_append, List.length_cons, List.length_nil]; omega) (by omega) ?_
                intro v11 W11 ho11 gw11
                have bw11 := bw10.trans (gw11.below ho10 ls11)
                have hS11 := cell_gw hS10 gw11 (fun e => by have := (ho10.lt _ e).1; omega)
                have kxB11 := gw11.blk kxB10 (fun e => nxB10 _ e rfl)
                have nxB11 : ∀ x, v11.ownBlock = some x → x ≠ g9 := fun x hx => by
                  rcases gw11.o x hx with h | h
                  · exact nxB10 x h
                  · have := kxB10.lt; omega
                refine hK _ _ hS11 ?_
                clear hK K
                refine ak 7 (fun K hK => ?_)
                have ls12 := Nat.le_trans hhr bw11.size
                refine appW (.tmp 119) (.tmp 120) rfl w2.heap.size v11 (L6 ++ [10] ++ b) [0] W11 ⟨g9, 0, none⟩ 1 rfl ho11 rfl (one_cell kxB11) (by simp only [List.length_append, List.length_cons, List.length_nil]; omega) (by omega) ?_
                intro v12 W12 ho12 gw12
                have bw12 := bw11.trans (gw12.below ho11 ls12)
                have hS12 := cell_gw hS11 gw12 (fun e => by have := (ho11.lt _ e).1; omega)
                refine hK _ _ hS12 ?_
                clear hK K
                refine ak 8 (fun K hK => ?_)
                go_wp2_with fail
                refine hK _ _ hS12 ?_
                clear hK K
                refine wpAnyH_done (by kernel_rfl) ?_ _
                obtain ⟨a9, c9, rfl⟩ := ho12.shape
                have hof := ho12
                have bwf := bw12
                go_wp2_with fail
                go_meet
                case rel => exact ⟨a9, c9, rfl, hof, bwf⟩
            · go_wp2_with fail
              have bn13 := below_new W0 (.cells #[.int .u8 0] 5)
              have kn13 := Blk.new W0 #[.int .u8 0] 5
              have ho13 := ho0.on bn13
              have ls13 := Nat.le_trans hhr bw0.size
              have bw13 := bw0.trans (bn13.mono ls13)
              have ne13 : ∀ x, (v : Value).ownBlock = some x → x ≠ (W0).heap.size := fun x hx => Nat.ne_of_lt (ho0.lt x hx).2
              have hS13 := cell_on hS0 bn13
              have sz13 : (W0).heap.size < ((W0).alloc (.cells #[.int .u8 0] 5)).heap.size := by simp
              refine hK _ _ hS13 ?_
              clear hK K
              generalize hg13 : (W0).heap.size = g13 at *
              generalize (W0).alloc (.cells #[.int .u8 0] 5) = W13 at *
              refine ak 1 (fun K hK => ?_)
              go_wp2_with fail
              have bn14 := below_new W13 (.cells #[.int .u8 10] 5)
              have kn14 := Blk.new W13 #[.int .u8 10] 5
              have ho14 := ho13.on bn14
              have ls14 := Nat.le_trans hhr bw13.size
              have bw14 := bw13.trans (bn14.mono ls14)
              have ne14 : ∀ x, (v : Value).ownBlock = some x → x ≠ (W13).heap.size := fun x hx => Nat.ne_of_lt (ho13.lt x hx).2
              have hS14 := cell_on hS13 bn14
              have sz14 : (W13).heap.size < ((W13).alloc (.cells #[.int .u8 10] 5)).heap.size := by simp
              have kxB14 := kn13.on bn14
              refine hK _ _ hS14 ?_
              clear hK K
              generalize hg14 : (W13).heap.size = g14 at *
              generalize (W13).alloc (.cells #[.int .u8 10] 5) = W14 at *
              refine ak 2 (fun K hK => ?_)
              have ls15 := Nat.le_trans hhr bw14.size
              refine appW (.tmp 114) (.tmp 115) rfl w2.heap.size v (L6) [10] W14 ⟨g14, 0, none⟩ 1 rfl ho14 rfl (one_cell kn14) (by simp only [List.length_append, List.length_cons, List.length_nil]; omega) (by omega) ?_
              intro v15 W15 ho15 gw15
              have bw15 := bw14.trans (gw15.below ho14 ls15)
              have hS15 := cell_gw hS14 gw15 (fun e => by have := (ho14.lt _ e).1; omega)
              have kxB15 := gw15.blk kxB14 (fun e => ne13 _ e rfl)
              have nxB15 : ∀ x, v15.ownBlock = some x → x ≠ g13 := fun x hx => by
                rcases gw15.o x hx with h | h
                · exact ne13 x h
                · have := kxB14.lt; omega
              refine hK _ _ hS15 ?_
              clear hK K
              refine ak 5 (fun K hK => ?_)
              have ls16 := Nat.le_trans hhr bw15.size
              refine appWS (.tmp 116) (.tmp 118) rfl w2.heap.size v15 (L6 ++ [10]) b W15 rfl ho15 rfl (by simp only [List.length_append, List.length_cons, List.length_nil]; omega) (by omega) ?_
              intro v16 W16 ho16 gw16
              have bw16 := bw15.trans (gw16.below ho15 ls16)
              have hS16 := cell_gw hS15 gw16 (fun e => by have := (ho15.lt _ e).1; omega)
              have kxB16 := gw16.blk kxB15 (fun e => nxB15 _ e rfl)
              have nxB16 : ∀ x, v16.ownBlock = some x → x ≠ g13 := fun x hx => by
                rcases gw16.o x hx with h | h
                · exact nxB15 x h
                · have := kxB15.lt; omega
              refine hK _ _ hS16 ?_
              clear hK K
              refine ak 7 (fun K hK => ?_)
              have ls17 := Nat.le_trans hhr bw16.size
              refine appW (.tmp 119) (.tmp 120) rfl w2.heap.size v16 (L6 ++ [10] ++ b) [0] W16 ⟨g13, 0, none⟩ 1 rfl ho16 rfl (one_cell kxB16) (by simp only [List.length_append, List.length_cons, List.length_nil]; omega) (by omega) ?_
              intro v17 W17 ho17 gw17
              have bw17 := bw16.trans (gw17.below ho16 ls17)
              have hS17 := cell_gw hS16 gw17 (fun e => by have := (ho16.lt _ e).1; omega)
              refine hK _ _ hS17 ?_
              clear hK K
              refine ak 8 (fun K hK => ?_)
              go_wp2_with fail
              refine hK _ _ hS17 ?_
              clear hK K
              refine wpAnyH_done (by kernel_rfl) ?_ _
              obtain ⟨a9, c9, rfl⟩ := ho17.shape
              have hof := ho17
              have bwf := bw17
              go_wp2_with fail
              go_meet
              case rel => exact ⟨a9, c9, rfl, hof, bwf⟩
          case rest =>
            obtain ⟨a9, c9, rfl, ho9, bw9⟩ := hcut
            have BF : Below w.heap.size w wc := B2.trans ((BR.mono (by omega)).trans (bw9.mono (by omega)))
            rw [← hWL.out] at ho9 ⊢
            generalize writeL f = F at *
            have HQ := EQ2.out hall
            by_cases hlen : 16384 < F.length
            · have hz : decide ((16384 : Int) < (F.length : Int)) = true := decide_eq_true (by omega)
              have hr := HQ.1 hlen
              go_wp2_with fail
              go_ret2
              exact ⟨hr _, BF⟩
            · have hz : decide ((16384 : Int) < (F.length : Int)) = false := decide_eq_false (by omega)
              have hr := HQ.2 hlen wc a9 c9 (ho9.low (by omega))
              go_wp2_with fail
              go_ret2
              exact ⟨hr, BF⟩
set_option maxHeartbeats 40000000 in
theorem renc_nil (w : World) (c b : Bs) (H : List Hd) (a : Option Addr) (cp : Nat) (hnil : H = []) (hwt : c.length + b.length + wtL H ≤ 32768) :
    Calls Tryd.prog 11 #[frV c (.slice a 0 cp) b] w fun e w' => EncQ w w' ⟨c, H, b⟩ e ∧ Below w.heap.size w w' := by
  obtain ⟨hw1, hw2⟩ := wtL_mem H
  have hWL : Hid (writeL ⟨c, H, b⟩ = c ++ [10] ++ hdsP (bare c) H ++ [10] ++ b ++ [0]) := (rfl : writeL ⟨c, H, b⟩ = _)
  have hr0 : RdH w (.slice a 0 cp) H := .inl ⟨⟨a, cp, rfl⟩, hnil⟩
  have REF : Hid (¬ (okD ⟨c, H, b⟩ = true ∧ H.all (stD (bare c)) = true ∧ (writeL ⟨c, H, b⟩).length ≤ 16384) → ∀ w', EncQ w w' ⟨c, H, b⟩ (.returned (.tuple #[.slice none 0 0, .int .i64 1]))) := fun h w' => .inr ⟨refuse_of h, rfl⟩
  have HOK : Hid (okD ⟨c, H, b⟩ = (isCmd c && (decide (H.length ≤ 32) && (decide (b.length ≤ 1024) && okZ (sizeI H) b)))) := (rfl : okD ⟨c, H, b⟩ = _)
  have EQ : Hid (okD ⟨c, H, b⟩ = true → H.all (stD (bare c)) = true → (16384 < (writeL ⟨c, H, b⟩).length → ∀ w', EncQ w w' ⟨c, H, b⟩ (.returned (.tuple #[.slice none 0 0, .int .i64 1]))) ∧ (¬ 16384 < (writeL ⟨c, H, b⟩).length → ∀ w' a cp, OwnW w' w.heap.size (.slice a (writeL ⟨c, H, b⟩).length cp) (writeL ⟨c, H, b⟩) → EncQ w w' ⟨c, H, b⟩ (.returned (.tuple #[.slice a (writeL ⟨c, H, b⟩).length cp, .int .i64 0])))) := fun h1 h2 => ⟨fun h3 w' => .inr ⟨.inr h3, rfl⟩, fun h3 w' a cp ho => .inl ⟨((can_D ⟨c, H, b⟩).2 ⟨h1, h2, by omega⟩).1, by omega, a, cp, rfl, ho⟩⟩
  have hz2 := sizeI_ge H
  have SZ := fun w' (hb : Below w.heap.size w w') => rsize_any w' c b _ H (hr0.on hb) (by omega) (fun h hh => by have := hw2 h hh; omega)
  have IC := fun w => rcommand_any w c (by omega)
  have IB := fun w => rplain_any w c
  have HZ0 : ∀ w, Calls Tryd.prog 23 #[str b, .int .u8 0] w fun e w' => e = .returned (.bool (decide (0 ∈ b))) ∧ w' = w := fun w => rholds_any w b 0 (by omega)
  have HLn : Hid (∀ k, (hdsP (bare c) (H.take k)).length ≤ 65536) := fun k => by
    have h1 := hdsP_len (bare c) (H.take k)
    have h2 := wtL_take H k
    omega
  have HS : Hid (∀ (k : Nat) (h : k < H.length), hdsP (bare c) (H.take (k + 1)) = hdsP (bare c) (H.take k) ++ hdP (bare c) H[k]) := fun k h => hdsP_snoc (bare c) H k h
  have HM : Hid (∀ h ∈ H, h.1.length + h.2.length ≤ 32768) := fun h hh => by have := hw2 h hh; omega
  have hHn : H.length ≤ 32768 := by omega
  have hcl : c.length ≤ 32768 := by omega
  have hbl : b.length ≤ 32768 := by omega
  have k0 := Blk.new w #[str c, (.slice a 0 cp), str b] 24
  have b0 := below_new w (.cells #[str c, (.slice a 0 cp), str b] 24)
  have s0 : (w.alloc (.cells #[str c, (.slice a 0 cp), str b] 24)).heap.size = w.heap.size + 1 := by simp
  clear hwt hw1 hw2 hr0
  obtain ⟨f, hf⟩ : ∃ f, Hid ((⟨c, H, b⟩ : Fr) = f) := ⟨_, (rfl : (⟨c, H, b⟩ : Fr) = _)⟩
  rw [hf.out] at hWL REF HOK EQ ⊢
  generalize okD f = od at *
  generalize bare c = bb at *
  generalize isCmd c = ic at *
  generalize sizeI H = z at *
  go_enter Tryd.func11, Tryd.ntmps11
  go_upto_region 1 with fail
  generalize w.alloc (.cells #[str c, (.slice a 0 cp), str b] 24) = w1 at *
  have d0 := k0.cell 0
  have d1 := k0.cell 1
  have d2 := k0.cell 2
  simp only [List.getElem?_toArray, List.getElem?_cons_zero, List.getElem?_cons_succ] at d0 d1 d2
  have SZ1 := SZ w1 b0
  go_wp2_with fail
  refine SZ1.mono ?_
  rintro e w2 ⟨rfl, b2⟩
  have k2 := k0.on b2
  have B2 := b0.trans (b2.mono (by omega))
  have s2 := b2.size
  have d0 := k2.cell 0
  have d1 := k2.cell 1
  have d2 := k2.cell 2
  simp only [List.getElem?_toArray, List.getElem?_cons_zero, List.getElem?_cons_succ] at d0 d1 d2
  clear SZ SZ1 k0 b0 b2
  go_upto_region 2 with fail
  go_cut [50] (fun s W => s = .bool (!od) ∧ w2 = W)
  case first =>
    cases ic with
    | false =>
      have hz : od = false := by rw [HOK.out]; rfl
      go_wp2_with (go_at_call 22; refine (IC _).mono ?_; rintro e wq ⟨rfl, rfl⟩)
      go_meet
      case rel => exact ⟨by rw [hz]; rfl, rfl⟩
    | true =>
      have h32 : ¬ 32 < H.length := by rw [hnil]; decide
      by_cases h1k : 1024 < b.length
      · have hz : od = false := by rw [HOK.out, decide_eq_false (by omega : ¬ b.length ≤ 1024)]; cases decide (H.length ≤ 32) <;> rfl
        have z2 : decide ((1024 : Int) < (b.length : Int)) = true := decide_eq_true (by omega)
        go_wp2_with (go_at_call 22; refine (IC _).mono ?_; rintro e wq ⟨rfl, rfl⟩)
        go_meet
        case rel => exact ⟨by rw [hz]; rfl, rfl⟩
      have z2 : decide ((1024 : Int) < (b.length : Int)) = false := decide_eq_false (by omega)
      have hod : Hid (od = okZ z b) := by
        show od = _
        rw [HOK.out, decide_eq_true (by omega : H.length ≤ 32), decide_eq_true (by omega : b.length ≤ 1024)]
        rfl
      clear HOK h32 h1k
      by_cases hm2 : z = -2
      · subst hm2
        have hz : od = false := by rw [hod.out]; rfl
        go_wp2_with (go_at_call 22; refine (IC _).mono ?_; rintro e wq ⟨rfl, rfl⟩)
        go_meet
        case rel => exact ⟨by rw [hz]; rfl, rfl⟩
      have zm2 : (z == -2) = false := by rw [beq_eq_false_iff_ne]; exact hm2
      by_cases hm0 : 0 ≤ z ∧ z ≠ (b.length : Int)
      · have hz : od = false := by rw [hod.out]; unfold okZ; rw [decide_eq_true hm0.1, decide_eq_false hm0.2]; cases decide (z = -2) <;> rfl
        have zz : decide (0 ≤ z) = true := decide_eq_true hm0.1
        have zn : (z != (b.length : Int)) = true := by unfold bne; rw [(by rw [beq_eq_false_iff_ne]; exact hm0.2 : (z == (b.length : Int)) = false)]; rfl
        clear hm0
        go_wp2_with (go_at_call 22; refine (IC _).mono ?_; rintro e wq ⟨rfl, rfl⟩)
        go_meet
        case rel => exact ⟨by rw [hz]; rfl, rfl⟩
      by_cases hm1 : z = -1 ∧ 0 ∈ b
      · have hz : od = false := by rw [hod.out]; unfold okZ; rw [decide_eq_true hm1.1, decide_eq_true hm1.2]; cases decide (z = -2) <;> cases (decide (0 ≤ z) && !decide (z = (b.length : Int))) <;> rfl
        obtain ⟨rfl, hm⟩ := hm1
        have zh : decide (0 ∈ b) = true := decide_eq_true hm
        rw [zh] at HZ0
        clear hm zh
        go_wp2_with (first | (go_at_call 22; refine (IC _).mono ?_; rintro e wq ⟨rfl, rfl⟩) | (go_at_call 23; refine (HZ0 _).mono ?_; rintro e wq ⟨rfl, rfl⟩))
        go_meet
        case rel => exact ⟨by rw [hz]; rfl, rfl⟩
      have hz : od = true := by
        rw [hod.out]
        unfold okZ
        rw [decide_eq_false hm2]
        simp only [Bool.not_false, Bool.true_and, Bool.and_eq_true, Bool.not_eq_true']
        refine ⟨?_, ?_⟩
        · rw [Bool.and_eq_false_iff]
          by_cases h : 0 ≤ z
          · right
            have : z = (b.length : Int) := Classical.byContradiction fun h2 => hm0 ⟨h, h2⟩
            simp [this]
          · left; exact decide_eq_false h
        · rw [Bool.and_eq_false_iff]
          by_cases h : z = -1
          · right; exact decide_eq_false fun h2 => hm1 ⟨h, h2⟩
          · left; exact decide_eq_false h
      refine (fun {Q : Prop} (k : (z = (b.length : Int) ∨ (z = -1 ∧ decide (0 ∈ b) = false)) → Q) => k (by
        by_cases h : 0 ≤ z
        · exact .inl (Classical.byContradiction fun h2 => hm0 ⟨h, h2⟩)
        · have : z = -1 := by omega
          exact .inr ⟨this, decide_eq_false fun h2 => hm1 ⟨this, h2⟩⟩)) fun hcase => ?_
      clear hm0 hm1 hm2 hod hz2
      rcases hcase with hzb | ⟨hzb, zh⟩
      · have zz : decide (0 ≤ z) = true := decide_eq_true (by omega)
        have zn : (z != (b.length : Int)) = false := by rw [hzb]; simp
        have z9 : (z == -1) = false := by rw [beq_eq_false_iff_ne]; omega
        clear hzb
        go_wp2_with (go_at_call 22; refine (IC _).mono ?_; rintro e wq ⟨rfl, rfl⟩)
        go_meet
        case rel => exact ⟨by rw [hz]; rfl, rfl⟩
      · have zz : decide (0 ≤ z) = false := decide_eq_false (by omega)
        have z9 : (z == -1) = true := by rw [hzb]; rfl
        rw [zh] at HZ0
        clear hzb zh
        go_wp2_with (first | (go_at_call 22; refine (IC _).mono ?_; rintro e wq ⟨rfl, rfl⟩) | (go_at_call 23; refine (HZ0 _).mono ?_; rintro e wq ⟨rfl, rfl⟩))
        go_meet
        case rel => exact ⟨by rw [hz]; rfl, rfl⟩
  case rest =>
    obtain ⟨e50, ew⟩ := hcut
    subst e50
    subst ew
    clear HOK hz2 HZ0 IC
    cases od with
    | false =>
      have hr := REF.out (fun h => by cases h.1)
      go_wp2_with fail
      go_ret2
      exact ⟨hr _, B2⟩
    | true =>
      have EQ2 : Hid (H.all (stD bb) = true → (16384 < (writeL f).length → ∀ w', EncQ w w' f (.returned (.tuple #[.slice none 0 0, .int .i64 1]))) ∧ (¬ 16384 < (writeL f).length → ∀ w' a cp, OwnW w' w.heap.size (.slice a (writeL f).length cp) (writeL f) → EncQ w w' f (.returned (.tuple #[.slice a (writeL f).length cp, .int .i64 0])))) := EQ.out rfl
      clear EQ
      have hlB : w.heap.size < w2.heap.size := by omega
      have hll : (c ++ [10]).length ≤ 32770 := by simp only [List.length_append, List.length_cons, List.length_nil]; omega
      go_upto_region 5 with (go_at_call 24; refine (IB _).mono ?_; rintro e w2 ⟨rfl, rfl⟩)
      have o0 := ownW_empty w2 w2.heap.size (Nat.le_refl _)
      have b3 := below_new w2 (.cells #[] 5)
      have s3 := b3.size
      have k3 := k2.on b3
      have d0 := k3.cell 0
      simp only [List.getElem?_toArray, List.getElem?_cons_zero, List.getElem?_cons_succ] at d0
      go_upto_region 7 with (first
        | (at_builtin; refine wpList_plain rfl fun K hK => ?_; refine appWS (.tmp 54) (.tmp 56) rfl w2.heap.size _ [] c _ rfl o0 rfl (by simp only [List.length_nil]; omega) s3 ?_; intro v3 w3 ho3 g3; have s4 := g3.g.size; refine hK _ _ ?_)
        | (at_builtin; refine wpList_plain rfl fun K hK => ?_; refine appW1 (.tmp 58) (.tmp 59) rfl w2.heap.size v3 ([] ++ c) 10 w3 _ (by rfl) rfl ho3 rfl (by simp only [List.length_append, List.length_nil]; omega) (by omega) ?_; intro v4 w4 ho4 g4; refine hK _ _ ?_))
      rw [List.nil_append] at ho4
      have BB : Below w2.heap.size w2 w4 := (b3.trans (g3.below o0 s3)).trans (g4.below ho3 (by omega))
      have k4 := k2.on BB
      have s4b := BB.size
      have d0 := k4.cell 0
      have d1 := k4.cell 1
      have d2 := k4.cell 2
      simp only [List.getElem?_toArray, List.getElem?_cons_zero, List.getElem?_cons_succ] at d0 d1 d2
      clear o0 b3 g3 g4 ho3 k3 s3 s4
      go_wp2_with fail
      go_loopw [6, 64] (fun u i wr => ∃ (k : Nat) (v : Value), k ≤ 0 ∧ v = u ∧ i = .int .i64 k ∧ OwnW wr w2.heap.size v (c ++ [10] ++ hdsP bb (H.take k)) ∧ Below w2.heap.size w4 wr ∧ Hid (∀ (j : Nat) (h : j < H.length), j < k → stD bb H[j] = true)) (fun _ i _ => 0 - (RowKit.intOf i).toNat)
      case atStart => exact ⟨0, _, Nat.zero_le _, rfl, rfl, by simpa [hdsP] using ho4, Below.refl _ _, fun j _ h => absurd h (Nat.not_lt_zero _)⟩
      case round =>
        clear ho4 d0 d1 d2
        obtain ⟨k, v, hk, rfl, rfl, ho, hbr, HB⟩ := hrel
        have s3 := hbr.size
        have BR := BB.trans hbr
        have kr := k2.on BR
        have hLl : (c ++ [10] ++ hdsP bb (H.take k)).length ≤ 98306 := by
          have := HLn.out k
          rw [List.length_append]
          omega
        obtain rfl : k = 0 := by omega
        have hall : H.all (stD bb) = true := by rw [hnil]; rfl
        have ho : OwnW wr w2.heap.size v (c ++ [10] ++ hdsP bb H) := by rw [hnil]; exact ho
        have hkr := kr.lt
        have hl6 : (c ++ [10] ++ hdsP bb H).length ≤ 98306 := by
          have h1 := HLn.out H.length
          rw [List.take_length] at h1
          rw [List.length_append]
          omega
        have hhr : w2.heap.size ≤ wr.heap.size := by omega
        go_upto_region 15 with fail
        go_cut [6] (fun s W => ∃ a cp, s = .slice a (c ++ [10] ++ hdsP bb H ++ [10] ++ b ++ [0]).length cp ∧ OwnW W w2.heap.size (.slice a (c ++ [10] ++ hdsP bb H ++ [10] ++ b ++ [0]).length cp) (c ++ [10] ++ hdsP bb H ++ [10] ++ b ++ [0]) ∧ Below w2.heap.size wr W)
        case first =>
          generalize c ++ [10] ++ hdsP bb H = L6 at *
          refine wp_region_held (S := fun W => W.cell? ⟨w.heap.size, 2, none⟩ = some (str b)) hmix ?_
          show wpAnyH _ _ _ _ _ _ _ _ (World.drew _)
          have hS0 := (kr.on (Below.refl _ wr).drew).cell 2
          simp only [List.getElem?_toArray, List.getElem?_cons_zero, List.getElem?_cons_succ] at hS0
          have ho0 := ho.on (Below.refl _ wr).drew
          have bw0 : Below w2.heap.size wr wr.drew := (Below.refl _ wr).drew
          clear ho kr
          generalize wr.drew = W0 at *
          refine tks [0, 3, 4] [v, .pointer (some ⟨w.heap.size, 2, none⟩), str b] 6 ?_ hS0 ?_
          · simp only [tkY, tkf]
            refine ⟨.yes ?_, .yes ?_, .yes ?_, trivial⟩
            all_goals
              intro W' hW'
              go_simp
          simp only [tkA, tkf]
          refine wpAnyH_two (i := 1) (j := 6) (by kernel_rfl) rfl (by rfl) rfl (by rfl) (fun K hK => ?_) (fun K hK => ?_)
          · go_wp2_with fail
            have bn1 := below_new W0 (.cells #[.int .u8 10] 5)
            have kn1 := Blk.new W0 #[.int .u8 10] 5
            have ho1 := ho0.on bn1
            have ls1 := Nat.le_trans hhr bw0.size
            have bw1 := bw0.trans (bn1.mono ls1)
            have ne1 : ∀ x, (v : Value).ownBlock = some x → x ≠ (W0).heap.size := fun x hx => Nat.ne_of_lt (ho0.lt x hx).2
            have hS1 := cell_on hS0 bn1
            have sz1 : (W0).heap.size < ((W0).alloc (.cells #[.int .u8 10] 5)).heap.size := by simp
            refine hK _ _ hS1 ?_
            clear hK K
            generalize hg1 : (W0).heap.size = g1 at *
            generalize (W0).alloc (.cells #[.int .u8 10] 5) = W1 at *
            refine wpAnyH_two (i := 2) (j := 6) (by kernel_rfl) rfl (by rfl) rfl (by rfl) (fun K hK => ?_) (fun K hK => ?_)
            · have ls2 := Nat.le_trans hhr bw1.size
              refine appW (.tmp 114) (.tmp 115) rfl w2.heap.size v (L6) [10] W1 ⟨g1, 0, none⟩ 1 rfl ho1 rfl (one_cell kn1) (by simp only [List.length_append, List.length_cons, List.length_nil]; omega) (by omega) ?_
              intro v2 W2 ho2 gw2
              have bw2 := bw1.trans (gw2.below ho1 ls2)
              have hS2 := cell_gw hS1 gw2 (fun e => by have := (ho1.lt _ e).1; omega)
              refine hK _ _ hS2 ?_
              clear hK K
              refine wpAnyH_two (i := 5) (j := 6) (by kernel_rfl) rfl (by rfl) rfl (by rfl) (fun K hK => ?_) (fun K hK => ?_)
              · have ls3 := Nat.le_trans hhr bw2.size
                refine appWS (.tmp 116) (.tmp 118) rfl w2.heap.size v2 (L6 ++ [10]) b W2 rfl ho2 rfl (by simp only [List.length_append, List.length_cons, List.length_nil]; omega) (by omega) ?_
                intro v3 W3 ho3 gw3
                have bw3 := bw2.trans (gw3.below ho2 ls3)
                have hS3 := cell_gw hS2 gw3 (fun e => by have := (ho2.lt _ e).1; omega)
                refine hK _ _ hS3 ?_
                clear hK K
                refine ak 6 (fun K hK => ?_)
                go_wp2_with fail
                have bn4 := below_new W3 (.cells #[.int .u8 0] 5)
                have kn4 := Blk.new W3 #[.int .u8 0] 5
                have ho4 := ho3.on bn4
                have ls4 := Nat.le_trans hhr bw3.size
                have bw4 := bw3.trans (bn4.mono ls4)
                have ne4 : ∀ x, (v3 : Value).ownBlock = some x → x ≠ (W3).heap.size := fun x hx => Nat.ne_of_lt (ho3.lt x hx).2
                have hS4 := cell_on hS3 bn4
                have sz4 : (W3).heap.size < ((W3).alloc (.cells #[.int .u8 0] 5)).heap.size := by simp
                refine hK _ _ hS4 ?_
                clear hK K
                generalize hg4 : (W3).heap.size = g4 at *
                generalize (W3).alloc (.cells #[.int .u8 0] 5) = W4 at *
                refine ak 7 (fun K hK => ?_)
                have ls5 := Nat.le_trans hhr bw4.size
                refine appW (.tmp 119) (.tmp 120) rfl w2.heap.size v3 (L6 ++ [10] ++ b) [0] W4 ⟨g4, 0, none⟩ 1 rfl ho4 rfl (one_cell kn4) (by simp only [List.length_append, List.length_cons, List.length_nil]; omega) (by omega) ?_
                intro v5 W5 ho5 gw5
                have bw5 := bw4.trans (gw5.below ho4 ls5)
                have hS5 := cell_gw hS4 gw5 (fun e => by have := (ho4.lt _ e).1; omega)
                refine hK _ _ hS5 ?_
                clear hK K
                refine ak 8 (fun K hK => ?_)
                go_wp2_with fail
                refine hK _ _ hS5 ?_
                clear hK K
                refine wpAnyH_done (by kernel_rfl) ?_ _
                obtain ⟨a9, c9, rfl⟩ := ho5.shape
                have hof := ho5
                have bwf := bw5
                go_wp2_with fail
                go_meet
                case rel => exact ⟨a9, c9, rfl, hof, bwf⟩
              · go_wp2_with fail
                have bn6 := below_new W2 (.cells #[.int .u8 0] 5)
                have kn6 := Blk.new W2 #[.int .u8 0] 5
                have ho6 := ho2.on bn6
                have ls6 := Nat.le_trans hhr bw2.size
                have bw6 := bw2.trans (bn6.mono ls6)
                have ne6 : ∀ x, (v2 : Value).ownBlock = some x → x ≠ (W2).heap.size := fun x hx => Nat.ne_of_lt (ho2.lt x hx).2
                have hS6 := cell_on hS2 bn6
                have sz6 : (W2).heap.size < ((W2).alloc (.cells #[.int .u8 0] 5)).heap.size := by simp
                refine hK _ _ hS6 ?_
                clear hK K
                generalize hg6 : (W2).heap.size = g6 at *
                generalize (W2).alloc (.cells #[.int .u8 0] 5) = W6 at *
                refine ak 5 (fun K hK => ?_)
                have ls7 := Nat.le_trans hhr bw6.size
                refine appWS (.tmp 116) (.tmp 118) rfl w2.heap.size v2 (L6 ++ [10]) b W6 rfl ho6 rfl (by simp only [List.length_append, List.length_cons, List.length_nil]; omega) (by omega) ?_
                intro v7 W7 ho7 gw7
                have bw7 := bw6.trans (gw7.below ho6 ls7)
                have hS7 := cell_gw hS6 gw7 (fun e => by have := (ho6.lt _ e).1; omega)
                have kxB7 := gw7.blk kn6 (fun e => ne6 _ e rfl)
                have nxB7 : ∀ x, v7.ownBlock = some x → x ≠ g6 := fun x hx => by
                  rcases gw7.o x hx with h | h
                  · exact ne6 x h
                  · have := kn6.lt; omega
                refine hK _ _ hS7 ?_
                clear hK K
                refine ak 7 (fun K hK => ?_)
                have ls8 := Nat.le_trans hhr bw7.size
                refine appW (.tmp 119) (.tmp 120) rfl w2.heap.size v7 (L6 ++ [10] ++ b) [0] W7 ⟨g6, 0, none⟩ 1 rfl ho7 rfl (one_cell kxB7) (by simp only [List.length_append, List.length_cons, List.length_nil]; omega) (by omega) ?_
                intro v8 W8 ho8 gw8
                have bw8 := bw7.trans (gw8.below ho7 ls8)
                have hS8 := cell_gw hS7 gw8 (fun e => by have := (ho7.lt _ e).1; omega)
                refine hK _ _ hS8 ?_
                clear hK K
                refine ak 8 (fun K hK => ?_)
                go_wp2_with fail
                refine hK _ _ hS8 ?_
                clear hK K
                refine wpAnyH_done (by kernel_rfl) ?_ _
                obtain ⟨a9, c9, rfl⟩ := ho8.shape
                have hof := ho8
                have bwf := bw8
                go_wp2_with fail
                go_meet
                case rel => exact ⟨a9, c9, rfl, hof, bwf⟩
            · go_wp2_with fail
              have bn9 := below_new W1 (.cells #[.int .u8 0] 5)
              have kn9 := Blk.new W1 #[.int .u8 0] 5
              have ho9 := ho1.on bn9
              have ls9 := Nat.le_trans hhr bw1.size
              have bw9 := bw1.trans (bn9.mono ls9)
              have ne9 : ∀ x, (v : Value).ownBlock = some x → x ≠ (W1).heap.size := fun x hx => Nat.ne_of_lt (ho1.lt x hx).2
              have hS9 := cell_on hS1 bn9
              have sz9 : (W1).heap.size < ((W1).alloc (.cells #[.int .u8 0] 5)).heap.size := by simp
              have kxA9 := kn1.on bn9
              refine hK _ _ hS9 ?_
              clear hK K
              generalize hg9 : (W1).heap.size = g9 at *
              generalize (W1).alloc (.cells #[.int .u8 0] 5) = W9 at *
              refine ak 2 (fun K hK => ?_)
              have ls10 := Nat.le_trans hhr bw9.size
              refine appW (.tmp 114) (.tmp 115) rfl w2.heap.size v (L6) [10] W9 ⟨g1, 0, none⟩ 1 rfl ho9 rfl (one_cell kxA9) (by simp only [List.length_append, List.length_cons, List.length_nil]; omega) (by omega) ?_
              intro v10 W10 ho10 gw10
              have bw10 := bw9.trans (gw10.below ho9 ls10)
              have hS10 := cell_gw hS9 gw10 (fun e => by have := (ho9.lt _ e).1; omega)
              have kxB10 := gw10.blk kn9 (fun e => ne9 _ e rfl)
              have nxB10 : ∀ x, v10.ownBlock = some x → x ≠ g9 := fun x hx => by
                rcases gw10.o x hx with h | h
                · exact ne9 x h
                · have := kn9.lt; omega
              refine hK _ _ hS10 ?_
              clear hK K
              refine ak 5 (fun K hK => ?_)
              have ls11 := Nat.le_trans hhr bw10.size
              refine appWS (.tmp 116) (.tmp 118) rfl w2.heap.size v10 (L6 ++ [10]) b W10 rfl ho10 rfl (by simp only [List.length_append, List.length_cons, List.length_nil]; omega) (by omega) ?_
              intro v11 W11 ho11 gw11
              have bw11 := bw10.trans (gw11.below ho10 ls11)
              have hS11 := cell_gw hS10 gw11 (fun e => by have := (ho10.lt _ e).1; omega)
              have kxB11 := gw11.blk kxB10 (fun e => nxB10 _ e rfl)
              have nxB11 : ∀ x, v11.ownBlock = some x → x ≠ g9 := fun x hx => by
                rcases gw11.o x hx with h | h
                · exact nxB10 x h
                · have := kxB10.lt; omega
              refine hK _ _ hS11 ?_
              clear hK K
              refine ak 7 (fun K hK => ?_)
              have ls12 := Nat.le_trans hhr bw11.size
              refine appW (.tmp 119) (.tmp 120) rfl w2.heap.size v11 (L6 ++ [10] ++ b) [0] W11 ⟨g9, 0, none⟩ 1 rfl ho11 rfl (one_cell kxB11) (by simp only [List.length_append, List.length_cons, List.length_nil]; omega) (by omega) ?_
              intro v12 W12 ho12 gw12
              have bw12 := bw11.trans (gw12.below ho11 ls12)
              have hS12 := cell_gw hS11 gw12 (fun e => by have := (ho11.lt _ e).1; omega)
              refine hK _ _ hS12 ?_
              clear hK K
              refine ak 8 (fun K hK => ?_)
              go_wp2_with fail
              refine hK _ _ hS12 ?_
              clear hK K
              refine wpAnyH_done (by kernel_rfl) ?_ _
              obtain ⟨a9, c9, rfl⟩ := ho12.shape
              have hof := ho12
              have bwf := bw12
              go_wp2_with fail
              go_meet
              case rel => exact ⟨a9, c9, rfl, hof, bwf⟩
          · go_wp2_with fail
            have bn13 := below_new W0 (.cells #[.int .u8 0] 5)
            have kn13 := Blk.new W0 #[.int .u8 0] 5
            have ho13 := ho0.on bn13
            have ls13 := Nat.le_trans hhr bw0.size
            have bw13 := bw0.trans (bn13.mono ls13)
            have ne13 : ∀ x, (v : Value).ownBlock = some x → x ≠ (W0).heap.size := fun x hx => Nat.ne_of_lt (ho0.lt x hx).2
            have hS13 := cell_on hS0 bn13
            have sz13 : (W0).heap.size < ((W0).alloc (.cells #[.int .u8 0] 5)).heap.size := by simp
            refine hK _ _ hS13 ?_
            clear hK K
            generalize hg13 : (W0).heap.size = g13 at *
            generalize (W0).alloc (.cells #[.int .u8 0] 5) = W13 at *
            refine ak 1 (fun K hK => ?_)
            go_wp2_with fail
            have bn14 := below_new W13 (.cells #[.int .u8 10] 5)
            have kn14 := Blk.new W13 #[.int .u8 10] 5
            have ho14 := ho13.on bn14
            have ls14 := Nat.le_trans hhr bw13.size
            have bw14 := bw13.trans (bn14.mono ls14)
            have ne14 : ∀ x, (v : Value).ownBlock = some x → x ≠ (W13).heap.size := fun x hx => Nat.ne_of_lt (ho13.lt x hx).2
            have hS14 := cell_on hS13 bn14
            have sz14 : (W13).heap.size < ((W13).alloc (.cells #[.int .u8 10] 5)).heap.size := by simp
            have kxB14 := kn13.on bn14
            refine hK _ _ hS14 ?_
            clear hK K
            generalize hg14 : (W13).heap.size = g14 at *
            generalize (W13).alloc (.cells #[.int .u8 10] 5) = W14 at *
            refine ak 2 (fun K hK => ?_)
            have ls15 := Nat.le_trans hhr bw14.size
            refine appW (.tmp 114) (.tmp 115) rfl w2.heap.size v (L6) [10] W14 ⟨g14, 0, none⟩ 1 rfl ho14 rfl (one_cell kn14) (by simp only [List.length_append, List.length_cons, List.length_nil]; omega) (by omega) ?_
            intro v15 W15 ho15 gw15
            have bw15 := bw14.trans (gw15.below ho14 ls15)
            have hS15 := cell_gw hS14 gw15 (fun e => by have := (ho14.lt _ e).1; omega)
            have kxB15 := gw15.blk kxB14 (fun e => ne13 _ e rfl)
            have nxB15 : ∀ x, v15.ownBlock = some x → x ≠ g13 := fun x hx => by
              rcases gw15.o x hx with h | h
              · exact ne13 x h
              · have := kxB14.lt; omega
            refine hK _ _ hS15 ?_
            clear hK K
            refine ak 5 (fun K hK => ?_)
            have ls16 := Nat.le_trans hhr bw15.size
            refine appWS (.tmp 116) (.tmp 118) rfl w2.heap.size v15 (L6 ++ [10]) b W15 rfl ho15 rfl (by simp only [List.length_append, List.length_cons, List.length_nil]; omega) (by omega) ?_
            intro v16 W16 ho16 gw16
            have bw16 := bw15.trans (gw16.below ho15 ls16)
            have hS16 := cell_gw hS15 gw16 (fun e => by have := (ho15.lt _ e).1; omega)
            have kxB16 := gw16.blk kxB15 (fun e => nxB15 _ e rfl)
            have nxB16 : ∀ x, v16.ownBlock = some x → x ≠ g13 := fun x hx => by
              rcases gw16.o x hx with h | h
              · exact nxB15 x h
              · have := kxB15.lt; omega
            refine hK _ _ hS16 ?_
            clear hK K
            refine ak 7 (fun K hK => ?_)
            have ls17 := Nat.le_trans hhr bw16.size
            refine appW (.tmp 119) (.tmp 120) rfl w2.heap.size v16 (L6 ++ [10] ++ b) [0] W16 ⟨g13, 0, none⟩ 1 rfl ho16 rfl (one_cell kxB16) (by simp only [List.length_append, List.length_cons, List.length_nil]; omega) (by omega) ?_
            intro v17 W17 ho17 gw17
            have bw17 := bw16.trans (gw17.below ho16 ls17)
            have hS17 := cell_gw hS16 gw17 (fun e => by have := (ho16.lt _ e).1; omega)
            refine hK _ _ hS17 ?_
            clear hK K
            refine ak 8 (fun K hK => ?_)
            go_wp2_with fail
            refine hK _ _ hS17 ?_
            clear hK K
            refine wpAnyH_done (by kernel_rfl) ?_ _
            obtain ⟨a9, c9, rfl⟩ := ho17.shape
            have hof := ho17
            have bwf := bw17
            go_wp2_with fail
            go_meet
            case rel => exact ⟨a9, c9, rfl, hof, bwf⟩
        case rest =>
          obtain ⟨a9, c9, rfl, ho9, bw9⟩ := hcut
          have BF : Below w.heap.size w wc := B2.trans ((BR.mono (by omega)).trans (bw9.mono (by omega)))
          rw [← hWL.out] at ho9 ⊢
          generalize writeL f = F at *
          have HQ := EQ2.out hall
          by_cases hlen : 16384 < F.length
          · have hz : decide ((16384 : Int) < (F.length : Int)) = true := decide_eq_true (by omega)
            have hr := HQ.1 hlen
            go_wp2_with fail
            go_ret2
            exact ⟨hr _, BF⟩
          · have hz : decide ((16384 : Int) < (F.length : Int)) = false := decide_eq_false (by omega)
            have hr := HQ.2 hlen wc a9 c9 (ho9.low (by omega))
            go_wp2_with fail
            go_ret2
            exact ⟨hr, BF⟩
end Go.Proofs.YtfdbekfbbihdgaaDoor
