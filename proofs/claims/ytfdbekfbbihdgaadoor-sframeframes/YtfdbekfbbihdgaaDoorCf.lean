
/- write. Conditions: those that each row states. -/
import Derived.Test.YtfdbekfbbihdgaaDoorCe
import Derived.Test.YtfdbekfbbihdgaaDoorSo
namespace Go.Proofs.YtfdbekfbbihdgaaDoor
open Go.RowKit Go.Lib
set_option maxRecDepth 100000
set_option linter.unusedSimpArgs false

theorem put_any (w : World) (B : Nat) (v : Value) (l s : Bs) (b : Bool) (ho : OwnW w B v l) (hB : B ≤ w.heap.size) (hl : l.length + 2 * s.length ≤ 1000000000) :
    Calls Tryd.prog 35 #[v, str s, .bool b] w fun e w' => ∃ v', e = .returned v' ∧ OwnW w' B v' (l ++ putL b s) ∧ GW w w' v v' := by
  cases b with
  | true => exact put_bare w B v l s ho hB (by omega)
  | false => exact put_esc w B v l s ho hB hl
theorem hdP_len (b : Bool) (h : Hd) : (hdP b h).length ≤ 2 * (1 + h.1.length + h.2.length) := by
  have h1 := putL_len b h.1
  have h2 := putL_len b h.2
  unfold hdP
  simp only [List.length_append, List.length_cons, List.length_nil]
  omega
theorem hdsP_len (b : Bool) : ∀ H : List Hd, (hdsP b H).length ≤ 2 * wtL H
  | [] => by simp [hdsP]
  | x :: H => by
    have h1 := hdP_len b x
    have h2 := hdsP_len b H
    simp only [hdsP, wtL, List.length_append]
    omega
theorem wtL_take : ∀ (H : List Hd) (k : Nat), wtL (H.take k) ≤ wtL H
  | [], _ => by simp
  | x :: H, 0 => by simp [wtL]
  | x :: H, k + 1 => by
    have := wtL_take H k
    simp only [List.take_succ_cons, wtL]
    omega
theorem OwnW.lt {w : World} {B : Nat} {v : Value} {l : Bs} (h : OwnW w B v l) : ∀ k, v.ownBlock = some k → B ≤ k ∧ k < w.heap.size := fun k hk => by
  rcases h with ⟨rfl, _⟩ | ⟨g, cap, cur, fz, rfl, hb, hg, _⟩
  · cases hk
  · cases hk; exact ⟨hb, (Array.getElem?_eq_some_iff.1 hg).1⟩
theorem HdAt.on' {w w' : World} {b o B : Nat} {p : Hd} {w0 : World} (h : HdAt w0 b o p) (h0 : HdAt w b o p) (hb : Below B w w') (hB : w0.heap.size ≤ B) : HdAt w' b o p := by
  have hl : b < w0.heap.size := World.block_lt_of_cell? w0 _ h.1
  obtain ⟨h0, h1⟩ := h0
  exact ⟨by rw [hb.cell (by show b < B; omega)]; exact h0, by rw [hb.cell (by show b < B; omega)]; exact h1⟩
set_option maxHeartbeats 4000000 in
theorem write_some (w : World) (c b : Bs) (H : List Hd) (g o cp : Nat) (h : ∀ i (h : i < H.length), HdAt w g (o + i * 2) H[i]) (hwt : c.length + b.length + wtL H ≤ 32768) :
    Calls Tryd.prog 20 #[frV c (.slice (some ⟨g, o, none⟩) H.length cp) b] w fun e w' => ∃ v, e = .returned v ∧ OwnW w' w.heap.size v (writeL ⟨c, H, b⟩) ∧ Below w.heap.size w w' := by
  have hWL : writeL ⟨c, H, b⟩ = c ++ [10] ++ hdsP (bare c) H ++ [10] ++ b ++ [0] := rfl
  rw [hWL]
  clear hWL
  have IB := fun w => isbare_any w c
  generalize bare c = bb at *
  have hHl := hdsP_len bb H
  have hmem := wtL_mem H
  have HT : Hid (∀ k, (hdsP bb (H.take k)).length ≤ 65536) := fun k => by
    have h1 := hdsP_len bb (H.take k)
    have h2 := wtL_take H k
    omega
  have HM : Hid (∀ h ∈ H, h.1.length + h.2.length ≤ 32768) := fun h hh => by have := hmem.2 h hh; omega
  have HS : Hid (∀ (k : Nat) (h : k < H.length), hdsP bb (H.take (k + 1)) = hdsP bb (H.take k) ++ hdP bb H[k]) := fun k h => hdsP_snoc bb H k h
  have H1 : Hid (∀ i (h : i < H.length), HdAt w g (o + i * 2) H[i]) := h
  have hHn : H.length ≤ 32768 := by omega
  clear h hmem
  have k1 := Blk.new w #[str c, .slice (some ⟨g, o, none⟩) H.length cp, str b] 24
  have b1 := below_new w (.cells #[str c, .slice (some ⟨g, o, none⟩) H.length cp, str b] 24)
  go_enter Tryd.func20, Tryd.ntmps20
  go_upto_region 1 with fail
  generalize w.alloc (.cells #[str c, .slice (some ⟨g, o, none⟩) H.length cp, str b] 24) = w1 at *
  have s1 := b1.size
  have l1 := k1.lt
  have d0 := k1.cell 0
  simp only [List.getElem?_toArray, List.getElem?_cons_zero, List.getElem?_cons_succ] at d0
  obtain ⟨v0, W, hcv, ho0, hbW⟩ := conv_own w1 c (by omega)
  have k2 := k1.on hbW
  have s2 := hbW.size
  generalize hB : w1.heap.size = B at *
  go_wp2_with (first | (go_at_call 32; refine (IB _).mono ?_; rintro e w1 ⟨rfl, rfl⟩) | (at_builtin; refine wpList_plain rfl fun K hK => ?_; refine appW1 (.tmp 12) (.tmp 13) rfl B v0 c 10 W _ (by rfl) rfl ho0 rfl (by omega) s2 ?_; intro v3 w3 ho3 g3; have k3 := g3.blk k2 (fun e => by have := (ho0.lt _ e).1; omega); have e1 := k3.cell 1; simp only [List.getElem?_toArray, List.getElem?_cons_zero, List.getElem?_cons_succ] at e1; refine hK _ _ ?_))
  have b3 := hbW.trans (g3.below ho0 s2)
  clear d0 e1 k1 k2 hcv ho0 g3
  go_loopw [4, 18] (fun u i wr => ∃ k : Nat, k ≤ H.length ∧ i = .int .i64 k ∧ OwnW wr B u (c ++ [10] ++ hdsP bb (H.take k)) ∧ Below B w3 wr) (fun _ i _ => H.length - (RowKit.intOf i).toNat)
  case atStart => exact ⟨0, Nat.zero_le _, rfl, by simpa [hdsP] using ho3, Below.refl _ _⟩
  case round =>
    clear ho3
    obtain ⟨k, hk, rfl, ho, hbr⟩ := hrel
    have s3 := b3.size
    have sr := hbr.size
    have hLl : (c ++ [10] ++ hdsP bb (H.take k)).length ≤ 98306 := by
      have := HT.out k
      simp only [List.length_append, List.length_cons, List.length_nil]
      omega
    have kr := k3.below hbr (by omega)
    by_cases hlt : k < H.length
    · obtain ⟨a0, a1⟩ := HdAt.on' (H1.out k hlt) (HdAt.on' (H1.out k hlt) ((H1.out k hlt).on b1) b3 (by omega)) hbr (by omega)
      have hmk := HM.out H[k] (List.getElem_mem hlt)
      have HSk : Hid (c ++ [10] ++ hdsP bb (H.take (k + 1)) = c ++ [10] ++ hdsP bb (H.take k) ++ putL bb H[k].1 ++ [58] ++ putL bb H[k].2 ++ [10]) := by
        show _ = _
        rw [HS.out k hlt]
        simp [hdP, List.append_assoc]
      obtain ⟨⟨pn, pt⟩, hp⟩ : ∃ p, p = H[k] := ⟨_, rfl⟩
      rw [← hp] at a0 a1 hmk HSk
      dsimp only at a0 a1 hmk HSk
      clear hp
      have hkz : (k : Int) < (H.length : Int) := by omega
      have hl1 := putL_len bb pn
      have hl2 := putL_len bb pt
      generalize c ++ [10] ++ hdsP bb (H.take k) = L at *
      have k6 := Blk.new wr #[str pn, str pt] 42
      have bn := below_new wr (.cells #[str pn, str pt] 42)
      have ho1 := ho.on bn
      have sn : wr.heap.size < (wr.alloc (.cells #[str pn, str pt] 42)).heap.size := by simp
      have hne6 : ∀ x, _ = some x → x ≠ wr.heap.size := fun x hx => Nat.ne_of_lt (ho.lt x hx).2
      go_upto_region 6 with fail
      generalize wr.alloc (.cells #[str pn, str pt] 42) = wq at *
      have P1 := put_any wq B _ L pn bb ho1 (by omega) (by omega)
      have e0 := k6.cell 0
      simp only [List.getElem?_toArray, List.getElem?_cons_zero, List.getElem?_cons_succ] at e0
      go_wp2_with fail
      refine P1.mono ?_
      rintro e w4 ⟨v4, rfl, ho4, g4⟩
      have k64 := g4.blk k6 (fun e => hne6 _ e rfl)
      have hne4 : ∀ x, v4.ownBlock = some x → x ≠ wr.heap.size := fun x hx => by
        rcases g4.o x hx with h | h
        · exact hne6 x h
        · omega
      have s4 := g4.g.size
      clear e0 P1
      go_wp2_with (at_builtin; refine wpList_plain rfl fun K hK => ?_; refine appW1 (.tmp 26) (.tmp 27) rfl B v4 (L ++ putL bb pn) 58 w4 _ (by rfl) rfl ho4 rfl (by rw [List.length_append]; omega) (by omega) ?_; intro v5 w5 ho5 g5; have k65 := g5.blk k64 (fun e => hne4 _ e rfl); have e1 := k65.cell 1; simp only [List.getElem?_toArray, List.getElem?_cons_zero, List.getElem?_cons_succ] at e1; refine hK _ _ ?_)
      have s5 := g5.g.size
      have P2 := put_any w5 B v5 (L ++ putL bb pn ++ [58]) pt bb ho5 (by omega) (by simp only [List.length_append, List.length_cons, List.length_nil]; omega)
      refine P2.mono ?_
      rintro e w6 ⟨v6, rfl, ho6, g6⟩
      have s6 := g6.g.size
      clear e1 P2
      go_wp2_with (at_builtin; refine wpList_plain rfl fun K hK => ?_; refine appW1 (.tmp 33) (.tmp 34) rfl B v6 (L ++ putL bb pn ++ [58] ++ putL bb pt) 10 w6 _ (by rfl) rfl ho6 rfl (by simp only [List.length_append, List.length_cons, List.length_nil]; omega) (by omega) ?_; intro v7 w7 ho7 g7; refine hK _ _ ?_)
      have B7 := ((((hbr.trans (bn.mono (by omega))).trans (g4.below ho1 (by omega))).trans (g5.below ho4 (by omega))).trans (g6.below ho5 (by omega))).trans (g7.below ho6 (by omega))
      rw [← HSk.out] at ho7
      go_roundw
      case rel => exact ⟨k + 1, by omega, by go_num, ho7, B7⟩
      case measure => simp [RowKit.intOf]; omega
    · obtain rfl : k = H.length := by omega
      rw [List.take_length] at ho hLl
      obtain ⟨L, hL⟩ : ∃ L, Hid (c ++ [10] ++ hdsP bb H = L) := ⟨c ++ [10] ++ hdsP bb H, (rfl : c ++ [10] ++ hdsP bb H = c ++ [10] ++ hdsP bb H)⟩
      rw [hL.out] at ho hLl
      have hneq : ∀ x, _ = some x → x ≠ w.heap.size := fun x hx => by have := (ho.lt x hx).1; omega
      go_wp2_with (first
        | (at_builtin; refine wpList_plain rfl fun K hK => ?_; refine appW1 (.tmp 37) (.tmp 38) rfl B _ L 10 wr _ (by rfl) rfl ho rfl (by omega) (by omega) ?_; intro v8 w8 ho8 g8; have k8 := g8.blk kr (fun e => hneq _ e rfl); have s8 := g8.g.size; have hne8 : ∀ x, v8.ownBlock = some x → x ≠ w.heap.size := (fun x hx => by have := (ho8.lt x hx).1; omega); have e2 := k8.cell 2; simp only [List.getElem?_toArray, List.getElem?_cons_zero, List.getElem?_cons_succ] at e2; refine hK _ _ ?_)
        | (at_builtin; refine wpList_plain rfl fun K hK => ?_; refine appWS (.tmp 40) (.tmp 42) rfl B v8 (L ++ [10]) b w8 rfl ho8 rfl (by simp only [List.length_append, List.length_cons, List.length_nil]; omega) (by omega) ?_; intro v9 w9 ho9 g9; have s9 := g9.g.size; refine hK _ _ ?_)
        | (at_builtin; refine wpList_plain rfl fun K hK => ?_; refine appW1 (.tmp 44) (.tmp 45) rfl B v9 (L ++ [10] ++ b) 0 w9 _ (by rfl) rfl ho9 rfl (by simp only [List.length_append, List.length_cons, List.length_nil]; omega) (by omega) ?_; intro v10 w10 ho10 g10; refine hK _ _ ?_))
      go_ret
      have BE := ((hbr.trans (g8.below ho (by omega))).trans (g9.below ho8 (by omega))).trans (g10.below ho9 (by omega))
      have hL2 : c ++ [10] ++ hdsP bb H = L := hL.out
      have ho11 := ho10
      rw [← hL2] at ho11
      exact ⟨_, rfl, ho11.low (by omega), b1.trans ((b3.trans BE).mono (by omega))⟩
set_option maxHeartbeats 4000000 in
theorem write_nil (w : World) (c b : Bs) (H : List Hd) (a : Option Addr) (cp : Nat) (hnil : H = []) (hwt : c.length + b.length + wtL H ≤ 32768) :
    Calls Tryd.prog 20 #[frV c (.slice a 0 cp) b] w fun e w' => ∃ v, e = .returned v ∧ OwnW w' w.heap.size v (writeL ⟨c, H, b⟩) ∧ Below w.heap.size w w' := by
  have hWL : writeL ⟨c, H, b⟩ = c ++ [10] ++ hdsP (bare c) H ++ [10] ++ b ++ [0] := rfl
  rw [hWL]
  clear hWL
  have IB := fun w => isbare_any w c
  generalize bare c = bb at *
  have hHl := hdsP_len bb H
  have hmem := wtL_mem H
  have HT : Hid (∀ k, (hdsP bb (H.take k)).length ≤ 65536) := fun k => by
    have h1 := hdsP_len bb (H.take k)
    have h2 := wtL_take H k
    omega
  have HM : Hid (∀ h ∈ H, h.1.length + h.2.length ≤ 32768) := fun h hh => by have := hmem.2 h hh; omega
  have HS : Hid (∀ (k : Nat) (h : k < H.length), hdsP bb (H.take (k + 1)) = hdsP bb (H.take k) ++ hdP bb H[k]) := fun k h => hdsP_snoc bb H k h
  have hHn : H.length ≤ 32768 := by omega
  clear hmem
  have k1 := Blk.new w #[str c, .slice a 0 cp, str b] 24
  have b1 := below_new w (.cells #[str c, .slice a 0 cp, str b] 24)
  go_enter Tryd.func20, Tryd.ntmps20
  go_upto_region 1 with fail
  generalize w.alloc (.cells #[str c, .slice a 0 cp, str b] 24) = w1 at *
  have s1 := b1.size
  have l1 := k1.lt
  have d0 := k1.cell 0
  simp only [List.getElem?_toArray, List.getElem?_cons_zero, List.getElem?_cons_succ] at d0
  obtain ⟨v0, W, hcv, ho0, hbW⟩ := conv_own w1 c (by omega)
  have k2 := k1.on hbW
  have s2 := hbW.size
  generalize hB : w1.heap.size = B at *
  go_wp2_with (first | (go_at_call 32; refine (IB _).mono ?_; rintro e w1 ⟨rfl, rfl⟩) | (at_builtin; refine wpList_plain rfl fun K hK => ?_; refine appW1 (.tmp 12) (.tmp 13) rfl B v0 c 10 W _ (by rfl) rfl ho0 rfl (by omega) s2 ?_; intro v3 w3 ho3 g3; have k3 := g3.blk k2 (fun e => by have := (ho0.lt _ e).1; omega); have e1 := k3.cell 1; simp only [List.getElem?_toArray, List.getElem?_cons_zero, List.getElem?_cons_succ] at e1; refine hK _ _ ?_))
  have b3 := hbW.trans (g3.below ho0 s2)
  clear d0 e1 k1 k2 hcv ho0 g3
  go_loopw [4, 18] (fun u i wr => ∃ k : Nat, k ≤ 0 ∧ i = .int .i64 k ∧ OwnW wr B u (c ++ [10] ++ hdsP bb (H.take k)) ∧ Below B w3 wr) (fun _ i _ => 0 - (RowKit.intOf i).toNat)
  case atStart => exact ⟨0, Nat.zero_le _, rfl, by simpa [hdsP] using ho3, Below.refl _ _⟩
  case round =>
    clear ho3
    obtain ⟨k, hk, rfl, ho, hbr⟩ := hrel
    have s3 := b3.size
    have sr := hbr.size
    have hLl : (c ++ [10] ++ hdsP bb (H.take k)).length ≤ 98306 := by
      have := HT.out k
      simp only [List.length_append, List.length_cons, List.length_nil]
      omega
    have kr := k3.below hbr (by omega)
    · obtain rfl : k = 0 := by omega
      have hH0 : hdsP bb (H.take 0) = hdsP bb H := by rw [hnil]; rfl
      rw [hH0] at ho hLl
      obtain ⟨L, hL⟩ : ∃ L, Hid (c ++ [10] ++ hdsP bb H = L) := ⟨c ++ [10] ++ hdsP bb H, (rfl : c ++ [10] ++ hdsP bb H = c ++ [10] ++ hdsP bb H)⟩
      rw [hL.out] at ho hLl
      have hneq : ∀ x, _ = some x → x ≠ w.heap.size := fun x hx => by have := (ho.lt x hx).1; omega
      go_wp2_with (first
        | (at_builtin; refine wpList_plain rfl fun K hK => ?_; refine appW1 (.tmp 37) (.tmp 38) rfl B _ L 10 wr _ (by rfl) rfl ho rfl (by omega) (by omega) ?_; intro v8 w8 ho8 g8; have k8 := g8.blk kr (fun e => hneq _ e rfl); have s8 := g8.g.size; have hne8 : ∀ x, v8.ownBlock = some x → x ≠ w.heap.size := (fun x hx => by have := (ho8.lt x hx).1; omega); have e2 := k8.cell 2; simp only [List.getElem?_toArray, List.getElem?_cons_zero, List.getElem?_cons_succ] at e2; refine hK _ _ ?_)
        | (at_builtin; refine wpList_plain rfl fun K hK => ?_; refine appWS (.tmp 40) (.tmp 42) rfl B v8 (L ++ [10]) b w8 rfl ho8 rfl (by simp only [List.length_append, List.length_cons, List.length_nil]; omega) (by omega) ?_; intro v9 w9 ho9 g9; have s9 := g9.g.size; refine hK _ _ ?_)
        | (at_builtin; refine wpList_plain rfl fun K hK => ?_; refine appW1 (.tmp 44) (.tmp 45) rfl B v9 (L ++ [10] ++ b) 0 w9 _ (by rfl) rfl ho9 rfl (by simp only [List.length_append, List.length_cons, List.length_nil]; omega) (by omega) ?_; intro v10 w10 ho10 g10; refine hK _ _ ?_))
      go_ret
      have BE := ((hbr.trans (g8.below ho (by omega))).trans (g9.below ho8 (by omega))).trans (g10.below ho9 (by omega))
      have hL2 : c ++ [10] ++ hdsP bb H = L := hL.out
      have ho11 := ho10
      rw [← hL2] at ho11
      exact ⟨_, rfl, ho11.low (by omega), b1.trans ((b3.trans BE).mono (by omega))⟩
theorem write_any (w : World) (c b : Bs) (hv : Value) (H : List Hd) (hr : RdH w hv H) (hwt : c.length + b.length + wtL H ≤ 32768) :
    Calls Tryd.prog 20 #[frV c hv b] w fun e w' => ∃ v, e = .returned v ∧ OwnW w' w.heap.size v (writeL ⟨c, H, b⟩) ∧ Below w.heap.size w w' := by
  rcases hr with ⟨⟨a, cp, rfl⟩, rfl⟩ | ⟨g, o, cp, rfl, _, h⟩
  · exact write_nil w c b [] a cp rfl hwt
  · exact write_some w c b H g o cp h hwt
end Go.Proofs.YtfdbekfbbihdgaaDoor
