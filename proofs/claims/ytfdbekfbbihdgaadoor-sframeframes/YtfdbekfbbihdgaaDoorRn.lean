
/- The document's Next. Conditions: those that each row states. -/
import Derived.Test.YtfdbekfbbihdgaaDoorRe
import Derived.Test.YtfdbekfbbihdgaaDoorRl
import Derived.Test.YtfdbekfbbihdgaaDoorRx
import Derived.Deep.DeepCutAuto
namespace Go.Proofs.YtfdbekfbbihdgaaDoor
open Go.RowKit Go.Lib
set_option maxRecDepth 100000
set_option linter.unusedSimpArgs false

/-- How far the body goes, as the document looks for it. -/
def scanN (r : Bs) : Nat := ((cutN 0 (r.take 1025)).map (fun p => p.1.length)).getD (min r.length 1025)
/-- The document's answer for what stands behind the head. -/
def bodyD (z : Int) (r : Bs) : Except Int (Bs × Bs) :=
  if z = -2 then .error 40 else if z = -1 then (if 1024 < scanN r then .error 40 else upTo (scanN r) r) else upTo z.toNat r
theorem bodyD_eq (hs : List Hd) (r : Bs) : bodyL hs r = bodyD (sizeI hs) r := by
  unfold bodyL sizeI
  cases hg : getL CL hs with
  | some t =>
    show (match lenL t with | some n => upTo n r | none => .error 40) = bodyD (lenI t) r
    unfold lenI
    cases hl : lenL t with
    | none => rfl
    | some n =>
      have e1 : ¬ ((n : Int) = -2) := by omega
      have e2 : ¬ ((n : Int) = -1) := by omega
      show upTo n r = bodyD (n : Int) r
      unfold bodyD
      rw [if_neg e1, if_neg e2]
      rfl
  | none =>
    show (match cutN 0 (r.take 1025) with | some (a, _) => upTo a.length r | none => if r.length ≤ 1024 then .error 41 else .error 40) = (if 1024 < scanN r then .error 40 else upTo (scanN r) r)
    unfold scanN
    cases hc : cutN 0 (r.take 1025) with
    | some p =>
      obtain ⟨h1, _⟩ := cutN_some (a := p.1) (r := p.2) (by rw [hc])
      have h2 : (r.take 1025).length ≤ 1025 := by rw [List.length_take]; omega
      rw [h1] at h2
      simp only [List.length_append, List.length_cons] at h2
      simp only [Option.map_some, Option.getD_some]
      rw [if_neg (by omega)]
    | none =>
      simp only [Option.map_none, Option.getD_none]
      by_cases h : r.length ≤ 1024
      · rw [if_pos h, if_neg (by omega)]
        unfold upTo
        rw [if_pos (by omega)]
      · rw [if_neg h, if_pos (by omega)]
theorem scan_step {r : Bs} {j : Nat} (h : j < r.length) (h2 : j ≤ 1024) (HB : ∀ (k : Nat) (hk : k < r.length), k < j → r[k] ≠ 0) : (r[j] = 0 → scanN r = j) := by
  intro h0
  unfold scanN
  have e : r.take 1025 = r.take j ++ 0 :: ((r.take 1025).drop (j + 1)) := by
    have hl : j < (r.take 1025).length := by rw [List.length_take]; omega
    have h3 := List.take_append_drop j (r.take 1025)
    rw [List.drop_eq_getElem_cons hl, List.getElem_take, h0, List.take_take, Nat.min_eq_left (by omega)] at h3
    exact h3.symm
  have hn : (0 : UInt8) ∉ r.take j := fun hm => by
    obtain ⟨i, hi, he⟩ := List.getElem_of_mem hm
    rw [List.length_take] at hi
    rw [List.getElem_take] at he
    exact HB i (by omega) (by omega) he
  rw [e, cutN_app _ hn]
  simp only [Option.map_some, Option.getD_some, List.length_take]
  omega
theorem scan_end {r : Bs} {j : Nat} (hj : j = r.length ∨ 1024 < j) (hj2 : j ≤ r.length) (hj3 : j ≤ 1025) (HB : ∀ (k : Nat) (hk : k < r.length), k < j → r[k] ≠ 0) : scanN r = j := by
  unfold scanN
  have hn : (0 : UInt8) ∉ r.take 1025 := fun hm => by
    obtain ⟨i, hi, he⟩ := List.getElem_of_mem hm
    rw [List.length_take] at hi
    rw [List.getElem_take] at he
    exact HB i (by omega) (by omega) he
  rw [cutN_none.2 hn]
  simp only [Option.map_none, Option.getD_none]
  omega
theorem upD_ok {n : Nat} {r : Bs} (h1 : n < r.length) (h2 : r[n] = 0) : upTo n r = .ok (r.take n, r.drop (n + 1)) := by
  unfold upTo
  rw [if_neg (by omega), if_pos (by rw [List.getD_eq_getElem?_getD, List.getElem?_eq_getElem h1]; exact h2)]
theorem upD_no {n : Nat} {r : Bs} (h1 : n < r.length) (h2 : r[n] ≠ 0) : upTo n r = .error 40 := by
  unfold upTo
  rw [if_neg (by omega), if_neg (by rw [List.getD_eq_getElem?_getD, List.getElem?_eq_getElem h1]; exact h2)]
theorem sizeI_le (H : List Hd) : sizeI H ≤ 1024 := by
  unfold sizeI lenI
  split
  · split
    · rename_i n h
      have := (lenL_text h).1
      omega
    · decide
  · decide
theorem upD_more {n : Nat} {r : Bs} (h1 : r.length ≤ n) : upTo n r = .error 41 := by
  unfold upTo
  rw [if_pos h1]
theorem results13 {fn : Func} (hf : fn.results = #[.cell 2 24, .tmp 3, .tmp 4]) {tmps : Array Value} {W : World} {g : Nat} {c h b : Value} {R : Ending → World → Prop} {n e : Value}
    (hk : Blk W g #[c, h, b] 24) (hp : tmps.getD 2 undef = .pointer (some ⟨g, 0, none⟩)) (hn : tmps.getD 3 undef = n) (he : tmps.getD 4 undef = e) (hR : R (.returned (.tuple #[.agg #[c, h, b], n, e])) W) :
    bodyPost Tryd.prog fn R .ret { tmps := tmps, defers := [] } W := results12 hf hk hp hn he hR
set_option maxHeartbeats 40000000 in
theorem rnext_any (w : World) (s : Bs) (hs : s.length ≤ 100000000) : Calls Tryd.prog 13 #[str s] w fun e w' => NextP w s e w' := by
  have hlp := blanksN_le s
  have e1 : (⟨s.toArray⟩ : ByteArray).extract (blanksN s) s.length = ⟨(rst s).toArray⟩ := by
    rw [ext_str, List.take_of_length_le (by rw [List.length_drop]; omega)]
  have e2 : (⟨(rst s).toArray⟩ : ByteArray).extract 0 16384 = ⟨((rst s).take 16384).toArray⟩ := by
    rw [ext_str]
    simp only [List.drop_zero, Nat.sub_zero]
  have hlr : (rst s).length + blanksN s = s.length := by rw [List.length_drop]; omega
  have hlt : ((rst s).take 16384).length = min 16384 (rst s).length := List.length_take ..
  have hut : Hid (¬ 16384 < (rst s).length → (rst s).take 16384 = rst s) := fun h => List.take_of_length_le (by omega)
  have HN : Hid (nextL s = match readL ((rst s).take 16384) with
    | .ok (f, r) => (f, blanksN s + (((rst s).take 16384).length - r.length), 0)
    | .error e => if e = 41 ∧ (rst s).length < 16384 then (Fr.z, blanksN s, 41) else (Fr.z, 0, 40)) := rfl
  unfold NextP
  generalize nextL s = N at *
  have hb0 := below_new w (.cells FR 24)
  have k0 := Blk.new w FR 24
  have s0 : (w.alloc (.cells FR 24)).heap.size = w.heap.size + 1 := by simp
  have BL := fun w => rblanks_any w s (by omega)
  generalize blanksN s = p at *
  generalize rst s = t at *
  obtain ⟨OV, M, hcs⟩ : ∃ (OV : Nat) (M : Int), (t.length < 16384 ∧ OV = p ∧ M = 41) ∨ (¬ t.length < 16384 ∧ OV = 0 ∧ M = 40) := by
    by_cases h : t.length < 16384
    · exact ⟨p, 41, .inl ⟨h, rfl, rfl⟩⟩
    · exact ⟨0, 40, .inr ⟨h, rfl, rfl⟩⟩
  generalize hu : t.take 16384 = u at *
  have HM : Hid (readL u = .error 41 → N = (Fr.z, OV, M)) := fun h => by
    have hn := HN.out
    rw [h] at hn
    simp only [] at hn
    rcases hcs with ⟨h1, rfl, rfl⟩ | ⟨h1, rfl, rfl⟩
    · rw [if_pos (by first | exact ⟨rfl, h1⟩ | exact ⟨trivial, h1⟩)] at hn; exact hn
    · rw [if_neg (fun h => h1 h.2)] at hn; exact hn
  have HE : Hid (readL u = .error 40 → N = (Fr.z, 0, 40)) := fun h => by
    have hn := HN.out
    rw [h] at hn
    simp only [] at hn
    rw [if_neg (fun h => absurd h.1 (by decide))] at hn
    exact hn
  have HO : Hid (∀ f r, readL u = .ok (f, r) → N = (f, p + (u.length - r.length), 0)) := fun f r h => by
    have hn := HN.out
    rw [h] at hn
    exact hn
  clear HN
  go_enter Tryd.func13, Tryd.ntmps13
  go_upto_region 1 with fail
  generalize w.alloc (.cells FR 24) = w1 at *
  have s1 : w.heap.size < w1.heap.size := by omega
  go_upto_region 3 with (go_at_call 18; refine (BL _).mono ?_; rintro e w1 ⟨rfl, rfl⟩)
  clear e1
  go_upto_if 24 with fail
  go_cut [6] (fun s6 W => s6 = str u ∧ w1 = W)
  case first =>
    by_cases hb : 16384 < t.length
    · have hz : decide ((16384 : Int) < (t.length : Int)) = true := decide_eq_true (by omega)
      have hcl : (16384 : Int) ≤ (t.length : Int) := by omega
      go_wp2_with fail
      go_meet
      case rel => exact ⟨rfl, rfl⟩
    · have hz : decide ((16384 : Int) < (t.length : Int)) = false := decide_eq_false (by omega)
      have hq := hut.out hb
      go_wp2_with fail
      go_meet
      case rel => exact ⟨by rw [hq], rfl⟩
  case rest =>
  obtain ⟨e6, ew⟩ := hcut
  subst e6
  subst ew
  clear e2 hut
  go_upto_if 31 with fail
  go_cut [5, 7] (fun s5 s7 W => s5 = .int .i64 (OV : Int) ∧ s7 = .int .i64 M ∧ w1 = W)
  case first =>
    rcases hcs with ⟨h1, rfl, rfl⟩ | ⟨h1, rfl, rfl⟩
    · have hz : decide ((16384 : Int) ≤ (s.length : Int) - (OV : Int)) = false := decide_eq_false (by omega)
      go_wp2_with fail
      go_meet
      case rel => exact ⟨rfl, rfl, rfl⟩
    · have hz : decide ((16384 : Int) ≤ (s.length : Int) - (p : Int)) = true := decide_eq_true (by omega)
      go_wp2_with fail
      go_meet
      case rel => exact ⟨rfl, rfl, rfl⟩
  case rest =>
  obtain ⟨e5, e7, ew⟩ := hcut
  subst e5
  subst e7
  subst ew
  clear hcs
  have hul : u.length ≤ 16384 := by omega
  have hul2 : u.length ≤ t.length := by omega
  clear hlt hu
  have RL := rlines_any w1 u (by omega)
  go_wp2_with fail
  refine RL.mono ?_
  rintro e w2 ⟨⟨L, n, v, hh, hn1, hn2, rfl, ho, hLn⟩ | ⟨hh, rfl⟩, b2⟩
  rotate_left
  · have hr : readL u = .error 41 := by unfold readL; rw [hh]
    have hf := HM.out hr
    have k2 := k0.on b2
    have B2 := hb0.trans (b2.mono (by omega))
    have s2 := b2.size
    clear HM HE HO RL BL k0 hb0 b2
    go_wp2_with (refine wpl_put rfl (.tmp 2) (.tmp 39) rfl w.heap.size _ rfl rfl k2 (by kernel_rfl) rfl (by kernel_rfl) ?_)
    intro wz kz gz sz
    have Bz := B2.grown gz (by omega) (fun k hk => by cases hk; omega)
    go_wp2
    exact results13 Tryd.results13 kz rfl rfl rfl ⟨Bz, .slice none 0 0, by rw [hf]; rfl, by rw [hf]; exact OwnH.nil _ _⟩
  have k2 := k0.on b2
  have B2 := hb0.trans (b2.mono (by omega))
  have s2 := b2.size
  clear RL k0 hb0 b2
  have hrd := ho.rd
  cases L with
  | nil =>
    have hr : readL u = .error 40 := by unfold readL; rw [hh]
    have hf := HE.out hr
    obtain ⟨va, vn, vc, rfl, hvn⟩ : ∃ a n c, v = .slice a n c ∧ n = 0 := by
      rcases hrd with ⟨⟨a, c, rfl⟩, _⟩ | ⟨b, o, c, rfl, _⟩
      · exact ⟨_, _, _, rfl, rfl⟩
      · exact ⟨_, _, _, rfl, rfl⟩
    subst hvn
    have hnz : decide ((n : Int) < 0) = false := decide_eq_false (by omega)
    clear HM HE HO BL ho hrd
    go_wp2_with (refine wpl_put rfl (.tmp 2) (.tmp 57) rfl w.heap.size _ rfl rfl k2 (by kernel_rfl) rfl (by kernel_rfl) ?_)
    intro wz kz gz sz
    have Bz := B2.grown gz (by omega) (fun k hk => by cases hk; omega)
    go_wp2
    exact results13 Tryd.results13 kz rfl rfl rfl ⟨Bz, .slice none 0 0, by rw [hf]; rfl, by rw [hf]; exact OwnH.nil _ _⟩
  | cons c ls =>
  obtain ⟨g1, o, cp, K, rfl, hK, hcp, hcell⟩ : ∃ g1 o cp K, v = .slice (some ⟨g1, o, none⟩) K cp ∧ Hid (K = ls.length + 1) ∧ K ≤ cp ∧ ∀ i (h : i < (c :: ls).length), w2.cell? ⟨g1, o + i, none⟩ = some (str (c :: ls)[i]) := by
    rcases hrd with ⟨_, h⟩ | ⟨g1, o, cp, h1, h2, h3⟩
    · cases h
    · exact ⟨g1, o, cp, _, h1, rfl, h2, h3⟩
  have hK1 : 1 ≤ K := by have := hK.out; omega
  have hK0 : (0 : Int) < (K : Int) := by omega
  have kz1 : decide ((K : Int) < 1) = false := decide_eq_false (by have := hK.out; omega)
  have hll : Hid (∀ l ∈ c :: ls, l.length ≤ 16384) := fun l hl => by
    rcases headA_lens _ _ _ hh l hl with h | h
    · cases h
    · simp at h; omega
  have hR : Hid (readL u = (if isCmd c = true ∧ ls.length ≤ 32 then match hdrsL (bare c) ls with
      | none => .error 40
      | some H => match bodyL H (u.drop n) with
        | .error e => .error e
        | .ok (b, r') => .ok (⟨c, H, b⟩, r')
    else .error 40)) := by show _ = _; unfold readL; rw [hh]; rfl
  have hnz : decide ((n : Int) < 0) = false := decide_eq_false (by omega)
  have c0 := hcell 0 (by simp)
  simp only [Nat.add_zero, List.getElem_cons_zero] at c0
  have hL2 : Hid (∀ i (h : i < ls.length), w2.cell? ⟨g1, o + 1 + i, none⟩ = some (str ls[i])) := fun i h => by
    have := hcell (i + 1) (by simp; omega)
    simp only [List.getElem_cons_succ] at this
    rw [show o + 1 + i = o + (i + 1) by omega]
    exact this
  have IC := fun w => rcommand_any w c (by have := hll.out c (by simp); omega)
  simp only [List.length_cons] at hLn
  clear ho hrd hcell hh
  by_cases h32 : ¬ ls.length ≤ 32
  · have hr : readL u = .error 40 := by rw [hR.out, if_neg (fun h => h32 h.2)]
    have hf := HE.out hr
    have kz2 : decide ((33 : Int) < (K : Int)) = true := decide_eq_true (by have := hK.out; omega)
    clear HM HE HO BL hR hL2 IC c0 h32
    go_wp2_with (refine wpl_put rfl (.tmp 2) (.tmp 57) rfl w.heap.size _ rfl rfl k2 (by kernel_rfl) rfl (by kernel_rfl) ?_)
    intro wz kz gz sz
    have Bz := B2.grown gz (by omega) (fun k hk => by cases hk; omega)
    go_wp2
    exact results13 Tryd.results13 kz rfl rfl rfl ⟨Bz, .slice none 0 0, by rw [hf]; rfl, by rw [hf]; exact OwnH.nil _ _⟩
  have h32 : ls.length ≤ 32 := Classical.byContradiction h32
  have kz2 : decide ((33 : Int) < (K : Int)) = false := decide_eq_false (by have := hK.out; omega)
  cases hic : isCmd c with
  | false =>
    have hr : readL u = .error 40 := by rw [hR.out, hic, if_neg (fun h => by cases h.1)]
    have hf := HE.out hr
    rw [hic] at IC
    clear HM HE HO BL hR hL2
    go_upto_region 13 with (go_at_call 22; refine (IC _).mono ?_; rintro e w2 ⟨rfl, rfl⟩)
    go_wp2_with (refine wpl_put rfl (.tmp 2) (.tmp 57) rfl w.heap.size _ rfl rfl k2 (by kernel_rfl) rfl (by kernel_rfl) ?_)
    intro wz kz gz sz
    have Bz := B2.grown gz (by omega) (fun k hk => by cases hk; omega)
    go_wp2
    exact results13 Tryd.results13 kz rfl rfl rfl ⟨Bz, .slice none 0 0, by rw [hf]; rfl, by rw [hf]; exact OwnH.nil _ _⟩
  | true =>
  rw [hic] at IC
  have hR : Hid (readL u = (match hdrsL (bare c) ls with
      | none => .error 40
      | some H => match bodyL H (u.drop n) with
        | .error e => .error e
        | .ok (b, r') => .ok (⟨c, H, b⟩, r'))) := by show _ = _; rw [hR.out, if_pos ⟨hic, h32⟩]
  go_upto_region 14 with (go_at_call 22; refine (IC _).mono ?_; rintro e w2 ⟨rfl, rfl⟩)
  clear IC
  have KF := fun W' (k : Blk W' w2.heap.size #[str c, .slice none 0 0, str []] 24) => k
  go_wp2_with (refine wpl_fresh rfl (.tmp 10) (.tmp 61) rfl _ FR rfl rfl (by kernel_rfl) rfl (by kernel_rfl) ?_)
  intro w3 k3 b3 s3
  replace s3 : w2.heap.size < w3.heap.size := by omega
  have kF := KF _ k3
  have kQ := k2.on b3
  have B3 := B2.trans (b3.mono (by omega))
  have hL3 : Hid (∀ i (h : i < ls.length), w3.cell? ⟨g1, o + 1 + i, none⟩ = some (str ls[i])) := fun i h => by
    have := hL2.out i h
    rw [b3.cell (p := ⟨g1, o + 1 + i, none⟩) (World.block_lt_of_cell? w2 _ this)]
    exact this
  have hKl : ((K - 1 : Nat) : Int) = (ls.length : Int) := by have := hK.out; omega
  have hKn : K - 1 = ls.length := by have := hK.out; omega
  have hq2 := k2.lt
  have hg1 : g1 < w2.heap.size := World.block_lt_of_cell? w2 _ c0
  have IB := fun w => rplain_any w c
  have hcl := hll.out c (by simp)
  clear KF k3 k2 B2 b3 hL2 c0
  go_upto_region 15 with fail
  go_cut [63, 64, 65] (fun s63 s64 s65 W => ∃ (ad : Addr) (cq : Nat), s63 = .slice (some ad) ls.length cq ∧ Hid (¬ cp = 1 → ad = ⟨g1, o + 1, none⟩) ∧ s64 = .int .i64 (ls.length : Int) ∧ s65 = .int .i64 0 ∧ w3 = W)
  case first =>
    by_cases hcp1 : cp = 1
    · subst hcp1
      go_wp2_with fail
      go_meet
      case rel => exact ⟨_, _, by rw [← hKn], fun h => absurd trivial h, by rw [← hKl], rfl, rfl⟩
    · go_wp2_with fail
      go_meet
      case rel => exact ⟨_, _, by rw [← hKn], fun _ => rfl, by rw [← hKl], rfl, rfl⟩
  case rest =>
  obtain ⟨ad, cq, e63, had, e64, e65, ew⟩ := hcut
  subst e63
  subst e64
  subst e65
  subst ew
  go_wp2_with fail
  go_loopw [65] (fun i wr => ∃ (k : Nat) (hv : Value) (out : List Hd), k ≤ ls.length ∧ i = .int .i64 k ∧ out.length = k ∧ Blk wr w2.heap.size #[str c, hv, str []] 24 ∧ OwnH wr (w2.heap.size + 1) hv out ∧ Below w2.heap.size w3 wr ∧ Hid (hdrsL (bare c) ls = uponH out (hdrsL (bare c) (ls.drop k)))) (fun i _ => ls.length - (RowKit.intOf i).toNat)
  case atStart => exact ⟨0, _, [], Nat.zero_le _, rfl, rfl, kF, OwnH.nil _ _, Below.refl _ _, by show _ = _; simp [uponH]⟩
  case round =>
    clear kF
    obtain ⟨k, hv, out, hk, rfl, hol, kr, hor, hbr, hH⟩ := hrel
    have hqr := kr.lt
    have kQr := kQ.below hbr (by omega)
    have BR := B3.trans (hbr.mono (by omega))
    have sr := BR.size
    obtain ⟨ha, hn, hcc, rfl⟩ := hor.shape
    by_cases hlt : k < ls.length
    · obtain rfl := had.out (by have := hK.out; omega)
      have c0 := hL3.out k hlt
      have c0 : wr.cell? ⟨g1, o + 1 + k, none⟩ = some (str ls[k]) := by rw [hbr.cell (p := ⟨g1, o + 1 + k, none⟩) hg1]; exact c0
      have hl := hll.out ls[k] (by simp)
      have HNo : Hid (hdrL (bare c) ls[k] = none → hdrsL (bare c) ls = none) := hdrs_no hlt hH.out
      have HSt : Hid (∀ x, hdrL (bare c) ls[k] = some x → hdrsL (bare c) ls = uponH (out ++ [x]) (hdrsL (bare c) (ls.drop (k + 1)))) := fun x h => hdrs_step hlt hH.out h
      generalize ls[k] = l at *
      have hkz : (k : Int) < (ls.length : Int) := by omega
      have d0 := kr.cell 0
      simp only [List.getElem?_toArray, List.getElem?_cons_zero, List.getElem?_cons_succ] at d0
      have HD := fun w => rheader_any w l (bare c) (by omega)
      clear hH
      go_wp2_with (go_at_call 24; refine (IB _).mono ?_; rintro e wr ⟨rfl, rfl⟩)
      refine (HD _).mono ?_
      rintro e w5 ⟨⟨⟨xn, xt⟩, hx, rfl⟩ | ⟨hx, xn, xt, rfl⟩, b5⟩
      · have k5 := kr.on b5
        have ho5 := hor.up b5
        have B5 := hbr.trans (b5.mono (by omega))
        have s5 := b5.size
        have hH6 := HSt.out (xn, xt) hx
        clear HD HSt HNo hor hbr kr d0 c0 b5 kQr BR hx
        go_wp2_with (refine wpl_fresh rfl (.tmp 13) (.tmp 75) rfl _ #[str [], str []] rfl rfl (by kernel_rfl) rfl (by kernel_rfl) ?_)
        intro w6 kh6 b6 s6
        replace s6 : w5.heap.size < w6.heap.size := by omega
        have k6 := k5.on b6
        have ho6 := ho5.up b6
        have B6 := B5.trans (b6.mono (by omega))
        have f0 := kh6.cell 0
        have f1 := kh6.cell 1
        have d1 := k6.cell 1
        simp only [List.getElem?_toArray, List.getElem?_cons_zero, List.getElem?_cons_succ] at f0 f1 d1
        clear k5 ho5 B5 b6
        go_wp2_with (first
          | (at_builtin; refine wpList_plain rfl fun K hK => ?_; refine appH1 (.tmp 81) (.tmp 83) rfl (w2.heap.size + 1) _ out (xn, xt) w6 rfl ho6 rfl (by omega) (by omega) ?_; intro v8 w8 ho8 b8; have k8 := k6.below b8 (Nat.lt_succ_self _); have B8 := B6.trans (b8.mono (by omega)); obtain ⟨a8, n8, c8, rfl⟩ := ho8.shape; refine hK _ _ ?_)
          | (refine wpl_set rfl (.tmp 85) (.tmp 84) rfl w2.heap.size 1 _ rfl rfl k8 (by kernel_rfl) rfl rfl (by simp) ?_))
        intro w9 k9 g9 s9
        have k9 : Blk w9 w2.heap.size #[str c, .slice a8 n8 c8, str []] 24 := k9
        have hq8 := k8.lt
        have B9 := B8.grown g9 (by omega) (fun k hk => by cases hk; omega)
        have ho9 := ho8.grown g9 (fun k hk => by cases hk; omega)
        clear f0 f1 d1 k6 ho6 B6 k8 B8 ho8 g9 kh6
        go_wp2_with fail
        go_roundw
        case rel => exact ⟨k + 1, _, _, by omega, by go_num, by simp; omega, k9, ho9, B9, hH6⟩
        case measure => simp [RowKit.intOf]; omega
      · have hr : readL u = .error 40 := by rw [hR.out, HNo.out hx]
        have hf := HE.out hr
        have k5 := kQr.on b5
        have B5 := BR.trans (b5.mono (by omega))
        have s5 := b5.size
        clear HM HE HO HD HSt HNo hor hbr kr d0 c0 b5 kQr BR hx hR
        go_wp2_with (refine wpl_fresh rfl (.tmp 13) (.tmp 75) rfl _ #[str [], str []] rfl rfl (by kernel_rfl) rfl (by kernel_rfl) ?_)
        intro w6 kh6 b6 s6
        replace s6 : w5.heap.size < w6.heap.size := by omega
        have k6 := k5.on b6
        have B6 := B5.trans (b6.mono (by omega))
        clear b6 k5 B5 kh6
        go_wp2_with (refine wpl_put rfl (.tmp 2) (.tmp 79) rfl w.heap.size _ rfl rfl k6 (by kernel_rfl) rfl (by kernel_rfl) ?_)
        intro wz kz gz sz
        have Bz := B6.grown gz (by omega) (fun k hk => by cases hk; omega)
        go_wp2
        exact results13 Tryd.results13 kz rfl rfl rfl ⟨Bz, .slice none 0 0, by rw [hf]; rfl, by rw [hf]; exact OwnH.nil _ _⟩
    · obtain rfl : k = ls.length := by omega
      have hHs : hdrsL (bare c) ls = some out := by rw [hH.out, List.drop_length]; simp [uponH, hdrsL]
      have hR : Hid (readL u = match bodyD (sizeI out) (u.drop n) with
        | .error e => .error e
        | .ok (b, r') => .ok (⟨c, out, b⟩, r')) := by show _ = _; rw [hR.out, hHs, ← bodyD_eq]
      have htl : ∀ h ∈ out, h.1.length + h.2.length ≤ 1000000000 := fun h hh => by
        obtain ⟨l, h1, h2⟩ := (hdrsL_mem hHs).2 h hh
        have h3 := (hdrL_len h2).1
        have h4 := (hdrL_len h2).2
        have := hll.out l (by simp [h1])
        omega
      have SZ := fun w' (hb : Below wr.heap.size wr w') => rsize_any w' c [] _ out (hor.rd.on hb) (by omega) htl
      have hzl := sizeI_le out
      have hzg := sizeI_ge out
      have hez : ¬ (out.length : Int) < (out.length : Int) := by omega
      have e3 : (⟨u.toArray⟩ : ByteArray).extract n u.length = ⟨(u.drop n).toArray⟩ := by
        rw [ext_str, List.take_of_length_le (by rw [List.length_drop]; omega)]
      have hrl : (u.drop n).length + n = u.length := by rw [List.length_drop]; omega
      clear hll hL3 hHs hH htl IB hK
      generalize sizeI out = z at *
      generalize u.drop n = r at *
      have d0 := kr.cell 0
      have d1 := kr.cell 1
      have d2 := kr.cell 2
      simp only [List.getElem?_toArray, List.getElem?_cons_zero, List.getElem?_cons_succ] at d0 d1 d2
      have SZ1 := SZ wr (Below.refl _ _)
      go_wp2_with fail
      refine SZ1.mono ?_
      rintro e w4 ⟨rfl, b4⟩
      have k4 := kr.on b4
      have kQ4 := kQr.on b4
      have ho4 := hor.up b4
      have B4 := BR.trans (b4.mono (by omega))
      have s4 := b4.size
      clear SZ SZ1 kr kQr hor BR b4 d0 d1 d2
      by_cases hz2 : z = -2
      · have hr : readL u = .error 40 := by rw [hR.out, hz2]; rfl
        have hf := HE.out hr
        have hzz : (z == -2) = true := by rw [beq_iff_eq]; exact hz2
        clear HM HE HO hR hz2 hzl hzg
        go_wp2_with (refine wpl_put rfl (.tmp 2) (.tmp 94) rfl w.heap.size _ rfl rfl kQ4 (by kernel_rfl) rfl (by kernel_rfl) ?_)
        intro wz kz gz sz
        have Bz := B4.grown gz (by omega) (fun k hk => by cases hk; omega)
        go_wp2
        exact results13 Tryd.results13 kz rfl rfl rfl ⟨Bz, .slice none 0 0, by rw [hf]; rfl, by rw [hf]; exact OwnH.nil _ _⟩
      have hzz : (z == -2) = false := by rw [beq_eq_false_iff_ne]; exact hz2
      go_upto_if 96 with fail
      go_cut [15] (fun s15 W => ∃ m : Nat, s15 = .int .i64 (m : Int) ∧ m ≤ 1024 ∧ w4 = W ∧ Hid (bodyD z r = upTo m r))
      case first =>
        by_cases hz1 : z = -1
        · have hzz1 : (z == -1) = true := by rw [beq_iff_eq]; exact hz1
          obtain ⟨S, hS⟩ : ∃ S, Hid (scanN r = S) := ⟨_, (rfl : scanN r = _)⟩
          have hbd : bodyD z r = (if 1024 < S then .error 40 else upTo S r) := by rw [hz1, ← hS.out]; rfl
          have HSc : Hid (∀ j, (∀ (k : Nat) (hk : k < r.length), k < j → r[k] ≠ 0) → (h : j < r.length) → j ≤ 1024 → r[j] = 0 → S = j) := fun j h1 h2 h3 h4 => by rw [← hS.out]; exact scan_step h2 h3 h1 h4
          have HSe : Hid (∀ j, (∀ (k : Nat) (hk : k < r.length), k < j → r[k] ≠ 0) → (j = r.length ∨ 1024 < j) → j ≤ r.length → j ≤ 1025 → S = j) := fun j h1 h2 h3 h4 => by rw [← hS.out]; exact scan_end h2 h3 h4 h1
          have hBd : Hid (bodyD z r = (if 1024 < S then .error 40 else upTo S r)) := hbd
          clear hz1 hz2 hzg hzl hS hbd
          go_wp2_with fail
          go_loopw [15] (fun i wx => ∃ j : Nat, j ≤ r.length ∧ j ≤ 1025 ∧ i = .int .i64 j ∧ w4 = wx ∧ Hid (∀ (k : Nat) (hk : k < r.length), k < j → r[k] ≠ 0)) (fun i _ => r.length - (RowKit.intOf i).toNat)
          case atStart => exact ⟨0, Nat.zero_le _, Nat.zero_le _, rfl, rfl, fun k _ h => absurd h (Nat.not_lt_zero _)⟩
          case round =>
            obtain ⟨j, hj, hj2, rfl, rfl, HB⟩ := hrel
            by_cases hjr : j < r.length
            · have hjz : (j : Int) < (r.length : Int) := by omega
              by_cases hj3 : j ≤ 1024
              · have gj := get_str r j hjr
                have hgj : r.getD j 0 = r[j] := by simp [List.getD_eq_getElem?_getD, hjr]
                rw [hgj] at gj
                have hj3z : decide ((j : Int) ≤ 1024) = true := decide_eq_true (by omega)
                by_cases h0 : r[j] = 0
                · have hSj := HSc.out j HB.out hjr hj3 h0
                  have hB2 : Hid (bodyD z r = upTo j r) := by show _ = _; rw [hBd.out, hSj, if_neg (by omega)]
                  have hj4z : decide ((1024 : Int) < (j : Int)) = false := decide_eq_false (by omega)
                  rw [h0] at gj
                  clear HSc HSe HB hBd hSj h0 hgj
                  go_wp2_with fail
                  go_meet
                  case rel => exact ⟨j, rfl, hj3, rfl, hB2⟩
                · have HB2 : Hid (∀ (k : Nat) (hk : k < r.length), k < j + 1 → r[k] ≠ 0) := fun k hk h2 => by
                    rcases Nat.lt_or_ge k j with h3 | h3
                    · exact HB.out k hk h3
                    · have : k = j := by omega
                      subst this; exact h0
                  have hy0 : ¬ r[j].toNat = 0 := fun h => h0 (by rw [← UInt8.toNat_inj]; exact h)
                  generalize r[j] = y at *
                  have hy1 : ((y.toNat : Int) == 0) = false := by rw [beq_eq_false_iff_ne]; omega
                  have hy2 : ((y.toNat : Int) != 0) = true := by unfold bne; rw [hy1]; rfl
                  clear HB h0 hgj hy0
                  go_wp2_with fail
                  go_roundw
                  case rel => exact ⟨j + 1, by omega, by omega, by go_num, by trivial, HB2⟩
                  case measure => simp [RowKit.intOf]; omega
              · have hSj := HSe.out j HB.out (.inr (by omega)) hj hj2
                have hr : readL u = .error 40 := by rw [hR.out, hBd.out, hSj, if_pos (by omega)]
                have hf := HE.out hr
                have hj3z : decide ((j : Int) ≤ 1024) = false := decide_eq_false (by omega)
                have hj4z : decide ((1024 : Int) < (j : Int)) = true := decide_eq_true (by omega)
                clear HM HE HO hR HSc HSe HB hBd hSj hr
                go_wp2_with (refine wpl_put rfl (.tmp 2) (.tmp 115) rfl w.heap.size _ rfl rfl kQ4 (by kernel_rfl) rfl (by kernel_rfl) ?_)
                intro wz kz gz sz
                have Bz := B4.grown gz (by omega) (fun k hk => by cases hk; omega)
                go_wp2
                exact results13 Tryd.results13 kz rfl rfl rfl ⟨Bz, .slice none 0 0, by rw [hf]; rfl, by rw [hf]; exact OwnH.nil _ _⟩
            · obtain rfl : j = r.length := by omega
              have hSj := HSe.out r.length HB.out (.inl (by trivial)) hj hj2
              have hjz : ¬ (r.length : Int) < (r.length : Int) := by omega
              by_cases hj3 : r.length ≤ 1024
              · have hB2 : Hid (bodyD z r = upTo r.length r) := by show _ = _; rw [hBd.out, hSj, if_neg (by omega)]
                have hj4z : decide ((1024 : Int) < (r.length : Int)) = false := decide_eq_false (by omega)
                clear HSc HSe HB hBd hSj
                go_wp2_with fail
                go_meet
                case rel => exact ⟨r.length, rfl, hj3, rfl, hB2⟩
              · have hr : readL u = .error 40 := by rw [hR.out, hBd.out, hSj, if_pos (by omega)]
                have hf := HE.out hr
                have hj4z : decide ((1024 : Int) < (r.length : Int)) = true := decide_eq_true (by omega)
                clear HM HE HO hR HSc HSe HB hBd hSj hr
                go_wp2_with (refine wpl_put rfl (.tmp 2) (.tmp 115) rfl w.heap.size _ rfl rfl kQ4 (by kernel_rfl) rfl (by kernel_rfl) ?_)
                intro wz kz gz sz
                have Bz := B4.grown gz (by omega) (fun k hk => by cases hk; omega)
                go_wp2
                exact results13 Tryd.results13 kz rfl rfl rfl ⟨Bz, .slice none 0 0, by rw [hf]; rfl, by rw [hf]; exact OwnH.nil _ _⟩
        · have hzz1 : (z == -1) = false := by rw [beq_eq_false_iff_ne]; exact hz1
          obtain ⟨m, rfl⟩ : ∃ m : Nat, z = (m : Int) := ⟨z.toNat, by omega⟩
          have hB2 : Hid (bodyD (m : Int) r = upTo m r) := by
            show _ = _
            unfold bodyD
            rw [if_neg hz2, if_neg hz1]
            rfl
          have hm : m ≤ 1024 := by omega
          clear hz1 hz2 hzg hzl
          go_wp2_with fail
          go_meet
          case rel => exact ⟨m, rfl, hm, rfl, hB2⟩
      case rest =>
      obtain ⟨m, e15, hm, ew, hBD⟩ := hcut
      subst e15
      subst ew
      have hR : Hid (readL u = match upTo m r with
        | .error e => .error e
        | .ok (b, r') => .ok (⟨c, out, b⟩, r')) := by show _ = _; rw [hR.out, hBD.out]
      clear hBD hzg hzl hz2 hzz
      by_cases hle : r.length ≤ m
      · have hr : readL u = .error 41 := by rw [hR.out, upD_more hle]
        have hf := HM.out hr
        have hlez : decide ((r.length : Int) ≤ (m : Int)) = true := decide_eq_true (by omega)
        clear HM HE HO hR hr
        go_wp2_with (refine wpl_put rfl (.tmp 2) (.tmp 120) rfl w.heap.size _ rfl rfl kQ4 (by kernel_rfl) rfl (by kernel_rfl) ?_)
        intro wz kz gz sz
        have Bz := B4.grown gz (by omega) (fun k hk => by cases hk; omega)
        go_wp2
        exact results13 Tryd.results13 kz rfl rfl rfl ⟨Bz, .slice none 0 0, by rw [hf]; rfl, by rw [hf]; exact OwnH.nil _ _⟩
      have hmr : m < r.length := by omega
      have hlez : decide ((r.length : Int) ≤ (m : Int)) = false := decide_eq_false (by omega)
      have hmz : (m : Int) < (r.length : Int) := by omega
      have gm := get_str r m hmr
      have hgm : r.getD m 0 = r[m] := by simp [List.getD_eq_getElem?_getD, hmr]
      rw [hgm] at gm
      by_cases h0 : r[m] = 0
      · have hr : readL u = .ok (⟨c, out, r.take m⟩, r.drop (m + 1)) := by rw [hR.out, upD_ok hmr h0]
        have hf := HO.out _ _ hr
        have hlen2 : u.length - (r.drop (m + 1)).length = n + m + 1 := by rw [List.length_drop]; omega
        rw [hlen2] at hf
        have e4 : (⟨r.toArray⟩ : ByteArray).extract 0 m = ⟨(r.take m).toArray⟩ := by
          rw [ext_str]
          simp only [List.drop_zero, Nat.sub_zero]
        rw [h0] at gm
        clear HM HE HO hR hr h0 hgm hlen2
        go_wp2_with (refine wpl_set rfl (.tmp 131) (.tmp 130) rfl w2.heap.size 2 _ rfl rfl k4 (by kernel_rfl) rfl rfl (by simp) ?_)
        intro w5 k5 g5 s5
        replace s5 : w4.heap.size ≤ w5.heap.size := by omega
        have k5 : Blk w5 w2.heap.size #[str c, .slice ha hn hcc, str (r.take m)] 24 := k5
        have hq4 := k4.lt
        have kQ5 := kQ4.grown g5 (by simp; omega)
        have B5 := B4.grown g5 (by omega) (fun k hk => by cases hk; omega)
        have ho5 := ho4.grown g5 (fun k hk => by cases hk; omega)
        clear k4 kQ4 B4 ho4 g5 e4 gm
        generalize r.take m = bd at *
        go_upto_region 38 with fail
        refine wp_region_held (S := fun W => Blk W w2.heap.size #[str c, .slice ha hn hcc, str bd] 24) hmix ?_
        show wpAnyH _ _ _ _ _ _ _ _ (World.drew _)
        have k6 : Blk w5.drew w2.heap.size #[str c, .slice ha hn hcc, str bd] 24 := ⟨k5.h⟩
        have kQ6 : Blk w5.drew w.heap.size FR 24 := ⟨kQ5.h⟩
        have B6 := B5.drew
        have ho6 := ho5.up (Below.refl _ w5).drew
        clear k5 kQ5 B5 ho5
        generalize w5.drew = w6 at *
        refine tks [0, 1, 3, 5] [.agg #[str c, .slice ha hn hcc, str bd], str s, .int .i64 (n : Int), .int .i64 (m : Int)] 7 ?_ k6 ?_
        · simp only [tkY, tkf]
          refine ⟨.yes ?_, .yes ?_, .yes ?_, .yes ?_, trivial⟩
          all_goals
            rintro W' hW1
            have d0 := hW1.cell 0
            have d1 := hW1.cell 1
            have d2 := hW1.cell 2
            simp only [List.getElem?_toArray, List.getElem?_cons_zero, List.getElem?_cons_succ] at d0 d1 d2
            go_simp
        simp only [tkA, tkf]
        refine ak 2 (fun K hK => ?_)
        go_wp2_with (go_at_call 18; refine (BL _).mono ?_; rintro e w6 ⟨rfl, rfl⟩)
        refine hK _ _ k6 ?_
        clear hK K
        refine tks [4, 6, 7] [.int .i64 ((p : Int) + (n : Int)), .int .i64 ((p : Int) + (n : Int) + (m : Int)), .int .i64 ((p : Int) + (n : Int) + (m : Int) + 1)] 3 ?_ k6 ?_
        · simp only [tkY, tkf]
          refine ⟨.yes ?_, .yes ?_, .yes ?_, trivial⟩
          all_goals
            intro W' _
            go_simp
            try (rw [IntKind.wrap_i64]; omega)
        simp only [tkA, tkf]
        refine ak 8 (fun K hK => ?_)
        refine opw_put (.tmp 2) (.tmp 132) rfl w.heap.size _ rfl rfl kQ6 (by kernel_rfl) rfl (by kernel_rfl) ?_
        intro w7 k7 g7 s7
        have hq6 := k6.lt
        have k67 := k6.grown g7 (by simp; omega)
        have B7 := B6.grown g7 (by omega) (fun k hk => by cases hk; omega)
        have ho7 := ho6.grown g7 (fun k hk => by cases hk; omega)
        refine hK _ _ k67 ?_
        clear hK K k6 kQ6 B6 ho6 g7
        refine ak 9 (fun K hK => ?_)
        go_wp2_with fail
        refine hK _ _ k67 ?_
        clear hK K
        refine ak 10 (fun K hK => ?_)
        go_wp2_with fail
        refine hK _ _ k67 ?_
        clear hK K
        refine wpAnyH_done (by kernel_rfl) ?_ _
        go_wp2_with fail
        have hsum : ((p + (n + m + 1) : Nat) : Int) = (p : Int) + (n : Int) + (m : Int) + 1 := by omega
        exact results13 Tryd.results13 k7 rfl rfl rfl ⟨B7, _, by rw [hf, ← hsum]; rfl, by rw [hf]; exact ho7.low (by omega)⟩
      · have hr : readL u = .error 40 := by rw [hR.out, upD_no hmr h0]
        have hf := HE.out hr
        have hy0 : ¬ r[m].toNat = 0 := fun h => h0 (by rw [← UInt8.toNat_inj]; exact h)
        generalize r[m] = y at *
        have hy1 : ((y.toNat : Int) == 0) = false := by rw [beq_eq_false_iff_ne]; omega
        have hy2 : ((y.toNat : Int) != 0) = true := by unfold bne; rw [hy1]; rfl
        clear HM HE HO hR hr h0 hgm hy0
        go_wp2_with (refine wpl_put rfl (.tmp 2) (.tmp 127) rfl w.heap.size _ rfl rfl kQ4 (by kernel_rfl) rfl (by kernel_rfl) ?_)
        intro wz kz gz sz
        have Bz := B4.grown gz (by omega) (fun k hk => by cases hk; omega)
        go_wp2
        exact results13 Tryd.results13 kz rfl rfl rfl ⟨Bz, .slice none 0 0, by rw [hf]; rfl, by rw [hf]; exact OwnH.nil _ _⟩
end Go.Proofs.YtfdbekfbbihdgaaDoor
