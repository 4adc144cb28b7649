
/- What Blanks and Next answer of any bytes. Conditions: those that each row states. -/
import Derived.Test.YtfdbekfbbihdgaaDoorSl
namespace Go.Proofs.YtfdbekfbbihdgaaDoor
open Go.RowKit Go.Lib
set_option maxRecDepth 100000
set_option linter.unusedSimpArgs false

def strN (v : Value) : Nat := match v with
  | .string b => b.size
  | _ => 0
set_option maxHeartbeats 1000000 in
theorem blanks_any (w : World) (s : Bs) (hs : s.length ≤ 100000000) : Calls Tryd.prog 17 #[str s] w fun e w' => e = .returned (.int .i64 (blanksN s)) ∧ Below w.heap.size w w' := by
  go_enter Tryd.func17, Tryd.ntmps17
  go_wp2_with fail
  go_loopw [3] (fun v wr => ∃ (p : Nat) (cur : Bs), v = str cur ∧ s.length = p + cur.length ∧ Hid (blanksN s = p + blanksN cur) ∧ Below w.heap.size w wr) (fun v _ => strN v)
  case atStart => exact ⟨0, s, rfl, by omega, by show _ = _; omega, Below.refl _ _⟩
  case round =>
    obtain ⟨p, cur, rfl, hp, hB, hbr⟩ := hrel
    have hbc := blanksN_cut cur
    have K := line29 wr cur (by omega)
    have hwr := hbr.size
    unfold lineV at K
    have hsub : IntKind.i64.wrap ((s.length : Int) - (cur.length : Int)) = (p : Int) := by rw [IntKind.wrap_i64]; omega
    have hsub2 : wrap64 ((s.length : Int) - (cur.length : Int)) = (p : Int) := by unfold wrap64; omega
    have hsub3 : ((s.length : Int) - (cur.length : Int)) = (p : Int) := by omega
    cases hcut : cutN 10 cur with
    | none =>
      rw [hcut] at K hbc
      simp only [] at K hbc
      have HN : Hid ((blanksN s : Int) = p) := by show _ = _; rw [hB.out, hbc]; omega
      clear hcut hbc hB
      go_wp2_with fail
      refine K.mono ?_
      rintro e w1 ⟨rfl, b1⟩
      go_wp2
      go_ret
      exact ⟨by rw [HN.out]; first | rfl | (rw [hsub3]), hbr.trans (b1.mono hwr)⟩
    | some q =>
      obtain ⟨a, r⟩ := q
      obtain ⟨hq, _⟩ := cutN_some hcut
      have hl2 : a.length + 1 + r.length = cur.length := by rw [hq]; simp; omega
      rw [hcut] at K hbc
      simp only [] at K hbc
      clear hcut hq
      by_cases ht : trimR a = []
      · rw [if_pos ht] at hbc
        rw [ht] at K
        have HN : Hid (blanksN s = p + (a.length + 1) + blanksN r) := by show _ = _; rw [hB.out, hbc]; omega
        clear ht hbc hB hsub hsub2 hsub3
        go_wp2_with fail
        refine K.mono ?_
        rintro e w1 ⟨rfl, b1⟩
        go_wp2_with fail
        go_roundw
        case rel => exact ⟨p + (a.length + 1), r, rfl, by omega, HN, hbr.trans (b1.mono hwr)⟩
        case measure => simp [strN, ByteArray.size]; omega
      · rw [if_neg ht] at hbc
        have htb : (trimR a == []) = false := by rw [beq_l]; simpa using ht
        have HN : Hid ((blanksN s : Int) = p) := by show _ = _; rw [hB.out, hbc]; omega
        clear ht hbc hB
        generalize trimR a = l at *
        go_wp2_with fail
        refine K.mono ?_
        rintro e w1 ⟨rfl, b1⟩
        go_wp2
        go_ret
        exact ⟨by rw [HN.out]; first | rfl | (rw [hsub3]), hbr.trans (b1.mono hwr)⟩
/-- What Next answers. -/
def NextP (w : World) (s : Bs) (e : Ending) (w' : World) : Prop :=
  Below w.heap.size w w' ∧ ∃ hv, e = .returned (.tuple #[frV (nextL s).1.cmd hv (nextL s).1.body, .int .i64 (nextL s).2.1, .int .i64 (nextL s).2.2]) ∧ OwnH w' w.heap.size hv (nextL s).1.hs
theorem results12 {fn : Func} (hf : fn.results = #[.cell 2 24, .tmp 3, .tmp 4]) {tmps : Array Value} {W : World} {g : Nat} {c h b : Value} {R : Ending → World → Prop} {n e : Value}
    (hk : Blk W g #[c, h, b] 24) (hp : tmps.getD 2 undef = .pointer (some ⟨g, 0, none⟩)) (hn : tmps.getD 3 undef = n) (he : tmps.getD 4 undef = e) (hR : R (.returned (.tuple #[.agg #[c, h, b], n, e])) W) :
    bodyPost Tryd.prog fn R .ret { tmps := tmps, defers := [] } W := by
  refine bodyPost_ret (v := .tuple #[.agg #[c, h, b], n, e]) ?_ rfl hR
  have d0 := hk.cell 0
  have d1 := hk.cell 1
  have d2 := hk.cell 2
  simp only [List.getElem?_toArray, List.getElem?_cons_zero, List.getElem?_cons_succ] at d0 d1 d2
  simp only [Array.getD_eq_getD_getElem?] at hp hn he
  simp [results, hf, hp, hn, he, go_sem, d0, d1, d2]
set_option maxHeartbeats 2000000 in
theorem next_any (w : World) (s : Bs) (hs : s.length ≤ 100000000) (hV : Vars w.heap.size w) : Calls Tryd.prog 12 #[str s] w fun e w' => NextP w s e w' := by
  have hlp := blanksN_le s
  have e1 : (⟨s.toArray⟩ : ByteArray).extract (blanksN s) s.length = ⟨(rst s).toArray⟩ := by
    rw [ext_str, List.take_of_length_le (by rw [List.length_drop]; omega)]
  have e2 : (⟨(rst s).toArray⟩ : ByteArray).extract 0 (capN (rst s).length 16384) = ⟨((rst s).take 16384).toArray⟩ := by
    rw [ext_str]
    simp only [List.drop_zero, Nat.sub_zero, capN]
    rw [← List.take_take, List.take_of_length_le (by rw [List.length_take]; omega)]
  have hcl : ((capN (rst s).length 16384 : Nat) : Int) ≤ ((rst s).length : Int) := by unfold capN; omega
  have hlr : (rst s).length + blanksN s = s.length := by rw [List.length_drop]; omega
  have hlt : ((rst s).take 16384).length ≤ (rst s).length := by rw [List.length_take]; omega
  have hRD := fun f r (h : readL ((rst s).take 16384) = .ok (f, r)) => readL_len h
  have hRE := fun e (h : readL ((rst s).take 16384) = .error e) => readL_err h
  have HN : Hid (nextL s = match readL ((rst s).take 16384) with
    | .ok (f, r) => (f, blanksN s + (((rst s).take 16384).length - r.length), 0)
    | .error e => if e = 41 ∧ (rst s).length < 16384 then (Fr.z, blanksN s, 41) else (Fr.z, 0, 40)) := rfl
  unfold NextP
  generalize nextL s = N at *
  have hb0 := below_new w (.cells FR 24)
  have k0 := Blk.new w FR 24
  have s0 : (w.alloc (.cells FR 24)).heap.size = w.heap.size + 1 := by simp
  have BL := blanks_any (w.alloc (.cells FR 24)) s hs
  have RD := fun w hV => read_any w ((rst s).take 16384) (by omega) hV
  generalize blanksN s = p at *
  generalize rst s = t at *
  generalize t.take 16384 = u at *
  go_enter Tryd.func12, Tryd.ntmps12
  go_upto_region 1 with fail
  generalize w.alloc (.cells FR 24) = w0 at *
  go_wp2_with fail
  refine BL.mono ?_
  rintro e w1 ⟨rfl, b1⟩
  have B1 := hb0.trans (b1.mono (by omega))
  have k1 := k0.on b1
  have s1 := b1.size
  have RD1 := RD w1 ((hV.on B1).mono (by omega))
  clear BL RD b1 k0 hb0
  go_wp2_with fail
  refine RD1.mono ?_
  rintro e w2 ⟨b2, ⟨f, r, hv, hR, rfl, ho⟩ | ⟨g, hR, rfl⟩⟩
  · obtain ⟨fc, fh, fb⟩ := f
    have hr := hRD _ _ hR
    have hn := HN.out
    rw [hR] at hn
    simp only [] at hn
    subst hn
    dsimp only at ho ⊢
    obtain ⟨ha, hnn, hcp, rfl⟩ := ho.shape
    have k2 := k1.on b2
    have B2 := B1.trans (b2.mono (by omega))
    have s2 := b2.size
    have ho2 : OwnH w2 (w.heap.size + 1) _ fh := ho.low (by omega)
    clear RD1 k1 hRD hRE hR ho b2 HN e1 e2
    go_wp2_with (refine wpl_put rfl (.tmp 2) (.tmp 20) rfl w.heap.size _ rfl rfl k2 (by kernel_rfl) rfl (by kernel_rfl) ?_)
    intro w3 k3 g3 s3
    have B3 := B2.grown g3 (by omega) (fun k hk => by cases hk; omega)
    have ho3 := ho2.grown g3 (fun k hk => by cases hk; omega)
    have d0 := k3.cell 0
    have d1 := k3.cell 1
    have d2 := k3.cell 2
    simp only [List.getElem?_toArray, List.getElem?_cons_zero, List.getElem?_cons_succ] at d0 d1 d2
    have hw1 : wrap64 ((p : Int) + ((u.length : Int) - (r.length : Int))) = ((p + (u.length - r.length) : Nat) : Int) := by unfold wrap64; omega
    clear k2 B2 ho2 g3
    go_wp2_with (refine wpl_put rfl (.tmp 2) (.tmp 25) rfl w.heap.size _ rfl rfl k3 (by kernel_rfl) rfl (by kernel_rfl) ?_)
    intro w4 k4 g4 s4
    have B4 := B3.grown g4 (by omega) (fun k hk => by cases hk; omega)
    have ho4 := ho3.grown g4 (fun k hk => by cases hk; omega)
    go_wp2
    refine results12 Tryd.results12 k4 rfl rfl rfl ⟨B4, _, ?_, ho4.low (by omega)⟩
    have hz : (p : Int) + ((u.length : Int) - (r.length : Int)) = (p : Int) + ((u.length - r.length : Nat) : Int) := by omega
    show Ending.returned (.tuple #[frV fc (.slice ha hnn hcp) fb, .int .i64 ((p : Int) + ((u.length : Int) - (r.length : Int))), .int .i64 0]) = _
    rw [hz]
  · have hg := hRE _ hR
    have hn := HN.out
    rw [hR] at hn
    simp only [] at hn
    have k2 := k1.on b2
    have B2 := B1.trans (b2.mono (by omega))
    have s2 := b2.size
    clear RD1 k1 hRD hRE hR b2 HN e1 e2
    go_wp2_with (refine wpl_put rfl (.tmp 2) (.tmp 20) rfl w.heap.size _ rfl rfl k2 (by kernel_rfl) rfl (by kernel_rfl) ?_)
    intro w3 k3 g3 s3
    have B3 := B2.grown g3 (by omega) (fun k hk => by cases hk; omega)
    clear k2 B2 g3
    rcases hg with rfl | rfl
    · rw [if_neg (fun h => absurd h.1 (by decide))] at hn
      subst hn
      go_wp2_with (refine wpl_put rfl (.tmp 2) (.tmp 38) rfl w.heap.size _ rfl rfl k3 (by kernel_rfl) rfl (by kernel_rfl) ?_)
      intro w4 k4 g4 s4
      have B4 := B3.grown g4 (by omega) (fun k hk => by cases hk; omega)
      go_wp2
      exact results12 Tryd.results12 k4 rfl rfl rfl ⟨B4, _, rfl, OwnH.nil _ _⟩
    · by_cases hlt : t.length < 16384
      · rw [if_pos ⟨rfl, hlt⟩] at hn
        subst hn
        have hz : decide ((t.length : Int) < 16384) = true := decide_eq_true (by omega)
        go_wp2_with (refine wpl_put rfl (.tmp 2) (.tmp 36) rfl w.heap.size _ rfl rfl k3 (by kernel_rfl) rfl (by kernel_rfl) ?_)
        intro w4 k4 g4 s4
        have B4 := B3.grown g4 (by omega) (fun k hk => by cases hk; omega)
        go_wp2
        exact results12 Tryd.results12 k4 rfl rfl rfl ⟨B4, _, rfl, OwnH.nil _ _⟩
      · rw [if_neg (fun h => hlt h.2)] at hn
        subst hn
        have hz : decide ((t.length : Int) < 16384) = false := decide_eq_false (by omega)
        go_wp2_with (refine wpl_put rfl (.tmp 2) (.tmp 38) rfl w.heap.size _ rfl rfl k3 (by kernel_rfl) rfl (by kernel_rfl) ?_)
        intro w4 k4 g4 s4
        have B4 := B3.grown g4 (by omega) (fun k hk => by cases hk; omega)
        go_wp2
        exact results12 Tryd.results12 k4 rfl rfl rfl ⟨B4, _, rfl, OwnH.nil _ _⟩
end Go.Proofs.YtfdbekfbbihdgaaDoor
