
/- The document's header. Conditions: those that each row states. -/
import Derived.Test.YtfdbekfbbihdgaaDoorRr
import Derived.Test.YtfdbekfbbihdgaaDoorSf
namespace Go.Proofs.YtfdbekfbbihdgaaDoor
open Go.RowKit Go.Lib
set_option maxRecDepth 100000
set_option linter.unusedSimpArgs false

theorem results28 {fn : Func} (hf : fn.results = #[.cell 4 42, .tmp 5]) {tmps : Array Value} {W : World} {g : Nat} {c h : Value} {R : Ending → World → Prop} {n : Value}
    (hk : Blk W g #[c, h] 42) (hp : tmps.getD 4 undef = .pointer (some ⟨g, 0, none⟩)) (hn : tmps.getD 5 undef = n) (hR : R (.returned (.tuple #[.agg #[c, h], n])) W) :
    bodyPost Tryd.prog fn R .ret { tmps := tmps, defers := [] } W := by
  refine bodyPost_ret (v := .tuple #[.agg #[c, h], n]) ?_ rfl hR
  have d0 := hk.cell 0
  have d1 := hk.cell 1
  simp only [List.getElem?_toArray, List.getElem?_cons_zero, List.getElem?_cons_succ] at d0 d1
  simp only [Array.getD_eq_getD_getElem?] at hp hn
  simp [results, hf, hp, hn, go_sem, d0, d1]
theorem hdrL_cut {b : Bool} {l n t : Bs} (hc : cutN 58 l = some (n, t)) : hdrL b l = if n = [] then none else (rdL b n).bind fun n' => (rdL b t).map fun t' => (n', t') := by
  unfold hdrL rdL
  rw [hc]
  simp only []
  by_cases hn : n = []
  · rw [if_pos hn, if_pos hn]
  · rw [if_neg hn, if_neg hn]
    cases b with
    | true => rfl
    | false =>
      simp only [Bool.false_eq_true, if_false]
      cases unm n <;> rfl
def HdrP (b : Bool) (l : Bs) (e : Ending) : Prop := (∃ h : Hd, hdrL b l = some h ∧ e = .returned (.tuple #[.agg #[str h.1, str h.2], .bool true])) ∨ (hdrL b l = none ∧ ∃ n t : Bs, e = .returned (.tuple #[.agg #[str n, str t], .bool false]))
set_option maxHeartbeats 4000000 in
theorem rheader_any (w : World) (l : Bs) (b : Bool) (hl : l.length ≤ 100000000) : Calls Tryd.prog 28 #[str l, .bool b] w fun e w' => HdrP b l e ∧ Below w.heap.size w w' := by
  have k0 := Blk.new w #[str [], str []] 42
  have b0 := below_new w (.cells #[str [], str []] 42)
  have s0 : (w.alloc (.cells #[str [], str []] 42)).heap.size = w.heap.size + 1 := by simp
  go_enter Tryd.func28, Tryd.ntmps28
  go_upto_region 1 with fail
  generalize w.alloc (.cells #[str [], str []] 42) = w1 at *
  go_wp2_with fail
  go_loop [6] (fun i => ∃ j : Nat, j ≤ l.length ∧ i = .int .i64 j ∧ Hid (58 ∉ l.take j)) (fun i => l.length - (RowKit.intOf i).toNat)
  case atStart => exact ⟨0, Nat.zero_le _, rfl, by show 58 ∉ l.take 0; simp⟩
  case round =>
    obtain ⟨j, hj, rfl, HB⟩ := hrel
    by_cases hlt : j < l.length
    · have gk := get_str l j
      have hjz : (j : Int) < (l.length : Int) := by omega
      have hgj : l.getD j 0 = l[j] := by simp [List.getD_eq_getElem?_getD, hlt]
      rw [hgj] at gk
      by_cases h58 : l[j] = 58
      · have hcut : cutN 58 l = some (l.take j, l.drop (j + 1)) := by
          have e1 : l = l.take j ++ 58 :: l.drop (j + 1) := by
            rw [← h58, List.getElem_cons_drop, List.take_append_drop]
          have := cutN_app (l.drop (j + 1)) HB.out
          rw [← e1] at this
          exact this
        have HH : Hid (hdrL b l = if l.take j = [] then none else (rdL b (l.take j)).bind fun n' => (rdL b (l.drop (j + 1))).map fun t' => (n', t')) := hdrL_cut hcut
        have hj0 : Hid (l.take j = [] ↔ j = 0) := by
          show _ ↔ _
          rw [List.take_eq_nil_iff]
          constructor
          · rintro (h | h)
            · exact h
            · subst h; cases hlt
          · exact .inl
        rw [h58] at gk
        clear hgj h58 hcut
        have x1 : (⟨l.toArray⟩ : ByteArray).extract 0 j = ⟨(l.take j).toArray⟩ := by rw [ext_str]; simp
        have x2 : (⟨l.toArray⟩ : ByteArray).extract (j + 1) l.length = ⟨(l.drop (j + 1)).toArray⟩ := by
          rw [ext_str, List.take_of_length_le (by rw [List.length_drop]; omega)]
        have R1 := fun w => rread_any w (l.take j) b (by rw [List.length_take]; omega)
        have R2 := fun w => rread_any w (l.drop (j + 1)) b (by rw [List.length_drop]; omega)
        have q1 : (((j : Int) + 1).toNat) = j + 1 := by omega
        have q2 : (j : Int) + 1 ≤ (l.length : Int) := by omega
        generalize l.take j = n at *
        generalize l.drop (j + 1) = t at *
        obtain ⟨x, xb, hx, hx2⟩ : ∃ (x : Bs) (xb : Bool), rdV (rdL b n) = .tuple #[str x, .bool xb] ∧ Hid ((xb = true ∧ rdL b n = some x) ∨ (xb = false ∧ rdL b n = none)) := by
          cases h : rdL b n with
          | some x => exact ⟨x, true, rfl, .inl ⟨rfl, rfl⟩⟩
          | none => exact ⟨[], false, rfl, .inr ⟨rfl, rfl⟩⟩
        obtain ⟨y, yb, hy, hy2⟩ : ∃ (x : Bs) (xb : Bool), rdV (rdL b t) = .tuple #[str x, .bool xb] ∧ Hid ((xb = true ∧ rdL b t = some x) ∨ (xb = false ∧ rdL b t = none)) := by
          cases h : rdL b t with
          | some x => exact ⟨x, true, rfl, .inl ⟨rfl, rfl⟩⟩
          | none => exact ⟨[], false, rfl, .inr ⟨rfl, rfl⟩⟩
        rw [hx] at R1
        rw [hy] at R2
        clear hx hy
        obtain ⟨z, hz⟩ : ∃ z, z = decide (0 < j) := ⟨_, rfl⟩
        have HZ : Hid (z = true ↔ ¬ j = 0) := by show _ ↔ _; rw [hz, decide_eq_true_iff]; omega
        have hz2 : decide (0 < j) = z := hz.symm
        have HP : Hid (∀ n' t' : Bs, n' = x → t' = y → HdrP b l (.returned (.tuple #[.agg #[str n', str t'], .bool (xb && (yb && z))]))) := fun n' t' h1 h2 => by
          subst h1 h2
          rcases hx2.out with ⟨rfl, e1⟩ | ⟨rfl, e1⟩
          · rcases hy2.out with ⟨rfl, e2⟩ | ⟨rfl, e2⟩
            · cases z with
              | true =>
                have hne : ¬ n = [] := fun h => (HZ.out.1 rfl) (hj0.out.1 h)
                refine .inl ⟨(n', t'), ?_, rfl⟩
                rw [HH.out, if_neg hne, e1, e2]; rfl
              | false =>
                have hne : n = [] := hj0.out.2 (Classical.byContradiction fun h => by have := HZ.out.2 h; cases this)
                refine .inr ⟨?_, _, _, rfl⟩
                rw [HH.out, if_pos hne]
            · refine .inr ⟨?_, _, _, rfl⟩
              rw [HH.out, e1, e2]
              split <;> rfl
          · refine .inr ⟨?_, _, _, rfl⟩
            rw [HH.out, e1]
            split <;> rfl
        clear HH hj0 HZ hz hx2 hy2 HB
        go_wp2_with fail
        refine (R1 _).mono ?_
        rintro e w2 ⟨rfl, b2⟩
        have k2 := k0.on b2
        have B2 := b0.trans (b2.mono (by omega))
        clear R1 b2
        go_wp2_with fail
        refine (R2 _).mono ?_
        rintro e w3 ⟨rfl, b3⟩
        have k3 := k2.on b3
        have B3 := B2.trans (b3.mono B2.size)
        clear R2 b3 k2
        cases xb with
        | false =>
          go_wp2_with (refine wpl_put rfl (.tmp 4) (.tmp 40) rfl w.heap.size _ rfl rfl k3 (by kernel_rfl) rfl (by kernel_rfl) ?_)
          intro W' kW gW sW
          go_wp2
          exact results28 Tryd.results28 kW rfl rfl ⟨HP.out x y rfl rfl, B3.grown gW B3.size (fun k hk => by injection hk with hk; omega)⟩
        | true =>
          cases yb with
          | false =>
            go_wp2_with (refine wpl_put rfl (.tmp 4) (.tmp 40) rfl w.heap.size _ rfl rfl k3 (by kernel_rfl) rfl (by kernel_rfl) ?_)
            intro W' kW gW sW
            go_wp2
            exact results28 Tryd.results28 kW rfl rfl ⟨HP.out x y rfl rfl, B3.grown gW B3.size (fun k hk => by injection hk with hk; omega)⟩
          | true =>
            go_wp2_with (refine wpl_put rfl (.tmp 4) (.tmp 40) rfl w.heap.size _ rfl rfl k3 (by kernel_rfl) rfl (by kernel_rfl) ?_)
            intro W' kW gW sW
            go_wp2
            exact results28 Tryd.results28 kW rfl rfl ⟨HP.out x y rfl rfl, B3.grown gW B3.size (fun k hk => by injection hk with hk; omega)⟩
      · have HB2 : Hid (58 ∉ l.take (j + 1)) := by
          show 58 ∉ l.take (j + 1)
          rw [List.take_succ_eq_append_getElem hlt, List.mem_append, List.mem_singleton]
          rintro (h | h)
          · exact HB.out h
          · exact h58 h.symm
        have n58 : ((l[j].toNat : Int) == 58) = false := by
          rw [beq_eq_false_iff_ne]; intro e; exact h58 (UInt8.toNat.inj (show l[j].toNat = 58 by omega))
        generalize l[j] = y at *
        clear hgj h58
        go_wp2
        all_goals
          go_round
          case rel => exact ⟨j + 1, by omega, by go_num, HB2⟩
          case measure => simp [RowKit.intOf]; omega
    · obtain rfl : j = l.length := by omega
      have hn : hdrL b l = none := by
        have := HB.out
        rw [List.take_length] at this
        unfold hdrL
        rw [cutN_none.2 this]
      have HN : Hid (hdrL b l = none) := hn
      clear hn HB
      go_wp2_with (refine wpl_put rfl (.tmp 4) (.tmp 49) rfl w.heap.size _ rfl rfl k0 (by kernel_rfl) rfl (by kernel_rfl) ?_)
      intro W' kW gW sW
      go_wp2
      exact results28 Tryd.results28 kW rfl rfl ⟨.inr ⟨HN.out, [], [], rfl⟩, b0.grown gW (by omega) (fun k hk => by injection hk with hk; omega)⟩
end Go.Proofs.YtfdbekfbbihdgaaDoor
