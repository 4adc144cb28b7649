
/- What the document's Words answers of any text: its words, in memory of its own. Condition: a text of at most 8,000 bytes. -/
import Derived.Test.YtlbcefocmdnlgaaGreatDoorWa
import Derived.Test.YtlbcefocmdnlgaaGreatDoorMc
import Derived.RegionTactic
import Derived.ChangeAlike
import Derived.BigRegion
import Derived.Deep.AppendLies
import Derived.Deep.RegionLaw
import Derived.Laws.Concat
namespace Go.Proofs.YtlbcefocmdnlgaaGreatDoor.To
open Go.RowKit Go.Lib
set_option maxRecDepth 10000

theorem info9 : (Tryz.prog.info? 9).map (fun i => (i.zero, i.size, i.bytes)) = some (some (str []), 1, 16) := by kernel_rfl

/-- Texts that are the call's own. -/
structure Ows (w0 w : World) (v : Value) (ws : List (List UInt8)) : Prop where
  row : w.ownsRow w0.heap.size 9 1 v ws.length (ws.map str)
  b : Below w0.heap.size w0 w
theorem Ows.parts {w0 w : World} {v : Value} {ws : List (List UInt8)} (h : Ows w0 w v ws) (hne : ws ≠ []) : ∃ g cap cur, v = .slice (some ⟨g, 0, none⟩) ws.length cap ∧ w0.heap.size ≤ g ∧ w.heap[g]? = some (.cells cur 9 (0, 0)) ∧ ws.length ≤ cap ∧ cap ≤ maxLen ∧ cur.size = cap ∧ cur.toList.take ws.length = ws.map str := by
  obtain ⟨_, h | ⟨g, cap, cur, h1, h2, h3, h4, h5, h6, h7⟩⟩ := h.row
  · exact absurd (List.eq_nil_of_length_eq_zero h.2) hne
  · exact ⟨g, cap, cur, h1, h2, h3, h4, h5, by rw [h6, Nat.mul_one], by rw [← h7, Nat.mul_one]⟩
theorem Ows.rd {w0 w : World} {g cap n : Nat} {ws : List (List UInt8)} (h : Ows w0 w (.slice (some ⟨g, 0, none⟩) n cap) ws) (hne : ws ≠ []) : RdS w g 0 ws := by
  obtain ⟨g', cap', cur, h1, h2, h3, h4, h5, h6, h7⟩ := h.parts hne
  injection h1 with h1 _ _
  injection h1 with h1
  injection h1 with h1
  subst h1
  refine ⟨(Array.getElem?_eq_some_iff.1 h3).1, fun j hj => ?_⟩
  have : cur.toList[j]? = some (str ws[j]) := by
    rw [← List.getElem?_take_of_lt hj, h7]
    simp [hj]
  unfold World.cell?
  rw [h3]
  simpa using this
theorem Ows.frozen {w0 w : World} {g cap n : Nat} {ws : List (List UInt8)} (h : Ows w0 w (.slice (some ⟨g, 0, none⟩) n cap) ws) (hne : ws ≠ []) (m : Nat) : w.frozen? ⟨g, m, none⟩ = false := by
  obtain ⟨g', cap', cur, h1, h2, h3, h4, h5, h6, h7⟩ := h.parts hne
  injection h1 with h1 _ _
  injection h1 with h1
  injection h1 with h1
  subst h1
  unfold World.frozen?
  rw [h3]
  simp
/-- The last text changed. -/
theorem Ows.put {w0 w : World} {g cap : Nat} {ws : List (List UInt8)} {x y : List UInt8} (h : Ows w0 w (.slice (some ⟨g, 0, none⟩) (ws.length + 1) cap) (ws ++ [x])) : Ows w0 (w.setCell ⟨g, ws.length, none⟩ (str y)) (.slice (some ⟨g, 0, none⟩) (ws.length + 1) cap) (ws ++ [y]) := by
  obtain ⟨g', cap', cur, h1, h2, h3, h4, h5, h6, h7⟩ := h.parts (by simp)
  rw [List.length_append, List.length_singleton] at h1 h4 h7
  injection h1 with h1 _ hc
  injection h1 with h1
  injection h1 with h1
  subst h1
  subst hc
  refine ⟨⟨by simp, .inr ⟨g, cap, cur.set! ws.length (str y), by simp, h2, ?_, by simpa using h4, h5, by simpa using h6, ?_⟩⟩, h.b.setCell h2 _⟩
  · simp only [World.setCell, Array.getElem?_modify, if_pos, h3]
    simp [Array.set!]
  · rw [Array.set!_eq_setIfInBounds, Array.toList_setIfInBounds]
    rw [List.length_append, List.length_singleton, Nat.mul_one, List.take_set, h7]
    simp [List.map_append]

theorem info_parts {e : TypeId} {z : Value} {n m : Nat} (h : (Tryz.prog.info? e).map (fun i => (i.zero, i.size, i.bytes)) = some (some z, n, m)) : ∃ i, Tryz.prog.info? e = some i ∧ i.zero = some z ∧ i.size = n ∧ i.bytes = m := by
  cases hi : Tryz.prog.info? e with
  | none => rw [hi] at h; simp at h
  | some i =>
    rw [hi] at h
    simp only [Option.map_some, Option.some.injEq, Prod.mk.injEq] at h
    exact ⟨i, rfl, h.1, h.2.1, h.2.2⟩
/-- An empty text behind. -/
theorem wpl_push {ops : Array Oper} {rest : List Oper} {o : Oper} {a : Act} {Q : Exit → Act → World → Prop} (hgd : o.guard = none) (s x : Operand)
    (ho : o.op = .call { callee := .builtin .append, args := #[s, x], argTypes := #[56, 56] }) (w0 w : World) (v : Value) (ws : List (List UInt8))
    (hs : a.eval s = v) (hown : Ows w0 w v ws) (hx : a.eval x = .slice (some ⟨w.heap.size, 0, none⟩) 1 1) (hn : ws.length ≤ 9000)
    (h : ∀ g cap w', Hid (Ows w0 w' (.slice (some ⟨g, 0, none⟩) (ws.length + 1) cap) (ws ++ [[]])) → wpList Tryz.prog ops Q rest (a.put o.dst (.slice (some ⟨g, 0, none⟩) (ws.length + 1) cap)) w') :
    wpList Tryz.prog ops Q (o :: rest) a (w.alloc (.cells #[str []] 9)) := by
  obtain ⟨i0, hi, hz0, hz1, hz2⟩ := info_parts info9
  have hb0 : Below w.heap.size w (w.alloc (.cells #[str []] 9)) := (Below.refl _ _).alloc (Nat.le_refl _) _
  have hsz := hown.b.size
  have hown0 : (w.alloc (.cells #[str []] 9)).ownsRow w0.heap.size 9 1 v ws.length (ws.map str) := by
    obtain ⟨h1, h2 | ⟨g, cap, cur, e1, e2, e3, e4⟩⟩ := hown.row
    · exact ⟨h1, .inl h2⟩
    · exact ⟨h1, .inr ⟨g, cap, cur, e1, e2, (hb0.block g (Array.getElem?_eq_some_iff.1 e3).1).trans e3, e4⟩⟩
  refine wpList_plain hgd fun K hK => wp_append_lies _ s x 56 ho w0.heap.size 9 i0 (str []) 1 16 (by kernel_rfl) hi hz0 hz1 hz2 rfl (by omega) v ws.length (ws.map str) hs hown0 ⟨w.heap.size, 0, none⟩ 1 1 [str []] hx rfl (World.news_of_block (cs := #[str []]) (fr := (0, 0)) (t := 9) (heap_alloc_new w _)) (fun y hy => by obtain rfl := List.mem_singleton.1 hy; rfl) (by omega) (by unfold maxLen; omega) (by omega) (by have := hb0.size; omega) _ rfl ?_
  intro g cap w' h1 h2 h3 h4
  refine hK _ _ (h g cap w' ⟨⟨by simp, ?_⟩, ?_⟩)
  · have := h1.2
    simpa using this
  · have hb1 : Below w0.heap.size w0 (w.alloc (.cells #[str []] 9)) := hown.b.trans (hb0.mono hsz)
    refine hb1.grown h2 (by have := hb0.size; omega) (fun k hk => ?_)
    obtain ⟨_, h2 | ⟨g, cap, cur, e1, e2, _⟩⟩ := hown.row
    · rw [h2.1] at hk; simp [Value.ownBlock] at hk
    · rw [e1] at hk
      simp [Value.ownBlock] at hk
      omega

theorem snoc_cases (l : List UInt8) (k : Nat) (h : k < l.length) : l.take (k + 1) = l.take k ++ [l[k]] := List.take_succ_eq_append_getElem h
theorem word_len (l : List UInt8) : ∀ w ∈ wordsL l, w.length ≤ l.length := by
  induction l with
  | nil => intro w hw; simp [wordsL] at hw; subst hw; simp
  | cons d l ih =>
    intro w hw
    by_cases h : d = 46
    · subst h
      rw [wordsL_dot] at hw
      rcases List.mem_cons.1 hw with rfl | hw
      · simp
      · have := ih w hw; simp; omega
    · obtain ⟨v, vs, h1, h2⟩ := wordsL_other d l h
      rw [h2] at hw
      rcases List.mem_cons.1 hw with rfl | hw
      · have := ih v (by rw [h1]; simp); simp; omega
      · have := ih w (by rw [h1]; simp [hw]); simp; omega
theorem words_last (l : List UInt8) : ∃ ws x, wordsL l = ws ++ [x] := by
  have := wordsL_ne l
  exact ⟨(wordsL l).dropLast, (wordsL l).getLast this, (List.dropLast_concat_getLast this).symm⟩

set_option maxHeartbeats 2000000 in
theorem words_any (w : World) (l : List UInt8) (hl : l.length ≤ 8000) : Calls Tryz.prog 59 #[str l, .int .u8 46] w fun e w' =>
    ∃ g cap, e = .returned (.slice (some ⟨g, 0, none⟩) (wordsL l).length cap) ∧ RdS w' g 0 (wordsL l) ∧ Below w.heap.size w w' ∧ (wordsL l).length ≤ cap := by
  have H0 : Ows w (w.alloc (.cells #[str []] 9)) (.slice (some ⟨w.heap.size, 0, none⟩) 1 1) [[]] := by
    refine ⟨⟨rfl, .inr ⟨w.heap.size, 1, #[str []], rfl, Nat.le_refl _, heap_alloc_new w _, by simp, by decide, rfl, rfl⟩⟩, (Below.refl _ _).alloc (Nat.le_refl _) _⟩
  have H0 : Hid _ := H0
  have HL : Hid (l.length ≤ 8000) := hl
  have HZ : (l.length : Int) ≤ 8000 := by omega
  clear hl
  go_enter Tryz.func59, Tryz.ntmps59
  go_wp2_with fail
  go_loopw [5, 6] (fun s5 s6 wr => ∃ k g cap m : Nat, k ≤ l.length ∧ s6 = .int .i64 k ∧ s5 = .slice (some ⟨g, 0, none⟩) (m + 1) cap ∧ m ≤ k ∧ ∃ ws x, Hid (ws.length = m) ∧ Hid (wordsL (l.take k) = ws ++ [x]) ∧ Hid (Ows w wr (.slice (some ⟨g, 0, none⟩) (m + 1) cap) (ws ++ [x]))) (fun _ i _ => l.length - (RowKit.intOf i).toNat)
  case atStart => exact ⟨0, w.heap.size, 1, 0, by omega, rfl, rfl, by omega, [], [], rfl, rfl, H0.out⟩
  case round =>
    obtain ⟨k, g, cap, m, hk, rfl, rfl, hmk, ws, x, HM, HW, HO⟩ := hrel
    by_cases hlt : k < l.length
    · have hltz : (k : Int) < (l.length : Int) := by omega
      have hT := snoc_cases l k hlt
      obtain ⟨c, hc⟩ : ∃ c, l[k] = c := ⟨_, rfl⟩
      rw [hc] at hT
      have hT : Hid _ := hT
      by_cases h46 : c = 46
      · subst h46
        have hcz : ((((⟨l.toArray⟩ : ByteArray)[k]'hlt).toNat : Int) == 46) = true := by
          rw [show (⟨l.toArray⟩ : ByteArray)[k]'hlt = 46 from hc]; rfl
        have hn9 : (ws ++ [x]).length ≤ 9000 := by rw [List.length_append, HM.out]; have := HL.out; simp; omega
        have HY : Hid (wordsL (l.take (k + 1)) = (ws ++ [x]) ++ [[]]) := by
          show wordsL (l.take (k + 1)) = _
          rw [hT.out, wordsL_snoc_dot, HW.out]
        have hn1 : (ws ++ [x]).length = m + 1 := by rw [List.length_append, HM.out]; rfl
        obtain ⟨wx, hwx⟩ : ∃ wx, ws ++ [x] = wx := ⟨_, rfl⟩
        rw [hwx] at HO HY hn9 hn1
        have hn1 : Hid _ := hn1
        have hn9 : Hid _ := hn9
        clear hwx
        go_wp2_with (at_builtin; refine wpl_push rfl (.tmp 19) (.tmp 20) rfl w wr _ wx rfl HO.out rfl hn9.out ?_; intro g2 cap2 w2 HO2)
        go_roundw
        case rel => exact ⟨k + 1, g2, cap2, m + 1, by omega, by go_num, rfl, by omega, wx, [], hn1.out, HY.out, by rw [hn1.out] at HO2; exact HO2.out⟩
        case measure => simp [RowKit.intOf]; omega
      · have hcz : ((((⟨l.toArray⟩ : ByteArray)[k]'hlt).toNat : Int) == 46) = false := by
          rw [beq_eq_false_iff_ne]
          intro h
          exact h46 (UInt8.toNat_inj.1 (by show c.toNat = 46; rw [← hc]; show ((⟨l.toArray⟩ : ByteArray)[k]'hlt).toNat = 46; omega))
        have hcell : wr.cell? ⟨g, m, none⟩ = some (str x) := by
          have h1 := (HO.out.rd (by simp)).2 m (by rw [List.length_append, HM.out]; simp)
          rw [Nat.zero_add] at h1
          rw [h1]
          simp [HM.out]
        have hsl : ∀ W, (Instr.slice 9 (str l) (some (.int .i64 (k : Int))) (some (.int .i64 ((k : Int) + 1))) none).run Tryz.prog W = .ok (str [c]) W := fun W => by
          have := run_slice_string (P := Tryz.prog) W 9 ⟨l.toArray⟩ .i64 .i64 k ((k : Int) + 1) Tryz.underlying9 (by omega) (by omega) (by show (k : Int) + 1 ≤ (l.length : Int); omega)
          refine this.trans ?_
          have hex : (⟨l.toArray⟩ : ByteArray).extract (k : Int).toNat ((k : Int) + 1).toNat = ⟨[c].toArray⟩ := by
            rw [← mk_bl (ByteArray.extract _ _ _)]
            congr 2
            show (ByteArray.extract _ _ _).data.toList = _
            rw [Lib.extract_data, show ((k : Int) + 1).toNat = k + 1 by omega, show (k : Int).toNat = k by omega, Nat.add_sub_cancel_left]
            show (l.drop k).take 1 = [c]
            rw [List.drop_eq_getElem_cons hlt, hc]
            rfl
          rw [hex]
        have hx9 : x.length ≤ 8000 := by
          have h1 := word_len (l.take k) x (by rw [HW.out]; simp)
          rw [List.length_take] at h1
          have := HL.out
          omega
        have hA : ∀ W, (Op.stringOp .add ⟨x.toArray⟩ ⟨[c].toArray⟩).run Tryz.prog W = .ok (.string ⟨(x ++ [c]).toArray⟩) W := fun W => run_string_add_lists (P := Tryz.prog) (w := W) x [c] (by omega) (by simp)
        have hfr := HO.out.frozen (by simp) m
        obtain ⟨y, hy⟩ : ∃ y, x ++ [c] = y := ⟨_, rfl⟩
        rw [hy] at hA
        have HY : Hid (wordsL (l.take (k + 1)) = ws ++ [y]) := by
          show wordsL (l.take (k + 1)) = ws ++ [y]
          rw [hT.out, wordsL_snoc _ c h46 ws x HW.out, hy]
        have HP : Hid (Ows w ((wr.setCell ⟨g, m, none⟩ (str y)).drew) (.slice (some ⟨g, 0, none⟩) (m + 1) cap) (ws ++ [y])) := by
          have h1 := HO.out
          rw [← HM.out] at h1 ⊢
          have h2 := h1.put (y := y)
          exact ⟨h2.row, h2.b.drew⟩
        clear hy h46
        go_wp2_with fail
        go_region
        go_wp2
        go_roundw
        case rel => exact ⟨k + 1, g, cap, m, by omega, by go_num, rfl, by omega, ws, y, HM, HY.out, HP.out⟩
        case measure => simp [RowKit.intOf]; omega
    · have hkl : k = l.length := by omega
      have hw : wordsL l = ws ++ [x] := by rw [← HW.out, hkl, List.take_length]
      have hR : Hid (RdS wr g 0 (wordsL l)) := by rw [hw]; exact HO.out.rd (by simp)
      have hb := HO.out.b
      have hn : m + 1 = (wordsL l).length := by rw [hw, List.length_append, HM.out]; rfl
      have hltz : ¬ (k : Int) < (l.length : Int) := by omega
      have hcap : Hid ((wordsL l).length ≤ cap) := by
        obtain ⟨g', cap', cur, h1, h2, h3, h4, h5, h6, h7⟩ := HO.out.parts (by simp)
        injection h1 with _ _ hc
        rw [hw, hc]
        exact h4
      have hn : Hid _ := hn
      clear hw
      go_wp2
      go_ret
      exact ⟨g, cap, by rw [← hn.out]; rfl, hR.out, hb, hcap.out⟩
end Go.Proofs.YtlbcefocmdnlgaaGreatDoor.To
