/- When a queue can be, one after another: what the document's Good asks. What the document's Words answers of any text: its words, in memory of its own. Condition: a text of at most 8,000 bytes. What the document's Good and Pattern answer of any text. Condition: a text of a length that Go knows. What the document's Good and Name answer. What the document's Name answers of any text. What the document's Valid answers of any list. -/
import Derived.Test.YtlbcefocmdnlgaaGreatDoorZg
import Derived.Test.YtlbcefocmdnlgaaGreatDoorZa
import Derived.RegionTactic
import Derived.ChangeAlike
import Derived.BigRegion
import Derived.Deep.AppendLies
import Derived.Deep.RegionLaw
import Derived.Laws.Concat
import Derived.Deep.LoopGhost
import Derived.Test.YtlbcefocmdnlgaaGreatDoorZd
import Derived.Test.YtlbcefocmdnlgaaGreatDoorZe
namespace Go.Proofs.YtlbcefocmdnlgaaGreatDoor
open Go.RowKit Go.Lib
set_option linter.unusedSimpArgs false

structure GI (q : Que) (k : Nat) : Prop where
  ri : Rises (q.items.take k)
  it : ∀ x ∈ q.items.take k, itmB q.seq x = true
theorem GI.zero (q : Que) : GI q 0 := ⟨by simp [Rises], by simp⟩
theorem GI.next {q : Que} {k : Nat} (h : GI q k) (hk : k < q.items.length) (h1 : itmB q.seq q.items[k] = true) (h2 : ∀ h0 : 0 < k, (q.items[k - 1]).seq < (q.items[k]).seq) : GI q (k + 1) := by
  have e : q.items.take (k + 1) = q.items.take k ++ [q.items[k]] := List.take_succ_eq_append_getElem hk
  refine ⟨?_, ?_⟩
  · rw [e]
    unfold Rises
    rw [List.pairwise_append]
    refine ⟨h.ri, by simp, fun y hy z hz => ?_⟩
    rw [List.mem_singleton.1 hz]
    obtain ⟨i, hi, rfl⟩ := List.mem_iff_getElem.1 hy
    have hik : i < k := by rw [List.length_take] at hi; omega
    have h3 := h2 (by omega)
    rw [List.getElem_take]
    rcases Nat.lt_or_ge i (k - 1) with h4 | h4
    · have h5 := List.pairwise_iff_getElem.1 h.ri i (k - 1) hi (by rw [List.length_take]; omega) h4
      rw [List.getElem_take, List.getElem_take] at h5
      omega
    · have : i = k - 1 := by omega
      subst this
      exact h3
  · intro x hx
    rw [e] at hx
    rcases List.mem_append.1 hx with hx | hx
    · exact h.it x hx
    · rw [List.mem_singleton.1 hx]
      exact h1
/-- What ends it. -/
theorem bad_item {q : Que} {k : Nat} (hk : k < q.items.length) (h : itmB q.seq q.items[k] = false ∨ ∃ h0 : 0 < k, (q.items[k]).seq ≤ (q.items[k - 1]).seq) : goodQ q = false := by
  cases hg : goodQ q with
  | false => rfl
  | true =>
    have hp := (goodQ_iff q).1 hg
    rcases h with h | ⟨h0, h⟩
    · rw [hp.it _ (List.getElem_mem hk)] at h
      cases h
    · have h5 := List.pairwise_iff_getElem.1 hp.ri (k - 1) k (by omega) hk (by omega)
      omega
structure GH (q : Que) (k : Nat) : Prop where
  rt : RisesT (q.held.take k)
  ht : ∀ h ∈ q.held.take k, hldB q.seq q.tag h = true
  di : ∀ h ∈ q.held.take k, ∀ x ∈ q.items, x.seq ≠ h.itm.seq
  nd : ((q.held.take k).map (·.itm.seq)).Nodup
theorem GH.zero (q : Que) : GH q 0 := ⟨by simp [RisesT], by simp, by simp, by simp⟩
theorem GH.next {q : Que} {k : Nat} (h : GH q k) (hk : k < q.held.length) (h1 : hldB q.seq q.tag q.held[k] = true) (h2 : ∀ h0 : 0 < k, (q.held[k - 1]).tag < (q.held[k]).tag) (h3 : ∀ x ∈ q.items, x.seq ≠ (q.held[k]).itm.seq) (h4 : ∀ x ∈ q.held.take k, x.itm.seq ≠ (q.held[k]).itm.seq) : GH q (k + 1) := by
  have e : q.held.take (k + 1) = q.held.take k ++ [q.held[k]] := List.take_succ_eq_append_getElem hk
  refine ⟨?_, ?_, ?_, ?_⟩
  · rw [e]
    unfold RisesT
    rw [List.pairwise_append]
    refine ⟨h.rt, by simp, fun y hy z hz => ?_⟩
    rw [List.mem_singleton.1 hz]
    obtain ⟨i, hi, rfl⟩ := List.mem_iff_getElem.1 hy
    have hik : i < k := by rw [List.length_take] at hi; omega
    have h3 := h2 (by omega)
    rw [List.getElem_take]
    rcases Nat.lt_or_ge i (k - 1) with h4 | h4
    · have h5 := List.pairwise_iff_getElem.1 h.rt i (k - 1) hi (by rw [List.length_take]; omega) h4
      rw [List.getElem_take, List.getElem_take] at h5
      omega
    · have : i = k - 1 := by omega
      subst this
      exact h3
  · intro x hx
    rw [e] at hx
    rcases List.mem_append.1 hx with hx | hx
    · exact h.ht x hx
    · rw [List.mem_singleton.1 hx]
      exact h1
  · intro x hx
    rw [e] at hx
    rcases List.mem_append.1 hx with hx | hx
    · exact h.di x hx
    · rw [List.mem_singleton.1 hx]
      exact h3
  · rw [e, List.map_append, List.nodup_append]
    refine ⟨h.nd, by simp, fun a ha b hb => ?_⟩
    obtain ⟨x, hx, rfl⟩ := List.mem_map.1 ha
    rw [List.mem_singleton.1 hb]
    exact h4 x hx
theorem bad_held {q : Que} {k : Nat} (hk : k < q.held.length) (h : hldB q.seq q.tag q.held[k] = false ∨ (∃ h0 : 0 < k, (q.held[k]).tag ≤ (q.held[k - 1]).tag) ∨ (∃ x ∈ q.items, x.seq = (q.held[k]).itm.seq) ∨ ∃ x ∈ q.held.take k, x.itm.seq = (q.held[k]).itm.seq) : goodQ q = false := by
  cases hg : goodQ q with
  | false => rfl
  | true =>
    have hp := (goodQ_iff q).1 hg
    have hn := List.nodup_append.1 hp.nd
    rcases h with h | ⟨h0, h⟩ | ⟨x, hx, e⟩ | ⟨x, hx, e⟩
    · rw [hp.ht _ (List.getElem_mem hk)] at h
      cases h
    · have h5 := List.pairwise_iff_getElem.1 hp.rt (k - 1) k (by omega) hk (by omega)
      omega
    · exact absurd e (hn.2.2 _ (List.mem_map_of_mem hx) _ (List.mem_map_of_mem (List.getElem_mem hk)))
    · obtain ⟨i, hi, rfl⟩ := List.mem_iff_getElem.1 hx
      have hik : i < k := by rw [List.length_take] at hi; omega
      rw [List.getElem_take] at e
      have h5 := List.pairwise_iff_getElem.1 hn.2.1 i k (by simp; omega) (by simpa using hk) hik
      simp only [List.getElem_map] at h5
      exact absurd e h5
theorem good_all {q : Que} (h1 : nameL q.name = true) (h2 : depB q.depth = true) (h3 : numB q.seq = true) (h4 : numB q.tag = true) (h5 : (lenQ q : Int) ≤ q.depth) (hi : GI q q.items.length) (hh : GH q q.held.length) : goodQ q = true := by
  obtain ⟨i1, i2⟩ := hi
  obtain ⟨j1, j2, j3, j4⟩ := hh
  rw [List.take_length] at i1 i2 j1 j2 j3 j4
  refine (goodQ_iff q).2 ⟨h1, h2, h3, h4, h5, i1, i2, j1, j2, ?_⟩
  refine List.nodup_append.2 ⟨?_, j4, fun a ha b hb => ?_⟩
  · rw [List.nodup_iff_pairwise_ne, List.pairwise_map]
    exact i1.imp fun h => by omega
  · obtain ⟨x, hx, rfl⟩ := List.mem_map.1 ha
    obtain ⟨y, hy, rfl⟩ := List.mem_map.1 hb
    exact j3 y hy x hx
end Go.Proofs.YtlbcefocmdnlgaaGreatDoor

namespace Go.Proofs.YtlbcefocmdnlgaaGreatDoor.To
open Go.RowKit Go.Lib
set_option maxRecDepth 10000

theorem info9 : (Tryz.prog.info? 9).map (fun i => (i.zero, i.size, i.bytes)) = some (some (str []), 1, 16) := by kernel_rfl

/-- Texts that are the call's own. -/
structure Ows (w0 w : World) (v : Value) (ws : List (List UInt8)) : Prop where
  row : w.ownsRow w0.heap.size 9 1 v ws.length (ws.map str)
  b : Below w0.heap.size w0 w
theorem Ows.parts {w0 w : World} {v : Value} {ws : List (List UInt8)} (h : Ows w0 w v ws) (hne : ws ≠ []) : ∃ g cap cur, v = .slice (some ⟨g, 0, none⟩) ws.length cap ∧ w0.heap.size ≤ g ∧ w.heap[g]? = some (.cells cur 9 (0, 0)) ∧ ws.length ≤ cap ∧ cap ≤ maxLen ∧ cur.size = cap ∧ cur.toList.take ws.length = ws.map str := by
  obtain ⟨_, h | ⟨g, cap, cur, h1, h2, h3, h4, h5, h6, h7⟩⟩ := h.row
  · exact absurd (List.eq_nil_of_length_eq_zero h.2) hne
  · exact ⟨g, cap, cur, h1, h2, h3, h4, h5, by rw [h6, Nat.mul_one], by rw [← h7, Nat.mul_one]⟩
theorem Ows.rd {w0 w : World} {g cap n : Nat} {ws : List (List UInt8)} (h : Ows w0 w (.slice (some ⟨g, 0, none⟩) n cap) ws) (hne : ws ≠ []) : RdS w g 0 ws := by
  obtain ⟨g', cap', cur, h1, h2, h3, h4, h5, h6, h7⟩ := h.parts hne
  injection h1 with h1 _ _
  injection h1 with h1
  injection h1 with h1
  subst h1
  refine ⟨(Array.getElem?_eq_some_iff.1 h3).1, fun j hj => ?_⟩
  have : cur.toList[j]? = some (str ws[j]) := by
    rw [← List.getElem?_take_of_lt hj, h7]
    simp [hj]
  unfold World.cell?
  rw [h3]
  simpa using this
theorem Ows.frozen {w0 w : World} {g cap n : Nat} {ws : List (List UInt8)} (h : Ows w0 w (.slice (some ⟨g, 0, none⟩) n cap) ws) (hne : ws ≠ []) (m : Nat) : w.frozen? ⟨g, m, none⟩ = false := by
  obtain ⟨g', cap', cur, h1, h2, h3, h4, h5, h6, h7⟩ := h.parts hne
  injection h1 with h1 _ _
  injection h1 with h1
  injection h1 with h1
  subst h1
  unfold World.frozen?
  rw [h3]
  simp
/-- The last text changed. -/
theorem Ows.put {w0 w : World} {g cap : Nat} {ws : List (List UInt8)} {x y : List UInt8} (h : Ows w0 w (.slice (some ⟨g, 0, none⟩) (ws.length + 1) cap) (ws ++ [x])) : Ows w0 (w.setCell ⟨g, ws.length, none⟩ (str y)) (.slice (some ⟨g, 0, none⟩) (ws.length + 1) cap) (ws ++ [y]) := by
  obtain ⟨g', cap', cur, h1, h2, h3, h4, h5, h6, h7⟩ := h.parts (by simp)
  rw [List.length_append, List.length_singleton] at h1 h4 h7
  injection h1 with h1 _ hc
  injection h1 with h1
  injection h1 with h1
  subst h1
  subst hc
  refine ⟨⟨by simp, .inr ⟨g, cap, cur.set! ws.length (str y), by simp, h2, ?_, by simpa using h4, h5, by simpa using h6, ?_⟩⟩, h.b.setCell h2 _⟩
  · simp only [World.setCell, Array.getElem?_modify, if_pos, h3]
    simp [Array.set!]
  · rw [Array.set!_eq_setIfInBounds, Array.toList_setIfInBounds]
    rw [List.length_append, List.length_singleton, Nat.mul_one, List.take_set, h7]
    simp [List.map_append]

theorem info_parts {e : TypeId} {z : Value} {n m : Nat} (h : (Tryz.prog.info? e).map (fun i => (i.zero, i.size, i.bytes)) = some (some z, n, m)) : ∃ i, Tryz.prog.info? e = some i ∧ i.zero = some z ∧ i.size = n ∧ i.bytes = m := by
  cases hi : Tryz.prog.info? e with
  | none => rw [hi] at h; simp at h
  | some i =>
    rw [hi] at h
    simp only [Option.map_some, Option.some.injEq, Prod.mk.injEq] at h
    exact ⟨i, rfl, h.1, h.2.1, h.2.2⟩
/-- An empty text behind. -/
theorem wpl_push {ops : Array Oper} {rest : List Oper} {o : Oper} {a : Act} {Q : Exit → Act → World → Prop} (hgd : o.guard = none) (s x : Operand)
    (ho : o.op = .call { callee := .builtin .append, args := #[s, x], argTypes := #[56, 56] }) (w0 w : World) (v : Value) (ws : List (List UInt8))
    (hs : a.eval s = v) (hown : Ows w0 w v ws) (hx : a.eval x = .slice (some ⟨w.heap.size, 0, none⟩) 1 1) (hn : ws.length ≤ 9000)
    (h : ∀ g cap w', Hid (Ows w0 w' (.slice (some ⟨g, 0, none⟩) (ws.length + 1) cap) (ws ++ [[]])) → wpList Tryz.prog ops Q rest (a.put o.dst (.slice (some ⟨g, 0, none⟩) (ws.length + 1) cap)) w') :
    wpList Tryz.prog ops Q (o :: rest) a (w.alloc (.cells #[str []] 9)) := by
  obtain ⟨i0, hi, hz0, hz1, hz2⟩ := info_parts info9
  have hb0 : Below w.heap.size w (w.alloc (.cells #[str []] 9)) := (Below.refl _ _).alloc (Nat.le_refl _) _
  have hsz := hown.b.size
  have hown0 : (w.alloc (.cells #[str []] 9)).ownsRow w0.heap.size 9 1 v ws.length (ws.map str) := by
    obtain ⟨h1, h2 | ⟨g, cap, cur, e1, e2, e3, e4⟩⟩ := hown.row
    · exact ⟨h1, .inl h2⟩
    · exact ⟨h1, .inr ⟨g, cap, cur, e1, e2, (hb0.block g (Array.getElem?_eq_some_iff.1 e3).1).trans e3, e4⟩⟩
  refine wpList_plain hgd fun K hK => wp_append_lies _ s x 56 ho w0.heap.size 9 i0 (str []) 1 16 (by kernel_rfl) hi hz0 hz1 hz2 rfl (by omega) v ws.length (ws.map str) hs hown0 ⟨w.heap.size, 0, none⟩ 1 1 [str []] hx rfl (World.news_of_block (cs := #[str []]) (fr := (0, 0)) (t := 9) (heap_alloc_new w _)) (fun y hy => by obtain rfl := List.mem_singleton.1 hy; rfl) (by omega) (by unfold maxLen; omega) (by omega) (by have := hb0.size; omega) _ rfl ?_
  intro g cap w' h1 h2 h3 h4
  refine hK _ _ (h g cap w' ⟨⟨by simp, ?_⟩, ?_⟩)
  · have := h1.2
    simpa using this
  · have hb1 : Below w0.heap.size w0 (w.alloc (.cells #[str []] 9)) := hown.b.trans (hb0.mono hsz)
    refine hb1.grown h2 (by have := hb0.size; omega) (fun k hk => ?_)
    obtain ⟨_, h2 | ⟨g, cap, cur, e1, e2, _⟩⟩ := hown.row
    · rw [h2.1] at hk; simp [Value.ownBlock] at hk
    · rw [e1] at hk
      simp [Value.ownBlock] at hk
      omega

theorem snoc_cases (l : List UInt8) (k : Nat) (h : k < l.length) : l.take (k + 1) = l.take k ++ [l[k]] := List.take_succ_eq_append_getElem h
theorem word_len (l : List UInt8) : ∀ w ∈ wordsL l, w.length ≤ l.length := by
  induction l with
  | nil => intro w hw; simp [wordsL] at hw; subst hw; simp
  | cons d l ih =>
    intro w hw
    by_cases h : d = 46
    · subst h
      rw [wordsL_dot] at hw
      rcases List.mem_cons.1 hw with rfl | hw
      · simp
      · have := ih w hw; simp; omega
    · obtain ⟨v, vs, h1, h2⟩ := wordsL_other d l h
      rw [h2] at hw
      rcases List.mem_cons.1 hw with rfl | hw
      · have := ih v (by rw [h1]; simp); simp; omega
      · have := ih w (by rw [h1]; simp [hw]); simp; omega
theorem words_last (l : List UInt8) : ∃ ws x, wordsL l = ws ++ [x] := by
  have := wordsL_ne l
  exact ⟨(wordsL l).dropLast, (wordsL l).getLast this, (List.dropLast_concat_getLast this).symm⟩

set_option maxHeartbeats 2000000 in
theorem words_any (w : World) (l : List UInt8) (hl : l.length ≤ 8000) : Calls Tryz.prog 59 #[str l, .int .u8 46] w fun e w' =>
    ∃ g cap, e = .returned (.slice (some ⟨g, 0, none⟩) (wordsL l).length cap) ∧ RdS w' g 0 (wordsL l) ∧ Below w.heap.size w w' ∧ (wordsL l).length ≤ cap := by
  have H0 : Ows w (w.alloc (.cells #[str []] 9)) (.slice (some ⟨w.heap.size, 0, none⟩) 1 1) [[]] := by
    refine ⟨⟨rfl, .inr ⟨w.heap.size, 1, #[str []], rfl, Nat.le_refl _, heap_alloc_new w _, by simp, by decide, rfl, rfl⟩⟩, (Below.refl _ _).alloc (Nat.le_refl _) _⟩
  have H0 : Hid _ := H0
  have HL : Hid (l.length ≤ 8000) := hl
  have HZ : (l.length : Int) ≤ 8000 := by omega
  clear hl
  go_enter Tryz.func59, Tryz.ntmps59
  go_wp2_with fail
  go_loopw [5, 6] (fun s5 s6 wr => ∃ k g cap m : Nat, k ≤ l.length ∧ s6 = .int .i64 k ∧ s5 = .slice (some ⟨g, 0, none⟩) (m + 1) cap ∧ m ≤ k ∧ ∃ ws x, Hid (ws.length = m) ∧ Hid (wordsL (l.take k) = ws ++ [x]) ∧ Hid (Ows w wr (.slice (some ⟨g, 0, none⟩) (m + 1) cap) (ws ++ [x]))) (fun _ i _ => l.length - (RowKit.intOf i).toNat)
  case atStart => exact ⟨0, w.heap.size, 1, 0, by omega, rfl, rfl, by omega, [], [], rfl, rfl, H0.out⟩
  case round =>
    obtain ⟨k, g, cap, m, hk, rfl, rfl, hmk, ws, x, HM, HW, HO⟩ := hrel
    by_cases hlt : k < l.length
    · have hltz : (k : Int) < (l.length : Int) := by omega
      have hT := snoc_cases l k hlt
      obtain ⟨c, hc⟩ : ∃ c, l[k] = c := ⟨_, rfl⟩
      rw [hc] at hT
      have hT : Hid _ := hT
      by_cases h46 : c = 46
      · subst h46
        have hcz : ((((⟨l.toArray⟩ : ByteArray)[k]'hlt).toNat : Int) == 46) = true := by
          rw [show (⟨l.toArray⟩ : ByteArray)[k]'hlt = 46 from hc]; rfl
        have hn9 : (ws ++ [x]).length ≤ 9000 := by rw [List.length_append, HM.out]; have := HL.out; simp; omega
        have HY : Hid (wordsL (l.take (k + 1)) = (ws ++ [x]) ++ [[]]) := by
          show wordsL (l.take (k + 1)) = _
          rw [hT.out, wordsL_snoc_dot, HW.out]
        have hn1 : (ws ++ [x]).length = m + 1 := by rw [List.length_append, HM.out]; rfl
        obtain ⟨wx, hwx⟩ : ∃ wx, ws ++ [x] = wx := ⟨_, rfl⟩
        rw [hwx] at HO HY hn9 hn1
        have hn1 : Hid _ := hn1
        have hn9 : Hid _ := hn9
        clear hwx
        go_wp2_with (at_builtin; refine wpl_push rfl (.tmp 19) (.tmp 20) rfl w wr _ wx rfl HO.out rfl hn9.out ?_; intro g2 cap2 w2 HO2)
        go_roundw
        case rel => exact ⟨k + 1, g2, cap2, m + 1, by omega, by go_num, rfl, by omega, wx, [], hn1.out, HY.out, by rw [hn1.out] at HO2; exact HO2.out⟩
        case measure => simp [RowKit.intOf]; omega
      · have hcz : ((((⟨l.toArray⟩ : ByteArray)[k]'hlt).toNat : Int) == 46) = false := by
          rw [beq_eq_false_iff_ne]
          intro h
          exact h46 (UInt8.toNat_inj.1 (by show c.toNat = 46; rw [← hc]; show ((⟨l.toArray⟩ : ByteArray)[k]'hlt).toNat = 46; omega))
        have hcell : wr.cell? ⟨g, m, none⟩ = some (str x) := by
          have h1 := (HO.out.rd (by simp)).2 m (by rw [List.length_append, HM.out]; simp)
          rw [Nat.zero_add] at h1
          rw [h1]
          simp [HM.out]
        have hsl : ∀ W, (Instr.slice 9 (str l) (some (.int .i64 (k : Int))) (some (.int .i64 ((k : Int) + 1))) none).run Tryz.prog W = .ok (str [c]) W := fun W => by
          have := run_slice_string (P := Tryz.prog) W 9 ⟨l.toArray⟩ .i64 .i64 k ((k : Int) + 1) Tryz.underlying9 (by omega) (by omega) (by show (k : Int) + 1 ≤ (l.length : Int); omega)
          refine this.trans ?_
          have hex : (⟨l.toArray⟩ : ByteArray).extract (k : Int).toNat ((k : Int) + 1).toNat = ⟨[c].toArray⟩ := by
            rw [← mk_bl (ByteArray.extract _ _ _)]
            congr 2
            show (ByteArray.extract _ _ _).data.toList = _
            rw [Lib.extract_data, show ((k : Int) + 1).toNat = k + 1 by omega, show (k : Int).toNat = k by omega, Nat.add_sub_cancel_left]
            show (l.drop k).take 1 = [c]
            rw [List.drop_eq_getElem_cons hlt, hc]
            rfl
          rw [hex]
        have hx9 : x.length ≤ 8000 := by
          have h1 := word_len (l.take k) x (by rw [HW.out]; simp)
          rw [List.length_take] at h1
          have := HL.out
          omega
        have hA : ∀ W, (Op.stringOp .add ⟨x.toArray⟩ ⟨[c].toArray⟩).run Tryz.prog W = .ok (.string ⟨(x ++ [c]).toArray⟩) W := fun W => run_string_add_lists (P := Tryz.prog) (w := W) x [c] (by omega) (by simp)
        have hfr := HO.out.frozen (by simp) m
        obtain ⟨y, hy⟩ : ∃ y, x ++ [c] = y := ⟨_, rfl⟩
        rw [hy] at hA
        have HY : Hid (wordsL (l.take (k + 1)) = ws ++ [y]) := by
          show wordsL (l.take (k + 1)) = ws ++ [y]
          rw [hT.out, wordsL_snoc _ c h46 ws x HW.out, hy]
        have HP : Hid (Ows w ((wr.setCell ⟨g, m, none⟩ (str y)).drew) (.slice (some ⟨g, 0, none⟩) (m + 1) cap) (ws ++ [y])) := by
          have h1 := HO.out
          rw [← HM.out] at h1 ⊢
          have h2 := h1.put (y := y)
          exact ⟨h2.row, h2.b.drew⟩
        clear hy h46
        go_wp2_with fail
        go_region
        go_wp2
        go_roundw
        case rel => exact ⟨k + 1, g, cap, m, by omega, by go_num, rfl, by omega, ws, y, HM, HY.out, HP.out⟩
        case measure => simp [RowKit.intOf]; omega
    · have hkl : k = l.length := by omega
      have hw : wordsL l = ws ++ [x] := by rw [← HW.out, hkl, List.take_length]
      have hR : Hid (RdS wr g 0 (wordsL l)) := by rw [hw]; exact HO.out.rd (by simp)
      have hb := HO.out.b
      have hn : m + 1 = (wordsL l).length := by rw [hw, List.length_append, HM.out]; rfl
      have hltz : ¬ (k : Int) < (l.length : Int) := by omega
      have hcap : Hid ((wordsL l).length ≤ cap) := by
        obtain ⟨g', cap', cur, h1, h2, h3, h4, h5, h6, h7⟩ := HO.out.parts (by simp)
        injection h1 with _ _ hc
        rw [hw, hc]
        exact h4
      have hn : Hid _ := hn
      clear hw
      go_wp2
      go_ret
      exact ⟨g, cap, by rw [← hn.out]; rfl, hR.out, hb, hcap.out⟩
end Go.Proofs.YtlbcefocmdnlgaaGreatDoor.To

namespace Go.Proofs.YtlbcefocmdnlgaaGreatDoor.To
open Go.RowKit Go.Lib
set_option maxRecDepth 10000

theorem rname_str (w : World) (l : List UInt8) (hl : l.length ≤ 9223372036854775807) : Calls Tryz.prog 31 #[str l] w fun e w' => e = .returned (.bool (isW l)) ∧ w' = w := rname_any w ⟨l.toArray⟩ hl
theorem words_few (l : List UInt8) (h : l.length ≤ 64) : (wordsL l).length ≤ 65 := by
  rw [words_len]
  have := List.count_le_length (a := (46 : UInt8)) (l := l)
  omega

set_option maxHeartbeats 1000000 in
theorem rgood_any (w : World) (l : List UInt8) : Calls Tryz.prog 35 #[str l] w fun e w' => e = .returned (.bool (good l)) ∧ Below w.heap.size w w' := by
  by_cases h1 : (l.length : Int) > 64
  · have e : Hid (good l = false) := by
      show good l = false
      unfold good
      rw [decide_eq_false (by omega : ¬ l.length ≤ 64)]
      rfl
    generalize good l = r at *
    go_enter Tryz.func35, Tryz.ntmps35
    go_wp2
    go_ret
    exact ⟨ret_b e.out.symm, Below.refl _ _⟩
  · have e : Hid (good l = (decide ((wordsL l).length ≤ 8) && (wordsL l).all isW)) := by
      show good l = _
      unfold good
      rw [decide_eq_true (by omega : l.length ≤ 64)]
      rfl
    have hlen := words_few l (by omega)
    have hs := words_any w l (by omega)
    have HL : Hid (∀ x ∈ wordsL l, x.length ≤ 64) := fun x hx => Nat.le_trans (word_len l x hx) (by omega)
    generalize good l = r at *
    generalize wordsL l = ws at *
    obtain ⟨n, hn⟩ : ∃ n, ws.length = n := ⟨_, rfl⟩
    rw [hn] at hs
    have HN : Hid (ws.length = n) := hn
    have hn65 : Hid (n ≤ 65) := by rw [← hn]; exact hlen
    clear hn hlen
    go_enter Tryz.func35, Tryz.ntmps35
    go_wp2_with fail
    refine hs.mono ?_
    rintro e1 w1 ⟨b, cap, rfl, hr, hb, _⟩
    have HR : Hid _ := hr
    clear hr hs
    go_wp2_with fail
    go_loopg [5, 13] n (fun gg _ s13 wr => ∃ kk : Nat, kk ≤ n ∧ n - kk ≤ gg ∧ s13 = .int .i64 kk ∧ wr = w1 ∧ Hid (∀ j (hj : j < ws.length), j < kk → isW ws[j] = true))
    case atStart => exact ⟨0, Nat.zero_le _, by omega, rfl, rfl, fun j _ hj => absurd hj (Nat.not_lt_zero _)⟩
    case round =>
      obtain ⟨kk, hkk, hg, rfl, rfl, A⟩ := hrel
      by_cases hlt : kk < n
      · have hltz : (kk : Int) < (n : Int) := by omega
        have hkl : kk < ws.length := by have := HN.out; omega
        have hcell := HR.out.2 kk hkl
        have hname := rname_str wr ws[kk] (by have := HL.out _ (List.getElem_mem hkl); omega)
        obtain ⟨y, hy⟩ : ∃ y, ws[kk] = y := ⟨_, rfl⟩
        rw [hy] at hcell hname
        have B : Hid (ws[kk] = y) := hy
        clear hy
        rw [Nat.zero_add] at hcell
        have hnz : (n : Int) ≤ 9223372036854775807 := by have := hn65.out; omega
        cases hq : isW y with
        | false =>
          rw [hq] at hname
          have er : Hid (r = false) := by
            show r = false
            rw [e.out, Bool.and_eq_false_iff]
            right
            rw [List.all_eq_false]
            exact ⟨ws[kk], List.getElem_mem hkl, by rw [B.out, hq]; decide⟩
          go_wp2_with (go_at_call 31; refine hname.mono ?_; rintro e w' ⟨rfl, rfl⟩)
          go_ret
          exact ⟨ret_b er.out.symm, hb⟩
        | true =>
          rw [hq] at hname
          go_wp2_with (go_at_call 31; refine hname.mono ?_; rintro e w' ⟨rfl, rfl⟩)
          go_roundg (n - (kk + 1))
          case measure => omega
          case rel =>
            refine ⟨kk + 1, by omega, by omega, by go_num, rfl, (show Hid _ from fun j hj hjk => ?_)⟩
            by_cases e : j = kk
            · subst e
              rw [B.out]; exact hq
            · exact A.out j hj (by omega)
      · have hltz : ¬ (kk : Int) < (n : Int) := by omega
        have : kk = n := by omega
        subst this
        have er : Hid (r = decide ((kk : Int) ≤ 8)) := by
          show r = _
          rw [e.out, show ws.all isW = true from List.all_eq_true.2 (fun x hx => by
            obtain ⟨j, hj, rfl⟩ := List.mem_iff_getElem.1 hx
            exact A.out j hj (by have := HN.out; omega)), Bool.and_true, HN.out]
          exact decide_eq_decide.2 (by omega)
        go_wp2
        go_ret
        exact ⟨ret_b er.out.symm, hb⟩

/-- A pattern word for word. -/
def okAt (ws : List (List UInt8)) (k : Nat) (y : List UInt8) : Bool := if y == [35] then decide (¬ (k : Int) < (ws.length : Int) - 1) else midW y
theorem okP_drop (ws : List (List UInt8)) (k : Nat) (h : k < ws.length) : okP (ws.drop k) = (okAt ws k ws[k] && okP (ws.drop (k + 1))) := by
  rw [List.drop_eq_getElem_cons h]
  unfold okAt
  by_cases hk : k + 1 < ws.length
  · rw [List.drop_eq_getElem_cons hk, okP]
    by_cases hy : ws[k] = [35]
    · rw [hy, decide_eq_false (by omega)]
      rfl
    · rw [beq_eq_false_iff_ne.2 hy]
      rfl
  · rw [List.drop_eq_nil_of_le (show ws.length ≤ k + 1 by omega), okP]
    by_cases hy : ws[k] = [35]
    · rw [hy, decide_eq_true (by omega)]
      rfl
    · rw [beq_eq_false_iff_ne.2 hy]
      simp [okP, hy]

end Go.Proofs.YtlbcefocmdnlgaaGreatDoor.To

namespace Go.Proofs.YtlbcefocmdnlgaaGreatDoor
open Go.RowKit Go.Lib Ieee

theorem emp_list (t : ByteArray) : (t.toList == (⟨#[]⟩ : ByteArray).toList) = t.toList.isEmpty := by
  have e : (⟨#[]⟩ : ByteArray).toList = [] := by rw [ByteArray.toList_eq]
  rw [e]
  cases t.toList <;> rfl
theorem goodV_ref (k n : Int) (t : ByteArray) (r : Nat) : goodV ⟨k, n, t, r⟩ =
    if k = 1 then t.toList.isEmpty && ((r : Int) == 0)
    else if k = 2 then t.toList.isEmpty && ((r : Int) == 0) && decide (n ≥ 0) && decide (n ≤ 1)
    else if k = 3 then (n == 0) && ((r : Int) == 0) && decide ((t.size : Int) ≤ 256)
    else (k == 4) && (n == 0) && t.toList.isEmpty && decide (r = canonB r) := by
  unfold goodV sameV
  dsimp only
  rw [emp_list]
  by_cases h1 : k = 1
  · subst h1
    rw [if_pos rfl, if_pos rfl]
    simp
  by_cases h2 : k = 2
  · subst h2
    rw [if_neg h1, if_pos rfl, if_neg h1, if_pos rfl]
    rw [Bool.eq_iff_iff]
    simp only [Bool.and_eq_true, Bool.or_eq_true, beq_iff_eq, decide_eq_true_eq]
    constructor
    · rintro ⟨hn, _, _, ht, hr⟩; exact ⟨⟨⟨ht, by simpa using hr⟩, by omega⟩, by omega⟩
    · rintro ⟨⟨⟨ht, hr⟩, h3⟩, h4⟩; exact ⟨by omega, trivial, trivial, ht, by simpa using hr⟩
  by_cases h3 : k = 3
  · subst h3
    rw [if_neg h1, if_neg h2, if_pos rfl, if_neg h1, if_neg h2, if_pos rfl]
    rw [Bool.eq_iff_iff]
    simp only [Bool.and_eq_true, beq_iff_eq, decide_eq_true_eq]
    constructor
    · rintro ⟨ht, _, hn, _, hr⟩; exact ⟨⟨hn, by simpa using hr⟩, ht⟩
    · rintro ⟨⟨hn, hr⟩, ht⟩; exact ⟨ht, trivial, hn, trivial, by simpa using hr⟩
  by_cases h4 : k = 4
  · subst h4
    rw [if_neg h1, if_neg h2, if_neg h3, if_pos rfl, if_neg h1, if_neg h2, if_neg h3]
    rw [Bool.eq_iff_iff]
    simp only [Bool.and_eq_true, beq_iff_eq, decide_eq_true_eq]
    constructor
    · rintro ⟨_, hn, ht, hr⟩; exact ⟨⟨⟨trivial, hn⟩, ht⟩, by omega⟩
    · rintro ⟨⟨⟨_, hn⟩, ht⟩, hr⟩; exact ⟨trivial, hn, ht, by omega⟩
  · rw [if_neg h1, if_neg h2, if_neg h3, if_neg h4, if_neg h1, if_neg h2, if_neg h3]
    simp [h4]

set_option maxRecDepth 4000 in
set_option maxHeartbeats 1000000 in
theorem rgood7 (w : World) (a : Val) (ha : a.real < 2 ^ 64) :
    Calls Tryz.prog 60 #[a.v] w fun e w' => e = .returned (.bool (goodV a)) ∧ Below w.heap.size w w' := by
  obtain ⟨k, n, t, r⟩ := a
  rw [goodV_ref]
  dsimp only at ha
  have HB := fun W : World => rbits_any W r
  have HC := fun W : World => rcanon_any W r ha
  have HS := fun W : World => rsame_any W r (canonB r)
  have hb1 : Below w.heap.size w (w.alloc (Obj.cells #[Value.int IntKind.i64 k, Value.int IntKind.i64 n, Value.string t, Value.float FloatKind.f64 r] 52)) := (Below.refl _ w).alloc (Nat.le_refl _) _
  have c0 : (w.alloc (Obj.cells #[Value.int IntKind.i64 k, Value.int IntKind.i64 n, Value.string t, Value.float FloatKind.f64 r] 52)).cell? ⟨w.heap.size, 0, none⟩ = some (.int .i64 k) := World.cell?_alloc_new ..
  have c1 : (w.alloc (Obj.cells #[Value.int IntKind.i64 k, Value.int IntKind.i64 n, Value.string t, Value.float FloatKind.f64 r] 52)).cell? ⟨w.heap.size, 1, none⟩ = some (.int .i64 n) := World.cell?_alloc_new ..
  have c2 : (w.alloc (Obj.cells #[Value.int IntKind.i64 k, Value.int IntKind.i64 n, Value.string t, Value.float FloatKind.f64 r] 52)).cell? ⟨w.heap.size, 2, none⟩ = some (.string t) := World.cell?_alloc_new ..
  have c3 : (w.alloc (Obj.cells #[Value.int IntKind.i64 k, Value.int IntKind.i64 n, Value.string t, Value.float FloatKind.f64 r] 52)).cell? ⟨w.heap.size, 3, none⟩ = some (.float .f64 r) := World.cell?_alloc_new ..
  unfold Val.v at *
  dsimp only at *
  clear ha
  go_enter Tryz.func60, Tryz.ntmps60
  go_upto_region 1 with fail
  generalize (w.alloc (Obj.cells #[Value.int IntKind.i64 k, Value.int IntKind.i64 n, Value.string t, Value.float FloatKind.f64 r] 52)) = w1 at *
  go_wp2_with fail
  refine (HB _).mono ?_
  rintro e w2 ⟨rfl, hw2⟩
  subst hw2
  clear HB
  cases er : ((r : Int) == 0) with
  | false =>
    by_cases h1 : k = 1
    · subst h1
      cases et : t.toList.isEmpty with
      | false =>
        go_wp2
        go_ret
        exact ⟨ret_b (by simp_all), hb1⟩
      | true =>
        go_wp2
        go_ret
        exact ⟨ret_b (by simp_all), hb1⟩
    by_cases h2 : k = 2
    · subst h2
      cases et : t.toList.isEmpty with
      | false =>
        go_wp2
        go_ret
        exact ⟨ret_b (by simp_all), hb1⟩
      | true =>
        by_cases hn0 : n ≥ 0
        · by_cases hn1 : n ≤ 1
          · go_wp2
            go_ret
            exact ⟨ret_b (by simp_all), hb1⟩
          · go_wp2
            go_ret
            exact ⟨ret_b (by simp_all), hb1⟩
        · have hn9 : n < 0 := by omega
          go_wp2
          go_ret
          exact ⟨ret_b (by first | (simp_all; done) | (simp_all; omega)), hb1⟩
    by_cases h3 : k = 3
    · subst h3
      cases en : (n == 0) with
      | false =>
        go_wp2
        go_ret
        exact ⟨ret_b (by simp_all), hb1⟩
      | true =>
        go_wp2
        go_ret
        exact ⟨ret_b (by simp_all), hb1⟩
    cases e4 : (k == 4) with
    | false =>
      go_upto_region 8 with fail
      go_quiet (fail)
      go_wp2
      go_ret
      exact ⟨ret_b (by simp_all), below_drewN hb1 _⟩
    | true =>
    cases en : (n == 0) with
    | false =>
      go_upto_region 8 with fail
      go_quiet (fail)
      go_wp2
      go_ret
      exact ⟨ret_b (by simp_all), below_drewN hb1 _⟩
    | true =>
    cases et : t.toList.isEmpty with
    | false =>
      go_upto_region 8 with fail
      go_quiet (fail)
      go_wp2
      go_ret
      exact ⟨ret_b (by simp_all), below_drewN hb1 _⟩
    | true =>
      go_upto_region 8 with fail
      go_quiet (first | (go_at_call 85; exact Calls.quiet_of_same (HC _)) | (go_at_call 84; exact Calls.quiet_of_same (HS _)))
      go_wp2
      go_ret
      exact ⟨ret_b (by simp_all), below_drewN hb1 _⟩
  | true =>
    by_cases h1 : k = 1
    · subst h1
      cases et : t.toList.isEmpty with
      | false =>
        go_wp2
        go_ret
        exact ⟨ret_b (by simp_all), hb1⟩
      | true =>
        go_wp2
        go_ret
        exact ⟨ret_b (by simp_all), hb1⟩
    by_cases h2 : k = 2
    · subst h2
      cases et : t.toList.isEmpty with
      | false =>
        go_wp2
        go_ret
        exact ⟨ret_b (by simp_all), hb1⟩
      | true =>
        by_cases hn0 : n ≥ 0
        · by_cases hn1 : n ≤ 1
          · go_wp2
            go_ret
            exact ⟨ret_b (by simp_all), hb1⟩
          · go_wp2
            go_ret
            exact ⟨ret_b (by simp_all), hb1⟩
        · have hn9 : n < 0 := by omega
          go_wp2
          go_ret
          exact ⟨ret_b (by first | (simp_all; done) | (simp_all; omega)), hb1⟩
    by_cases h3 : k = 3
    · subst h3
      cases en : (n == 0) with
      | false =>
        go_wp2
        go_ret
        exact ⟨ret_b (by simp_all), hb1⟩
      | true =>
        go_wp2
        go_ret
        exact ⟨ret_b (by simp_all), hb1⟩
    cases e4 : (k == 4) with
    | false =>
      go_upto_region 8 with fail
      go_quiet (fail)
      go_wp2
      go_ret
      exact ⟨ret_b (by simp_all), below_drewN hb1 _⟩
    | true =>
    cases en : (n == 0) with
    | false =>
      go_upto_region 8 with fail
      go_quiet (fail)
      go_wp2
      go_ret
      exact ⟨ret_b (by simp_all), below_drewN hb1 _⟩
    | true =>
    cases et : t.toList.isEmpty with
    | false =>
      go_upto_region 8 with fail
      go_quiet (fail)
      go_wp2
      go_ret
      exact ⟨ret_b (by simp_all), below_drewN hb1 _⟩
    | true =>
      go_upto_region 8 with fail
      go_quiet (first | (go_at_call 85; exact Calls.quiet_of_same (HC _)) | (go_at_call 84; exact Calls.quiet_of_same (HS _)))
      go_wp2
      go_ret
      exact ⟨ret_b (by simp_all), below_drewN hb1 _⟩
end Go.Proofs.YtlbcefocmdnlgaaGreatDoor

namespace Go.Proofs.YtlbcefocmdnlgaaGreatDoor
open Go.RowKit Go.Lib Ieee

set_option maxRecDepth 4000 in
set_option maxHeartbeats 1000000 in
theorem rname7 (w : World) (s : ByteArray) (hs63 : s.size ≤ 9223372036854775807) : Calls Tryz.prog 31 #[.string s] w fun e w' => e = .returned (.bool (nameL s.toList)) ∧ w' = w := by
  have hsz := toList_len s
  have H : Hid (∀ (k : Nat) (h : k < s.size), (s.toList.take (k + 1)).all (fun c => inN (c.toNat : Int)) = ((s.toList.take k).all (fun c => inN (c.toNat : Int)) && inN ((s[k]'h).toNat : Int))) := fun k h => by
    rw [all_take k (by omega), toList_at s k h]
  have H2 : Hid (∀ k, s.size ≤ k → (s.toList.take k).all (fun c => inN (c.toNat : Int)) = true → nameL s.toList = (decide ((s.size : Int) ≥ 1) && decide ((s.size : Int) ≤ 16))) := fun k h e => by
    rw [List.take_of_length_le (by omega)] at e
    unfold nameL
    rw [e, Bool.and_true, hsz]
    congr 1 <;> exact decide_eq_decide.2 (by omega)
  have H3 : Hid (∀ k, (s.toList.take k).all (fun c => inN (c.toNat : Int)) = false → nameL s.toList = false) := fun k h => by
    unfold nameL
    rw [← List.take_append_drop k s.toList, List.all_append, h]; simp
  have H0 : (s.toList.take 0).all (fun c => inN (c.toNat : Int)) = true := rfl
  obtain ⟨g, hg⟩ : ∃ g : Nat → Bool, ∀ k, g k = (s.toList.take k).all (fun c => inN (c.toNat : Int)) := ⟨_, fun _ => rfl⟩
  simp only [← hg] at H H2 H3 H0
  clear hg hsz
  generalize nameL s.toList = r at *
  go_enter Tryz.func31, Tryz.ntmps31
  go_wp2_with fail
  go_loopw [3] (fun i wr => ∃ k : Nat, k ≤ s.size ∧ i = .int .i64 k ∧ wr = w ∧ Hid (g k = true)) (fun i _ => s.size - (RowKit.intOf i).toNat)
  case atStart => exact ⟨0, by omega, rfl, rfl, H0⟩
  case round =>
    obtain ⟨k, hk, rfl, rfl, hz⟩ := hrel
    by_cases hlt : k < s.size
    · have h3 := H.out k hlt
      rw [hz.out, Bool.true_and] at h3
      obtain ⟨z, hz9⟩ : ∃ z : Int, ((s[k]'hlt).toNat : Int) = z := ⟨_, rfl⟩
      rw [hz9] at h3
      by_cases h1 : z ≥ 97
      · by_cases h2 : z ≤ 122
        · have e : inN z = true := by simp [inN, *]
          rw [e] at h3
          clear e
          go_wp2
          go_roundw
          case rel => exact ⟨k + 1, by omega, by go_num, trivial, h3⟩
          case measure => simp [RowKit.intOf]; omega
        · have h5 : z ≥ 48 := by omega
          have h6 : ¬ z ≤ 57 := by omega
          have h7 : (z == 45) = false := by simp; omega
          have h8 : (z == 95) = false := by simp; omega
          have e : inN z = false := by simp [inN, *]
          rw [e] at h3
          have h4 := H3.out _ h3
          clear e
          go_wp2
          go_ret
          exact ⟨ret_b (by first | rfl | exact h4.symm), rfl⟩
      · by_cases h2 : z ≥ 48
        · by_cases h5 : z ≤ 57
          · have e : inN z = true := by simp [inN, *]
            rw [e] at h3
            clear e
            go_wp2
            go_roundw
            case rel => exact ⟨k + 1, by omega, by go_num, trivial, h3⟩
            case measure => simp [RowKit.intOf]; omega
          · have h7 : (z == 45) = false := by simp; omega
            cases h8 : (z == 95) with
            | true =>
              have e : inN z = true := by simp [inN, *]
              rw [e] at h3
              clear e
              go_wp2
              go_roundw
              case rel => exact ⟨k + 1, by omega, by go_num, trivial, h3⟩
              case measure => simp [RowKit.intOf]; omega
            | false =>
              have e : inN z = false := by simp [inN, *]
              rw [e] at h3
              have h4 := H3.out _ h3
              clear e
              go_wp2
              go_ret
              exact ⟨ret_b (by first | rfl | exact h4.symm), rfl⟩
        · cases h7 : (z == 45) with
          | true =>
            have e : inN z = true := by simp [inN, *]
            rw [e] at h3
            clear e
            go_wp2
            go_roundw
            case rel => exact ⟨k + 1, by omega, by go_num, trivial, h3⟩
            case measure => simp [RowKit.intOf]; omega
          | false =>
            cases h8 : (z == 95) with
            | true =>
              have e : inN z = true := by simp [inN, *]
              rw [e] at h3
              clear e
              go_wp2
              go_roundw
              case rel => exact ⟨k + 1, by omega, by go_num, trivial, h3⟩
              case measure => simp [RowKit.intOf]; omega
            | false =>
              have e : inN z = false := by simp [inN, *]
              rw [e] at h3
              have h4 := H3.out _ h3
              clear e
              go_wp2
              go_ret
              exact ⟨ret_b (by first | rfl | exact h4.symm), rfl⟩
    · have h4 := H2.out k (by omega) hz.out
      by_cases h1 : (s.size : Int) ≥ 1
      · go_wp2
        go_ret
        exact ⟨ret_b (by first | (rw [h4]; simp_all; done) | (simp_all; done) | (simp; omega)), rfl⟩
      · go_wp2
        go_ret
        exact ⟨ret_b (by first | (rw [h4]; simp_all; done) | (simp_all; done) | (simp; omega)), rfl⟩
end Go.Proofs.YtlbcefocmdnlgaaGreatDoor

namespace Go.Proofs.YtlbcefocmdnlgaaGreatDoor
open Go.RowKit Go.Lib Ieee

theorem no_can {l : List Pr} {k : Nat} (h : k < l.length) (hc : canB l[k] = false) : validL l = false := by
  cases e : validL l with
  | false => rfl
  | true => rw [(valid_parts e).2.1 _ (List.getElem_mem _)] at hc; cases hc
theorem no_less {l : List Pr} {j k : Nat} (h : k < l.length) (hj : j < k) (hc : Op.bytesLess (l[j]'(by omega)).name.toList l[k].name.toList = false) : validL l = false := by
  cases e : validL l with
  | false => rfl
  | true => rw [rising_lt l (valid_parts e).2.2 j k h hj] at hc; cases hc
theorem no_many {l : List Pr} (h : 16 < l.length) : validL l = false := by
  cases e : validL l with
  | false => rfl
  | true => have := (valid_parts e).1; omega
def okR (l : List Pr) (i : Nat) : Prop := ∀ j (h : j < l.length), j < i → canB l[j] = true ∧ ∀ m (hm : m < j), Op.bytesLess (l[m]'(by omega)).name.toList l[j].name.toList = true
theorem okR_valid {l : List Pr} (h : okR l l.length) (h16 : l.length ≤ 16) : validL l = true := by
  unfold validL
  simp only [Bool.and_eq_true, decide_eq_true_eq, List.all_eq_true]
  refine ⟨h16, fun q hq => ?_, rising_of l (List.pairwise_iff_getElem.2 fun i j hi hj hij => (h j hj hj).2 i hij)⟩
  obtain ⟨j, hj, rfl⟩ := List.mem_iff_getElem.1 hq
  exact (h j hj hj).1

set_option maxRecDepth 4000 in
theorem rvalid7_nil (w : World) (a : Option Addr) (c : Nat) : Calls Tryz.prog 36 #[.slice a 0 c] w fun e w' => e = .returned (.bool true) ∧ Below w.heap.size w w' := by
  go_enter Tryz.func36, Tryz.ntmps36
  go_wp2_with fail
  go_loopw [8] (fun i wr => i = .int .i64 0 ∧ wr = w) (fun _ _ => 0)
  case atStart => exact ⟨rfl, rfl⟩
  case round =>
    obtain ⟨rfl, rfl⟩ := hrel
    go_wp2
    go_ret
    exact ⟨rfl, Below.refl _ _⟩

set_option maxRecDepth 4000 in
set_option maxHeartbeats 2000000 in
theorem rvalid7_some (w : World) (l : List Pr) (b o c : Nat) (h : ∀ i (h : i < l.length), PrAt w b (o + i * 5) l[i]) (hin : ∀ q ∈ l, q.name.size ≤ 9223372036854775807 ∧ q.val.real < 2 ^ 64) (h63 : l.length ≤ 9223372036854775806) :
    Calls Tryz.prog 36 #[.slice (some ⟨b, o, none⟩) l.length c] w fun e w' => e = .returned (.bool (validL l)) ∧ Below w.heap.size w w' := by
  have H : Hid (∀ i (h : i < l.length), PrAt w b (o + i * 5) l[i]) := h
  have HI : Hid (∀ i (h : i < l.length), l[i].name.size ≤ 9223372036854775807 ∧ l[i].val.real < 2 ^ 64) := fun i hi => hin _ (List.getElem_mem _)
  have HC : Hid (∀ (k : Nat) (h : k < l.length), canB l[k] = false → validL l = false) := fun k h => no_can h
  have HL : Hid (∀ (j k : Nat) (h : k < l.length) (hj : j < k), Op.bytesLess (l[j]'(by omega)).name.toList l[k].name.toList = false → validL l = false) := fun j k h hj => no_less h hj
  have HM : Hid (16 < l.length → validL l = false) := no_many
  have HV : Hid (okR l l.length → l.length ≤ 16 → validL l = true) := okR_valid
  clear h hin
  generalize validL l = r at *
  go_enter Tryz.func36, Tryz.ntmps36
  go_wp2_with fail
  go_loopw [8] (fun i wr => ∃ k : Nat, k ≤ l.length ∧ k ≤ 16 ∧ i = .int .i64 k ∧ Below w.heap.size w wr ∧ Hid (okR l k)) (fun i _ => l.length - (RowKit.intOf i).toNat)
  case atStart => exact ⟨0, by omega, by omega, rfl, Below.refl _ _, fun j h hj => by omega⟩
  case round =>
    obtain ⟨k, hk, hk16, rfl, hbr, hok⟩ := hrel
    have hwr := hbr.size
    by_cases hlt : k < l.length
    · obtain ⟨a0, a1, a2, a3, a4⟩ := (H.out k hlt).on hbr
      have hC := HC.out k hlt
      have hL := fun j hj => HL.out j k hlt hj
      have hI := HI.out k hlt
      have hS : Hid (canB l[k] = true → (∀ m (hm : m < k), Op.bytesLess (l[m]'(by omega)).name.toList l[k].name.toList = true) → okR l (k + 1)) := fun h1 h2 j hj hjk => by
        by_cases e : j = k
        · subst e; exact ⟨h1, h2⟩
        · exact hok.out j hj (by omega)
      obtain ⟨pk, hpk⟩ : ∃ pk, pk = l[k] := ⟨_, rfl⟩
      rw [← hpk] at a0 a1 a2 a3 a4 hC hI hS
      simp only [← hpk] at hL
      clear hpk
      go_upto_region 4 with fail
      have bA : Below wr.heap.size wr (wr.alloc (Obj.cells #[Value.string pk.name, Value.int IntKind.i64 pk.val.kind, Value.int IntKind.i64 pk.val.num, Value.string pk.val.text, Value.float FloatKind.f64 pk.val.real] 54)) := (Below.refl _ wr).alloc (Nat.le_refl _) _
      have bwA := hbr.trans (bA.mono hwr)
      have c0 : (wr.alloc (Obj.cells #[Value.string pk.name, Value.int IntKind.i64 pk.val.kind, Value.int IntKind.i64 pk.val.num, Value.string pk.val.text, Value.float FloatKind.f64 pk.val.real] 54)).cell? ⟨wr.heap.size, 0, none⟩ = some (.string pk.name) := World.cell?_alloc_new ..
      have c1 : (wr.alloc (Obj.cells #[Value.string pk.name, Value.int IntKind.i64 pk.val.kind, Value.int IntKind.i64 pk.val.num, Value.string pk.val.text, Value.float FloatKind.f64 pk.val.real] 54)).cell? ⟨wr.heap.size, 1, none⟩ = some (.int .i64 pk.val.kind) := World.cell?_alloc_new ..
      have c2 : (wr.alloc (Obj.cells #[Value.string pk.name, Value.int IntKind.i64 pk.val.kind, Value.int IntKind.i64 pk.val.num, Value.string pk.val.text, Value.float FloatKind.f64 pk.val.real] 54)).cell? ⟨wr.heap.size, 2, none⟩ = some (.int .i64 pk.val.num) := World.cell?_alloc_new ..
      have c3 : (wr.alloc (Obj.cells #[Value.string pk.name, Value.int IntKind.i64 pk.val.kind, Value.int IntKind.i64 pk.val.num, Value.string pk.val.text, Value.float FloatKind.f64 pk.val.real] 54)).cell? ⟨wr.heap.size, 3, none⟩ = some (.string pk.val.text) := World.cell?_alloc_new ..
      have c4 : (wr.alloc (Obj.cells #[Value.string pk.name, Value.int IntKind.i64 pk.val.kind, Value.int IntKind.i64 pk.val.num, Value.string pk.val.text, Value.float FloatKind.f64 pk.val.real] 54)).cell? ⟨wr.heap.size, 4, none⟩ = some (.float .f64 pk.val.real) := World.cell?_alloc_new ..
      generalize wr.heap.size = q0 at *
      generalize (wr.alloc (Obj.cells #[Value.string pk.name, Value.int IntKind.i64 pk.val.kind, Value.int IntKind.i64 pk.val.num, Value.string pk.val.text, Value.float FloatKind.f64 pk.val.real] 54)) = wA at *
      clear a0 a1 a2 a3 a4 bA
      have HNm := rname7 wA pk.name hI.1
      cases hnm : nameL pk.name.toList with
      | false =>
        have hr := hC (by unfold canB; rw [hnm]; rfl)
        rw [hnm] at HNm
        clear hS hC hL
        go_wp2_with fail
        refine HNm.mono ?_
        rintro e w2 ⟨rfl, hw2⟩
        subst hw2
        go_wp2
        go_ret
        exact ⟨ret_b (by first | rfl | exact hr.symm), bwA⟩
      | true =>
      rw [hnm] at HNm
      have HGd := rgood7 wA pk.val hI.2
      cases hgd : goodV pk.val with
      | false =>
        have hr := hC (by unfold canB; rw [hnm, hgd]; rfl)
        rw [hgd] at HGd
        unfold Val.v at HGd
        clear hS hC hL
        go_wp2_with fail
        refine HNm.mono ?_
        rintro e w2 ⟨rfl, hw2⟩
        subst hw2
        go_wp2_with fail
        refine HGd.mono ?_
        rintro e w3 ⟨rfl, hb3⟩
        go_wp2
        go_ret
        exact ⟨ret_b (by first | rfl | exact hr.symm), bwA.trans (hb3.mono bwA.size)⟩
      | true =>
        rw [hgd] at HGd
        unfold Val.v at HGd
        have hcan : canB pk = true := by unfold canB; rw [hnm, hgd]; rfl
        have hS2 : Hid ((∀ m (hm : m < k), Op.bytesLess (l[m]'(by omega)).name.toList pk.name.toList = true) → okR l (k + 1)) := hS.out hcan
        have HL2 : Hid (∀ j (hj : j < k), Op.bytesLess (l[j]'(by omega)).name.toList pk.name.toList = false → r = false) := hL
        clear hS hC hL hcan hnm hgd hI
        go_wp2_with fail
        refine HNm.mono ?_
        rintro e w2 ⟨rfl, hw2⟩
        subst hw2
        go_wp2_with fail
        refine HGd.mono ?_
        rintro e w3 ⟨rfl, hb3⟩
        have b3 := bwA.trans (hb3.mono bwA.size)
        have d0 : w3.cell? ⟨q0, 0, none⟩ = some (.string pk.name) := box_on c0 hb3
        clear c0 c1 c2 c3 c4 HNm HGd bwA hb3 hbr hwr
        go_wp2_with fail
        go_loopw [5] (fun x wq => ∃ j : Nat, j ≤ k ∧ x = .int .i64 j ∧ Below w3.heap.size w3 wq ∧ Hid (∀ m (hm : m < j) (hk : m < l.length), Op.bytesLess l[m].name.toList pk.name.toList = true)) (fun x _ => k - (RowKit.intOf x).toNat)
        case atStart => exact ⟨0, by omega, rfl, Below.refl _ _, fun m hm => by omega⟩
        case round =>
          obtain ⟨j, hj, rfl, hbq, hles⟩ := hrel
          have bq := b3.trans (hbq.mono b3.size)
          by_cases hjk : j < k
          · obtain ⟨a0, _, _, _, _⟩ := (H.out j (by omega)).on bq
            have d1 : wr.cell? ⟨q0, 0, none⟩ = some (.string pk.name) := box_on d0 hbq
            have hL3 := HL2.out j hjk
            have hS3 : Hid (Op.bytesLess (l[j]'(by omega)).name.toList pk.name.toList = true → ∀ m (hm : m < j + 1) (hk : m < l.length), Op.bytesLess l[m].name.toList pk.name.toList = true) := fun h m hm hk => by
              by_cases e : m = j
              · subst e; exact h
              · exact hles.out m (by omega) hk
            have hjl : j < l.length := by omega
            obtain ⟨nj, hnj⟩ : ∃ nj, nj = (l[j]'(by omega)).name := ⟨_, rfl⟩
            rw [← hnj] at a0 hL3 hS3
            clear hnj
            cases e : Op.bytesLess nj.toList pk.name.toList with
            | false =>
              have hr := hL3 e
              clear hL3 hS3
              go_upto_region 9 with fail
              go_quiet (fail)
              go_wp2
              go_ret
              exact ⟨ret_b (by first | rfl | exact hr.symm), below_drewN bq _⟩
            | true =>
              have hn := hS3.out e
              have hn2 : Hid (∀ m (hm : m < j + 1) (hk : m < l.length), Op.bytesLess l[m].name.toList pk.name.toList = true) := hn
              clear hL3 hS3 hn
              go_upto_region 9 with fail
              go_quiet (fail)
              go_wp2
              go_roundw
              case rel => exact ⟨j + 1, by omega, by go_num, below_drewN hbq _, hn2⟩
              case measure => simp [RowKit.intOf]; omega
          · have hjk2 : j = k := by omega
            subst hjk2
            have hok2 : Hid (okR l (j + 1)) := hS2.out (fun m hm => hles.out m hm (by omega))
            clear hS2 hles
            by_cases hs : (j : Int) ≥ 16
            · have hr := HM.out (by omega)
              go_wp2
              go_ret
              exact ⟨ret_b (by first | rfl | exact hr.symm), bq⟩
            · go_wp2
              go_roundw
              case rel => exact ⟨j + 1, by omega, by omega, by go_num, bq, hok2⟩
              case measure => simp [RowKit.intOf]; omega
    · have hkl : k = l.length := by omega
      have hr := HV.out (by rw [← hkl]; exact hok.out) (by omega)
      go_wp2
      go_ret
      exact ⟨ret_b (by first | rfl | exact hr.symm), hbr⟩

/-- What is told of a property: its sizes fit. -/
def Fits (q : Pr) : Prop := q.name.size ≤ 9223372036854775807 ∧ q.val.real < 2 ^ 64
theorem rvalid7 (w : World) (v : Value) (l : List Pr) (h : RdP w v l) (hin : ∀ q ∈ l, Fits q) (h63 : l.length ≤ 9223372036854775806) : Calls Tryz.prog 36 #[v] w fun e w' => e = .returned (.bool (validL l)) ∧ Below w.heap.size w w' := by
  rcases h with ⟨⟨a, c, rfl⟩, rfl⟩ | ⟨b, o, c, rfl, _, h⟩
  · exact rvalid7_nil w a c
  · exact rvalid7_some w l b o c h hin h63
end Go.Proofs.YtlbcefocmdnlgaaGreatDoor
