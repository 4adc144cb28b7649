/- What the document's own New does. -/
import Derived.Test.YtgbgeoplbmjcbaaRefPush
namespace Go.Proofs.Ytgbgeoplbmjcbaa
open Go.RowKit Go.Lib
attribute [local go_sem ↓] Go.wp_at_zero Go.wp_at_succ

theorem step_push2 {ops : Array Oper} {o : Oper} {a : Act} {K : Act → World → Prop} {Q : Exit → Act → World → Prop} {Ex : Prop} (hgd : o.guard = none) (s x : Operand) (t e : TypeId) (zv : Value) (by' : Nat)
    (ho : o.op = .call { callee := .builtin .append, args := #[s, x], argTypes := #[t, t] }) (hu : Try.prog.underlying t = some (.slice e)) (hin : (Try.prog.info? e).map (fun i => (i.zero, i.size, i.bytes)) = some (some zv, 1, by')) (hzv : zv.cells.size = 1) (hby : by' ≤ 24)
    (w : World) (v : Value) (N : Nat) (xs : List Value) (hown : w.ownsRow 0 e 1 v N xs) (u : Value) (hu1 : u.oneCell' = true) (hN : N ≤ 5000) (H : Nat) (hH : w.heap.size = H)
    (hs : a.eval s = v) (hx : a.eval x = .slice (some ⟨H, 0, none⟩) 1 1)
    (h : ∀ g1 cap w1, Hid (Pushed w w1 e v (.slice (some ⟨g1, 0, none⟩) (N + 1) cap) N xs u g1) → K (a.put o.dst (.slice (some ⟨g1, 0, none⟩) (N + 1) cap)) w1) :
    if Region.wanted o (yielded ops a.tmps) = true then o.wp Try.prog a (w.alloc (.cells #[u] e)) K Q else Ex := by
  subst hH
  exact step_push1 hgd s x t e zv by' ho hu hin hzv hby w v N xs hown u hu1 hN hs hx h

theorem RefR.more {w w' : World} {Y Y' : Nat → Prop} {m j : Nat} {C C' : Array Value} {sv sv' pv : Value} {ss : List Value} {Z : List UInt8} (h : RefR w Y m j C sv (.slice none 0 0) (.slice none 0 0) ss [] Z [])
    (hY : ∀ k, Y k → Y' k) (hlt : ∀ k, Y' k → k < w'.heap.size) (hm : w'.heap[m]? = some (.cells C' 32 (0, 0)))
    (hb : ∀ k, Y k → k ≠ m → sv.ownBlock ≠ some k → w'.heap[k]? = w.heap[k]?)
    (hs : w'.ownsRow 0 37 1 sv' (j + 1) (ss ++ [pv])) (hys : ∀ k, sv'.ownBlock = some k → Y' k) (hp : PgAt w' Y' pv (pageOf Z j)) :
    RefR w' Y' m (j + 1) C' sv' (.slice none 0 0) (.slice none 0 0) (ss ++ [pv]) [] Z [] := by
  have hpg : ∀ v p, PgAt w Y v p → PgAt w' Y' v p := fun v p hp => hp.on (fun b arr hyb he => by
    rw [hb b hyb (ne_type he h.b0 (by decide)) (fun e => by obtain ⟨c, hc⟩ := own_ne h.bs e; exact ne_type he hc (by decide) rfl)]
    exact he) hY
  have hll : ss.length = j := by have := h.bs.1; omega
  refine ⟨hY m h.hm, hlt, hys, fun k hk => (by cases hk), fun k hk => (by cases hk), fun k _ hk => (by cases hk), hm, hs, World.ownsRow_nil _ _ _ _, World.ownsRow_nil _ _ _ _, ?_, fun j x hj => (by simp at hj)⟩
  intro i hi
  by_cases e : i = j
  · subst e
    exact ⟨pv, by rw [List.getElem?_append_right (by omega), hll, Nat.sub_self]; rfl, hp⟩
  · obtain ⟨v, e1, hp1⟩ := h.ps i (by omega)
    exact ⟨v, by rw [List.getElem?_append_left (by omega)]; exact e1, hpg _ _ hp1⟩

theorem zero32 : (Try.prog.info? 32).map (fun i => (i.zero, i.size)) = some (some (.agg (refC (.slice none 0 0) (.slice none 0 0) (.slice none 0 0) false 0 0 0)), 7) := by kernel_rfl

set_option maxRecDepth 100000 in
set_option maxHeartbeats 2000000 in
theorem new_ref (w : World) (p : Int) (hp : -9223372036854775808 ≤ p) (hp' : p < 9223372036854775808) :
    Calls Try.prog 10 #[.int .i64 p] w fun e w' => ∃ Y m, e = .returned (.pointer (some ⟨m, 0, none⟩)) ∧ Ref w' Y m (newN p) (List.replicate (newN p * 256) 0) [] 0 true 0 0 ∧ Below w.heap.size w w' ∧ ∀ k, Y k → w.heap.size ≤ k := by
  have hN : newN p ≤ 4096 := by unfold newN; omega
  have HZ : Hid (∀ i, i < newN p → pageOf (List.replicate (newN p * 256) 0) i = fullB 0) := fun i hi => zeros_page (newN p) i hi
  go_enter Try.func10, Try.ntmps10
  go_upto_if 6 with fail
  go_cut [0] (fun s w' => s = .int .i64 (max p 1) ∧ w' = w)
  case first =>
    by_cases h1 : p < 1
    · go_wp2_with fail
      go_meet
      exact ⟨int_eq (by omega), rfl⟩
    · go_wp2_with fail
      go_meet
      exact ⟨int_eq (by omega), rfl⟩
  case rest =>
    obtain ⟨rfl, rfl⟩ := hcut
    have hq : ∃ q : Int, q = max p 1 := ⟨_, rfl⟩
    obtain ⟨q, hq⟩ := hq
    rw [← hq]
    have HQ : Hid (q = max p 1) := hq
    have hq1 : 1 ≤ q := by omega
    have hq2 : q < 9223372036854775808 := by omega
    clear hq
    go_upto_if 8 with fail
    go_cut [0] (fun s w' => s = .int .i64 (newN p : Int) ∧ w' = wc)
    case first =>
      by_cases h1 : 4096 < q
      · go_wp2_with fail
        go_meet
        exact ⟨int_eq (by have := HQ.out; unfold newN; omega), rfl⟩
      · go_wp2_with fail
        go_meet
        exact ⟨int_eq (by have := HQ.out; unfold newN; omega), rfl⟩
    case rest =>
      obtain ⟨rfl, rfl⟩ := hcut
      clear HQ hq1 hq2
      have hw2 : ∃ w2, w2 = wc.alloc (.cells (refC (.slice none 0 0) (.slice none 0 0) (.slice none 0 0) true 0 0 0) 32) := ⟨_, rfl⟩
      obtain ⟨w2, hw2⟩ := hw2
      have hr2 : RefR w2 (fun k => wc.heap.size ≤ k ∧ k < w2.heap.size) wc.heap.size 0 (refC (.slice none 0 0) (.slice none 0 0) (.slice none 0 0) true 0 0 0) (.slice none 0 0) (.slice none 0 0) (.slice none 0 0) [] [] (List.replicate (newN p * 256) 0) [] := by
        refine ⟨⟨Nat.le_refl _, by rw [hw2]; simp⟩, fun k hk => hk.2, fun k hk => (by cases hk), fun k hk => (by cases hk), fun k hk => (by cases hk), fun k hk => (by cases hk), by rw [hw2]; exact heap_alloc_new wc _, World.ownsRow_nil _ _ _ _, World.ownsRow_nil _ _ _ _, World.ownsRow_nil _ _ _ _, fun i hi => absurd hi (Nat.not_lt_zero _), fun j x hj => (by simp at hj)⟩
      have hb2 : Below wc.heap.size wc w2 := by rw [hw2]; exact (Below.refl _ _).alloc (Nat.le_refl _) _
      go_wp2_with fail
      have e2 : wc.alloc (.cells #[.slice none 0 0, .slice none 0 0, .slice none 0 0, .bool true, .int .i64 0, .int .i64 0, .int .i64 0] 32) = w2 := by rw [hw2]; rfl
      rw [e2]
      clear hw2 e2
      go_loopw [4] (fun i wr => ∃ (j : Nat) (sv : Value) (ss : List Value), j ≤ newN p ∧ i = .int .i64 j ∧ Hid (RefR wr (fun k => wc.heap.size ≤ k ∧ k < wr.heap.size) wc.heap.size j (refC sv (.slice none 0 0) (.slice none 0 0) true 0 0 0) sv (.slice none 0 0) (.slice none 0 0) ss [] (List.replicate (newN p * 256) 0) []) ∧ Hid (Below wc.heap.size wc wr)) (fun i _ => newN p - (RowKit.intOf i).toNat)
      case atStart => exact ⟨0, _, [], Nat.zero_le _, rfl, hr2, hb2⟩
      case round =>
        clear hr2 hb2
        obtain ⟨j, sv, ss, hj, rfl, HR, HB⟩ := hrel
        by_cases hlt : j < newN p
        · have hb1 := HR.out.b0
          have hml : wc.heap.size < wr.heap.size := (Array.getElem?_eq_some_iff.1 hb1).1
          have c0 : wr.cell? ⟨wc.heap.size, 0, none⟩ = some sv := by rw [cell_of_row _ _ _ _ _ _ hb1]; rfl
          have hmk : (Instr.makeSlice 37 (.int .i64 256) (.int .i64 256)).run Try.prog wr.drew = .ok (.slice (some ⟨wr.heap.size, 0, none⟩) 256 256) (wr.alloc (.cells (byteCells (fullB 0)).toArray 5)).drew := make256 wr.drew
          have hb5 : Below wr.heap.size wr (wr.alloc (.cells (byteCells (fullB 0)).toArray 5)).drew := ((Below.refl wr.heap.size wr).alloc (Nat.le_refl _) _).drew
          have hg5 : (wr.alloc (.cells (byteCells (fullB 0)).toArray 5)).drew.heap[wr.heap.size]? = some (.cells (byteCells (fullB 0)).toArray 5 (0, 0)) := heap_alloc_new wr _
          have hz5 : (wr.alloc (.cells (byteCells (fullB 0)).toArray 5)).drew.heap.size = wr.heap.size + 1 := by show (wr.alloc _).heap.size = _; simp
          have hvl : ∀ k, sv.ownBlock = some k → k < wr.heap.size := fun k hk => (HR.out.ys k hk).2
          have HO5 : Hid ((wr.alloc (.cells (byteCells (fullB 0)).toArray 5)).drew.ownsRow 0 37 1 sv j ss) := ownsRow_block HR.out.bs (fun k hk => hb5.block k (hvl k hk))
          have HPZ : Hid (pageOf (List.replicate (newN p * 256) 0) j = fullB 0) := HZ.out j hlt
          have HF : Hid (∀ w7 g3 cap3, Hid (Pushed (wr.alloc (.cells (byteCells (fullB 0)).toArray 5)).drew w7 37 sv (.slice (some ⟨g3, 0, none⟩) (j + 1) cap3) j ss (.slice (some ⟨wr.heap.size, 0, none⟩) 256 256) g3) →
              w7.cell? ⟨wc.heap.size, 0, none⟩ = some sv ∧ w7.frozen? ⟨wc.heap.size, 0, none⟩ = false ∧ Hid (RefR (w7.setCell ⟨wc.heap.size, 0, none⟩ (.slice (some ⟨g3, 0, none⟩) (j + 1) cap3)) (fun k => wc.heap.size ≤ k ∧ k < (w7.setCell ⟨wc.heap.size, 0, none⟩ (.slice (some ⟨g3, 0, none⟩) (j + 1) cap3)).heap.size) wc.heap.size (j + 1) (refC (.slice (some ⟨g3, 0, none⟩) (j + 1) cap3) (.slice none 0 0) (.slice none 0 0) true 0 0 0) (.slice (some ⟨g3, 0, none⟩) (j + 1) cap3) (.slice none 0 0) (.slice none 0 0) (ss ++ [.slice (some ⟨wr.heap.size, 0, none⟩) 256 256]) [] (List.replicate (newN p * 256) 0) [] ∧ Below wc.heap.size wc (w7.setCell ⟨wc.heap.size, 0, none⟩ (.slice (some ⟨g3, 0, none⟩) (j + 1) cap3)))) := by
            intro w7 g3 cap3 hp'
            have hp := hp'.out
            have hsm : ¬ sv.ownBlock = some wc.heap.size := fun e => by obtain ⟨c, hc⟩ := own_ne HR.out.bs e; exact ne_type hc hb1 (by decide) rfl
            have hk7 : ∀ k, k < wr.heap.size → ¬ sv.ownBlock = some k → w7.heap[k]? = wr.heap[k]? := fun k hk hne => (hp.step.block k (Nat.lt_of_lt_of_le hk hb5.size) hne).trans (hb5.block k hk)
            have hm7 := (hk7 _ hml hsm).trans hb1
            have hg3m : g3 ≠ wc.heap.size := by obtain ⟨c, hc⟩ := own_ne hp.own hp.at1; exact ne_type hc hm7 (by decide)
            have hb8 : ∀ k v, k ≠ wc.heap.size → (w7.setCell ⟨wc.heap.size, 0, none⟩ v).heap[k]? = w7.heap[k]? := fun k v hk => heap_setCell_other _ _ _ _ hk
            have hsz : wr.heap.size ≤ w7.heap.size := Nat.le_trans hb5.size hp.step.size
            refine ⟨by rw [cell_of_row _ _ _ _ _ _ hm7]; rfl, frozen_of_row _ _ _ _ _ hm7, HR.out.more ?_ (fun k hk => hk.2) (heap_setCell_same _ _ _ _ _ _ hm7) ?_ ?_ ?_ ?_, ?_⟩
            · intro k hk
              exact ⟨hk.1, by have := Nat.lt_of_lt_of_le hk.2 hsz; simpa using this⟩
            · intro k hk h1 h2
              rw [hb8 k _ h1, hk7 k hk.2 h2]
            · exact ownsRow_block hp.own (fun k hk => by cases hk; exact hb8 _ _ hg3m)
            · intro k hk
              cases hk
              refine ⟨?_, by have := hp.lt; simpa using this⟩
              rcases hp.old with h | h
              · exact (HR.out.ys _ h).1
              · exact Nat.le_trans (Nat.le_of_lt hml) (Nat.le_trans hb5.size h)
            · rw [HPZ.out]
              have hlt5 : wr.heap.size < (wr.alloc (.cells (byteCells (fullB 0)).toArray 5)).drew.heap.size := by rw [hz5]; exact Nat.lt_succ_self _
              refine ⟨wr.heap.size, 256, (byteCells (fullB 0)).toArray, rfl, ⟨Nat.le_of_lt hml, by have := Nat.lt_of_lt_of_le hlt5 hp.step.size; simpa using this⟩, ?_, ?_, fullB_length 0⟩
              · rw [hb8 _ _ (Nat.ne_of_gt hml), hp.step.block _ hlt5 (fun e => absurd (hvl _ e) (Nat.lt_irrefl _))]
                exact hg5
              · exact List.take_of_length_le (by rw [byteCells_length, fullB_length]; exact Nat.le_refl _)
            · refine (HB.out.trans ((Below.mono (B := wr.heap.size) hb5 HB.out.size).trans ?_)).setCell (Nat.le_refl _) _
              exact hp.step.below (fun k hk => (HR.out.ys k hk).1) (Nat.le_trans HB.out.size hb5.size)
          have ha0 : ∀ o, (wr.alloc o).cell? ⟨wc.heap.size, 0, none⟩ = some sv := fun o => by rw [World.cell?_alloc_lt _ _ _ hml]; exact c0
          have ha1 : ∀ o o', ((wr.alloc o).alloc o').cell? ⟨wc.heap.size, 0, none⟩ = some sv := fun o o' => by rw [World.cell?_alloc_lt _ _ _ (by simp; exact Nat.lt_succ_of_lt hml)]; exact ha0 o
          have HZ5 : Hid ((wr.alloc (.cells (byteCells (fullB 0)).toArray 5)).drew.heap.size = wr.heap.size + 1) := hz5
          clear hb1 hml hb5 hg5 hz5 hvl HR HPZ
          generalize (byteCells (fullB 0)).toArray = ZA at *
          have j4 : j ≤ 5000 := by omega
          go_upto_region 9 with fail
          go_region_law (first | (refine step_push2 rfl (.tmp 20) (.tmp 22) 29 37 _ _ (by rfl) Try.underlying29 info37 rfl (by omega) (wr.alloc (.cells ZA 5)).drew sv j ss HO5.out (.slice (some ⟨wr.heap.size, 0, none⟩) 256 256) rfl j4 (wr.heap.size + 1) HZ5.out (by rfl) (by rfl) ?_; intro g3 cap3 w7 hp7; obtain ⟨f5, f6, f7⟩ := HF.out w7 g3 cap3 hp7))
          all_goals
            go_wp2_with fail
            go_roundw
            case rel => exact ⟨j + 1, _, _, hlt, by go_num, f7.out.1, f7.out.2⟩
            case measure => simp [RowKit.intOf]; omega
        · obtain rfl : j = newN p := by omega
          have HR2 : Hid (Ref wr (fun k => wc.heap.size ≤ k ∧ k < wr.heap.size) wc.heap.size (newN p) (List.replicate (newN p * 256) 0) [] 0 true 0 0) := ⟨_, _, _, _, _, HR.out⟩
          go_wp2_with fail
          go_ret
          exact ⟨_, _, rfl, HR2.out, HB.out, fun k hk => hk.1⟩
end Go.Proofs.Ytgbgeoplbmjcbaa
