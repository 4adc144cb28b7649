/- The document's Find: what it answers of a trie in memory. Conditions: those that each row states. -/
import Derived.Test.YtcicnbbnkeellaaGreatDoorRtb
namespace Go.Proofs.YtcicnbbnkeellaaGreatDoor.To
open Go.RowKit Go.Lib
set_option maxRecDepth 10000

def zs (l : List Int) : List Value := l.map fun z => .int .i64 z
theorem zs_len (l : List Int) : (zs l).length = l.length := by unfold zs; rw [List.length_map]
theorem zs_take (l : List Int) (k : Nat) : (zs l).take k = zs (l.take k) := by unfold zs; rw [List.map_take]
theorem zs_drop (l : List Int) (k : Nat) : (zs l).drop k = zs (l.drop k) := by unfold zs; rw [List.map_drop]
theorem zs_app (l m : List Int) : zs l ++ zs m = zs (l ++ m) := by unfold zs; rw [List.map_append]
theorem one_zs (l : List Int) : ∀ u ∈ zs l, u.oneCell' = true := fun u hu => by
  obtain ⟨p, _, rfl⟩ := List.mem_map.1 hu
  rfl
theorem fold_take (l : List Pr) (n : List UInt8) (k : Nat) (hk : k < l.length) : (l.take (k + 1)).foldl (findStep n) [] = findStep n ((l.take k).foldl (findStep n) []) l[k] := by
  rw [List.take_succ_eq_append_getElem hk, List.foldl_append]
  rfl
theorem insI_len (l : List Int) (z : Int) : (insI l z).length ≤ l.length + 1 := by
  unfold insI
  rw [List.length_append]
  have := List.takeWhile_append_dropWhile (p := fun y => decide (y < z)) (l := l)
  have h2 := congrArg List.length this
  rw [List.length_append] at h2
  split
  · omega
  · rw [List.length_cons]; omega
theorem fold_len (l : List Pr) (n : List UInt8) (k : Nat) : ((l.take k).foldl (findStep n) []).length ≤ k := by
  induction k with
  | zero => simp
  | succ k ih =>
    by_cases hk : k < l.length
    · rw [fold_take l n k hk]
      generalize (l.take k).foldl (findStep n) [] = o at *
      unfold findStep
      split
      · have := insI_len o l[k].2
        omega
      · omega
    · rw [List.take_of_length_le (by omega)]
      rw [List.take_of_length_le (by omega)] at ih
      omega

/-- An append as one step of a region, with what it leaves alone. -/
theorem step_app2 {ops : Array Oper} {o : Oper} {a : Act} {K : Act → World → Prop} {Q : Exit → Act → World → Prop} {Ex : Prop} {t e : TypeId} {z : Value} {by' : Nat} (H : Cell1 t e z by') (hgd : o.guard = none) (s x : Operand)
    (ho : o.op = .call { callee := .builtin .append, args := #[s, x], argTypes := #[t, t] }) (B : Nat) (v vx : Value) (l lx r : List Value) (hlr : l ++ lx = r) (w : World)
    (hs : a.eval s = v) (hown : OwnV e w B v l) (hx : a.eval x = vx) (hr : RdV w vx lx) (h1 : ∀ u ∈ lx, u.oneCell' = true) (hl : l.length + lx.length ≤ 1000000) (hB : B ≤ w.heap.size)
    (h : ∀ a' m c' w', Hid (r.length = m) → Hid (OwnV e w' B (.slice a' m c') r) → Hid (Below B w w') → Hid (∀ k, k < w.heap.size → v.ownBlock ≠ some k → w'.heap[k]? = w.heap[k]?) → K (a.put o.dst (.slice a' m c')) w') :
    if Region.wanted o (yielded ops a.tmps) = true then o.wp Tryz.prog a w K Q else Ex := by
  have hw : Region.wanted o (yielded ops a.tmps) = true := by simp [Region.wanted, hgd]
  rw [if_pos hw]
  subst hlr
  have h : ∀ v' w', OwnV e w' B v' (l ++ lx) → Below B w w' → (∀ k, k < w.heap.size → v.ownBlock ≠ some k → w'.heap[k]? = w.heap[k]?) → K (a.put o.dst v') w' := fun v' w' h1 h2 h3 => by
    obtain ⟨a', c', rfl, _⟩ := h1.len
    exact h a' _ c' w' rfl h1 h2 h3
  obtain ⟨i0, hi, hz0, hz1, hz2⟩ := H.parts
  have hby := H.few
  have hbytes : (l.length + lx.length) * by' ≤ 140737488355328 := by
    have : (l.length + lx.length) * by' ≤ 1000000 * 24 := Nat.mul_le_mul hl hby
    omega
  rcases hr with ⟨rfl, rfl⟩ | ⟨⟨ad, c, rfl⟩, rfl⟩ | ⟨b, of, c, rfl, _, hc⟩
  · have hrun := run_append_owned_none (P := Tryz.prog) (w := w) B t o.type e i0 1 H.under hi v l.length l hown
    unfold Oper.wp
    simp [execOp, ho, resolve, invoke, builtin, hs, hx, hrun, Result.andThen]
    exact h v w (by rw [List.append_nil]; exact hown) (Below.refl _ _) (fun _ _ _ => rfl)
  · refine wp_append_own w s x t ho B e i0 z 1 by' H.under hi hz0 hz1 hz2 H.cells (by decide) v l.length l hs hown ad 0 c [] hx rfl (fun j u hj => by simp at hj) (fun u hu => by cases hu) (by unfold maxLen; omega) (by simpa using hbytes) hB ?_
    intro v' w' h2 h3 _
    refine h v' w' ?_ ((Below.refl B w).grown h3 hB (fun k hk => (World.ownsRow.lt hown k hk).1)) (fun k hk hne => h3.block k hk (fun e => hne e.symm))
    show w'.ownsRow B e 1 v' (l ++ []).length (l ++ [])
    rw [List.length_append]
    exact h2
  · refine wp_append_own w s x t ho B e i0 z 1 by' H.under hi hz0 hz1 hz2 H.cells (by decide) v l.length l hs hown ⟨b, of, none⟩ lx.length c lx hx (by omega) ?_ h1 (by unfold maxLen; omega) hbytes hB ?_
    · intro j u hj
      have hjl : j < lx.length := (List.getElem?_eq_some_iff.1 hj).1
      rw [Addr.add_lit, hc j hjl]
      rw [List.getElem?_eq_getElem hjl] at hj
      exact hj
    · intro v' w' h2 h3 _
      refine h v' w' ?_ ((Below.refl B w).grown h3 hB (fun k hk => (World.ownsRow.lt hown k hk).1)) (fun k hk hne => h3.block k hk (fun e => hne e.symm))
      show w'.ownsRow B e 1 v' (l ++ lx).length (l ++ lx)
      rw [List.length_append]
      exact h2
theorem nil_to28 (W : World) : (Instr.slice 28 (.slice none 0 0) none (some (.int .i64 0)) none).run Tryz.prog W = .ok (.slice none 0 0) W := by go_simp
theorem nil_from28 (W : World) : (Instr.slice 28 (.slice none 0 0) (some (.int .i64 0)) none none).run Tryz.prog W = .ok (.slice none 0 0) W := by go_simp
/-- The head and the rest of a row of the call's own, empty or not. -/
theorem cut_own28 {w : World} {B m c : Nat} {a : Option Addr} {o : List Int} (h : OwnV 3 w B (.slice a m c) (zs o)) (j : Nat) (hj : j ≤ m) : ∃ v1 v2,
    (∀ W, (Instr.slice 28 (.slice a m c) none (some (.int .i64 (j : Int))) none).run Tryz.prog W = .ok v1 W) ∧ (∀ W, (Instr.slice 28 (.slice a m c) (some (.int .i64 (j : Int))) none none).run Tryz.prog W = .ok v2 W) ∧
    (∀ w', Below w.heap.size w w' → RdV w' v1 (zs (o.take j))) ∧ (∀ w', Below w.heap.size w w' → RdV w' v2 (zs (o.drop j))) := by
  by_cases h0 : 0 < (zs o).length
  · obtain ⟨g, c', e⟩ := h.some_of h0
    injection e with e1 e2 e3
    subst e1
    obtain ⟨k1, k2, _⟩ := h.cells
    refine ⟨_, _, cut_to28 g m c j (by omega), cut_from28 g m c j hj, fun w' hb => ?_, fun w' hb => ?_⟩
    · rw [← zs_take]; exact rd_head (h.on hb) j hj
    · rw [← zs_drop]; exact rd_rest (h.on hb) j hj
  · have ho : o = [] := List.eq_nil_of_length_eq_zero (by rw [← zs_len]; omega)
    subst ho
    obtain ⟨a', c', e, _⟩ := h.len
    injection e with e1 e2 e3
    have hm : m = 0 := e2
    subst hm
    have hj0 : j = 0 := by omega
    subst hj0
    cases a with
    | none =>
      obtain ⟨_, ⟨e4, _⟩ | ⟨g, cap, cur, e4, _⟩⟩ := h
      · injection e4 with _ _ e5
        subst e5
        exact ⟨.slice none 0 0, .slice none 0 0, fun W => nil_to28 W, fun W => nil_from28 W, fun w' _ => .inl ⟨rfl, rfl⟩, fun w' _ => .inl ⟨rfl, rfl⟩⟩
      · cases e4
    | some ad =>
      obtain ⟨_, ⟨e4, _⟩ | ⟨g, cap, cur, e4, _⟩⟩ := h
      · cases e4
      · injection e4 with e5 _ _
        injection e5 with e5
        subst e5
        refine ⟨_, _, cut_to28 g 0 c 0 (by omega), cut_from28 g 0 c 0 (by omega), fun w' hb => .inr (.inl ⟨⟨_, _, rfl⟩, rfl⟩), fun w' hb => .inr (.inl ⟨⟨_, _, rfl⟩, rfl⟩)⟩

set_option maxHeartbeats 4000000 in
theorem rfind_any (w : World) (B q : Nat) (T : TypeId) (vp vi : Value) (l : List Pr) (h : RTr w B q T vp vi l) (hl : l.length ≤ 100) (hlen : ∀ p ∈ l, p.1.length ≤ 64) (s : List UInt8) :
    Calls Tryz.prog 16 #[.pointer (some ⟨q, 0, none⟩), str s] w fun e w' => (∃ v, e = .returned v ∧ OwnV 3 w' w.heap.size v (zs (findP l s))) ∧ Below w.heap.size w w' := by
  have c0 := h.c0
  have c1 := h.c1
  obtain ⟨a0, cp0, rfl, _⟩ := h.ps.len
  obtain ⟨a1, cp1, rfl, _⟩ := h.is.len
  rw [strs_len] at c0 h
  rw [ints_len] at c1 h
  have HR : Hid _ := h
  obtain ⟨n, hn⟩ : ∃ n, l.length = n := ⟨_, rfl⟩
  have HN : Hid (l.length = n) := hn
  rw [hn] at c0 c1 hl
  have hn63 : (n : Int) ≤ 9223372036854775807 := by omega
  have HL : Hid (n ≤ 100) := hl
  have HC : Hid (∀ w', Below w.heap.size w w' → w'.cell? ⟨q, 0, none⟩ = some (.slice a0 n cp0) ∧ w'.cell? ⟨q, 1, none⟩ = some (.slice a1 n cp1)) := fun w' hb => by
    have := h.on hb
    rw [hn] at this
    exact ⟨this.c0, this.c1⟩
  clear h hn hl
  go_enter Tryz.func16, Tryz.ntmps16
  go_wp2_with fail
  go_loopg [5, 6, 7, 13] n (fun gg s5 _ _ s13 wr => ∃ (kk : Nat) (a : Option Addr) (m c : Nat), kk ≤ n ∧ n - kk ≤ gg ∧ s13 = .int .i64 kk ∧ s5 = .slice a m c ∧ Hid (OwnV 3 wr w.heap.size (.slice a m c) (zs ((l.take kk).foldl (findStep s) []))) ∧ Hid (Below w.heap.size w wr))
  case atStart => exact ⟨0, none, 0, 0, Nat.zero_le _, by omega, rfl, rfl, OwnV.nil _ _ _, Below.refl _ _⟩
  case round =>
    obtain ⟨kk, a, m, c, hkk, hg, rfl, rfl, HO, HB⟩ := hrel
    have e0 := (HC.out _ HB.out).1
    have e1 := (HC.out _ HB.out).2
    by_cases hlt : kk < n
    · have hltz : (kk : Int) < (n : Int) := by omega
      have hkl : kk < l.length := by have := HN.out; omega
      obtain ⟨g0, o0, g1, o1, rfl, d0, rfl, d1⟩ := (HR.out.on HB.out).at hkl
      have hst := fold_take l s kk hkl
      have hyl := hlen l[kk] (List.getElem_mem hkl)
      obtain ⟨y, hy⟩ : ∃ y, l[kk].1 = y := ⟨_, rfl⟩
      obtain ⟨x, hx⟩ : ∃ x, l[kk].2 = x := ⟨_, rfl⟩
      have hmt := rmatch_any wr y s
      unfold findStep at hst
      rw [hy, hx] at hst
      rw [hy] at d0 hyl
      rw [hx] at d1
      have hol := fold_len l s kk
      have hst : Hid _ := hst
      have hol : Hid _ := hol
      clear hy hx
      cases hm : mat y s with
      | false =>
        rw [hm] at hmt
        have hnx : Hid ((l.take (kk + 1)).foldl (findStep s) [] = (l.take kk).foldl (findStep s) []) := by
          have := hst.out
          rw [hm] at this
          exact this
        clear hst
        go_wp2_with fail
        refine hmt.mono ?_
        rintro e2 w2 ⟨rfl, hb2⟩
        have HO2 : Hid (OwnV 3 w2 w.heap.size (.slice a m c) (zs ((l.take (kk + 1)).foldl (findStep s) []))) := by rw [hnx.out]; exact HO.out.on hb2
        have HB2 : Hid (Below w.heap.size w w2) := HB.out.trans (hb2.mono HB.out.size)
        go_wp2
        go_roundg (n - (kk + 1))
        case measure => omega
        case rel => exact ⟨kk + 1, a, m, c, by omega, by omega, by go_num, rfl, HO2.out, HB2.out⟩
      | true =>
        rw [hm] at hmt
        have hnx : Hid ((l.take (kk + 1)).foldl (findStep s) [] = insI ((l.take kk).foldl (findStep s) []) x) := by
          have := hst.out
          rw [hm] at this
          exact this
        clear hst
        obtain ⟨o, ho⟩ : ∃ o, (l.take kk).foldl (findStep s) [] = o := ⟨_, rfl⟩
        rw [ho] at HO hnx hol
        clear ho
        go_wp2_with fail
        refine hmt.mono ?_
        rintro e2 w2 ⟨rfl, hb2⟩
        have HO2 : Hid (OwnV 3 w2 w.heap.size (.slice a m c) (zs o)) := HO.out.on hb2
        have HB2 : Hid (Below w.heap.size w w2) := HB.out.trans (hb2.mono HB.out.size)
        have f1 : ∀ d, (w2.drewN d).cell? ⟨q, 1, none⟩ = some (.slice (some ⟨g1, o1, none⟩) n cp1) := fun d => (HC.out _ HB2.out).2
        have f3 : ∀ d, (w2.drewN d).cell? ⟨g1, o1 + kk, none⟩ = some (.int .i64 x) := fun d => by
          show w2.cell? _ = _
          rw [hb2.cell (p := ⟨g1, o1 + kk, none⟩) (World.block_lt_of_cell? wr _ d1)]
          exact d1
        have hm1 : Hid (o.length = m) := by
          obtain ⟨a', c', e, _⟩ := HO2.out.len
          injection e with _ e _
          rw [zs_len] at e
          exact e.symm
        have HM : Hid (m ≤ kk) := by rw [← hm1.out]; exact hol.out
        have hm63 : (m : Int) ≤ 9223372036854775807 := by have := HM.out; omega
        have hm63 : (m : Int) ≤ 9223372036854775807 := by have := HM.out; omega
        have hm63 : (m : Int) ≤ 9223372036854775807 := by have := HM.out; omega
        have hm63 : (m : Int) ≤ 9223372036854775807 := by have := HM.out; omega
        clear HO d0 e0 e1 hol hmt
        go_wp2_with fail
        go_loopg [7] m (fun gg s7 wx => ∃ (j dd : Nat), j ≤ m ∧ m - j ≤ gg ∧ s7 = .int .i64 j ∧ wx = w2.drewN dd ∧ Hid (∀ i (hi : i < o.length), i < j → o[i] < x))
        case atStart => exact ⟨0, 0, Nat.zero_le _, by omega, rfl, rfl, fun j _ hj => absurd hj (Nat.not_lt_zero _)⟩
        case round =>
          obtain ⟨j, dd, hjm, hgj, rfl, rfl, A⟩ := hrel
          by_cases hjl : j < m
          · have hjz : (j : Int) < (m : Int) := by omega
            have hjo : j < o.length := by have := hm1.out; omega
            obtain ⟨g, hga⟩ : ∃ g, a = some ⟨g, 0, none⟩ := by
              obtain ⟨g, c', e⟩ := HO2.out.some_of (by rw [zs_len]; omega)
              injection e with e1 _ _
              exact ⟨g, e1⟩
            subst hga
            obtain ⟨oj, hoj⟩ : ∃ oj, o[j] = oj := ⟨_, rfl⟩
            have f2 : ∀ d, (w2.drewN d).cell? ⟨g, j, none⟩ = some (.int .i64 oj) := fun d => by
              show w2.cell? _ = _
              rw [HO2.out.cells.2.2 j (by rw [zs_len]; exact hjo), ← hoj]
              simp [zs]
            have HJ : Hid (o[j] = oj) := hoj
            clear hoj
            by_cases hlx : oj < x
            · have hd : decide (oj < x) = true := decide_eq_true hlx
              have A2 : Hid (∀ i (hi : i < o.length), i < j + 1 → o[i] < x) := fun i hi hij => by
                by_cases e : i = j
                · subst e
                  rw [HJ.out]; exact hlx
                · exact A.out i hi (by omega)
              clear A
              go_upto_region 7 with fail
              refine wp_region_held (S := fun W => ∃ k, W = w2.drewN k) hmix ?_
              show wpAnyH _ _ _ _ _ _ _ _ (World.drew _)
              have hS : (fun W => ∃ k, W = w2.drewN k) ((w2.drewN dd).drew) := ⟨dd + 1, rfl⟩
              refine wpAnyH_take (i := 0) (v := .int .i64 (j : Int)) rfl (by kernel_rfl) (by kernel_rfl) (by kernel_rfl) (fun _ _ _ h => h) (.inl ⟨by rfl, fun W' hW' => ?_⟩) hS ?_
              · go_simp
              simp only [Act.put, List.getElem_toArray, List.getElem_cons_zero, List.setIfInBounds_toArray, List.set_cons_succ, List.set_cons_zero]
              refine wpAnyH_take (i := 1) (v := .slice (some ⟨g, 0, none⟩) m c) rfl (by kernel_rfl) (by kernel_rfl) (by kernel_rfl) (fun _ _ _ h => h) (.inl ⟨by rfl, fun W' hW' => ?_⟩) hS ?_
              · go_simp
              simp only [Act.put, List.getElem_toArray, List.getElem_cons_succ, List.getElem_cons_zero, List.setIfInBounds_toArray, List.set_cons_succ, List.set_cons_zero]
              refine wpAnyH_take (i := 2) (v := .int .i64 (m : Int)) rfl (by kernel_rfl) (by kernel_rfl) (by kernel_rfl) (fun _ _ _ h => h) (.inl ⟨by rfl, fun W' hW' => ?_⟩) hS ?_
              · go_simp
              simp only [Act.put, List.getElem_toArray, List.getElem_cons_succ, List.getElem_cons_zero, List.setIfInBounds_toArray, List.set_cons_succ, List.set_cons_zero]
              refine wpAnyH_take (i := 3) (v := .bool true) rfl (by kernel_rfl) (by kernel_rfl) (by kernel_rfl) (fun _ _ _ h => h) (.inl ⟨by rfl, fun W' hW' => ?_⟩) hS ?_
              · go_simp
              simp only [Act.put, List.getElem_toArray, List.getElem_cons_succ, List.getElem_cons_zero, List.setIfInBounds_toArray, List.set_cons_succ, List.set_cons_zero]
              refine wpAnyH_take (i := 4) (v := .bool true) rfl (by kernel_rfl) (by kernel_rfl) (by kernel_rfl) (fun _ _ _ h => h) (.inl ⟨by rfl, fun W' hW' => ?_⟩) hS ?_
              · go_simp
              simp only [Act.put, List.getElem_toArray, List.getElem_cons_succ, List.getElem_cons_zero, List.setIfInBounds_toArray, List.set_cons_succ, List.set_cons_zero]
              refine wpAnyH_take (i := 5) (v := .slice (some ⟨g, 0, none⟩) m c) rfl (by kernel_rfl) (by kernel_rfl) (by kernel_rfl) (fun _ _ _ h => h) (.inl ⟨by rfl, fun W' hW' => ?_⟩) hS ?_
              · go_simp
              simp only [Act.put, List.getElem_toArray, List.getElem_cons_succ, List.getElem_cons_zero, List.setIfInBounds_toArray, List.set_cons_succ, List.set_cons_zero]
              refine wpAnyH_take (i := 6) (v := .int .i64 (j : Int)) rfl (by kernel_rfl) (by kernel_rfl) (by kernel_rfl) (fun _ _ _ h => h) (.inl ⟨by rfl, fun W' hW' => ?_⟩) hS ?_
              · go_simp
              simp only [Act.put, List.getElem_toArray, List.getElem_cons_succ, List.getElem_cons_zero, List.setIfInBounds_toArray, List.set_cons_succ, List.set_cons_zero]
              refine wpAnyH_take (i := 7) (v := .pointer (some ⟨g, j, none⟩)) rfl (by kernel_rfl) (by kernel_rfl) (by kernel_rfl) (fun _ _ _ h => h) (.inl ⟨by rfl, fun W' hW' => ?_⟩) hS ?_
              · go_simp
              simp only [Act.put, List.getElem_toArray, List.getElem_cons_succ, List.getElem_cons_zero, List.setIfInBounds_toArray, List.set_cons_succ, List.set_cons_zero]
              refine wpAnyH_take (i := 8) (v := .int .i64 oj) rfl (by kernel_rfl) (by kernel_rfl) (by kernel_rfl) (fun _ _ _ h => h) (.inl ⟨by rfl, fun W' hW' => ?_⟩) hS ?_
              · obtain ⟨kd, rfl⟩ := hW'
                have hc := f2 kd
                go_simp
              simp only [Act.put, List.getElem_toArray, List.getElem_cons_succ, List.getElem_cons_zero, List.setIfInBounds_toArray, List.set_cons_succ, List.set_cons_zero]
              refine wpAnyH_take (i := 9) (v := .pointer (some ⟨q, 0, none⟩)) rfl (by kernel_rfl) (by kernel_rfl) (by kernel_rfl) (fun _ _ _ h => h) (.inl ⟨by rfl, fun W' hW' => ?_⟩) hS ?_
              · go_simp
              simp only [Act.put, List.getElem_toArray, List.getElem_cons_succ, List.getElem_cons_zero, List.setIfInBounds_toArray, List.set_cons_succ, List.set_cons_zero]
              refine wpAnyH_take (i := 10) (v := .pointer (some ⟨q, 0, none⟩)) rfl (by kernel_rfl) (by kernel_rfl) (by kernel_rfl) (fun _ _ _ h => h) (.inl ⟨by rfl, fun W' hW' => ?_⟩) hS ?_
              · go_simp
              simp only [Act.put, List.getElem_toArray, List.getElem_cons_succ, List.getElem_cons_zero, List.setIfInBounds_toArray, List.set_cons_succ, List.set_cons_zero]
              refine wpAnyH_take (i := 11) (v := .pointer (some ⟨q, 1, none⟩)) rfl (by kernel_rfl) (by kernel_rfl) (by kernel_rfl) (fun _ _ _ h => h) (.inl ⟨by rfl, fun W' hW' => ?_⟩) hS ?_
              · go_simp
              simp only [Act.put, List.getElem_toArray, List.getElem_cons_succ, List.getElem_cons_zero, List.setIfInBounds_toArray, List.set_cons_succ, List.set_cons_zero]
              refine wpAnyH_take (i := 12) (v := .slice (some ⟨g1, o1, none⟩) n cp1) rfl (by kernel_rfl) (by kernel_rfl) (by kernel_rfl) (fun _ _ _ h => h) (.inl ⟨by rfl, fun W' hW' => ?_⟩) hS ?_
              · obtain ⟨kd, rfl⟩ := hW'
                have hc := f1 kd
                go_simp
              simp only [Act.put, List.getElem_toArray, List.getElem_cons_succ, List.getElem_cons_zero, List.setIfInBounds_toArray, List.set_cons_succ, List.set_cons_zero]
              refine wpAnyH_take (i := 13) (v := .int .i64 (kk : Int)) rfl (by kernel_rfl) (by kernel_rfl) (by kernel_rfl) (fun _ _ _ h => h) (.inl ⟨by rfl, fun W' hW' => ?_⟩) hS ?_
              · go_simp
              simp only [Act.put, List.getElem_toArray, List.getElem_cons_succ, List.getElem_cons_zero, List.setIfInBounds_toArray, List.set_cons_succ, List.set_cons_zero]
              refine wpAnyH_take (i := 14) (v := .pointer (some ⟨g1, o1 + kk, none⟩)) rfl (by kernel_rfl) (by kernel_rfl) (by kernel_rfl) (fun _ _ _ h => h) (.inl ⟨by rfl, fun W' hW' => ?_⟩) hS ?_
              · go_simp
              simp only [Act.put, List.getElem_toArray, List.getElem_cons_succ, List.getElem_cons_zero, List.setIfInBounds_toArray, List.set_cons_succ, List.set_cons_zero]
              refine wpAnyH_take (i := 15) (v := .int .i64 x) rfl (by kernel_rfl) (by kernel_rfl) (by kernel_rfl) (fun _ _ _ h => h) (.inl ⟨by rfl, fun W' hW' => ?_⟩) hS ?_
              · obtain ⟨kd, rfl⟩ := hW'
                have hc := f3 kd
                go_simp
              simp only [Act.put, List.getElem_toArray, List.getElem_cons_succ, List.getElem_cons_zero, List.setIfInBounds_toArray, List.set_cons_succ, List.set_cons_zero]
              refine wpAnyH_take (i := 16) (v := .bool true) rfl (by kernel_rfl) (by kernel_rfl) (by kernel_rfl) (fun _ _ _ h => h) (.inl ⟨by rfl, fun W' hW' => ?_⟩) hS ?_
              · go_simp
              simp only [Act.put, List.getElem_toArray, List.getElem_cons_succ, List.getElem_cons_zero, List.setIfInBounds_toArray, List.set_cons_succ, List.set_cons_zero]
              refine wpAnyH_take (i := 17) (v := .bool true) rfl (by kernel_rfl) (by kernel_rfl) (by kernel_rfl) (fun _ _ _ h => h) (.inl ⟨by rfl, fun W' hW' => ?_⟩) hS ?_
              · go_simp
              simp only [Act.put, List.getElem_toArray, List.getElem_cons_succ, List.getElem_cons_zero, List.setIfInBounds_toArray, List.set_cons_succ, List.set_cons_zero]
              refine wpAnyH_done (by kernel_rfl) ?_ _
              go_wp2
              go_roundg (m - (j + 1))
              case measure => omega
              case rel => exact ⟨j + 1, dd + 1, by omega, by omega, by go_num, rfl, A2.out⟩
            · have hd : decide (oj < x) = false := decide_eq_false hlx
              go_upto_region 7 with fail
              refine wp_region_held (S := fun W => ∃ k, W = w2.drewN k) hmix ?_
              show wpAnyH _ _ _ _ _ _ _ _ (World.drew _)
              have hS : (fun W => ∃ k, W = w2.drewN k) ((w2.drewN dd).drew) := ⟨dd + 1, rfl⟩
              refine wpAnyH_take (i := 0) (v := .int .i64 (j : Int)) rfl (by kernel_rfl) (by kernel_rfl) (by kernel_rfl) (fun _ _ _ h => h) (.inl ⟨by rfl, fun W' hW' => ?_⟩) hS ?_
              · go_simp
              simp only [Act.put, List.getElem_toArray, List.getElem_cons_zero, List.setIfInBounds_toArray, List.set_cons_succ, List.set_cons_zero]
              refine wpAnyH_take (i := 1) (v := .slice (some ⟨g, 0, none⟩) m c) rfl (by kernel_rfl) (by kernel_rfl) (by kernel_rfl) (fun _ _ _ h => h) (.inl ⟨by rfl, fun W' hW' => ?_⟩) hS ?_
              · go_simp
              simp only [Act.put, List.getElem_toArray, List.getElem_cons_succ, List.getElem_cons_zero, List.setIfInBounds_toArray, List.set_cons_succ, List.set_cons_zero]
              refine wpAnyH_take (i := 2) (v := .int .i64 (m : Int)) rfl (by kernel_rfl) (by kernel_rfl) (by kernel_rfl) (fun _ _ _ h => h) (.inl ⟨by rfl, fun W' hW' => ?_⟩) hS ?_
              · go_simp
              simp only [Act.put, List.getElem_toArray, List.getElem_cons_succ, List.getElem_cons_zero, List.setIfInBounds_toArray, List.set_cons_succ, List.set_cons_zero]
              refine wpAnyH_take (i := 3) (v := .bool true) rfl (by kernel_rfl) (by kernel_rfl) (by kernel_rfl) (fun _ _ _ h => h) (.inl ⟨by rfl, fun W' hW' => ?_⟩) hS ?_
              · go_simp
              simp only [Act.put, List.getElem_toArray, List.getElem_cons_succ, List.getElem_cons_zero, List.setIfInBounds_toArray, List.set_cons_succ, List.set_cons_zero]
              refine wpAnyH_take (i := 4) (v := .bool true) rfl (by kernel_rfl) (by kernel_rfl) (by kernel_rfl) (fun _ _ _ h => h) (.inl ⟨by rfl, fun W' hW' => ?_⟩) hS ?_
              · go_simp
              simp only [Act.put, List.getElem_toArray, List.getElem_cons_succ, List.getElem_cons_zero, List.setIfInBounds_toArray, List.set_cons_succ, List.set_cons_zero]
              refine wpAnyH_take (i := 5) (v := .slice (some ⟨g, 0, none⟩) m c) rfl (by kernel_rfl) (by kernel_rfl) (by kernel_rfl) (fun _ _ _ h => h) (.inl ⟨by rfl, fun W' hW' => ?_⟩) hS ?_
              · go_simp
              simp only [Act.put, List.getElem_toArray, List.getElem_cons_succ, List.getElem_cons_zero, List.setIfInBounds_toArray, List.set_cons_succ, List.set_cons_zero]
              refine wpAnyH_take (i := 6) (v := .int .i64 (j : Int)) rfl (by kernel_rfl) (by kernel_rfl) (by kernel_rfl) (fun _ _ _ h => h) (.inl ⟨by rfl, fun W' hW' => ?_⟩) hS ?_
              · go_simp
              simp only [Act.put, List.getElem_toArray, List.getElem_cons_succ, List.getElem_cons_zero, List.setIfInBounds_toArray, List.set_cons_succ, List.set_cons_zero]
              refine wpAnyH_take (i := 7) (v := .pointer (some ⟨g, j, none⟩)) rfl (by kernel_rfl) (by kernel_rfl) (by kernel_rfl) (fun _ _ _ h => h) (.inl ⟨by rfl, fun W' hW' => ?_⟩) hS ?_
              · go_simp
              simp only [Act.put, List.getElem_toArray, List.getElem_cons_succ, List.getElem_cons_zero, List.setIfInBounds_toArray, List.set_cons_succ, List.set_cons_zero]
              refine wpAnyH_take (i := 8) (v := .int .i64 oj) rfl (by kernel_rfl) (by kernel_rfl) (by kernel_rfl) (fun _ _ _ h => h) (.inl ⟨by rfl, fun W' hW' => ?_⟩) hS ?_
              · obtain ⟨kd, rfl⟩ := hW'
                have hc := f2 kd
                go_simp
              simp only [Act.put, List.getElem_toArray, List.getElem_cons_succ, List.getElem_cons_zero, List.setIfInBounds_toArray, List.set_cons_succ, List.set_cons_zero]
              refine wpAnyH_take (i := 9) (v := .pointer (some ⟨q, 0, none⟩)) rfl (by kernel_rfl) (by kernel_rfl) (by kernel_rfl) (fun _ _ _ h => h) (.inl ⟨by rfl, fun W' hW' => ?_⟩) hS ?_
              · go_simp
              simp only [Act.put, List.getElem_toArray, List.getElem_cons_succ, List.getElem_cons_zero, List.setIfInBounds_toArray, List.set_cons_succ, List.set_cons_zero]
              refine wpAnyH_take (i := 10) (v := .pointer (some ⟨q, 0, none⟩)) rfl (by kernel_rfl) (by kernel_rfl) (by kernel_rfl) (fun _ _ _ h => h) (.inl ⟨by rfl, fun W' hW' => ?_⟩) hS ?_
              · go_simp
              simp only [Act.put, List.getElem_toArray, List.getElem_cons_succ, List.getElem_cons_zero, List.setIfInBounds_toArray, List.set_cons_succ, List.set_cons_zero]
              refine wpAnyH_take (i := 11) (v := .pointer (some ⟨q, 1, none⟩)) rfl (by kernel_rfl) (by kernel_rfl) (by kernel_rfl) (fun _ _ _ h => h) (.inl ⟨by rfl, fun W' hW' => ?_⟩) hS ?_
              · go_simp
              simp only [Act.put, List.getElem_toArray, List.getElem_cons_succ, List.getElem_cons_zero, List.setIfInBounds_toArray, List.set_cons_succ, List.set_cons_zero]
              refine wpAnyH_take (i := 12) (v := .slice (some ⟨g1, o1, none⟩) n cp1) rfl (by kernel_rfl) (by kernel_rfl) (by kernel_rfl) (fun _ _ _ h => h) (.inl ⟨by rfl, fun W' hW' => ?_⟩) hS ?_
              · obtain ⟨kd, rfl⟩ := hW'
                have hc := f1 kd
                go_simp
              simp only [Act.put, List.getElem_toArray, List.getElem_cons_succ, List.getElem_cons_zero, List.setIfInBounds_toArray, List.set_cons_succ, List.set_cons_zero]
              refine wpAnyH_take (i := 13) (v := .int .i64 (kk : Int)) rfl (by kernel_rfl) (by kernel_rfl) (by kernel_rfl) (fun _ _ _ h => h) (.inl ⟨by rfl, fun W' hW' => ?_⟩) hS ?_
              · go_simp
              simp only [Act.put, List.getElem_toArray, List.getElem_cons_succ, List.getElem_cons_zero, List.setIfInBounds_toArray, List.set_cons_succ, List.set_cons_zero]
              refine wpAnyH_take (i := 14) (v := .pointer (some ⟨g1, o1 + kk, none⟩)) rfl (by kernel_rfl) (by kernel_rfl) (by kernel_rfl) (fun _ _ _ h => h) (.inl ⟨by rfl, fun W' hW' => ?_⟩) hS ?_
              · go_simp
              simp only [Act.put, List.getElem_toArray, List.getElem_cons_succ, List.getElem_cons_zero, List.setIfInBounds_toArray, List.set_cons_succ, List.set_cons_zero]
              refine wpAnyH_take (i := 15) (v := .int .i64 x) rfl (by kernel_rfl) (by kernel_rfl) (by kernel_rfl) (fun _ _ _ h => h) (.inl ⟨by rfl, fun W' hW' => ?_⟩) hS ?_
              · obtain ⟨kd, rfl⟩ := hW'
                have hc := f3 kd
                go_simp
              simp only [Act.put, List.getElem_toArray, List.getElem_cons_succ, List.getElem_cons_zero, List.setIfInBounds_toArray, List.set_cons_succ, List.set_cons_zero]
              refine wpAnyH_take (i := 16) (v := .bool false) rfl (by kernel_rfl) (by kernel_rfl) (by kernel_rfl) (fun _ _ _ h => h) (.inl ⟨by rfl, fun W' hW' => ?_⟩) hS ?_
              · go_simp
              simp only [Act.put, List.getElem_toArray, List.getElem_cons_succ, List.getElem_cons_zero, List.setIfInBounds_toArray, List.set_cons_succ, List.set_cons_zero]
              refine wpAnyH_take (i := 17) (v := .bool false) rfl (by kernel_rfl) (by kernel_rfl) (by kernel_rfl) (fun _ _ _ h => h) (.inl ⟨by rfl, fun W' hW' => ?_⟩) hS ?_
              · go_simp
              simp only [Act.put, List.getElem_toArray, List.getElem_cons_succ, List.getElem_cons_zero, List.setIfInBounds_toArray, List.set_cons_succ, List.set_cons_zero]
              refine wpAnyH_done (by kernel_rfl) ?_ _
              have hI : Hid (insI o x = if o[j]? = some x then o else o.take j ++ x :: o.drop j) := ins_at o x j (by have := hm1.out; omega) A.out (fun _ => by rw [HJ.out]; exact hlx)
              cases hox : (oj == x) with
              | true =>
                have hnx2 : Hid ((l.take (kk + 1)).foldl (findStep s) [] = o) := by
                  have h1 := hI.out
                  rw [if_pos (by rw [List.getElem?_eq_getElem hjo, HJ.out, beq_iff_eq.1 hox])] at h1
                  rw [← h1]
                  exact hnx.out
                go_upto_region 9 with fail
                refine wp_region_held (S := fun W => ∃ k, W = w2.drewN k) hmix ?_
                show wpAnyH _ _ _ _ _ _ _ _ (World.drew _)
                have hS : (fun W => ∃ k, W = w2.drewN k) (((w2.drewN dd).drew).drew) := ⟨dd + 2, rfl⟩
                refine wpAnyH_take (i := 0) (v := .int .i64 (j : Int)) rfl (by kernel_rfl) (by kernel_rfl) (by kernel_rfl) (fun _ _ _ h => h) (.inl ⟨by rfl, fun W' hW' => ?_⟩) hS ?_
                · go_simp
                simp only [Act.put, List.getElem_toArray, List.getElem_cons_zero, List.setIfInBounds_toArray, List.set_cons_succ, List.set_cons_zero]
                refine wpAnyH_take (i := 1) (v := .slice (some ⟨g, 0, none⟩) m c) rfl (by kernel_rfl) (by kernel_rfl) (by kernel_rfl) (fun _ _ _ h => h) (.inl ⟨by rfl, fun W' hW' => ?_⟩) hS ?_
                · go_simp
                simp only [Act.put, List.getElem_toArray, List.getElem_cons_succ, List.getElem_cons_zero, List.setIfInBounds_toArray, List.set_cons_succ, List.set_cons_zero]
                refine wpAnyH_take (i := 2) (v := .int .i64 (m : Int)) rfl (by kernel_rfl) (by kernel_rfl) (by kernel_rfl) (fun _ _ _ h => h) (.inl ⟨by rfl, fun W' hW' => ?_⟩) hS ?_
                · go_simp
                simp only [Act.put, List.getElem_toArray, List.getElem_cons_succ, List.getElem_cons_zero, List.setIfInBounds_toArray, List.set_cons_succ, List.set_cons_zero]
                refine wpAnyH_take (i := 3) (v := .bool true) rfl (by kernel_rfl) (by kernel_rfl) (by kernel_rfl) (fun _ _ _ h => h) (.inl ⟨by rfl, fun W' hW' => ?_⟩) hS ?_
                · go_simp
                simp only [Act.put, List.getElem_toArray, List.getElem_cons_succ, List.getElem_cons_zero, List.setIfInBounds_toArray, List.set_cons_succ, List.set_cons_zero]
                refine wpAnyH_take (i := 4) (v := .bool true) rfl (by kernel_rfl) (by kernel_rfl) (by kernel_rfl) (fun _ _ _ h => h) (.inl ⟨by rfl, fun W' hW' => ?_⟩) hS ?_
                · go_simp
                simp only [Act.put, List.getElem_toArray, List.getElem_cons_succ, List.getElem_cons_zero, List.setIfInBounds_toArray, List.set_cons_succ, List.set_cons_zero]
                refine wpAnyH_take (i := 5) (v := .slice (some ⟨g, 0, none⟩) m c) rfl (by kernel_rfl) (by kernel_rfl) (by kernel_rfl) (fun _ _ _ h => h) (.inl ⟨by rfl, fun W' hW' => ?_⟩) hS ?_
                · go_simp
                simp only [Act.put, List.getElem_toArray, List.getElem_cons_succ, List.getElem_cons_zero, List.setIfInBounds_toArray, List.set_cons_succ, List.set_cons_zero]
                refine wpAnyH_take (i := 6) (v := .int .i64 (j : Int)) rfl (by kernel_rfl) (by kernel_rfl) (by kernel_rfl) (fun _ _ _ h => h) (.inl ⟨by rfl, fun W' hW' => ?_⟩) hS ?_
                · go_simp
                simp only [Act.put, List.getElem_toArray, List.getElem_cons_succ, List.getElem_cons_zero, List.setIfInBounds_toArray, List.set_cons_succ, List.set_cons_zero]
                refine wpAnyH_take (i := 7) (v := .pointer (some ⟨g, j, none⟩)) rfl (by kernel_rfl) (by kernel_rfl) (by kernel_rfl) (fun _ _ _ h => h) (.inl ⟨by rfl, fun W' hW' => ?_⟩) hS ?_
                · go_simp
                simp only [Act.put, List.getElem_toArray, List.getElem_cons_succ, List.getElem_cons_zero, List.setIfInBounds_toArray, List.set_cons_succ, List.set_cons_zero]
                refine wpAnyH_take (i := 8) (v := .int .i64 oj) rfl (by kernel_rfl) (by kernel_rfl) (by kernel_rfl) (fun _ _ _ h => h) (.inl ⟨by rfl, fun W' hW' => ?_⟩) hS ?_
                · obtain ⟨kd, rfl⟩ := hW'
                  have hc := f2 kd
                  go_simp
                simp only [Act.put, List.getElem_toArray, List.getElem_cons_succ, List.getElem_cons_zero, List.setIfInBounds_toArray, List.set_cons_succ, List.set_cons_zero]
                refine wpAnyH_take (i := 9) (v := .pointer (some ⟨q, 0, none⟩)) rfl (by kernel_rfl) (by kernel_rfl) (by kernel_rfl) (fun _ _ _ h => h) (.inl ⟨by rfl, fun W' hW' => ?_⟩) hS ?_
                · go_simp
                simp only [Act.put, List.getElem_toArray, List.getElem_cons_succ, List.getElem_cons_zero, List.setIfInBounds_toArray, List.set_cons_succ, List.set_cons_zero]
                refine wpAnyH_take (i := 10) (v := .pointer (some ⟨q, 0, none⟩)) rfl (by kernel_rfl) (by kernel_rfl) (by kernel_rfl) (fun _ _ _ h => h) (.inl ⟨by rfl, fun W' hW' => ?_⟩) hS ?_
                · go_simp
                simp only [Act.put, List.getElem_toArray, List.getElem_cons_succ, List.getElem_cons_zero, List.setIfInBounds_toArray, List.set_cons_succ, List.set_cons_zero]
                refine wpAnyH_take (i := 11) (v := .pointer (some ⟨q, 1, none⟩)) rfl (by kernel_rfl) (by kernel_rfl) (by kernel_rfl) (fun _ _ _ h => h) (.inl ⟨by rfl, fun W' hW' => ?_⟩) hS ?_
                · go_simp
                simp only [Act.put, List.getElem_toArray, List.getElem_cons_succ, List.getElem_cons_zero, List.setIfInBounds_toArray, List.set_cons_succ, List.set_cons_zero]
                refine wpAnyH_take (i := 12) (v := .slice (some ⟨g1, o1, none⟩) n cp1) rfl (by kernel_rfl) (by kernel_rfl) (by kernel_rfl) (fun _ _ _ h => h) (.inl ⟨by rfl, fun W' hW' => ?_⟩) hS ?_
                · obtain ⟨kd, rfl⟩ := hW'
                  have hc := f1 kd
                  go_simp
                simp only [Act.put, List.getElem_toArray, List.getElem_cons_succ, List.getElem_cons_zero, List.setIfInBounds_toArray, List.set_cons_succ, List.set_cons_zero]
                refine wpAnyH_take (i := 13) (v := .int .i64 (kk : Int)) rfl (by kernel_rfl) (by kernel_rfl) (by kernel_rfl) (fun _ _ _ h => h) (.inl ⟨by rfl, fun W' hW' => ?_⟩) hS ?_
                · go_simp
                simp only [Act.put, List.getElem_toArray, List.getElem_cons_succ, List.getElem_cons_zero, List.setIfInBounds_toArray, List.set_cons_succ, List.set_cons_zero]
                refine wpAnyH_take (i := 14) (v := .pointer (some ⟨g1, o1 + kk, none⟩)) rfl (by kernel_rfl) (by kernel_rfl) (by kernel_rfl) (fun _ _ _ h => h) (.inl ⟨by rfl, fun W' hW' => ?_⟩) hS ?_
                · go_simp
                simp only [Act.put, List.getElem_toArray, List.getElem_cons_succ, List.getElem_cons_zero, List.setIfInBounds_toArray, List.set_cons_succ, List.set_cons_zero]
                refine wpAnyH_take (i := 15) (v := .int .i64 x) rfl (by kernel_rfl) (by kernel_rfl) (by kernel_rfl) (fun _ _ _ h => h) (.inl ⟨by rfl, fun W' hW' => ?_⟩) hS ?_
                · obtain ⟨kd, rfl⟩ := hW'
                  have hc := f3 kd
                  go_simp
                simp only [Act.put, List.getElem_toArray, List.getElem_cons_succ, List.getElem_cons_zero, List.setIfInBounds_toArray, List.set_cons_succ, List.set_cons_zero]
                refine wpAnyH_take (i := 16) (v := .bool true) rfl (by kernel_rfl) (by kernel_rfl) (by kernel_rfl) (fun _ _ _ h => h) (.inl ⟨by rfl, fun W' hW' => ?_⟩) hS ?_
                · go_simp
                simp only [Act.put, List.getElem_toArray, List.getElem_cons_succ, List.getElem_cons_zero, List.setIfInBounds_toArray, List.set_cons_succ, List.set_cons_zero]
                refine wpAnyH_take (i := 17) (v := .bool true) rfl (by kernel_rfl) (by kernel_rfl) (by kernel_rfl) (fun _ _ _ h => h) (.inl ⟨by rfl, fun W' hW' => ?_⟩) hS ?_
                · go_simp
                simp only [Act.put, List.getElem_toArray, List.getElem_cons_succ, List.getElem_cons_zero, List.setIfInBounds_toArray, List.set_cons_succ, List.set_cons_zero]
                refine wpAnyH_done (by kernel_rfl) ?_ _
                have HO3 : Hid (OwnV 3 ((w2.drewN dd).drew).drew w.heap.size (.slice (some ⟨g, 0, none⟩) m c) (zs ((l.take (kk + 1)).foldl (findStep s) []))) := by rw [hnx2.out]; exact HO2.out
                have HB3 : Hid (Below w.heap.size w ((w2.drewN dd).drew).drew) := HB2.out.trans ((below_drawn w2 (dd + 2)).mono HB2.out.size)
                generalize ((w2.drewN dd).drew).drew = W0 at *
                go_wp2
                go_roundg (n - (kk + 1))
                case measure => omega
                case rel => exact ⟨kk + 1, some ⟨g, 0, none⟩, m, c, by omega, by omega, by go_num, rfl, HO3.out, HB3.out⟩
              | false =>
                have hnx2 : Hid ((l.take (kk + 1)).foldl (findStep s) [] = o.take j ++ x :: o.drop j) := by
                  have h1 := hI.out
                  rw [if_neg (by rw [List.getElem?_eq_getElem hjo, HJ.out]; intro e; injection e with e; rw [beq_eq_false_iff_ne] at hox; exact hox e)] at h1
                  rw [← h1]
                  exact hnx.out
                go_upto_region 9 with fail
                refine wp_region_held (S := fun W => ∃ k, W = w2.drewN k) hmix ?_
                show wpAnyH _ _ _ _ _ _ _ _ (World.drew _)
                have hS : (fun W => ∃ k, W = w2.drewN k) (((w2.drewN dd).drew).drew) := ⟨dd + 2, rfl⟩
                refine wpAnyH_take (i := 0) (v := .int .i64 (j : Int)) rfl (by kernel_rfl) (by kernel_rfl) (by kernel_rfl) (fun _ _ _ h => h) (.inl ⟨by rfl, fun W' hW' => ?_⟩) hS ?_
                · go_simp
                simp only [Act.put, List.getElem_toArray, List.getElem_cons_zero, List.setIfInBounds_toArray, List.set_cons_succ, List.set_cons_zero]
                refine wpAnyH_take (i := 1) (v := .slice (some ⟨g, 0, none⟩) m c) rfl (by kernel_rfl) (by kernel_rfl) (by kernel_rfl) (fun _ _ _ h => h) (.inl ⟨by rfl, fun W' hW' => ?_⟩) hS ?_
                · go_simp
                simp only [Act.put, List.getElem_toArray, List.getElem_cons_succ, List.getElem_cons_zero, List.setIfInBounds_toArray, List.set_cons_succ, List.set_cons_zero]
                refine wpAnyH_take (i := 2) (v := .int .i64 (m : Int)) rfl (by kernel_rfl) (by kernel_rfl) (by kernel_rfl) (fun _ _ _ h => h) (.inl ⟨by rfl, fun W' hW' => ?_⟩) hS ?_
                · go_simp
                simp only [Act.put, List.getElem_toArray, List.getElem_cons_succ, List.getElem_cons_zero, List.setIfInBounds_toArray, List.set_cons_succ, List.set_cons_zero]
                refine wpAnyH_take (i := 3) (v := .bool true) rfl (by kernel_rfl) (by kernel_rfl) (by kernel_rfl) (fun _ _ _ h => h) (.inl ⟨by rfl, fun W' hW' => ?_⟩) hS ?_
                · go_simp
                simp only [Act.put, List.getElem_toArray, List.getElem_cons_succ, List.getElem_cons_zero, List.setIfInBounds_toArray, List.set_cons_succ, List.set_cons_zero]
                refine wpAnyH_take (i := 4) (v := .bool true) rfl (by kernel_rfl) (by kernel_rfl) (by kernel_rfl) (fun _ _ _ h => h) (.inl ⟨by rfl, fun W' hW' => ?_⟩) hS ?_
                · go_simp
                simp only [Act.put, List.getElem_toArray, List.getElem_cons_succ, List.getElem_cons_zero, List.setIfInBounds_toArray, List.set_cons_succ, List.set_cons_zero]
                refine wpAnyH_take (i := 5) (v := .slice (some ⟨g, 0, none⟩) m c) rfl (by kernel_rfl) (by kernel_rfl) (by kernel_rfl) (fun _ _ _ h => h) (.inl ⟨by rfl, fun W' hW' => ?_⟩) hS ?_
                · go_simp
                simp only [Act.put, List.getElem_toArray, List.getElem_cons_succ, List.getElem_cons_zero, List.setIfInBounds_toArray, List.set_cons_succ, List.set_cons_zero]
                refine wpAnyH_take (i := 6) (v := .int .i64 (j : Int)) rfl (by kernel_rfl) (by kernel_rfl) (by kernel_rfl) (fun _ _ _ h => h) (.inl ⟨by rfl, fun W' hW' => ?_⟩) hS ?_
                · go_simp
                simp only [Act.put, List.getElem_toArray, List.getElem_cons_succ, List.getElem_cons_zero, List.setIfInBounds_toArray, List.set_cons_succ, List.set_cons_zero]
                refine wpAnyH_take (i := 7) (v := .pointer (some ⟨g, j, none⟩)) rfl (by kernel_rfl) (by kernel_rfl) (by kernel_rfl) (fun _ _ _ h => h) (.inl ⟨by rfl, fun W' hW' => ?_⟩) hS ?_
                · go_simp
                simp only [Act.put, List.getElem_toArray, List.getElem_cons_succ, List.getElem_cons_zero, List.setIfInBounds_toArray, List.set_cons_succ, List.set_cons_zero]
                refine wpAnyH_take (i := 8) (v := .int .i64 oj) rfl (by kernel_rfl) (by kernel_rfl) (by kernel_rfl) (fun _ _ _ h => h) (.inl ⟨by rfl, fun W' hW' => ?_⟩) hS ?_
                · obtain ⟨kd, rfl⟩ := hW'
                  have hc := f2 kd
                  go_simp
                simp only [Act.put, List.getElem_toArray, List.getElem_cons_succ, List.getElem_cons_zero, List.setIfInBounds_toArray, List.set_cons_succ, List.set_cons_zero]
                refine wpAnyH_take (i := 9) (v := .pointer (some ⟨q, 0, none⟩)) rfl (by kernel_rfl) (by kernel_rfl) (by kernel_rfl) (fun _ _ _ h => h) (.inl ⟨by rfl, fun W' hW' => ?_⟩) hS ?_
                · go_simp
                simp only [Act.put, List.getElem_toArray, List.getElem_cons_succ, List.getElem_cons_zero, List.setIfInBounds_toArray, List.set_cons_succ, List.set_cons_zero]
                refine wpAnyH_take (i := 10) (v := .pointer (some ⟨q, 0, none⟩)) rfl (by kernel_rfl) (by kernel_rfl) (by kernel_rfl) (fun _ _ _ h => h) (.inl ⟨by rfl, fun W' hW' => ?_⟩) hS ?_
                · go_simp
                simp only [Act.put, List.getElem_toArray, List.getElem_cons_succ, List.getElem_cons_zero, List.setIfInBounds_toArray, List.set_cons_succ, List.set_cons_zero]
                refine wpAnyH_take (i := 11) (v := .pointer (some ⟨q, 1, none⟩)) rfl (by kernel_rfl) (by kernel_rfl) (by kernel_rfl) (fun _ _ _ h => h) (.inl ⟨by rfl, fun W' hW' => ?_⟩) hS ?_
                · go_simp
                simp only [Act.put, List.getElem_toArray, List.getElem_cons_succ, List.getElem_cons_zero, List.setIfInBounds_toArray, List.set_cons_succ, List.set_cons_zero]
                refine wpAnyH_take (i := 12) (v := .slice (some ⟨g1, o1, none⟩) n cp1) rfl (by kernel_rfl) (by kernel_rfl) (by kernel_rfl) (fun _ _ _ h => h) (.inl ⟨by rfl, fun W' hW' => ?_⟩) hS ?_
                · obtain ⟨kd, rfl⟩ := hW'
                  have hc := f1 kd
                  go_simp
                simp only [Act.put, List.getElem_toArray, List.getElem_cons_succ, List.getElem_cons_zero, List.setIfInBounds_toArray, List.set_cons_succ, List.set_cons_zero]
                refine wpAnyH_take (i := 13) (v := .int .i64 (kk : Int)) rfl (by kernel_rfl) (by kernel_rfl) (by kernel_rfl) (fun _ _ _ h => h) (.inl ⟨by rfl, fun W' hW' => ?_⟩) hS ?_
                · go_simp
                simp only [Act.put, List.getElem_toArray, List.getElem_cons_succ, List.getElem_cons_zero, List.setIfInBounds_toArray, List.set_cons_succ, List.set_cons_zero]
                refine wpAnyH_take (i := 14) (v := .pointer (some ⟨g1, o1 + kk, none⟩)) rfl (by kernel_rfl) (by kernel_rfl) (by kernel_rfl) (fun _ _ _ h => h) (.inl ⟨by rfl, fun W' hW' => ?_⟩) hS ?_
                · go_simp
                simp only [Act.put, List.getElem_toArray, List.getElem_cons_succ, List.getElem_cons_zero, List.setIfInBounds_toArray, List.set_cons_succ, List.set_cons_zero]
                refine wpAnyH_take (i := 15) (v := .int .i64 x) rfl (by kernel_rfl) (by kernel_rfl) (by kernel_rfl) (fun _ _ _ h => h) (.inl ⟨by rfl, fun W' hW' => ?_⟩) hS ?_
                · obtain ⟨kd, rfl⟩ := hW'
                  have hc := f3 kd
                  go_simp
                simp only [Act.put, List.getElem_toArray, List.getElem_cons_succ, List.getElem_cons_zero, List.setIfInBounds_toArray, List.set_cons_succ, List.set_cons_zero]
                refine wpAnyH_take (i := 16) (v := .bool false) rfl (by kernel_rfl) (by kernel_rfl) (by kernel_rfl) (fun _ _ _ h => h) (.inl ⟨by rfl, fun W' hW' => ?_⟩) hS ?_
                · go_simp
                simp only [Act.put, List.getElem_toArray, List.getElem_cons_succ, List.getElem_cons_zero, List.setIfInBounds_toArray, List.set_cons_succ, List.set_cons_zero]
                refine wpAnyH_take (i := 17) (v := .bool false) rfl (by kernel_rfl) (by kernel_rfl) (by kernel_rfl) (fun _ _ _ h => h) (.inl ⟨by rfl, fun W' hW' => ?_⟩) hS ?_
                · go_simp
                simp only [Act.put, List.getElem_toArray, List.getElem_cons_succ, List.getElem_cons_zero, List.setIfInBounds_toArray, List.set_cons_succ, List.set_cons_zero]
                refine wpAnyH_done (by kernel_rfl) ?_ _
                have HO3 : Hid (OwnV 3 ((w2.drewN dd).drew).drew w.heap.size (.slice (some ⟨g, 0, none⟩) m c) (zs o)) := HO2.out
                have HB3 : Hid (Below w.heap.size w ((w2.drewN dd).drew).drew) := HB2.out.trans ((below_drawn w2 (dd + 2)).mono HB2.out.size)
                have k1 : (((w2.drewN dd).drew).drew).cell? ⟨q, 1, none⟩ = some (.slice (some ⟨g1, o1, none⟩) n cp1) := f1 (dd + 2)
                have k3 : (((w2.drewN dd).drew).drew).cell? ⟨g1, o1 + kk, none⟩ = some (.int .i64 x) := f3 (dd + 2)
                generalize ((w2.drewN dd).drew).drew = W0 at *
                -- the tail: one more number
                obtain ⟨v1, v2, s1, s2, r1, r2⟩ := cut_own28 HO3.out j hjm
                have r1 : Hid _ := r1
                have r2 : Hid _ := r2
                have hl1 : Hid ((zs (o.take j)).length ≤ 100) := by show _ ≤ _; rw [zs_len, List.length_take]; have := hm1.out; have := HM.out; have := HL.out; omega
                have hl2 : Hid ((zs (o.drop j)).length ≤ 100) := by show _ ≤ _; rw [zs_len, List.length_drop]; have := hm1.out; have := HM.out; have := HL.out; omega
                have hbA : Below W0.heap.size W0 (W0.alloc (.cells #[] 3)) := (Below.refl _ _).alloc (Nat.le_refl _) _
                have hbX : Below W0.heap.size W0 (W0.alloc (.cells #[.int .i64 x] 3)) := (Below.refl _ _).alloc (Nat.le_refl _) _
                have hbAX : Below W0.heap.size W0 ((W0.alloc (.cells #[] 3)).alloc (.cells #[.int .i64 x] 3)) := hbA.alloc hbA.size _
                have hbXA : Below W0.heap.size W0 ((W0.alloc (.cells #[.int .i64 x] 3)).alloc (.cells #[] 3)) := hbX.alloc hbX.size _
                have hc : Hid (∀ w', Below W0.heap.size W0 w' → w'.cell? ⟨q, 1, none⟩ = some (.slice (some ⟨g1, o1, none⟩) n cp1) ∧ w'.cell? ⟨g1, o1 + kk, none⟩ = some (.int .i64 x)) := fun w' hb => by
                  rw [hb.cell (p := ⟨q, 1, none⟩) (World.block_lt_of_cell? W0 _ k1), hb.cell (p := ⟨g1, o1 + kk, none⟩) (World.block_lt_of_cell? W0 _ k3)]
                  exact ⟨k1, k3⟩
                have ca1 := (hc.out _ hbA).1
                have ca3 := (hc.out _ hbA).2
                have P1 : Hid (OwnV 3 (W0.alloc (.cells #[] 3)) W0.heap.size (.slice (some ⟨W0.heap.size, 0, none⟩) 0 0) []) := OwnV.empty 3 W0 W0.heap.size (Nat.le_refl _)
                have P2 : Hid (OwnV 3 ((W0.alloc (.cells #[] 3)).alloc (.cells #[.int .i64 x] 3)) W0.heap.size (.slice (some ⟨W0.heap.size, 0, none⟩) 0 0) []) := OwnV.on P1.out ((Below.refl _ _).alloc (Nat.le_refl _) _)
                have P3 : Hid (OwnV 3 ((W0.alloc (.cells #[.int .i64 x] 3)).alloc (.cells #[] 3)) W0.heap.size (.slice (some ⟨W0.heap.size + 1, 0, none⟩) 0 0) []) := by
                  have := OwnV.empty 3 (W0.alloc (.cells #[.int .i64 x] 3)) W0.heap.size hbX.size
                  rw [show (W0.alloc (.cells #[.int .i64 x] 3)).heap.size = W0.heap.size + 1 by simp] at this
                  exact this
                have HA0 : Hid (Below W0.heap.size W0 (W0.alloc (.cells #[] 3)).drew) := hbA.drew
                have HA1 : Hid (Below W0.heap.size W0 ((W0.alloc (.cells #[] 3)).alloc (.cells #[.int .i64 x] 3)).drew) := hbAX.drew
                have HA2 : Hid (Below W0.heap.size W0 ((W0.alloc (.cells #[.int .i64 x] 3)).alloc (.cells #[] 3)).drew) := hbXA.drew
                clear hbA hbX hbAX hbXA
                have hX1 : Hid (∀ wa, (∀ k, k < ((W0.alloc (.cells #[] 3)).alloc (.cells #[.int .i64 x] 3)).drew.heap.size → (Value.slice (some ⟨W0.heap.size, 0, none⟩) 0 0).ownBlock ≠ some k → wa.heap[k]? = ((W0.alloc (.cells #[] 3)).alloc (.cells #[.int .i64 x] 3)).drew.heap[k]?) → RdV wa (.slice (some ⟨W0.heap.size + 1, 0, none⟩) 1 1) [.int .i64 x]) := fun wa hf => by
                  have h1 := hf (W0.heap.size + 1) (by show W0.heap.size + 1 < ((W0.alloc (.cells #[] 3)).alloc (.cells #[.int .i64 x] 3)).heap.size; simp) (by simp [Value.ownBlock])
                  have h2 := heap_alloc_new (W0.alloc (.cells #[] 3)) (.cells #[.int .i64 x] 3)
                  refine .inr (.inr ⟨W0.heap.size + 1, 0, 1, rfl, by simp, fun i hi => ?_⟩)
                  have hi0 : i = 0 := by simp at hi; omega
                  subst hi0
                  unfold World.cell?
                  rw [h1]
                  rw [show (W0.alloc (.cells #[] 3)).heap.size = W0.heap.size + 1 by simp] at h2
                  rw [show ((W0.alloc (.cells #[] 3)).alloc (.cells #[.int .i64 x] 3)).drew.heap[W0.heap.size + 1]? = _ from h2]
                  rfl
                have hX2 : Hid (∀ wa, (∀ k, k < ((W0.alloc (.cells #[.int .i64 x] 3)).alloc (.cells #[] 3)).drew.heap.size → (Value.slice (some ⟨W0.heap.size + 1, 0, none⟩) 0 0).ownBlock ≠ some k → wa.heap[k]? = ((W0.alloc (.cells #[.int .i64 x] 3)).alloc (.cells #[] 3)).drew.heap[k]?) → RdV wa (.slice (some ⟨W0.heap.size, 0, none⟩) 1 1) [.int .i64 x]) := fun wa hf => by
                  have h1 := hf W0.heap.size (by show W0.heap.size < ((W0.alloc (.cells #[.int .i64 x] 3)).alloc (.cells #[] 3)).heap.size; simp; omega) (by simp [Value.ownBlock])
                  have h2 : ((W0.alloc (.cells #[.int .i64 x] 3)).alloc (.cells #[] 3)).heap[W0.heap.size]? = some (.cells #[.int .i64 x] 3) := by
                    rw [Below.heap_alloc _ _ _ (by simp)]
                    exact heap_alloc_new W0 _
                  refine .inr (.inr ⟨W0.heap.size, 0, 1, rfl, by simp, fun i hi => ?_⟩)
                  have hi0 : i = 0 := by simp at hi; omega
                  subst hi0
                  unfold World.cell?
                  rw [h1, show ((W0.alloc (.cells #[.int .i64 x] 3)).alloc (.cells #[] 3)).drew.heap[W0.heap.size]? = _ from h2]
                  rfl
                have hX3 : Hid (∀ wa : World, RdV (wa.alloc (.cells #[.int .i64 x] 3)) (.slice (some ⟨wa.heap.size, 0, none⟩) 1 1) [.int .i64 x]) := fun wa => by
                  refine .inr (.inr ⟨wa.heap.size, 0, 1, rfl, by simp, fun i hi => ?_⟩)
                  have hi0 : i = 0 := by simp at hi; omega
                  subst hi0
                  unfold World.cell?
                  rw [heap_alloc_new]
                  rfl
                have hone : Hid (∀ u ∈ [Value.int .i64 x], u.oneCell' = true) := fun u hu => by obtain rfl := List.mem_singleton.1 hu; rfl
                have HN2 : Hid (zs (o.take j) ++ [.int .i64 x] ++ zs (o.drop j) = zs (o.take j ++ x :: o.drop j)) := by
                  show _ = _
                  unfold zs
                  rw [List.map_append, List.append_assoc]
                  rfl
                clear A f1 f3
                go_upto_region 10 with fail
                go_region_law (first
                  | (refine step_app2 H28 rfl (.tmp 64) (.tmp 67) (by rfl) W0.heap.size _ _ [] (zs (o.take j)) _ rfl _ rfl P1.out rfl (r1.out _ HA0.out) (one_zs _) (by have := hl1.out; simp; omega) (by simp) ?_; intro a1 m1 x1 wa HM1 HO1 HB1 HF1; have HAa : Hid (Below W0.heap.size W0 wa) := HA0.out.trans HB1.out; have ka1 := (hc.out _ HAa.out).1; have ka3 := (hc.out _ HAa.out).2)
                  | (refine step_app2 H28 rfl (.tmp 64) (.tmp 67) (by rfl) W0.heap.size _ _ [] (zs (o.take j)) _ rfl _ rfl P2.out rfl (r1.out _ HA1.out) (one_zs _) (by have := hl1.out; simp; omega) (by simp; omega) ?_; intro a1 m1 x1 wa HM1 HO1 HB1 HF1; have HAa : Hid (Below W0.heap.size W0 wa) := HA1.out.trans HB1.out; have HX : Hid _ := hX1.out wa HF1.out)
                  | (refine step_app2 H28 rfl (.tmp 64) (.tmp 67) (by rfl) W0.heap.size _ _ [] (zs (o.take j)) _ rfl _ rfl P3.out rfl (r1.out _ HA2.out) (one_zs _) (by have := hl1.out; simp; omega) (by simp; omega) ?_; intro a1 m1 x1 wa HM1 HO1 HB1 HF1; have HAa : Hid (Below W0.heap.size W0 wa) := HA2.out.trans HB1.out; have HX : Hid _ := hX2.out wa HF1.out)
                  | (refine step_app2 H28 rfl (.tmp 68) (.tmp 76) (by rfl) W0.heap.size _ _ _ [.int .i64 x] _ rfl _ rfl HO1.out rfl HX.out hone.out (by have := hl1.out; simp; omega) HAa.out.size ?_; intro a2 m2 x2 wb HM2 HO2b HB2b HF2; have HAb : Hid (Below W0.heap.size W0 wb) := HAa.out.trans HB2b.out)
                  | (refine step_app2 H28 rfl (.tmp 68) (.tmp 76) (by rfl) W0.heap.size _ _ _ [.int .i64 x] _ rfl _ rfl (HO1.out.on ((Below.refl _ _).alloc (Nat.le_refl _) _)) rfl (hX3.out _) hone.out (by have := hl1.out; simp; omega) (by have := HAa.out.size; simp; omega) ?_; intro a2 m2 x2 wb HM2 HO2b HB2b HF2; have HAb : Hid (Below W0.heap.size W0 wb) := (HAa.out.alloc HAa.out.size _).trans HB2b.out)
                  | (refine step_app2 H28 rfl (.tmp 77) (.tmp 80) (by rfl) W0.heap.size _ _ _ (zs (o.drop j)) _ rfl _ rfl HO2b.out rfl (r2.out _ HAb.out) (one_zs _) (by have := hl1.out; have := hl2.out; simp; omega) HAb.out.size ?_; intro a3 m3 x3 wd HM3 HO3b HB3b HF3; have HAd : Hid (Below W0.heap.size W0 wd) := HAb.out.trans HB3b.out))
                all_goals (
                  have HO5 : Hid (OwnV 3 wd w.heap.size (.slice a3 m3 x3) (zs ((l.take (kk + 1)).foldl (findStep s) []))) := by
                    rw [hnx2.out, ← HN2.out]
                    exact HO3b.out.base HB3.out.size
                  have HB5 : Hid (Below w.heap.size w wd) := HB3.out.trans (HAd.out.mono HB3.out.size)
                  clear hc r1 r2 hX1 hX2 hX3 P1 P2 P3
                  go_wp2
                  go_roundg (n - (kk + 1))
                  case measure => omega
                  case rel => exact ⟨kk + 1, a3, m3, x3, by omega, by omega, by go_num, rfl, HO5.out, HB5.out⟩)
          · have hjz : ¬ (j : Int) < (m : Int) := by omega
            have hd : decide ((j : Int) < (m : Int)) = false := decide_eq_false hjz
            have hnx2 : Hid ((l.take (kk + 1)).foldl (findStep s) [] = o.take j ++ x :: o.drop j) := by
              have h1 := ins_at o x j (by have := hm1.out; omega) A.out (fun h => by have := hm1.out; omega)
              rw [if_neg (by rw [List.getElem?_eq_none (by have := hm1.out; omega)]; simp)] at h1
              rw [← h1]
              exact hnx.out
            go_upto_region 7 with fail
            refine wp_region_held (S := fun W => ∃ k, W = w2.drewN k) hmix ?_
            show wpAnyH _ _ _ _ _ _ _ _ (World.drew _)
            have hS : (fun W => ∃ k, W = w2.drewN k) ((w2.drewN dd).drew) := ⟨dd + 1, rfl⟩
            refine wpAnyH_take (i := 0) (v := .int .i64 (j : Int)) rfl (by kernel_rfl) (by kernel_rfl) (by kernel_rfl) (fun _ _ _ h => h) (.inl ⟨by rfl, fun W' hW' => ?_⟩) hS ?_
            · go_simp
            simp only [Act.put, List.getElem_toArray, List.getElem_cons_zero, List.setIfInBounds_toArray, List.set_cons_succ, List.set_cons_zero]
            refine wpAnyH_take (i := 1) (v := .slice a m c) rfl (by kernel_rfl) (by kernel_rfl) (by kernel_rfl) (fun _ _ _ h => h) (.inl ⟨by rfl, fun W' hW' => ?_⟩) hS ?_
            · go_simp
            simp only [Act.put, List.getElem_toArray, List.getElem_cons_succ, List.getElem_cons_zero, List.setIfInBounds_toArray, List.set_cons_succ, List.set_cons_zero]
            refine wpAnyH_take (i := 2) (v := .int .i64 (m : Int)) rfl (by kernel_rfl) (by kernel_rfl) (by kernel_rfl) (fun _ _ _ h => h) (.inl ⟨by rfl, fun W' hW' => ?_⟩) hS ?_
            · go_simp
            simp only [Act.put, List.getElem_toArray, List.getElem_cons_succ, List.getElem_cons_zero, List.setIfInBounds_toArray, List.set_cons_succ, List.set_cons_zero]
            refine wpAnyH_take (i := 3) (v := .bool false) rfl (by kernel_rfl) (by kernel_rfl) (by kernel_rfl) (fun _ _ _ h => h) (.inl ⟨by rfl, fun W' hW' => ?_⟩) hS ?_
            · go_simp
            simp only [Act.put, List.getElem_toArray, List.getElem_cons_succ, List.getElem_cons_zero, List.setIfInBounds_toArray, List.set_cons_succ, List.set_cons_zero]
            refine wpAnyH_take (i := 4) (v := .bool false) rfl (by kernel_rfl) (by kernel_rfl) (by kernel_rfl) (fun _ _ _ h => h) (.inl ⟨by rfl, fun W' hW' => ?_⟩) hS ?_
            · go_simp
            simp only [Act.put, List.getElem_toArray, List.getElem_cons_succ, List.getElem_cons_zero, List.setIfInBounds_toArray, List.set_cons_succ, List.set_cons_zero]
            refine wpAnyH_take (i := 5) (v := undef) rfl (by kernel_rfl) (by kernel_rfl) (by kernel_rfl) (fun _ _ _ h => h) (.inr ⟨by rfl, rfl⟩) hS ?_
            simp only [Act.put, List.getElem_toArray, List.getElem_cons_succ, List.getElem_cons_zero, List.setIfInBounds_toArray, List.set_cons_succ, List.set_cons_zero]
            refine wpAnyH_take (i := 6) (v := undef) rfl (by kernel_rfl) (by kernel_rfl) (by kernel_rfl) (fun _ _ _ h => h) (.inr ⟨by rfl, rfl⟩) hS ?_
            simp only [Act.put, List.getElem_toArray, List.getElem_cons_succ, List.getElem_cons_zero, List.setIfInBounds_toArray, List.set_cons_succ, List.set_cons_zero]
            refine wpAnyH_take (i := 7) (v := undef) rfl (by kernel_rfl) (by kernel_rfl) (by kernel_rfl) (fun _ _ _ h => h) (.inr ⟨by rfl, rfl⟩) hS ?_
            simp only [Act.put, List.getElem_toArray, List.getElem_cons_succ, List.getElem_cons_zero, List.setIfInBounds_toArray, List.set_cons_succ, List.set_cons_zero]
            refine wpAnyH_take (i := 8) (v := undef) rfl (by kernel_rfl) (by kernel_rfl) (by kernel_rfl) (fun _ _ _ h => h) (.inr ⟨by rfl, rfl⟩) hS ?_
            simp only [Act.put, List.getElem_toArray, List.getElem_cons_succ, List.getElem_cons_zero, List.setIfInBounds_toArray, List.set_cons_succ, List.set_cons_zero]
            refine wpAnyH_take (i := 9) (v := undef) rfl (by kernel_rfl) (by kernel_rfl) (by kernel_rfl) (fun _ _ _ h => h) (.inr ⟨by rfl, rfl⟩) hS ?_
            simp only [Act.put, List.getElem_toArray, List.getElem_cons_succ, List.getElem_cons_zero, List.setIfInBounds_toArray, List.set_cons_succ, List.set_cons_zero]
            refine wpAnyH_take (i := 10) (v := undef) rfl (by kernel_rfl) (by kernel_rfl) (by kernel_rfl) (fun _ _ _ h => h) (.inr ⟨by rfl, rfl⟩) hS ?_
            simp only [Act.put, List.getElem_toArray, List.getElem_cons_succ, List.getElem_cons_zero, List.setIfInBounds_toArray, List.set_cons_succ, List.set_cons_zero]
            refine wpAnyH_take (i := 11) (v := undef) rfl (by kernel_rfl) (by kernel_rfl) (by kernel_rfl) (fun _ _ _ h => h) (.inr ⟨by rfl, rfl⟩) hS ?_
            simp only [Act.put, List.getElem_toArray, List.getElem_cons_succ, List.getElem_cons_zero, List.setIfInBounds_toArray, List.set_cons_succ, List.set_cons_zero]
            refine wpAnyH_take (i := 12) (v := undef) rfl (by kernel_rfl) (by kernel_rfl) (by kernel_rfl) (fun _ _ _ h => h) (.inr ⟨by rfl, rfl⟩) hS ?_
            simp only [Act.put, List.getElem_toArray, List.getElem_cons_succ, List.getElem_cons_zero, List.setIfInBounds_toArray, List.set_cons_succ, List.set_cons_zero]
            refine wpAnyH_take (i := 13) (v := undef) rfl (by kernel_rfl) (by kernel_rfl) (by kernel_rfl) (fun _ _ _ h => h) (.inr ⟨by rfl, rfl⟩) hS ?_
            simp only [Act.put, List.getElem_toArray, List.getElem_cons_succ, List.getElem_cons_zero, List.setIfInBounds_toArray, List.set_cons_succ, List.set_cons_zero]
            refine wpAnyH_take (i := 14) (v := undef) rfl (by kernel_rfl) (by kernel_rfl) (by kernel_rfl) (fun _ _ _ h => h) (.inr ⟨by rfl, rfl⟩) hS ?_
            simp only [Act.put, List.getElem_toArray, List.getElem_cons_succ, List.getElem_cons_zero, List.setIfInBounds_toArray, List.set_cons_succ, List.set_cons_zero]
            refine wpAnyH_take (i := 15) (v := undef) rfl (by kernel_rfl) (by kernel_rfl) (by kernel_rfl) (fun _ _ _ h => h) (.inr ⟨by rfl, rfl⟩) hS ?_
            simp only [Act.put, List.getElem_toArray, List.getElem_cons_succ, List.getElem_cons_zero, List.setIfInBounds_toArray, List.set_cons_succ, List.set_cons_zero]
            refine wpAnyH_take (i := 16) (v := undef) rfl (by kernel_rfl) (by kernel_rfl) (by kernel_rfl) (fun _ _ _ h => h) (.inr ⟨by rfl, rfl⟩) hS ?_
            simp only [Act.put, List.getElem_toArray, List.getElem_cons_succ, List.getElem_cons_zero, List.setIfInBounds_toArray, List.set_cons_succ, List.set_cons_zero]
            refine wpAnyH_take (i := 17) (v := .bool false) rfl (by kernel_rfl) (by kernel_rfl) (by kernel_rfl) (fun _ _ _ h => h) (.inl ⟨by rfl, fun W' hW' => ?_⟩) hS ?_
            · go_simp
            simp only [Act.put, List.getElem_toArray, List.getElem_cons_succ, List.getElem_cons_zero, List.setIfInBounds_toArray, List.set_cons_succ, List.set_cons_zero]
            refine wpAnyH_done (by kernel_rfl) ?_ _
            go_upto_region 9 with fail
            refine wp_region_held (S := fun W => ∃ k, W = w2.drewN k) hmix ?_
            show wpAnyH _ _ _ _ _ _ _ _ (World.drew _)
            have hS : (fun W => ∃ k, W = w2.drewN k) (((w2.drewN dd).drew).drew) := ⟨dd + 2, rfl⟩
            refine wpAnyH_take (i := 0) (v := .int .i64 (j : Int)) rfl (by kernel_rfl) (by kernel_rfl) (by kernel_rfl) (fun _ _ _ h => h) (.inl ⟨by rfl, fun W' hW' => ?_⟩) hS ?_
            · go_simp
            simp only [Act.put, List.getElem_toArray, List.getElem_cons_zero, List.setIfInBounds_toArray, List.set_cons_succ, List.set_cons_zero]
            refine wpAnyH_take (i := 1) (v := .slice a m c) rfl (by kernel_rfl) (by kernel_rfl) (by kernel_rfl) (fun _ _ _ h => h) (.inl ⟨by rfl, fun W' hW' => ?_⟩) hS ?_
            · go_simp
            simp only [Act.put, List.getElem_toArray, List.getElem_cons_succ, List.getElem_cons_zero, List.setIfInBounds_toArray, List.set_cons_succ, List.set_cons_zero]
            refine wpAnyH_take (i := 2) (v := .int .i64 (m : Int)) rfl (by kernel_rfl) (by kernel_rfl) (by kernel_rfl) (fun _ _ _ h => h) (.inl ⟨by rfl, fun W' hW' => ?_⟩) hS ?_
            · go_simp
            simp only [Act.put, List.getElem_toArray, List.getElem_cons_succ, List.getElem_cons_zero, List.setIfInBounds_toArray, List.set_cons_succ, List.set_cons_zero]
            refine wpAnyH_take (i := 3) (v := .bool false) rfl (by kernel_rfl) (by kernel_rfl) (by kernel_rfl) (fun _ _ _ h => h) (.inl ⟨by rfl, fun W' hW' => ?_⟩) hS ?_
            · go_simp
            simp only [Act.put, List.getElem_toArray, List.getElem_cons_succ, List.getElem_cons_zero, List.setIfInBounds_toArray, List.set_cons_succ, List.set_cons_zero]
            refine wpAnyH_take (i := 4) (v := .bool false) rfl (by kernel_rfl) (by kernel_rfl) (by kernel_rfl) (fun _ _ _ h => h) (.inl ⟨by rfl, fun W' hW' => ?_⟩) hS ?_
            · go_simp
            simp only [Act.put, List.getElem_toArray, List.getElem_cons_succ, List.getElem_cons_zero, List.setIfInBounds_toArray, List.set_cons_succ, List.set_cons_zero]
            refine wpAnyH_take (i := 5) (v := undef) rfl (by kernel_rfl) (by kernel_rfl) (by kernel_rfl) (fun _ _ _ h => h) (.inr ⟨by rfl, rfl⟩) hS ?_
            simp only [Act.put, List.getElem_toArray, List.getElem_cons_succ, List.getElem_cons_zero, List.setIfInBounds_toArray, List.set_cons_succ, List.set_cons_zero]
            refine wpAnyH_take (i := 6) (v := undef) rfl (by kernel_rfl) (by kernel_rfl) (by kernel_rfl) (fun _ _ _ h => h) (.inr ⟨by rfl, rfl⟩) hS ?_
            simp only [Act.put, List.getElem_toArray, List.getElem_cons_succ, List.getElem_cons_zero, List.setIfInBounds_toArray, List.set_cons_succ, List.set_cons_zero]
            refine wpAnyH_take (i := 7) (v := undef) rfl (by kernel_rfl) (by kernel_rfl) (by kernel_rfl) (fun _ _ _ h => h) (.inr ⟨by rfl, rfl⟩) hS ?_
            simp only [Act.put, List.getElem_toArray, List.getElem_cons_succ, List.getElem_cons_zero, List.setIfInBounds_toArray, List.set_cons_succ, List.set_cons_zero]
            refine wpAnyH_take (i := 8) (v := undef) rfl (by kernel_rfl) (by kernel_rfl) (by kernel_rfl) (fun _ _ _ h => h) (.inr ⟨by rfl, rfl⟩) hS ?_
            simp only [Act.put, List.getElem_toArray, List.getElem_cons_succ, List.getElem_cons_zero, List.setIfInBounds_toArray, List.set_cons_succ, List.set_cons_zero]
            refine wpAnyH_take (i := 9) (v := undef) rfl (by kernel_rfl) (by kernel_rfl) (by kernel_rfl) (fun _ _ _ h => h) (.inr ⟨by rfl, rfl⟩) hS ?_
            simp only [Act.put, List.getElem_toArray, List.getElem_cons_succ, List.getElem_cons_zero, List.setIfInBounds_toArray, List.set_cons_succ, List.set_cons_zero]
            refine wpAnyH_take (i := 10) (v := undef) rfl (by kernel_rfl) (by kernel_rfl) (by kernel_rfl) (fun _ _ _ h => h) (.inr ⟨by rfl, rfl⟩) hS ?_
            simp only [Act.put, List.getElem_toArray, List.getElem_cons_succ, List.getElem_cons_zero, List.setIfInBounds_toArray, List.set_cons_succ, List.set_cons_zero]
            refine wpAnyH_take (i := 11) (v := undef) rfl (by kernel_rfl) (by kernel_rfl) (by kernel_rfl) (fun _ _ _ h => h) (.inr ⟨by rfl, rfl⟩) hS ?_
            simp only [Act.put, List.getElem_toArray, List.getElem_cons_succ, List.getElem_cons_zero, List.setIfInBounds_toArray, List.set_cons_succ, List.set_cons_zero]
            refine wpAnyH_take (i := 12) (v := undef) rfl (by kernel_rfl) (by kernel_rfl) (by kernel_rfl) (fun _ _ _ h => h) (.inr ⟨by rfl, rfl⟩) hS ?_
            simp only [Act.put, List.getElem_toArray, List.getElem_cons_succ, List.getElem_cons_zero, List.setIfInBounds_toArray, List.set_cons_succ, List.set_cons_zero]
            refine wpAnyH_take (i := 13) (v := undef) rfl (by kernel_rfl) (by kernel_rfl) (by kernel_rfl) (fun _ _ _ h => h) (.inr ⟨by rfl, rfl⟩) hS ?_
            simp only [Act.put, List.getElem_toArray, List.getElem_cons_succ, List.getElem_cons_zero, List.setIfInBounds_toArray, List.set_cons_succ, List.set_cons_zero]
            refine wpAnyH_take (i := 14) (v := undef) rfl (by kernel_rfl) (by kernel_rfl) (by kernel_rfl) (fun _ _ _ h => h) (.inr ⟨by rfl, rfl⟩) hS ?_
            simp only [Act.put, List.getElem_toArray, List.getElem_cons_succ, List.getElem_cons_zero, List.setIfInBounds_toArray, List.set_cons_succ, List.set_cons_zero]
            refine wpAnyH_take (i := 15) (v := undef) rfl (by kernel_rfl) (by kernel_rfl) (by kernel_rfl) (fun _ _ _ h => h) (.inr ⟨by rfl, rfl⟩) hS ?_
            simp only [Act.put, List.getElem_toArray, List.getElem_cons_succ, List.getElem_cons_zero, List.setIfInBounds_toArray, List.set_cons_succ, List.set_cons_zero]
            refine wpAnyH_take (i := 16) (v := undef) rfl (by kernel_rfl) (by kernel_rfl) (by kernel_rfl) (fun _ _ _ h => h) (.inr ⟨by rfl, rfl⟩) hS ?_
            simp only [Act.put, List.getElem_toArray, List.getElem_cons_succ, List.getElem_cons_zero, List.setIfInBounds_toArray, List.set_cons_succ, List.set_cons_zero]
            refine wpAnyH_take (i := 17) (v := .bool false) rfl (by kernel_rfl) (by kernel_rfl) (by kernel_rfl) (fun _ _ _ h => h) (.inl ⟨by rfl, fun W' hW' => ?_⟩) hS ?_
            · go_simp
            simp only [Act.put, List.getElem_toArray, List.getElem_cons_succ, List.getElem_cons_zero, List.setIfInBounds_toArray, List.set_cons_succ, List.set_cons_zero]
            refine wpAnyH_done (by kernel_rfl) ?_ _
            have HO3 : Hid (OwnV 3 ((w2.drewN dd).drew).drew w.heap.size (.slice a m c) (zs o)) := HO2.out
            have HB3 : Hid (Below w.heap.size w ((w2.drewN dd).drew).drew) := HB2.out.trans ((below_drawn w2 (dd + 2)).mono HB2.out.size)
            have k1 : (((w2.drewN dd).drew).drew).cell? ⟨q, 1, none⟩ = some (.slice (some ⟨g1, o1, none⟩) n cp1) := f1 (dd + 2)
            have k3 : (((w2.drewN dd).drew).drew).cell? ⟨g1, o1 + kk, none⟩ = some (.int .i64 x) := f3 (dd + 2)
            generalize ((w2.drewN dd).drew).drew = W0 at *
            -- the tail: one more number
            obtain ⟨v1, v2, s1, s2, r1, r2⟩ := cut_own28 HO3.out j hjm
            have r1 : Hid _ := r1
            have r2 : Hid _ := r2
            have hl1 : Hid ((zs (o.take j)).length ≤ 100) := by show _ ≤ _; rw [zs_len, List.length_take]; have := hm1.out; have := HM.out; have := HL.out; omega
            have hl2 : Hid ((zs (o.drop j)).length ≤ 100) := by show _ ≤ _; rw [zs_len, List.length_drop]; have := hm1.out; have := HM.out; have := HL.out; omega
            have hbA : Below W0.heap.size W0 (W0.alloc (.cells #[] 3)) := (Below.refl _ _).alloc (Nat.le_refl _) _
            have hbX : Below W0.heap.size W0 (W0.alloc (.cells #[.int .i64 x] 3)) := (Below.refl _ _).alloc (Nat.le_refl _) _
            have hbAX : Below W0.heap.size W0 ((W0.alloc (.cells #[] 3)).alloc (.cells #[.int .i64 x] 3)) := hbA.alloc hbA.size _
            have hbXA : Below W0.heap.size W0 ((W0.alloc (.cells #[.int .i64 x] 3)).alloc (.cells #[] 3)) := hbX.alloc hbX.size _
            have hc : Hid (∀ w', Below W0.heap.size W0 w' → w'.cell? ⟨q, 1, none⟩ = some (.slice (some ⟨g1, o1, none⟩) n cp1) ∧ w'.cell? ⟨g1, o1 + kk, none⟩ = some (.int .i64 x)) := fun w' hb => by
              rw [hb.cell (p := ⟨q, 1, none⟩) (World.block_lt_of_cell? W0 _ k1), hb.cell (p := ⟨g1, o1 + kk, none⟩) (World.block_lt_of_cell? W0 _ k3)]
              exact ⟨k1, k3⟩
            have ca1 := (hc.out _ hbA).1
            have ca3 := (hc.out _ hbA).2
            have P1 : Hid (OwnV 3 (W0.alloc (.cells #[] 3)) W0.heap.size (.slice (some ⟨W0.heap.size, 0, none⟩) 0 0) []) := OwnV.empty 3 W0 W0.heap.size (Nat.le_refl _)
            have P2 : Hid (OwnV 3 ((W0.alloc (.cells #[] 3)).alloc (.cells #[.int .i64 x] 3)) W0.heap.size (.slice (some ⟨W0.heap.size, 0, none⟩) 0 0) []) := OwnV.on P1.out ((Below.refl _ _).alloc (Nat.le_refl _) _)
            have P3 : Hid (OwnV 3 ((W0.alloc (.cells #[.int .i64 x] 3)).alloc (.cells #[] 3)) W0.heap.size (.slice (some ⟨W0.heap.size + 1, 0, none⟩) 0 0) []) := by
              have := OwnV.empty 3 (W0.alloc (.cells #[.int .i64 x] 3)) W0.heap.size hbX.size
              rw [show (W0.alloc (.cells #[.int .i64 x] 3)).heap.size = W0.heap.size + 1 by simp] at this
              exact this
            have HA0 : Hid (Below W0.heap.size W0 (W0.alloc (.cells #[] 3)).drew) := hbA.drew
            have HA1 : Hid (Below W0.heap.size W0 ((W0.alloc (.cells #[] 3)).alloc (.cells #[.int .i64 x] 3)).drew) := hbAX.drew
            have HA2 : Hid (Below W0.heap.size W0 ((W0.alloc (.cells #[.int .i64 x] 3)).alloc (.cells #[] 3)).drew) := hbXA.drew
            clear hbA hbX hbAX hbXA
            have hX1 : Hid (∀ wa, (∀ k, k < ((W0.alloc (.cells #[] 3)).alloc (.cells #[.int .i64 x] 3)).drew.heap.size → (Value.slice (some ⟨W0.heap.size, 0, none⟩) 0 0).ownBlock ≠ some k → wa.heap[k]? = ((W0.alloc (.cells #[] 3)).alloc (.cells #[.int .i64 x] 3)).drew.heap[k]?) → RdV wa (.slice (some ⟨W0.heap.size + 1, 0, none⟩) 1 1) [.int .i64 x]) := fun wa hf => by
              have h1 := hf (W0.heap.size + 1) (by show W0.heap.size + 1 < ((W0.alloc (.cells #[] 3)).alloc (.cells #[.int .i64 x] 3)).heap.size; simp) (by simp [Value.ownBlock])
              have h2 := heap_alloc_new (W0.alloc (.cells #[] 3)) (.cells #[.int .i64 x] 3)
              refine .inr (.inr ⟨W0.heap.size + 1, 0, 1, rfl, by simp, fun i hi => ?_⟩)
              have hi0 : i = 0 := by simp at hi; omega
              subst hi0
              unfold World.cell?
              rw [h1]
              rw [show (W0.alloc (.cells #[] 3)).heap.size = W0.heap.size + 1 by simp] at h2
              rw [show ((W0.alloc (.cells #[] 3)).alloc (.cells #[.int .i64 x] 3)).drew.heap[W0.heap.size + 1]? = _ from h2]
              rfl
            have hX2 : Hid (∀ wa, (∀ k, k < ((W0.alloc (.cells #[.int .i64 x] 3)).alloc (.cells #[] 3)).drew.heap.size → (Value.slice (some ⟨W0.heap.size + 1, 0, none⟩) 0 0).ownBlock ≠ some k → wa.heap[k]? = ((W0.alloc (.cells #[.int .i64 x] 3)).alloc (.cells #[] 3)).drew.heap[k]?) → RdV wa (.slice (some ⟨W0.heap.size, 0, none⟩) 1 1) [.int .i64 x]) := fun wa hf => by
              have h1 := hf W0.heap.size (by show W0.heap.size < ((W0.alloc (.cells #[.int .i64 x] 3)).alloc (.cells #[] 3)).heap.size; simp; omega) (by simp [Value.ownBlock])
              have h2 : ((W0.alloc (.cells #[.int .i64 x] 3)).alloc (.cells #[] 3)).heap[W0.heap.size]? = some (.cells #[.int .i64 x] 3) := by
                rw [Below.heap_alloc _ _ _ (by simp)]
                exact heap_alloc_new W0 _
              refine .inr (.inr ⟨W0.heap.size, 0, 1, rfl, by simp, fun i hi => ?_⟩)
              have hi0 : i = 0 := by simp at hi; omega
              subst hi0
              unfold World.cell?
              rw [h1, show ((W0.alloc (.cells #[.int .i64 x] 3)).alloc (.cells #[] 3)).drew.heap[W0.heap.size]? = _ from h2]
              rfl
            have hX3 : Hid (∀ wa : World, RdV (wa.alloc (.cells #[.int .i64 x] 3)) (.slice (some ⟨wa.heap.size, 0, none⟩) 1 1) [.int .i64 x]) := fun wa => by
              refine .inr (.inr ⟨wa.heap.size, 0, 1, rfl, by simp, fun i hi => ?_⟩)
              have hi0 : i = 0 := by simp at hi; omega
              subst hi0
              unfold World.cell?
              rw [heap_alloc_new]
              rfl
            have hone : Hid (∀ u ∈ [Value.int .i64 x], u.oneCell' = true) := fun u hu => by obtain rfl := List.mem_singleton.1 hu; rfl
            have HN2 : Hid (zs (o.take j) ++ [.int .i64 x] ++ zs (o.drop j) = zs (o.take j ++ x :: o.drop j)) := by
              show _ = _
              unfold zs
              rw [List.map_append, List.append_assoc]
              rfl
            clear A f1 f3
            go_upto_region 10 with fail
            go_region_law (first
              | (refine step_app2 H28 rfl (.tmp 64) (.tmp 67) (by rfl) W0.heap.size _ _ [] (zs (o.take j)) _ rfl _ rfl P1.out rfl (r1.out _ HA0.out) (one_zs _) (by have := hl1.out; simp; omega) (by simp) ?_; intro a1 m1 x1 wa HM1 HO1 HB1 HF1; have HAa : Hid (Below W0.heap.size W0 wa) := HA0.out.trans HB1.out; have ka1 := (hc.out _ HAa.out).1; have ka3 := (hc.out _ HAa.out).2)
              | (refine step_app2 H28 rfl (.tmp 64) (.tmp 67) (by rfl) W0.heap.size _ _ [] (zs (o.take j)) _ rfl _ rfl P2.out rfl (r1.out _ HA1.out) (one_zs _) (by have := hl1.out; simp; omega) (by simp; omega) ?_; intro a1 m1 x1 wa HM1 HO1 HB1 HF1; have HAa : Hid (Below W0.heap.size W0 wa) := HA1.out.trans HB1.out; have HX : Hid _ := hX1.out wa HF1.out)
              | (refine step_app2 H28 rfl (.tmp 64) (.tmp 67) (by rfl) W0.heap.size _ _ [] (zs (o.take j)) _ rfl _ rfl P3.out rfl (r1.out _ HA2.out) (one_zs _) (by have := hl1.out; simp; omega) (by simp; omega) ?_; intro a1 m1 x1 wa HM1 HO1 HB1 HF1; have HAa : Hid (Below W0.heap.size W0 wa) := HA2.out.trans HB1.out; have HX : Hid _ := hX2.out wa HF1.out)
              | (refine step_app2 H28 rfl (.tmp 68) (.tmp 76) (by rfl) W0.heap.size _ _ _ [.int .i64 x] _ rfl _ rfl HO1.out rfl HX.out hone.out (by have := hl1.out; simp; omega) HAa.out.size ?_; intro a2 m2 x2 wb HM2 HO2b HB2b HF2; have HAb : Hid (Below W0.heap.size W0 wb) := HAa.out.trans HB2b.out)
              | (refine step_app2 H28 rfl (.tmp 68) (.tmp 76) (by rfl) W0.heap.size _ _ _ [.int .i64 x] _ rfl _ rfl (HO1.out.on ((Below.refl _ _).alloc (Nat.le_refl _) _)) rfl (hX3.out _) hone.out (by have := hl1.out; simp; omega) (by have := HAa.out.size; simp; omega) ?_; intro a2 m2 x2 wb HM2 HO2b HB2b HF2; have HAb : Hid (Below W0.heap.size W0 wb) := (HAa.out.alloc HAa.out.size _).trans HB2b.out)
              | (refine step_app2 H28 rfl (.tmp 77) (.tmp 80) (by rfl) W0.heap.size _ _ _ (zs (o.drop j)) _ rfl _ rfl HO2b.out rfl (r2.out _ HAb.out) (one_zs _) (by have := hl1.out; have := hl2.out; simp; omega) HAb.out.size ?_; intro a3 m3 x3 wd HM3 HO3b HB3b HF3; have HAd : Hid (Below W0.heap.size W0 wd) := HAb.out.trans HB3b.out))
            all_goals (
              have HO5 : Hid (OwnV 3 wd w.heap.size (.slice a3 m3 x3) (zs ((l.take (kk + 1)).foldl (findStep s) []))) := by
                rw [hnx2.out, ← HN2.out]
                exact HO3b.out.base HB3.out.size
              have HB5 : Hid (Below w.heap.size w wd) := HB3.out.trans (HAd.out.mono HB3.out.size)
              clear hc r1 r2 hX1 hX2 hX3 P1 P2 P3
              go_wp2
              go_roundg (n - (kk + 1))
              case measure => omega
              case rel => exact ⟨kk + 1, a3, m3, x3, by omega, by omega, by go_num, rfl, HO5.out, HB5.out⟩)
    · have hltz : ¬ (kk : Int) < (n : Int) := by omega
      have HF : Hid (OwnV 3 wr w.heap.size (.slice a m c) (zs (findP l s))) := by
        have := HO.out
        rw [List.take_of_length_le (by have := HN.out; omega)] at this
        exact this
      clear HO
      go_wp2
      go_ret
      exact ⟨⟨_, rfl, HF.out⟩, HB.out⟩
end Go.Proofs.YtcicnbbnkeellaaGreatDoor.To
