/- (*Trie).Find: the walk. Conditions: those that each row states. -/
import Derived.Test.YtcicnbbnkeellaaGreatDoorFb
import Derived.Test.YtcicnbbnkeellaaGreatDoorWb
namespace Go.Proofs.YtcicnbbnkeellaaGreatDoor
open Go.RowKit Go.Shelf
attribute [local go_sem] Oper.semAt_some
attribute [-go_sem] Go.Builtin.append_
set_option maxRecDepth 100000

def FindOk (w : World) (l : List Pr) (s : List UInt8) (e : Ending) (w' : World) : Prop := ∃ v, e = .returned v ∧ To.OwnV 3 w' w.heap.size v (ints (findP l s)) ∧ Below w.heap.size w w'
theorem find_bad (l : List Pr) (s : List UInt8) (h : good s = false) : findP l s = [] := by
  cases e : findP l s with
  | nil => rfl
  | cons a r =>
    have : a ∈ findP l s := by rw [e]; simp
    obtain ⟨p, _, h1, _⟩ := (find_mem l s a).1 this
    unfold mat at h1
    rw [h] at h1
    cases h1
theorem step_len (T : Tr) (w : Wd) (ps : List (List Wd)) : (stepP T w ps).length ≤ 2 * ps.length := by
  unfold stepP
  refine Nat.le_trans (List.length_filter_le _ _) ?_
  induction ps with
  | nil => simp
  | cons p ps ih => simp only [List.flatMap_cons, List.length_append, List.length_cons, List.length_nil] at ih ⊢; omega
theorem flat_len (f : List Wd → List Int) (hf : ∀ p, (f p).length ≤ 64) (ps : List (List Wd)) : (ps.flatMap f).length ≤ 64 * ps.length := by
  induction ps with
  | nil => simp
  | cons p ps ih =>
    have := hf p
    simp only [List.flatMap_cons, List.length_append, List.length_cons]
    omega
theorem flat_len2 (f : List Wd → List Int) (hf : ∀ p, (f p).length ≤ 128) (ps : List (List Wd)) : (ps.flatMap f).length ≤ 128 * ps.length := by
  induction ps with
  | nil => simp
  | cons p ps ih =>
    have := hf p
    simp only [List.flatMap_cons, List.length_append, List.length_cons]
    omega
theorem fold_len (T : Tr) (hT : ∀ p, (idsAt T p).length ≤ 64) (ws : List Wd) : ∀ k, k ≤ ws.length → (((ws.take k).foldl (goF T) ([[]], [])).1.length ≤ 2 ^ k ∧ ((ws.take k).foldl (goF T) ([[]], [])).2.length ≤ 64 * 2 ^ k) := by
  intro k
  induction k with
  | zero => intro _; simp
  | succ k ih =>
    intro hk
    obtain ⟨h1, h2⟩ := ih (by omega)
    rw [List.take_succ_eq_append_getElem (by omega), List.foldl_append, List.foldl_cons, List.foldl_nil]
    have h3 := step_len T (ws[k]) (((ws.take k).foldl (goF T) ([[]], [])).1)
    have h4 := flat_len (opens T) (fun p => hT _) (((ws.take k).foldl (goF T) ([[]], [])).1)
    simp only [goF, List.length_append, Nat.pow_succ]
    omega
theorem FdS.other {n0 : Nat} {w1 W W' : World} {T : Tr} {ps : List (List Wd)} {acc : List Int} {vi vh : Value} (h : FdS n0 w1 W T ps acc vi vh) (hb : Below n0 W W') (hk : ∀ b, b < W.heap.size → (b = n0 ∨ b = n0 + 2 ∨ vi.ownBlock = some b ∨ vh.ownBlock = some b) → W'.heap[b]? = W.heap[b]?) : FdS n0 w1 W' T ps acc vi vh :=
  ⟨h.below.trans hb, Nat.le_trans h.size hb.size, (hk _ (lt_of_some h.b5) (.inl rfl)).trans h.b5, (hk _ (lt_of_some h.b6) (.inr (.inl rfl))).trans h.b6, own_on h.ids (fun b e => by
    obtain ⟨cur, hc⟩ := own_row h.ids e
    exact hk b (lt_of_some hc) (.inr (.inr (.inl e)))), own_on h.here (fun b e => by
    obtain ⟨cur, hc⟩ := own_row h.here e
    exact hk b (lt_of_some hc) (.inr (.inr (.inr e)))), h.farI, h.farH, h.dom⟩
theorem rd_two (w : World) (x y : Value) : To.RdV (w.alloc (.cells #[x, y] 47)) (.slice (some ⟨w.heap.size, 0, none⟩) 2 2) [x, y] := by
  refine .inr (.inr ⟨w.heap.size, 0, 2, rfl, Nat.le_refl _, fun j hj => ?_⟩)
  have := (MapKept.heap_alloc w (.cells #[x, y] 47)).1
  unfold World.cell?
  rw [this]
  match j, hj with
  | 0, _ => rfl
  | 1, _ => rfl
/-- What lies behind the beginnings of Find. -/
def fdW (w : World) (q : Nat) (s : List UInt8) : World := (((((w.alloc (.cells #[.slice none 0 0] 28)).alloc (.cells #[.pointer (some ⟨q, 0, none⟩)] 47)).alloc (.cells #[.slice (some ⟨w.heap.size + 1, 0, none⟩) 1 1] 61)).alloc (.cells #[str s] 9)).alloc (.cells #[str [46]] 9)).alloc (.cells #[.int .i64 0] 3)
theorem fdW_size (w : World) (q : Nat) (s : List UInt8) : (fdW w q s).heap.size = w.heap.size + 6 := by simp only [fdW, World.size_alloc]
theorem fdW_new (w : World) {T : Tr} {nd : Nd} (hr : T [] = some nd) (s : List UInt8) : FdS w.heap.size w (fdW w nd.q s) T [[]] [] (.slice none 0 0) (.slice (some ⟨w.heap.size + 1, 0, none⟩) 1 1) ∧ SqC s (w.heap.size + 4) (w.heap.size + 3) (w.heap.size + 5) 0 (fdW w nd.q s) := by
  have hs := fdW_size w nd.q s
  have hrow : (fdW w nd.q s).heap[w.heap.size + 1]? = some (.cells #[.pointer (some ⟨nd.q, 0, none⟩)] 47 (0, 0)) := by
    unfold fdW
    simp only [alloc_at', World.size_alloc]
    repeat (first | rw [if_pos (by omega)] | rw [if_neg (by omega)])
    exact if_pos trivial
  refine ⟨⟨?_, by omega, ?_, ?_, To.OwnV.nil _ _ _, ⟨rfl, .inr ⟨w.heap.size + 1, 1, _, rfl, by omega, hrow, Nat.le_refl _, by decide, rfl, ?_⟩⟩, fun b hb => (by cases hb), fun b hb => ?_, fun p hp => ?_⟩, ?_, ?_, ?_⟩
  · unfold fdW
    exact ((((((Below.refl _ w).alloc (Nat.le_refl _) _).alloc (by simp only [World.size_alloc]; omega) _).alloc (by simp only [World.size_alloc]; omega) _).alloc (by simp only [World.size_alloc]; omega) _).alloc (by simp only [World.size_alloc]; omega) _).alloc (by simp only [World.size_alloc]; omega) _
  · unfold fdW
    simp only [alloc_at', World.size_alloc]
    repeat (first | rw [if_pos (by omega)] | rw [if_neg (by omega)])
    try rfl
  · unfold fdW
    simp only [alloc_at', World.size_alloc]
    repeat (first | rw [if_pos (by omega)] | rw [if_neg (by omega)])
    exact if_pos trivial
  · simp [hpT, hr, ptrO]
  · injection hb with hb
    exact .inl hb.symm
  · simp only [List.mem_singleton] at hp
    rw [hp, hr]
    simp
  all_goals
    unfold fdW
    simp only [alloc_at', World.size_alloc]
    repeat (first | rw [if_pos (by omega)] | rw [if_neg (by omega)])
    try rfl
set_option maxHeartbeats 2000000 in
theorem find_any (w : World) (X : Nat → Prop) (t N : Nat) (l : List Pr) (h : PT w X t N l) (hv : To.Vars w) (s : List UInt8) : Calls Tryz.prog 15 #[.pointer (some ⟨t, 0, none⟩), str s] w (FindOk w l s) := by
  have hg := To.good_any w hv s
  cases hgd : good s with
  | false =>
    rw [hgd] at hg
    have HE : Hid (∀ w', Below w.heap.size w w' → FindOk w l s (.returned (.slice none 0 0)) w') := fun w' hb => ⟨_, rfl, by rw [find_bad l s hgd]; exact To.OwnV.nil _ _ _, hb⟩
    clear h hgd
    generalize FindOk w l s = R at *
    simp only [str]
    refine calls_of_wpF Tryz.func15 rfl ?_
    simp only [Tryz.ntmps15, List.size_toArray, List.length_cons, List.length_nil, Nat.reduceAdd, Nat.reduceSub, Array.replicate_succ, Array.replicate_zero, List.push_toArray, List.append_toArray, List.nil_append, List.cons_append]
    refine wpF_seq (wpF_of_wp ?_)
    go_wp2
    refine wpF_seq (wpF_of_wp ?_)
    go_wp2_with (go_at_call 30; refine hg.mono ?_; rintro e w1 ⟨rfl, hb⟩)
    refine .inr ⟨rfl, .slice none 0 0, by simp [results, Tryz.results15, go_sem], ?_⟩
    exact HE.out _ hb
  | true =>
    rw [hgd] at hg
    obtain ⟨T, nd, hPT, rfl⟩ := h
    have HT : Hid (PTT w t N T nd l) := hPT
    have c0 : w.cell? ⟨t, 0, none⟩ = some (.pointer (some ⟨nd.q, 0, none⟩)) := (cell_1 hPT.cell).1
    clear hPT
    generalize hR : FindOk w l s = R
    have HR : Hid (FindOk w l s = R) := hR
    clear hR
    simp only [str]
    refine calls_of_wpF Tryz.func15 rfl ?_
    simp only [Tryz.ntmps15, List.size_toArray, List.length_cons, List.length_nil, Nat.reduceAdd, Nat.reduceSub, Array.replicate_succ, Array.replicate_zero, List.push_toArray, List.append_toArray, List.nil_append, List.cons_append]
    refine wpF_seq (wpF_of_wp ?_)
    go_wp2
    refine wpF_seq (wpF_of_wp ?_)
    go_wp2_with fail
    refine hg.mono ?_
    rintro e w1 ⟨rfl, hb1⟩
    have c1 : w1.cell? ⟨t, 0, none⟩ = some (.pointer (some ⟨nd.q, 0, none⟩)) := (hb1.cell (p := ⟨t, 0, none⟩) (World.block_lt_of_cell? w _ c0)).trans c0
    have c1a : (w1.alloc (.cells #[.slice none 0 0] 28)).cell? ⟨t, 0, none⟩ = some (.pointer (some ⟨nd.q, 0, none⟩)) := by
      have hbA : Below w1.heap.size w1 (w1.alloc (.cells #[.slice none 0 0] 28)) := (Below.refl _ _).alloc (Nat.le_refl _) _
      exact (hbA.cell (p := ⟨t, 0, none⟩) (World.block_lt_of_cell? w1 _ c1)).trans c1
    have hSp := split_w (((w1.alloc (.cells #[.slice none 0 0] 28)).alloc (.cells #[.pointer (some ⟨nd.q, 0, none⟩)] 47)).alloc (.cells #[.slice (some ⟨w1.heap.size + 1, 0, none⟩) 1 1] 61)) s
    simp only [World.size_alloc, str] at hSp
    go_wp2
    refine wpF_seq (wpF_of_wp ?_)
    go_wp2
    refine wpF_seq (wpF_of_wp ?_)
    go_wp2
    refine wpF_seq (wpF_seq (wpF_of_wp ?_))
    go_wp2_with (go_at_call 31; refine hSp.mono ?_; rintro e w2 ⟨rfl, hw2⟩)
    simp only [Nat.add_assoc, Nat.reduceAdd]
    have hT1 := HT.out.tr.below hb1
    obtain ⟨hN1, hN2⟩ := fdW_new w1 HT.out.root s
    have hsz := fdW_size w1 nd.q s
    show wpF Tryz.prog 15 _ _ _ (fdW w1 nd.q s)
    clear hw2 hSp c1a c1
    obtain ⟨n0, hn0⟩ : ∃ n0, w1.heap.size = n0 := ⟨_, rfl⟩
    have HN0 : Hid (n0 = w1.heap.size) := hn0.symm
    have HT1 : Hid (TrW w1 N T) := hT1
    have HB1 : Hid (Below w.heap.size w w1) := hb1
    rw [hn0] at hN1 hN2 hsz ⊢
    have H1 : Hid (FdS n0 w1 (fdW w1 nd.q s) T [[]] [] (.slice none 0 0) (.slice (some ⟨n0 + 1, 0, none⟩) 1 1)) := hN1
    have H2 : Hid (SqC s (n0 + 4) (n0 + 3) (n0 + 5) 0 (fdW w1 nd.q s)) := hN2
    clear hN1 hN2 hn0 hT1 hb1
    generalize fdW w1 nd.q s = W0 at *
    have hsl := (good_nums hgd)
    have hsw := good_words hgd
    refine wpF_block (wpF_range rfl (enters_of Tryz.func77 (by kernel_rfl) rfl) (split_iter idx_dot s (n0 + 4) (n0 + 3) (n0 + 5) (by omega) (by omega)) (fun _ => rfl)
      (fun k W => ∃ vi vh, FdS n0 w1 W T (((wordsL s).take k).foldl (goF T) ([[]], [])).1 (((wordsL s).take k).foldl (goF T) ([[]], [])).2 vi vh ∧ n0 + 8 ≤ W.heap.size) (fun _ => False) ?hZ ?hI ?hX ?hC ?h0
      (fun k => { tmps := #[.pointer (some ⟨t, 0, none⟩), .string ⟨s.toArray⟩, undef, undef, .slice none 0 0, .pointer (some ⟨n0, 0, none⟩), .pointer (some ⟨n0 + 2, 0, none⟩), str ((wordsL s).getD k []), undef, undef, undef, undef, undef, .pointer (some ⟨t, 0, none⟩), .bool false, .bool false, .string ⟨s.toArray⟩, .bool true, .bool false, .bool false, .pointer (some ⟨t, 0, none⟩), .pointer (some ⟨t, 0, none⟩), .pointer (some ⟨t, 0, none⟩), .pointer (some ⟨nd.q, 0, none⟩), .slice (some ⟨n0 + 1, 0, none⟩) 1 1, .string ⟨s.toArray⟩, .func (.func 77) #[] #[.pointer (some ⟨n0 + 4, 0, none⟩), .pointer (some ⟨n0 + 3, 0, none⟩), .pointer (some ⟨n0 + 5, 0, none⟩)], str ((wordsL s).getD k []), undef, undef, undef, undef, undef, undef, undef, undef, undef, undef, undef, undef, undef, undef, undef, undef, undef, undef, undef, undef, undef, undef, undef, undef, undef, undef, undef, undef, undef, undef, undef, undef, undef, undef, undef, undef, undef, undef, undef, undef, undef, undef, undef, undef, undef, undef, undef, undef], defers := [] }) ?assign ?body ?done ?stop)
    case hZ => intro b hb; omega
    case hI =>
      rintro k A B ⟨vi, vh, h1, h2⟩ hc
      exact ⟨vi, vh, h1.chg hc (fun b hb => by omega), by rw [hc.size]; exact h2⟩
    case hX =>
      rintro A B h1 hc
      exact h1
    case hC =>
      rintro k A B hc hb
      exact ⟨(hb _ (by omega)).trans hc.s, (hb _ (by omega)).trans hc.p, (hb _ (by omega)).trans hc.v⟩
    case h0 =>
      intro W hb hs
      refine ⟨⟨.slice none 0 0, .slice (some ⟨n0 + 1, 0, none⟩) 1 1, ?_, by omega⟩, ?_⟩
      · rw [List.take_zero, List.foldl_nil]
        have h3 := H1.out
        refine ⟨h3.below.trans (hb.mono (by omega)), by omega, (hb.block _ (by omega)).trans h3.b5, (hb.block _ (by omega)).trans h3.b6, own_on h3.ids (fun b hb' => by cases hb'), own_on h3.here (fun b hb' => hb.block b (by
          have h9 : n0 + 1 = b := by injection hb'
          omega)), h3.farI, h3.farH, h3.dom⟩
      · exact ⟨(hb.block _ (by omega)).trans H2.out.s, (hb.block _ (by omega)).trans H2.out.p, (hb.block _ (by omega)).trans H2.out.v⟩
    case assign =>
      intro lo k W K hK
      simp only [str] at hK ⊢
      gi_wp2
      exact hK
    case body =>
      rintro lo k W hk ⟨vi, vh, hS, _⟩ hC ⟨rc, hL⟩
      have hTW := hS.tr HN0.out HT1.out
      have hgd2 : (wordsL s).getD k [] = (wordsL s)[k] := by rw [List.getD_eq_getElem?_getD, List.getElem?_eq_getElem hk]; rfl
      have hfl := fold_len T (open_few HT1.out) (wordsL s) k (by omega)
      have hp2 : 2 ^ k ≤ 128 := by
        have : k ≤ 7 := by omega
        calc 2 ^ k ≤ 2 ^ 7 := Nat.pow_le_pow_right (by omega) this
          _ = 128 := rfl
      have HNX : Hid ((((wordsL s).take (k + 1)).foldl (goF T) ([[]], [])) = goF T (((wordsL s).take k).foldl (goF T) ([[]], [])) ((wordsL s).getD k [])) := by
        show _ = _
        rw [hgd2, List.take_succ_eq_append_getElem hk, List.foldl_append, List.foldl_cons, List.foldl_nil]
      have hwl : ((wordsL s).getD k []).length ≤ maxLen := by
        rw [hgd2]
        have := words_len_le s _ (List.getElem_mem hk)
        unfold maxLen
        omega
      obtain ⟨st, hst⟩ : ∃ st, ((wordsL s).take k).foldl (goF T) ([[]], []) = st := ⟨_, rfl⟩
      rw [hst] at hS hfl HNX
      obtain ⟨ps, acc⟩ := st
      simp only at hS hfl
      have HNX2 : Hid ((((wordsL s).take (k + 1)).foldl (goF T) ([[]], [])) = (stepP T ((wordsL s).getD k []) ps, acc ++ ps.flatMap (opens T))) := HNX.out
      have hL8 : n0 + 8 ≤ W.heap.size := by have := lt_of_some hL; omega
      have hpl : ps.length ≤ 128 := by omega
      have hal : acc.length ≤ 8192 := by omega
      clear hfl hp2 HNX hst hgd2
      obtain ⟨wd, hwd⟩ : ∃ wd, (wordsL s).getD k [] = wd := ⟨_, rfl⟩
      rw [hwd] at HNX2 hwl
      simp only [hwd]
      clear hwd
      obtain ⟨ah, ch, hvh, hch⟩ := hS.here.len
      have hhl : (hpT T ps).length = ps.length := by simp [hpT]
      rw [hhl] at hvh hch
      subst hvh
      have c6 := (cell_1 hS.b6).1
      have HC : Hid (SqC s (n0 + 4) (n0 + 3) (n0 + 5) k W) := hC
      have HS : Hid (FdS n0 w1 W T ps acc vi (.slice ah ps.length ch)) := hS
      clear hC hS hTW
      simp only [str]
      gi_wp2
      gi_loopw [30, 8] (fun i vb wr => ∃ j : Nat, j ≤ ps.length ∧ i = .int .i64 (j : Int) ∧ ∃ vi', FdS n0 w1 wr T ps (acc ++ (ps.take j).flatMap (opens T)) vi' (.slice ah ps.length ch) ∧ To.OwnV 47 wr W.heap.size vb (hpT T ((ps.take j).flatMap (fun p => [p ++ [wd], p ++ [[42]]]))) ∧ wr.heap[n0 + 6]? = W.heap[n0 + 6]? ∧ wr.heap[n0 + 7]? = W.heap[n0 + 7]? ∧ SqC s (n0 + 4) (n0 + 3) (n0 + 5) k wr ∧ W.heap.size ≤ wr.heap.size) (fun i _ _ => ps.length - (intOf i).toNat)
      case atStart => exact ⟨0, Nat.zero_le _, rfl, vi, by rw [List.take_zero, List.flatMap_nil, List.append_nil]; exact HS.out, To.OwnV.nil _ _ _, rfl, rfl, HC.out, Nat.le_refl _⟩
      case round =>
        obtain ⟨j, hj, rfl, vi', hS2, hO2, hd1, hd2, hC2, hsz2⟩ := hrel
        by_cases hjm : j < ps.length
        · obtain ⟨nj, hnj⟩ : ∃ nj, T ps[j] = some nj := by
            cases e : T ps[j] with
            | none => exact absurd e (hS2.dom _ (List.getElem_mem hjm))
            | some n => exact ⟨n, rfl⟩
          have hTr := hS2.tr HN0.out HT1.out
          obtain ⟨gh, cph, hgh, _⟩ : ∃ gh cph, Value.slice ah ps.length ch = .slice (some ⟨gh, 0, none⟩) ps.length cph ∧ wr.cell? ⟨gh, j, none⟩ = some (ptrO (some nj.q)) := by
            obtain ⟨_, ⟨e1, e2⟩ | ⟨g, cap, cur, e1, e2, e3, e4, e5, e6, e7⟩⟩ := hS2.here
            · rw [hhl] at e2
              omega
            · rw [hhl] at e1 e7
              refine ⟨g, cap, e1, ?_⟩
              have : cur.toList[j]? = some (ptrO (some nj.q)) := by
                rw [← List.getElem?_take_of_lt (show j < ps.length * 1 by omega), e7]
                simp [hpT, hjm, hnj]
              unfold World.cell?
              rw [e3]
              simpa using this
          have hah : ah = some ⟨gh, 0, none⟩ ∧ cph = ch := by injection hgh with h9 _ h10; exact ⟨h9, h10.symm⟩
          obtain ⟨rfl, rfl⟩ := hah
          rename_i hcj
          simp only [ptrO] at hcj
          have c5 := (cell_1 hS2.b5).1
          have f5 := (cell_1 hS2.b5).2
          obtain ⟨vo, hvo⟩ : ∃ vo, (match T (ps[j] ++ [[35]]) with | some c => c.v | none => Value.slice none 0 0) = vo := ⟨_, rfl⟩
          have HRO : Hid (∀ W', TrW W' N T → To.RdV W' vo (ints (opens T ps[j]))) := fun W' h9 => by rw [← hvo]; exact rd_open h9 ps[j]
          have HOP : Hid (∀ W', TrW W' N T → Calls Tryz.prog 32 #[.pointer (some ⟨nj.q, 0, none⟩)] W' fun e w' => e = .returned vo ∧ w' = W') := fun W' h9 => by rw [← hvo]; exact open_any W' h9 hnj
          have HOL : Hid ((opens T ps[j]).length ≤ 64) := open_few HT1.out _
          have HNJ : Hid (T ps[j] = some nj) := hnj
          obtain ⟨a1, ha1⟩ : ∃ a1, ptrO ((T (ps[j] ++ [wd])).map Nd.q) = .pointer a1 := by cases (T (ps[j] ++ [wd])).map Nd.q <;> exact ⟨_, rfl⟩
          obtain ⟨a2, ha2⟩ : ∃ a2, ptrO ((T (ps[j] ++ [[42]])).map Nd.q) = .pointer a2 := by cases (T (ps[j] ++ [[42]])).map Nd.q <;> exact ⟨_, rfl⟩
          have HA1 : Hid (ptrO ((T (ps[j] ++ [wd])).map Nd.q) = .pointer a1 ∧ ptrO ((T (ps[j] ++ [[42]])).map Nd.q) = .pointer a2) := ⟨ha1, ha2⟩
          have HS2 : Hid (FdS n0 w1 wr T ps (acc ++ (ps.take j).flatMap (opens T)) vi' (.slice (some ⟨gh, 0, none⟩) ps.length cph)) := hS2
          have HO2 : Hid (To.OwnV 47 wr W.heap.size u8 (hpT T ((ps.take j).flatMap (fun p => [p ++ [wd], p ++ [[42]]])))) := hO2
          have HC2 : Hid (SqC s (n0 + 4) (n0 + 3) (n0 + 5) k wr) := hC2
          have HTr : Hid (TrW wr N T) := hTr
          have Hd : Hid (wr.heap[n0 + 6]? = W.heap[n0 + 6]? ∧ wr.heap[n0 + 7]? = W.heap[n0 + 7]?) := ⟨hd1, hd2⟩
          have hmix : Tryz.prog.follows .mixedOrders = true := by kernel_rfl
          clear hS2 hO2 hC2 hTr hd1 hd2 hvo hnj hgh ha1 ha2 c6
          gi_wp2
          rename_i Q0 K0 hK0
          refine region_in_round (S := fun W' => TrW W' N T) hmix (by kernel_rfl) ?_ ?_
          · rintro ⟨a0, w0, h9⟩
            obtain ⟨_, ⟨h8, _⟩ | ⟨h8, _⟩⟩ := h9 <;> cases h8
          have hSS : TrW wr.drew N T := HTr.out.on (fun _ _ => rfl)
          refine wpAnyH_take (i := 1) (v := .pointer (some ⟨nj.q, 0, none⟩)) rfl (by kernel_rfl) (by kernel_rfl) (by kernel_rfl) (fun _ _ _ h => h) (.inl ⟨by rfl, fun W' hW' => ?_⟩) hSS ?_
          · go_simp
          simp only [Act.put, List.getElem_toArray, List.getElem_cons_succ, List.getElem_cons_zero, List.setIfInBounds_toArray, List.set_cons_succ, List.set_cons_zero]
          refine wpAnyH_call (i := 2) (v := vo) rfl (by kernel_rfl) (by kernel_rfl) (by kernel_rfl) (fun _ _ _ h => h) ⟨by rfl, fun W' hW' => ⟨32, #[.pointer (some ⟨nj.q, 0, none⟩)], by go_simp, HOP.out W' hW'⟩⟩ hSS ?_
          simp only [Act.put, List.getElem_toArray, List.getElem_cons_succ, List.getElem_cons_zero, List.setIfInBounds_toArray, List.set_cons_succ, List.set_cons_zero]
          have d5 : wr.drew.cell? ⟨n0, 0, none⟩ = some vi' := c5
          refine wpAnyH_one (i := 0) (by kernel_rfl) rfl (by rfl) (fun K hK => ?_)
          go_simp
          refine hK _ _ hSS ?_
          clear hK K
          refine wpAnyH_one (i := 3) (by kernel_rfl) rfl (by rfl) (fun K hK => ?_)
          have hol : (ints (acc ++ (ps.take j).flatMap (opens T))).length + (ints (opens T ps[j])).length ≤ 1000000 := by
            have h9 := flat_len (opens T) (fun p => open_few HT1.out _) (ps.take j)
            have h8 := HOL.out
            simp only [ints, List.length_map, List.length_append, List.length_take] at h9 ⊢
            omega
          have hn0s : n0 ≤ wr.drew.heap.size := by have := HS2.out.size; show n0 ≤ wr.heap.size; omega
          refine wp_appV cI _ _ rfl n0 vi' vo (ints (acc ++ (ps.take j).flatMap (opens T))) (ints (opens T ps[j])) wr.drew rfl (own_on HS2.out.ids (fun _ _ => rfl)) rfl (HRO.out _ hSS) (fun u hu => ints_one _ u hu) hol hn0s ?_
          intro vi2 wa hoa hba hka hla
          have happ := FdS.app (W := wr) (Wa := wa) HS2.out (by omega) hoa ⟨hba.os, hba.tape, hba.output, hba.size, hba.block⟩ hka hla
          obtain ⟨av, cv, hav, hcv9⟩ := hoa.len
          clear hcv9
          obtain ⟨nv, hnv⟩ : ∃ nv, (ints (acc ++ (ps.take j).flatMap (opens T)) ++ ints (opens T ps[j])).length = nv := ⟨_, rfl⟩
          rw [hnv] at hav
          clear hnv
          have hTa : TrW wa N T := by
            refine HTr.out.on (fun b hb => hka b (HTr.out.lt hb) (fun e => ?_))
            have h8 := HT1.out.lt hb
            have h7 := HS2.out.farI b e
            have h6 := HN0.out
            omega
          have hca : wa.cell? ⟨n0, 0, none⟩ = some vi' := by
            have h9 := hka n0 (by have := HS2.out.size; show n0 < wr.heap.size; omega) (fun e => by have := HS2.out.farI _ e; omega)
            rw [← c5]
            unfold World.cell?
            rw [h9]
            rfl
          have hfa : wa.frozen? ⟨n0, 0, none⟩ = false := by
            have h9 := hka n0 (by have := HS2.out.size; show n0 < wr.heap.size; omega) (fun e => by have := HS2.out.farI _ e; omega)
            rw [← f5]
            unfold World.frozen?
            rw [h9]
            rfl
          subst hav
          refine hK _ _ hTa ?_
          clear hK K
          simp only [Act.put, List.getElem_toArray, List.getElem_cons_succ, List.getElem_cons_zero, List.setIfInBounds_toArray, List.set_cons_succ, List.set_cons_zero]
          refine wpAnyH_one (i := 4) (by kernel_rfl) rfl (by rfl) (fun K hK => ?_)
          obtain ⟨w5, hw5⟩ : ∃ w5, w5 = wa.setCell ⟨n0, 0, none⟩ (.slice av nv cv) := ⟨_, rfl⟩
          rw [← hw5] at happ
          have hT5 : TrW w5 N T := happ.1.tr HN0.out HT1.out
          go_simp
          rw [← hw5]
          refine hK _ _ hT5 ?_
          clear hK K
          refine wpAnyH_done (by kernel_rfl) ?_ _
          refine hK0 _ _ ?_
          clear hK0 K0
          have HAP : Hid _ := happ
          have hsz5 : W.heap.size ≤ w5.heap.size := by
            rw [hw5]
            have h9 : wr.heap.size ≤ wa.heap.size := hba.size
            simp
            omega
          clear happ hoa hba hka hla hca hfa hTa hw5 hol hn0s hSS d5 c5 f5
          gi_wp2
          refine region_in_round (S := fun W' => TrW W' N T) hmix (by kernel_rfl) ?_ ?_
          · rintro ⟨a0, w0, h9⟩
            obtain ⟨_, ⟨h8, _⟩ | ⟨h8, _⟩⟩ := h9 <;> cases h8
          have hSS : TrW w5.drew N T := hT5.on (fun _ _ => rfl)
          have ha1 := HA1.out.1
          have ha2 := HA1.out.2
          refine wpAnyH_take (i := 0) (v := u8) rfl (by kernel_rfl) (by kernel_rfl) (by kernel_rfl) (fun _ _ _ h => h) (.inl ⟨by rfl, fun W' hW' => ?_⟩) hSS ?_
          · skip
            go_simp
          simp only [Act.put, List.getElem_toArray, List.getElem_cons_zero, List.setIfInBounds_toArray, List.set_cons_succ, List.set_cons_zero]
          refine wpAnyH_take (i := 1) (v := .pointer (some ⟨nj.q, 0, none⟩)) rfl (by kernel_rfl) (by kernel_rfl) (by kernel_rfl) (fun _ _ _ h => h) (.inl ⟨by rfl, fun W' hW' => ?_⟩) hSS ?_
          · skip
            go_simp
          simp only [Act.put, List.getElem_toArray, List.getElem_cons_succ, List.getElem_cons_zero, List.setIfInBounds_toArray, List.set_cons_succ, List.set_cons_zero]
          refine wpAnyH_take (i := 2) (v := .pointer (some ⟨nj.q, 0, none⟩)) rfl (by kernel_rfl) (by kernel_rfl) (by kernel_rfl) (fun _ _ _ h => h) (.inl ⟨by rfl, fun W' hW' => ?_⟩) hSS ?_
          · skip
            go_simp
          simp only [Act.put, List.getElem_toArray, List.getElem_cons_succ, List.getElem_cons_zero, List.setIfInBounds_toArray, List.set_cons_succ, List.set_cons_zero]
          refine wpAnyH_take (i := 3) (v := .pointer (some ⟨nj.q, 0, none⟩)) rfl (by kernel_rfl) (by kernel_rfl) (by kernel_rfl) (fun _ _ _ h => h) (.inl ⟨by rfl, fun W' hW' => ?_⟩) hSS ?_
          · skip
            go_simp
          simp only [Act.put, List.getElem_toArray, List.getElem_cons_succ, List.getElem_cons_zero, List.setIfInBounds_toArray, List.set_cons_succ, List.set_cons_zero]
          refine wpAnyH_take (i := 4) (v := .map (some nj.m)) rfl (by kernel_rfl) (by kernel_rfl) (by kernel_rfl) (fun _ _ _ h => h) (.inl ⟨by rfl, fun W' hW' => ?_⟩) hSS ?_
          · have u1 := (cell_q (hW'.at' _ nj HNJ.out).cells).1
            go_simp
          simp only [Act.put, List.getElem_toArray, List.getElem_cons_succ, List.getElem_cons_zero, List.setIfInBounds_toArray, List.set_cons_succ, List.set_cons_zero]
          refine wpAnyH_take (i := 5) (v := .string ⟨wd.toArray⟩) rfl (by kernel_rfl) (by kernel_rfl) (by kernel_rfl) (fun _ _ _ h => h) (.inl ⟨by rfl, fun W' hW' => ?_⟩) hSS ?_
          · skip
            go_simp
          simp only [Act.put, List.getElem_toArray, List.getElem_cons_succ, List.getElem_cons_zero, List.setIfInBounds_toArray, List.set_cons_succ, List.set_cons_zero]
          refine wpAnyH_take (i := 6) (v := .pointer a1) rfl (by kernel_rfl) (by kernel_rfl) (by kernel_rfl) (fun _ _ _ h => h) (.inl ⟨by rfl, fun W' hW' => ?_⟩) hSS ?_
          · have u2 := (hW'.at' _ nj HNJ.out).map.look hwl; rw [ha1] at u2; simp only [str] at u2
            go_simp
          simp only [Act.put, List.getElem_toArray, List.getElem_cons_succ, List.getElem_cons_zero, List.setIfInBounds_toArray, List.set_cons_succ, List.set_cons_zero]
          refine wpAnyH_take (i := 7) (v := .pointer (some ⟨nj.q, 0, none⟩)) rfl (by kernel_rfl) (by kernel_rfl) (by kernel_rfl) (fun _ _ _ h => h) (.inl ⟨by rfl, fun W' hW' => ?_⟩) hSS ?_
          · skip
            go_simp
          simp only [Act.put, List.getElem_toArray, List.getElem_cons_succ, List.getElem_cons_zero, List.setIfInBounds_toArray, List.set_cons_succ, List.set_cons_zero]
          refine wpAnyH_take (i := 8) (v := .pointer (some ⟨nj.q, 0, none⟩)) rfl (by kernel_rfl) (by kernel_rfl) (by kernel_rfl) (fun _ _ _ h => h) (.inl ⟨by rfl, fun W' hW' => ?_⟩) hSS ?_
          · skip
            go_simp
          simp only [Act.put, List.getElem_toArray, List.getElem_cons_succ, List.getElem_cons_zero, List.setIfInBounds_toArray, List.set_cons_succ, List.set_cons_zero]
          refine wpAnyH_take (i := 9) (v := .pointer (some ⟨nj.q, 0, none⟩)) rfl (by kernel_rfl) (by kernel_rfl) (by kernel_rfl) (fun _ _ _ h => h) (.inl ⟨by rfl, fun W' hW' => ?_⟩) hSS ?_
          · skip
            go_simp
          simp only [Act.put, List.getElem_toArray, List.getElem_cons_succ, List.getElem_cons_zero, List.setIfInBounds_toArray, List.set_cons_succ, List.set_cons_zero]
          refine wpAnyH_take (i := 10) (v := .map (some nj.m)) rfl (by kernel_rfl) (by kernel_rfl) (by kernel_rfl) (fun _ _ _ h => h) (.inl ⟨by rfl, fun W' hW' => ?_⟩) hSS ?_
          · have u1 := (cell_q (hW'.at' _ nj HNJ.out).cells).1
            go_simp
          simp only [Act.put, List.getElem_toArray, List.getElem_cons_succ, List.getElem_cons_zero, List.setIfInBounds_toArray, List.set_cons_succ, List.set_cons_zero]
          refine wpAnyH_take (i := 11) (v := .pointer a2) rfl (by kernel_rfl) (by kernel_rfl) (by kernel_rfl) (fun _ _ _ h => h) (.inl ⟨by rfl, fun W' hW' => ?_⟩) hSS ?_
          · have u2 := (hW'.at' _ nj HNJ.out).map.look (k := [42]) (by decide); rw [ha2] at u2; simp only [str] at u2
            go_simp
          simp only [Act.put, List.getElem_toArray, List.getElem_cons_succ, List.getElem_cons_zero, List.setIfInBounds_toArray, List.set_cons_succ, List.set_cons_zero]
          refine wpAnyH_one (i := 12) (by kernel_rfl) rfl (by rfl) (fun K hK => ?_)
          go_simp
          obtain ⟨w6, hw6⟩ : ∃ w6, w6 = (w5.alloc (.cells #[.pointer a1, .pointer a2] 47)).drew := ⟨_, rfl⟩
          rw [← hw6]
          have hb6 : Below w5.heap.size w5 w6 := by
            rw [hw6]
            have h9 : Below w5.heap.size w5 (w5.alloc (.cells #[.pointer a1, .pointer a2] 47)) := (Below.refl _ _).alloc (Nat.le_refl _) _
            exact ⟨h9.os, h9.tape, h9.output, h9.size, h9.block⟩
          have hT6 : TrW w6 N T := hT5.below hb6
          have hrd6 : To.RdV w6 (.slice (some ⟨w5.heap.size, 0, none⟩) 2 2) [.pointer a1, .pointer a2] := by
            rw [hw6]
            have h9 := rd_two w5 (.pointer a1) (.pointer a2)
            rcases h9 with h9 | h9 | ⟨b, o, c, e1, e2, e3⟩
            · exact .inl h9
            · exact .inr (.inl h9)
            · exact .inr (.inr ⟨b, o, c, e1, e2, e3⟩)
          have hF5 := HAP.out.1
          have hK5 := HAP.out.2
          have hO5 : To.OwnV 47 w5 W.heap.size u8 (hpT T ((ps.take j).flatMap (fun p => [p ++ [wd], p ++ [[42]]]))) := own_on HO2.out (fun b e => by
            obtain ⟨cur, hc⟩ := own_row HO2.out e
            refine hK5 b (lt_of_some hc) (fun e9 => ?_) (own_apart HO2.out HS2.out.ids (by decide) e)
            have := own_ge HO2.out e
            omega)
          have hO6 : To.OwnV 47 w6 W.heap.size u8 (hpT T ((ps.take j).flatMap (fun p => [p ++ [wd], p ++ [[42]]]))) := own_on hO5 (fun b e => by
            obtain ⟨cur, hc⟩ := own_row hO5 e
            exact hb6.block b (lt_of_some hc))
          refine hK _ _ hT6 ?_
          clear hK K hw6
          refine wpAnyH_one (i := 13) (by kernel_rfl) rfl (by rfl) (fun K hK => ?_)
          have hfl2 : ((ps.take j).flatMap (fun p => [p ++ [wd], p ++ [[42]]])).length ≤ 2 * ps.length := by
            have h9 : ∀ qs : List (List Wd), (qs.flatMap (fun p => [p ++ [wd], p ++ [[42]]])).length = 2 * qs.length := fun qs => by
              induction qs with
              | nil => rfl
              | cons q qs ih => simp only [List.flatMap_cons, List.length_append, List.length_cons, List.length_nil, ih]; omega
            rw [h9, List.length_take]
            omega
          have hlen9 : (hpT T ((ps.take j).flatMap (fun p => [p ++ [wd], p ++ [[42]]]))).length + ([.pointer a1, .pointer a2] : List Value).length ≤ 1000000 := by
            have h9 : (hpT T ((ps.take j).flatMap (fun p => [p ++ [wd], p ++ [[42]]]))).length = ((ps.take j).flatMap (fun p => [p ++ [wd], p ++ [[42]]])).length := by simp only [hpT, List.length_map]
            rw [h9]
            simp only [List.length_cons, List.length_nil]
            omega
          refine wp_appV cN _ _ rfl W.heap.size u8 (.slice (some ⟨w5.heap.size, 0, none⟩) 2 2) _ [.pointer a1, .pointer a2] w6 rfl hO6 rfl hrd6 (fun u hu => by simp at hu; rcases hu with rfl | rfl <;> rfl) hlen9 (Nat.le_trans hsz5 hb6.size) ?_
          intro vb2 wb hob hbb hkb hlb
          have hTb : TrW wb N T := hT6.on (fun b hb => hbb.block b (by
            have h8 := HT1.out.lt hb
            have h6 := HN0.out
            omega))
          obtain ⟨ab, cb, hab, hcb9⟩ := hob.len
          clear hcb9
          obtain ⟨nb, hnb⟩ : ∃ nb, (hpT T ((ps.take j).flatMap (fun p => [p ++ [wd], p ++ [[42]]])) ++ ([.pointer a1, .pointer a2] : List Value)).length = nb := ⟨_, rfl⟩
          rw [hnb] at hab
          clear hnb
          subst hab
          have HOB : Hid (To.OwnV 47 wb W.heap.size (.slice ab nb cb) (hpT T ((ps.take (j + 1)).flatMap (fun p => [p ++ [wd], p ++ [[42]]])))) := by
            have e9 : hpT T ((ps.take (j + 1)).flatMap (fun p => [p ++ [wd], p ++ [[42]]])) = hpT T ((ps.take j).flatMap (fun p => [p ++ [wd], p ++ [[42]]])) ++ ([.pointer a1, .pointer a2] : List Value) := by
              rw [List.take_succ_eq_append_getElem hjm]
              simp only [hpT, List.flatMap_append, List.flatMap_cons, List.flatMap_nil, List.append_nil, List.map_append, List.map_cons, List.map_nil, ha1, ha2]
            show To.OwnV 47 wb W.heap.size (.slice ab nb cb) _
            rw [e9]
            exact hob
          have HFB : Hid (FdS n0 w1 wb T ps (acc ++ (ps.take (j + 1)).flatMap (opens T)) (.slice av nv cv) (.slice (some ⟨gh, 0, none⟩) ps.length cph)) := by
            have e9 : acc ++ (ps.take (j + 1)).flatMap (opens T) = acc ++ (ps.take j).flatMap (opens T) ++ opens T ps[j] := by
              rw [List.take_succ_eq_append_getElem hjm]
              simp only [List.flatMap_append, List.flatMap_cons, List.flatMap_nil, List.append_nil, List.append_assoc]
            show FdS n0 w1 wb T ps _ _ _
            rw [e9]
            have hgl : gh < W.heap.size := by
              obtain ⟨cur, hc⟩ := own_row HS.out.here (b := gh) rfl
              exact lt_of_some hc
            have hb56 : Below n0 w5 w6 := hb6.mono (by have := HS2.out.size; omega)
            refine hF5.other (hb56.trans (hbb.mono (by omega))) (fun b hb5 hcase => ?_)
            have h6b := hb6.block b hb5
            rw [← h6b]
            refine hkb b (Nat.lt_of_lt_of_le hb5 hb6.size) (fun e => ?_)
            have hge := own_ge hO6 e
            rcases hcase with rfl | rfl | hc | hc
            · omega
            · omega
            · exact own_apart hO5 hF5.ids (by decide) e hc
            · have h9 : gh = b := by injection hc
              omega
          have HCB : Hid (SqC s (n0 + 4) (n0 + 3) (n0 + 5) k wb ∧ wb.heap[n0 + 6]? = W.heap[n0 + 6]? ∧ wb.heap[n0 + 7]? = W.heap[n0 + 7]?) := by
            have h9 : ∀ b, n0 + 3 ≤ b → b < n0 + 8 → wb.heap[b]? = wr.heap[b]? := fun b h1 h2 => by
              rw [hbb.block b (by omega), hb6.block b (by omega), hK5 b (by omega) (by omega) (fun e => by have := HS2.out.farI b e; omega)]
            have hc := HC2.out
            exact ⟨⟨(h9 _ (by omega) (by omega)).trans hc.s, (h9 _ (by omega) (by omega)).trans hc.p, (h9 _ (by omega) (by omega)).trans hc.v⟩, (h9 _ (by omega) (by omega)).trans Hd.out.1, (h9 _ (by omega) (by omega)).trans Hd.out.2⟩
          have HSB : Hid (W.heap.size ≤ wb.heap.size) := Nat.le_trans hsz5 (Nat.le_trans hb6.size hbb.size)
          refine hK _ _ hTb ?_
          clear hK K hob hbb hkb hlb hO5 hO6 hF5 hK5 hrd6 hfl2 hb6 hlen9
          simp only [Act.put, List.getElem_toArray, List.getElem_cons_succ, List.getElem_cons_zero, List.setIfInBounds_toArray, List.set_cons_succ, List.set_cons_zero]
          refine wpAnyH_one (i := 14) (by kernel_rfl) rfl (by rfl) (fun K hK => ?_)
          go_simp
          refine hK _ _ hTb ?_
          clear hK K
          refine wpAnyH_done (by kernel_rfl) ?_ _
          refine Q0 _ _ ?_
          gi_wp2
          refine ⟨⟨j + 1, by omega, by simp, _, HFB.out, HOB.out, HCB.out.2.1, HCB.out.2.2, HCB.out.1, HSB.out⟩, ?_⟩
          simp only [intOf]
          omega
        · obtain rfl : j = ps.length := by omega
          have c5 := (cell_1 hS2.b5).1
          have c6 := (cell_1 hS2.b6).1
          have f6 := (cell_1 hS2.b6).2
          rw [List.take_length] at hS2 hO2
          have hdl := delf_any wr W.heap.size u8 ((ps.flatMap (fun p => [p ++ [wd], p ++ [[42]]])).map (fun p => (T p).map Nd.q)) (by
            have h9 := hO2
            unfold To.OwnV hpT at h9
            rw [List.length_map] at h9 ⊢
            unfold ptrs
            rw [List.map_map]
            exact h9) (by
            rw [List.length_map]
            have h9 : ∀ qs : List (List Wd), (qs.flatMap (fun p => [p ++ [wd], p ++ [[42]]])).length = 2 * qs.length := fun qs => by
              induction qs with
              | nil => rfl
              | cons q qs ih => simp only [List.flatMap_cons, List.length_append, List.length_cons, List.length_nil, ih]; omega
            rw [h9]
            omega)
          have hflt : ((ps.flatMap (fun p => [p ++ [wd], p ++ [[42]]])).map (fun p => (T p).map Nd.q)).filter (·.isSome) = (stepP T wd ps).map (fun p => (T p).map Nd.q) := by
            unfold stepP
            rw [List.filter_map]
            congr 1
            apply List.filter_congr
            intro x _
            show ((T x).map Nd.q).isSome = (T x).isSome
            cases T x <;> rfl
          rw [hflt] at hdl
          have HS2 : Hid (FdS n0 w1 wr T ps (acc ++ ps.flatMap (opens T)) vi' (.slice ah ps.length ch)) := hS2
          have HO2 : Hid (To.OwnV 47 wr W.heap.size u8 (hpT T (ps.flatMap (fun p => [p ++ [wd], p ++ [[42]]])))) := hO2
          have HC2 : Hid (SqC s (n0 + 4) (n0 + 3) (n0 + 5) k wr) := hC2
          have Hd : Hid (wr.heap[n0 + 6]? = W.heap[n0 + 6]? ∧ wr.heap[n0 + 7]? = W.heap[n0 + 7]?) := ⟨hd1, hd2⟩
          clear hS2 hO2 hC2 hd1 hd2 hflt
          gi_wp2_with fail
          refine ⟨trivial, ?_⟩
          refine (CallsIn.inRound lo (callsIn_wide.2 hdl)).mono ?_
          rintro e w3 ⟨v3, rfl, hr3, hb3, hk3, hs3⟩
          have hO3 : To.OwnV 47 w3 W.heap.size v3 (hpT T (stepP T wd ps)) := by
            unfold To.OwnV hpT
            rw [List.length_map] at hr3 ⊢
            unfold ptrs at hr3
            rw [List.map_map] at hr3
            exact hr3
          obtain ⟨a3, c3, hv3, hv39⟩ := hO3.len
          clear hv39
          obtain ⟨n3, hn3⟩ : ∃ n3, (hpT T (stepP T wd ps)).length = n3 := ⟨_, rfl⟩
          rw [hn3] at hv3
          clear hn3
          subst hv3
          have hu8 : ∀ b, b < W.heap.size → w3.heap[b]? = wr.heap[b]? := fun b hb => hb3.block b hb
          have hF3 := HS2.out.other (hb3.mono (by omega)) (fun b hb hcase => hk3 b (fun e => by
            have hge := own_ge HO2.out e
            rcases hcase with rfl | rfl | hc | hc
            · omega
            · omega
            · exact own_apart HO2.out HS2.out.ids (by decide) e hc
            · obtain ⟨cur, hcu⟩ := own_row HS.out.here hc
              have := lt_of_some hcu
              omega))
          have k6 := (cell_1 hF3.b6).1
          have g6 := (cell_1 hF3.b6).2
          have hset : ∀ b, b ≠ n0 + 2 → (w3.setCell ⟨n0 + 2, 0, none⟩ (.slice a3 n3 c3)).heap[b]? = w3.heap[b]? := fun b hb => RowKit.Below.heap_setCell _ _ _ _ hb
          have HFE : Hid (FdS n0 w1 (w3.setCell ⟨n0 + 2, 0, none⟩ (.slice a3 n3 c3)) T (stepP T wd ps) (acc ++ ps.flatMap (opens T)) vi' (.slice a3 n3 c3)) := by
            refine ⟨hF3.below.setCell (p := ⟨n0 + 2, 0, none⟩) (by show n0 ≤ n0 + 2; omega) _, by simpa using hF3.size, (hset _ (by omega)).trans hF3.b5, ?_, own_on hF3.ids (fun b e => hset b (fun e9 => by have := hF3.farI b e; omega)), own_low (own_on hO3 (fun b e => hset b (fun e9 => by have := own_ge hO3 e; omega))) (by omega), hF3.farI, fun b e => .inr (by have := own_ge hO3 e; omega), fun p hp => ?_⟩
            · simp only [World.setCell, Array.getElem?_modify, if_pos, hF3.b6]
              simp
            · have := ((step_mem T wd ps p).1 hp).2
              intro e
              rw [e] at this
              cases this
          have HCE : Hid (∀ b, n0 + 3 ≤ b → b < n0 + 8 → (w3.setCell ⟨n0 + 2, 0, none⟩ (.slice a3 n3 c3)).heap[b]? = wr.heap[b]?) := fun b h1 h2 => (hset b (by omega)).trans (hu8 b (by omega))
          have HSE : Hid (n0 + 8 ≤ (w3.setCell ⟨n0 + 2, 0, none⟩ (.slice a3 n3 c3)).heap.size) := by
            show n0 + 8 ≤ _
            simp only [World.size_setCell]
            omega
          clear hdl hr3 hb3 hk3 hO3 hF3 hset hu8
          gi_wp2
          refine ⟨⟨(HCE.out _ (by omega) (by omega)).trans Hd.out.1, (HCE.out _ (by omega) (by omega)).trans Hd.out.2⟩, ⟨⟨vi', .slice a3 n3 c3, ?_⟩, by omega⟩, ?_⟩
          · rw [HNX2.out]
            exact HFE.out
          · have hc := HC2.out
            exact ⟨(HCE.out _ (by omega) (by omega)).trans hc.s, (HCE.out _ (by omega) (by omega)).trans hc.p, (HCE.out _ (by omega) (by omega)).trans hc.v⟩
    case done =>
      rintro W ⟨vi, vh, hS, hL7⟩ hD
      have HL7 : Hid (n0 + 8 ≤ W.heap.size) := hL7
      rw [List.take_length] at hS
      have hfl := fold_len T (open_few HT1.out) (wordsL s) (wordsL s).length (Nat.le_refl _)
      rw [List.take_length] at hfl
      have hp2 : 2 ^ (wordsL s).length ≤ 256 := by
        calc 2 ^ (wordsL s).length ≤ 2 ^ 8 := Nat.pow_le_pow_right (by omega) hsl.2
          _ = 256 := rfl
      have HFD : Hid (∀ z, z ∈ finF T ((wordsL s).foldl (goF T) ([[]], [])) ↔ z ∈ findP l s) := fun z => found_mem T l s hgd HT.out.tr.up HT.out.mem HT.out.pats (fun p hp => ⟨(HT.out.tr.ids_ne p hp).2, fun k hk => (HT.out.tr.words p (HT.out.tr.ids_ne p hp).1 k hk).2⟩) z
      obtain ⟨st, hst⟩ : ∃ st, (wordsL s).foldl (goF T) ([[]], []) = st := ⟨_, rfl⟩
      rw [hst] at hS hfl HFD
      obtain ⟨ps, acc⟩ := st
      simp only at hS hfl
      have hpl : ps.length ≤ 256 := by omega
      have hal : acc.length ≤ 16384 := by omega
      have hL8 : n0 + 6 < W.heap.size := by have := lt_of_some hD; omega
      clear hfl hp2 hst
      obtain ⟨ah, ch, hvh, hch⟩ := hS.here.len
      have hhl : (hpT T ps).length = ps.length := by simp [hpT]
      rw [hhl] at hvh hch
      subst hvh
      have c6 := (cell_1 hS.b6).1
      have HS : Hid (FdS n0 w1 W T ps acc vi (.slice ah ps.length ch)) := hS
      have HD : Hid (W.heap[n0 + 6]? = some (.deferred (some []))) := by
        have h9 := hD
        rw [hsz] at h9
        exact h9
      clear hS hD
      refine wpF_of_wp ?_
      go_wp2
      go_loopw [57] (fun i wr => ∃ j : Nat, j ≤ ps.length ∧ i = .int .i64 (j : Int) ∧ ∃ vi', FdS n0 w1 wr T ps (acc ++ (ps.take j).flatMap (fun p => idsAt T p ++ opens T p)) vi' (.slice ah ps.length ch) ∧ wr.heap[n0 + 6]? = some (.deferred (some [])) ∧ n0 + 8 ≤ wr.heap.size) (fun i _ => ps.length - (intOf i).toNat)
      case atStart => exact ⟨0, Nat.zero_le _, rfl, vi, by rw [List.take_zero, List.flatMap_nil, List.append_nil]; exact HS.out, HD.out, by have := HL7.out; omega⟩
      case round =>
        obtain ⟨j, hj, rfl, vi', hS2, hd1, hsz2⟩ := hrel
        by_cases hjm : j < ps.length
        · obtain ⟨nj, hnj⟩ : ∃ nj, T ps[j] = some nj := by
            cases e : T ps[j] with
            | none => exact absurd e (hS2.dom _ (List.getElem_mem hjm))
            | some n => exact ⟨n, rfl⟩
          have hTr := hS2.tr HN0.out HT1.out
          obtain ⟨gh, cph, hgh, hcj⟩ : ∃ gh cph, Value.slice ah ps.length ch = .slice (some ⟨gh, 0, none⟩) ps.length cph ∧ wr.cell? ⟨gh, j, none⟩ = some (ptrO (some nj.q)) := by
            obtain ⟨_, ⟨e1, e2⟩ | ⟨g, cap, cur, e1, e2, e3, e4, e5, e6, e7⟩⟩ := hS2.here
            · rw [hhl] at e2
              omega
            · rw [hhl] at e1 e7
              refine ⟨g, cap, e1, ?_⟩
              have : cur.toList[j]? = some (ptrO (some nj.q)) := by
                rw [← List.getElem?_take_of_lt (show j < ps.length * 1 by omega), e7]
                simp [hpT, hjm, hnj]
              unfold World.cell?
              rw [e3]
              simpa using this
          have hah : ah = some ⟨gh, 0, none⟩ ∧ cph = ch := by injection hgh with h9 _ h10; exact ⟨h9, h10.symm⟩
          obtain ⟨rfl, rfl⟩ := hah
          simp only [ptrO] at hcj
          have c5 := (cell_1 hS2.b5).1
          have f5 := (cell_1 hS2.b5).2
          obtain ⟨vo, hvo⟩ : ∃ vo, (match T (ps[j] ++ [[35]]) with | some c => c.v | none => Value.slice none 0 0) = vo := ⟨_, rfl⟩
          have HRO : Hid (∀ W', TrW W' N T → To.RdV W' vo (ints (opens T ps[j]))) := fun W' h9 => by rw [← hvo]; exact rd_open h9 ps[j]
          have HOP : Hid (∀ W', TrW W' N T → Calls Tryz.prog 32 #[.pointer (some ⟨nj.q, 0, none⟩)] W' fun e w' => e = .returned vo ∧ w' = W') := fun W' h9 => by rw [← hvo]; exact open_any W' h9 hnj
          have HNJ : Hid (T ps[j] = some nj) := hnj
          have HS2 : Hid (FdS n0 w1 wr T ps (acc ++ (ps.take j).flatMap (fun p => idsAt T p ++ opens T p)) vi' (.slice (some ⟨gh, 0, none⟩) ps.length cph)) := hS2
          have HTr : Hid (TrW wr N T) := hTr
          have Hd : Hid (wr.heap[n0 + 6]? = some (.deferred (some []))) := hd1
          have hmix : Tryz.prog.follows .mixedOrders = true := by kernel_rfl
          clear hS2 hTr hd1 hvo hnj hgh c6
          go_wp2
          rename_i Q0 K0 hK0
          refine wp_region_held (S := fun W' => TrW W' N T) hmix ?_
          show wpAnyH _ _ _ _ _ _ _ _ wr.drew
          have hSS : TrW wr.drew N T := HTr.out.on (fun _ _ => rfl)
          refine wpAnyH_take (i := 1) (v := .pointer (some ⟨nj.q, 0, none⟩)) rfl (by kernel_rfl) (by kernel_rfl) (by kernel_rfl) (fun _ _ _ h => h) (.inl ⟨by rfl, fun W' hW' => ?_⟩) hSS ?_
          · skip
            go_simp
          simp only [Act.put, List.getElem_toArray, List.getElem_cons_succ, List.getElem_cons_zero, List.setIfInBounds_toArray, List.set_cons_succ, List.set_cons_zero]
          refine wpAnyH_take (i := 2) (v := .pointer (some ⟨nj.q, 0, none⟩)) rfl (by kernel_rfl) (by kernel_rfl) (by kernel_rfl) (fun _ _ _ h => h) (.inl ⟨by rfl, fun W' hW' => ?_⟩) hSS ?_
          · skip
            go_simp
          simp only [Act.put, List.getElem_toArray, List.getElem_cons_succ, List.getElem_cons_zero, List.setIfInBounds_toArray, List.set_cons_succ, List.set_cons_zero]
          refine wpAnyH_take (i := 3) (v := .pointer (some ⟨nj.q, 1, none⟩)) rfl (by kernel_rfl) (by kernel_rfl) (by kernel_rfl) (fun _ _ _ h => h) (.inl ⟨by rfl, fun W' hW' => ?_⟩) hSS ?_
          · skip
            go_simp
          simp only [Act.put, List.getElem_toArray, List.getElem_cons_succ, List.getElem_cons_zero, List.setIfInBounds_toArray, List.set_cons_succ, List.set_cons_zero]
          refine wpAnyH_take (i := 4) (v := nj.v) rfl (by kernel_rfl) (by kernel_rfl) (by kernel_rfl) (fun _ _ _ h => h) (.inl ⟨by rfl, fun W' hW' => ?_⟩) hSS ?_
          · have u1 := (cell_q (hW'.at' _ nj HNJ.out).cells).2.1
            go_simp
          simp only [Act.put, List.getElem_toArray, List.getElem_cons_succ, List.getElem_cons_zero, List.setIfInBounds_toArray, List.set_cons_succ, List.set_cons_zero]
          have d5a : wr.drew.cell? ⟨n0, 0, none⟩ = some vi' := c5
          refine wpAnyH_one (i := 0) (by kernel_rfl) rfl (by rfl) (fun K hK => ?_)
          go_simp
          refine hK _ _ hSS ?_
          clear hK K
          refine wpAnyH_one (i := 5) (by kernel_rfl) rfl (by rfl) (fun K hK => ?_)
          have hol : (ints (acc ++ (ps.take j).flatMap (fun p => idsAt T p ++ opens T p))).length + (ints (idsAt T ps[j])).length ≤ 1000000 := by
            have h9 := flat_len2 (fun p => idsAt T p ++ opens T p) (fun p => by have h8 := open_few HT1.out p; have h7 := open_few HT1.out (p ++ [[35]]); simp only [opens, List.length_append]; omega) (ps.take j)
            have h8 := open_few HT1.out ps[j]
            simp only [ints, List.length_map, List.length_append, List.length_take] at h9 ⊢
            omega
          have hn0s : n0 ≤ wr.drew.heap.size := by have := HS2.out.size; show n0 ≤ wr.heap.size; omega
          refine wp_appV cI _ _ rfl n0 vi' nj.v (ints (acc ++ (ps.take j).flatMap (fun p => idsAt T p ++ opens T p))) (ints (idsAt T ps[j])) wr.drew rfl (own_on HS2.out.ids (fun _ _ => rfl)) rfl (by rw [ids_some HNJ.out]; exact rd_ids (hSS.at' _ nj HNJ.out)) (fun u hu => ints_one _ u hu) hol hn0s ?_
          intro vi2 wa hoa hba hka hla
          have happ := FdS.app (W := wr) (Wa := wa) HS2.out (by omega) hoa ⟨hba.os, hba.tape, hba.output, hba.size, hba.block⟩ hka hla
          obtain ⟨ava, cva, hav, hcv9⟩ := hoa.len
          clear hcv9
          obtain ⟨nva, hnv⟩ : ∃ nv, (ints (acc ++ (ps.take j).flatMap (fun p => idsAt T p ++ opens T p)) ++ ints (idsAt T ps[j])).length = nv := ⟨_, rfl⟩
          rw [hnv] at hav
          clear hnv
          have hTa : TrW wa N T := by
            refine HTr.out.on (fun b hb => hka b (HTr.out.lt hb) (fun e => ?_))
            have h8 := HT1.out.lt hb
            have h7 := HS2.out.farI b e
            have h6 := HN0.out
            omega
          have h9n := hka n0 (by have := HS2.out.size; show n0 < wr.heap.size; omega) (fun e => by have := HS2.out.farI _ e; omega)
          have hca : wa.cell? ⟨n0, 0, none⟩ = some vi' := by
            rw [← c5]
            unfold World.cell?
            rw [h9n]
            rfl
          have hfa : wa.frozen? ⟨n0, 0, none⟩ = false := by
            rw [← f5]
            unfold World.frozen?
            rw [h9n]
            rfl
          subst hav
          refine hK _ _ hTa ?_
          clear hK K
          simp only [Act.put, List.getElem_toArray, List.getElem_cons_succ, List.getElem_cons_zero, List.setIfInBounds_toArray, List.set_cons_succ, List.set_cons_zero]
          refine wpAnyH_one (i := 6) (by kernel_rfl) rfl (by rfl) (fun K hK => ?_)
          obtain ⟨w5, hw5⟩ : ∃ w5, w5 = wa.setCell ⟨n0, 0, none⟩ (.slice ava nva cva) := ⟨_, rfl⟩
          rw [← hw5] at happ
          have hTw5 : TrW w5 N T := happ.1.tr HN0.out HT1.out
          go_simp
          rw [← hw5]
          refine hK _ _ hTw5 ?_
          clear hK K
          refine wpAnyH_done (by kernel_rfl) ?_ _
          have hszw5 : wr.heap.size ≤ w5.heap.size := by
            rw [hw5]
            have h9 : wr.heap.size ≤ wa.heap.size := hba.size
            simp
            omega
          refine hK0 _ _ ?_
          clear hK0 K0
          have HS5 : Hid (FdS n0 w1 w5 T ps (acc ++ (ps.take j).flatMap (fun p => idsAt T p ++ opens T p) ++ idsAt T ps[j]) (.slice ava nva cva) (.slice (some ⟨gh, 0, none⟩) ps.length cph)) := happ.1
          have HT5 : Hid (TrW w5 N T) := hTw5
          have HSZ : Hid (wr.heap.size ≤ w5.heap.size) := hszw5
          have HD5 : Hid (w5.heap[n0 + 6]? = some (.deferred (some []))) := (happ.2 _ (by omega) (by omega) (fun e => by have := HS2.out.farI _ e; omega)).trans Hd.out
          have k5 := (cell_1 happ.1.b5).1
          have g5 := (cell_1 happ.1.b5).2
          clear happ hoa hba hka hla hca hfa hTa hw5 hol hn0s hSS d5a c5 f5 h9n hTw5 hszw5
          go_wp2
          refine wp_region_held (S := fun W' => TrW W' N T) hmix ?_
          show wpAnyH _ _ _ _ _ _ _ _ w5.drew
          have hSS : TrW w5.drew N T := HT5.out.on (fun _ _ => rfl)
          refine wpAnyH_take (i := 1) (v := .pointer (some ⟨nj.q, 0, none⟩)) rfl (by kernel_rfl) (by kernel_rfl) (by kernel_rfl) (fun _ _ _ h => h) (.inl ⟨by rfl, fun W' hW' => ?_⟩) hSS ?_
          · go_simp
          simp only [Act.put, List.getElem_toArray, List.getElem_cons_succ, List.getElem_cons_zero, List.setIfInBounds_toArray, List.set_cons_succ, List.set_cons_zero]
          refine wpAnyH_call (i := 2) (v := vo) rfl (by kernel_rfl) (by kernel_rfl) (by kernel_rfl) (fun _ _ _ h => h) ⟨by rfl, fun W' hW' => ⟨32, #[.pointer (some ⟨nj.q, 0, none⟩)], by go_simp, HOP.out W' hW'⟩⟩ hSS ?_
          simp only [Act.put, List.getElem_toArray, List.getElem_cons_succ, List.getElem_cons_zero, List.setIfInBounds_toArray, List.set_cons_succ, List.set_cons_zero]
          have d5b : w5.drew.cell? ⟨n0, 0, none⟩ = some (.slice ava nva cva) := k5
          refine wpAnyH_one (i := 0) (by kernel_rfl) rfl (by rfl) (fun K hK => ?_)
          go_simp
          refine hK _ _ hSS ?_
          clear hK K
          refine wpAnyH_one (i := 3) (by kernel_rfl) rfl (by rfl) (fun K hK => ?_)
          have hol : (ints (acc ++ (ps.take j).flatMap (fun p => idsAt T p ++ opens T p) ++ idsAt T ps[j])).length + (ints (opens T ps[j])).length ≤ 1000000 := by
            have h9 := flat_len2 (fun p => idsAt T p ++ opens T p) (fun p => by have h8 := open_few HT1.out p; have h7 := open_few HT1.out (p ++ [[35]]); simp only [opens, List.length_append]; omega) (ps.take j)
            have h8 := open_few HT1.out ps[j]
            have h7 := open_few HT1.out (ps[j] ++ [[35]])
            simp only [ints, opens, List.length_map, List.length_append, List.length_take] at h9 h7 ⊢
            omega
          have hn0s : n0 ≤ w5.drew.heap.size := by have := HS5.out.size; show n0 ≤ w5.heap.size; omega
          refine wp_appV cI _ _ rfl n0 (.slice ava nva cva) vo (ints (acc ++ (ps.take j).flatMap (fun p => idsAt T p ++ opens T p) ++ idsAt T ps[j])) (ints (opens T ps[j])) w5.drew rfl (own_on HS5.out.ids (fun _ _ => rfl)) rfl (HRO.out _ hSS) (fun u hu => ints_one _ u hu) hol hn0s ?_
          intro vi3 wb hoa hba hka hla
          have happ := FdS.app (W := w5) (Wa := wb) HS5.out (by have := HSZ.out; omega) hoa ⟨hba.os, hba.tape, hba.output, hba.size, hba.block⟩ hka hla
          obtain ⟨avb, cvb, hav, hcv9⟩ := hoa.len
          clear hcv9
          obtain ⟨nvb, hnv⟩ : ∃ nv, (ints (acc ++ (ps.take j).flatMap (fun p => idsAt T p ++ opens T p) ++ idsAt T ps[j]) ++ ints (opens T ps[j])).length = nv := ⟨_, rfl⟩
          rw [hnv] at hav
          clear hnv
          have hTa : TrW wb N T := by
            refine HT5.out.on (fun b hb => hka b (HT5.out.lt hb) (fun e => ?_))
            have h8 := HT1.out.lt hb
            have h7 := HS5.out.farI b e
            have h6 := HN0.out
            omega
          have h9n := hka n0 (by have := HS5.out.size; show n0 < w5.heap.size; omega) (fun e => by have := HS5.out.farI _ e; omega)
          have hca : wb.cell? ⟨n0, 0, none⟩ = some (.slice ava nva cva) := by
            rw [← k5]
            unfold World.cell?
            rw [h9n]
            rfl
          have hfa : wb.frozen? ⟨n0, 0, none⟩ = false := by
            rw [← g5]
            unfold World.frozen?
            rw [h9n]
            rfl
          subst hav
          refine hK _ _ hTa ?_
          clear hK K
          simp only [Act.put, List.getElem_toArray, List.getElem_cons_succ, List.getElem_cons_zero, List.setIfInBounds_toArray, List.set_cons_succ, List.set_cons_zero]
          refine wpAnyH_one (i := 4) (by kernel_rfl) rfl (by rfl) (fun K hK => ?_)
          obtain ⟨w7, hw5⟩ : ∃ w5, w5 = wb.setCell ⟨n0, 0, none⟩ (.slice avb nvb cvb) := ⟨_, rfl⟩
          rw [← hw5] at happ
          have hTw7 : TrW w7 N T := happ.1.tr HN0.out HT1.out
          go_simp
          rw [← hw5]
          refine hK _ _ hTw7 ?_
          clear hK K
          refine wpAnyH_done (by kernel_rfl) ?_ _
          have hszw7 : w5.heap.size ≤ w7.heap.size := by
            rw [hw5]
            have h9 : w5.heap.size ≤ wb.heap.size := hba.size
            simp
            omega
          refine Q0 _ _ ?_
          have HFB : Hid (FdS n0 w1 w7 T ps (acc ++ (ps.take (j + 1)).flatMap (fun p => idsAt T p ++ opens T p)) (.slice avb nvb cvb) (.slice (some ⟨gh, 0, none⟩) ps.length cph)) := by
            have e9 : acc ++ (ps.take (j + 1)).flatMap (fun p => idsAt T p ++ opens T p) = acc ++ (ps.take j).flatMap (fun p => idsAt T p ++ opens T p) ++ idsAt T ps[j] ++ opens T ps[j] := by
              rw [List.take_succ_eq_append_getElem hjm]
              simp only [List.flatMap_append, List.flatMap_cons, List.flatMap_nil, List.append_nil, List.append_assoc]
            show FdS n0 w1 w7 T ps _ _ _
            rw [e9]
            exact happ.1
          have HDB : Hid (w7.heap[n0 + 6]? = some (.deferred (some [])) ∧ n0 + 8 ≤ w7.heap.size) := ⟨(happ.2 _ (by have := HSZ.out; omega) (by omega) (fun e => by have := HS5.out.farI _ e; omega)).trans HD5.out, by have := HSZ.out; omega⟩
          clear happ hoa hba hka hla hca hfa hTa hw5 hol hn0s hSS d5b k5 g5 h9n hTw7 hszw7
          go_wp2
          refine ⟨⟨j + 1, by omega, by simp, _, HFB.out, HDB.out⟩, ?_⟩
          simp only [intOf]
          omega
        · obtain rfl : j = ps.length := by omega
          rw [List.take_length] at hS2
          have c5 := (cell_1 hS2.b5).1
          have hfin : acc ++ ps.flatMap (fun p => idsAt T p ++ opens T p) = finF T (ps, acc) := rfl
          rw [hfin] at hS2
          have hll : (finF T (ps, acc)).length ≤ 1000000 := by
            rw [← hfin, List.length_append]
            have h9 := flat_len2 (fun p => idsAt T p ++ opens T p) (fun p => by have h8 := open_few HT1.out p; have h7 := open_few HT1.out (p ++ [[35]]); simp only [opens, List.length_append]; omega) ps
            omega
          have hil : ∀ L : List Int, (ints L).length = L.length := fun L => by simp [ints]
          have hrow : wr.ownsRow n0 3 1 vi' (finF T (ps, acc)).length (ints (finF T (ps, acc))) := by
            have h9 := hS2.ids
            unfold To.OwnV at h9
            rw [hil] at h9
            exact h9
          have hso := sortI_any wr n0 vi' _ hrow hll
          obtain ⟨av, cv, hav, hav9⟩ := hS2.ids.len
          rw [hil] at hav
          obtain ⟨nv, hnv⟩ : ∃ nv, (finF T (ps, acc)).length = nv := ⟨_, rfl⟩
          rw [hnv] at hav
          subst hav
          have HS2 : Hid (FdS n0 w1 wr T ps (finF T (ps, acc)) (.slice av nv cv) (.slice ah ps.length ch)) := hS2
          have Hd : Hid (wr.heap[n0 + 6]? = some (.deferred (some []))) := hd1
          have HLL : Hid ((finF T (ps, acc)).length ≤ 1000000) := hll
          clear hS2 hd1 hrow hfin hav9 hll hnv c6
          generalize finF T (ps, acc) = FL at *
          go_wp2_with fail
          refine hso.mono ?_
          rintro e w3 ⟨rfl, L3, hperm, hsrt, hr3, hb3, hk3⟩
          have hfar : (Value.slice av nv cv).ownBlock ≠ some n0 := fun e => by have := HS2.out.farI _ e; omega
          have h5 : w3.heap[n0]? = wr.heap[n0]? := hk3 n0 (by omega) hfar
          have k5 : w3.cell? ⟨n0, 0, none⟩ = some (.slice av nv cv) := by
            rw [← c5]
            unfold World.cell?
            rw [h5]
          have hco := compI_any w3 n0 (.slice av nv cv) L3 hr3 (by rw [hperm.length_eq]; exact HLL.out)
          have HP3 : Hid (L3.Perm FL ∧ L3.Pairwise (· ≤ ·) ∧ Below n0 wr w3) := ⟨hperm, hsrt, hb3⟩
          have HD3 : Hid (w3.heap[n0 + 6]? = some (.deferred (some []))) := (hk3 _ (by omega) (fun e => by have := HS2.out.farI _ e; omega)).trans Hd.out
          clear hso hr3 hb3 hk3 hperm hsrt h5 hfar c5
          go_wp2_with fail
          refine hco.mono ?_
          rintro e w4 ⟨v4, rfl, hr4, hb4, hk4, hl4⟩
          have hd4 : w4.heap[n0 + 6]? = some (.deferred (some [])) := (hk4 _ (fun e => by have := HS2.out.farI _ e; omega)).trans HD3.out
          obtain ⟨a4, c4, hv4⟩ := To.OwnV.len (e := 3) (B := n0) (w := w4) (xs := ints (Lib.compact L3)) (by unfold To.OwnV; rw [hil]; exact hr4)
          obtain ⟨n4, hn4⟩ : ∃ n4, (ints (Lib.compact L3)).length = n4 := ⟨_, rfl⟩
          rw [hn4] at hv4
          obtain ⟨hv4, _⟩ := hv4
          subst hv4
          have HE : Hid (FindOk w l s (.returned (.slice a4 n4 c4)) (w4.putObj (n0 + 6) (.deferred none))) := by
            have hput : ∀ b, b ≠ n0 + 6 → (w4.putObj (n0 + 6) (.deferred none)).heap[b]? = w4.heap[b]? := fun b hb => World.putObj_heap_other hb
            have hcf := compact_facts L3 HP3.out.2.1
            have hres : Lib.compact L3 = findP l s := risI_ext _ _ hcf.1 (find_rising l s) (fun z => by
              rw [hcf.2, HP3.out.1.mem_iff]
              exact HFD.out z)
            have hB14 : Below n0 w1 w4 := HS2.out.below.trans (HP3.out.2.2.trans hb4)
            have hn0w : w.heap.size ≤ n0 := by rw [HN0.out]; exact HB1.out.size
            refine ⟨_, rfl, ?_, ?_⟩
            · rw [← hres]
              refine own_low (B' := n0) (own_on (w := w4) ?_ (fun b e => hput b (fun e9 => ?_))) hn0w
              · unfold To.OwnV
                rw [hil]
                exact hr4
              · have := HS2.out.farI _ (hl4 b e)
                omega
            · have hbb : Below n0 w4 (w4.putObj (n0 + 6) (.deferred none)) := ⟨rfl, rfl, rfl, by simp [World.putObj], fun b hb => hput b (by omega)⟩
              exact HB1.out.trans ((hB14.trans hbb).mono hn0w)
          rw [HR.out] at HE
          clear hco hr4 hb4 hk4 hl4 hn4
          go_wp2
          refine .inl ⟨n0 + 6, #[], _, .slice a4 n4 c4, rfl, run_takeDeferred hd4, ?_, HE.out⟩
          simp [results, Tryz.results15, go_sem]
    case stop => exact fun W h1 _ => h1.elim
end Go.Proofs.YtcicnbbnkeellaaGreatDoor
