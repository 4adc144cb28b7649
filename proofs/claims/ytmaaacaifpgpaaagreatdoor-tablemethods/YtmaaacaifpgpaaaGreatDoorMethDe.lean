/- table.Encode of any method. Conditions: those that each row states. The document's Encode of any method: what it has read beside what isn't yet written. Conditions: those that each row states. table.Decode. Conditions: those that each row states. The document's Decode: how it stands. Conditions: those that each row states. The document's Decode of any bytes. Conditions: those that each row states. trivetlaw15.heavy. Conditions: those that each row states. What Encode and Decode answer, whatever they answer. Conditions: those that each row states. -/
import Derived.Test.YtmaaacaifpgpaaaGreatDoorMethWr
import Derived.Test.YtmaaacaifpgpaaaGreatDoorMethRd
import Derived.Test.YtmaaacaifpgpaaaGreatDoorMethTk
namespace Go.Proofs.YtmaaacaifpgpaaaGreatDoor
open Go.RowKit Go.Lib
set_option maxRecDepth 100000
set_option linter.unusedSimpArgs false

set_option maxHeartbeats 1000000 in
theorem enc1_any (w : World) (a r q : Nat) (ca cb : Int) (vn vt vp : Value) (ns : List Int) (ts : List (List UInt8)) (ps : List Pr) (K : Blk w a (mtA ca cb vn vt vp) 26) (R : Blk w r #[.slice none 0 0] 31) (E : Blk w q #[.int .i64 0] 32) (hne : q ≠ r) (hv : Mv w) (hm : RdM w w.heap.size vn vt vp ns ts ps) :
    Calls Tryz.prog 17 #[.pointer (some ⟨a, 0, none⟩), .pointer (some ⟨r, 0, none⟩)] w fun e w' => Below r w w' ∧ Blk w' q #[.int .i64 0] 32 ∧ ((∃ x v, payP ca cb ns ts ps = some x ∧ e = .returned (.tuple #[]) ∧ Blk w' r #[v] 31 ∧ Own w' w.heap.size v x) ∨ (payP ca cb ns ts ps = none ∧ e = .panicked (gup 1) ∧ Blk w' r #[.slice none 0 0] 31)) := by
  obtain ⟨n, hn⟩ : ∃ n, w.heap.size = n := ⟨_, rfl⟩
  obtain ⟨gu, hg⟩ : ∃ gu, gup 1 = gu := ⟨_, rfl⟩
  have P : Calls Tryz.prog 18 #[.agg (mtA ca cb vn vt vp)] w fun e w' => Below w.heap.size w w' ∧ ((∃ x va vn vc, payP ca cb ns ts ps = some x ∧ e = .returned (.slice va vn vc) ∧ Own w' w.heap.size (.slice va vn vc) x) ∨ (payP ca cb ns ts ps = none ∧ e = .panicked gu)) := (payload_any w ca cb vn vt vp ns ts ps hv hm).mono fun e w' ⟨h1, h2⟩ => by
    refine ⟨h1, ?_⟩
    rcases h2 with ⟨x, v, h2, h3, h4⟩ | ⟨h2, h3⟩
    · obtain ⟨oa, on, oc, rfl⟩ := Own.shape h4
      exact .inl ⟨x, _, _, _, h2, h3, h4⟩
    · exact .inr ⟨h2, by rw [← hg]; exact h3⟩
  obtain ⟨na, nc, e1⟩ := hm.n.shape
  obtain ⟨ta, tc, e2⟩ := hm.t.shape
  obtain ⟨pa, pc, e3⟩ := hm.p.shape
  subst e1 e2 e3
  have hr := R.lt
  have hq := E.lt
  rw [hn] at P hr hq ⊢
  rw [hg]
  have c0 := K.cell 0
  have c1 := K.cell 1
  have c2 := K.cell 2
  have c3 := K.cell 3
  have c4 := K.cell 4
  simp only [List.getElem?_toArray, List.getElem?_cons_zero, List.getElem?_cons_succ] at c0 c1 c2 c3 c4
  clear hv hm K
  go_enter Tryz.func17, Tryz.ntmps17
  go_wp2_with (first | (go_at_call 18; refine P.mono ?_; rintro e w1 ⟨hb, ⟨x, va, vn, vc, hx, rfl, ho⟩ | ⟨hx, rfl⟩⟩) | (refine wpl_set rfl (.tmp 1) (.tmp 3) rfl r 0 _ rfl rfl (R.below hb hr) (by kernel_rfl) rfl rfl (by simp) ?_))
  · have R1 := R.below hb hr
    have E1 := E.below hb hq
    have HX : Hid (payP ca cb ns ts ps = some x) := hx
    clear hx
    intro w2 R2 g2 s2
    go_wp2_with fail
    go_end0
    exact ⟨(hb.mono (Nat.le_of_lt hr)).grown g2 (Nat.le_of_lt R1.lt) (fun k hk => by cases hk; exact Nat.le_refl _), E1.grown g2 (by simpa using hne), .inl ⟨_, _, HX.out, rfl, R2, ho.grown g2 (fun k hk => by cases hk; exact hr)⟩⟩
  · exact ⟨rfl, hb.mono (Nat.le_of_lt hr), E.below hb hq, .inr ⟨hx, rfl, R.below hb hr⟩⟩
/-- What Encode answers. -/
def EcP (w' : World) (B : Nat) (P : Option (List UInt8)) (e : Ending) : Prop :=
  (∃ x a c, P = some x ∧ e = .returned (.tuple #[.slice a x.length c, .int .i64 0]) ∧ Own w' B (.slice a x.length c) x) ∨ (P = none ∧ e = .returned (.tuple #[.slice none 0 0, .int .i64 1]))
theorem Own.shapeL {w : World} {B : Nat} {v : Value} {l : List UInt8} (h : Own w B v l) : ∃ a c, v = .slice a l.length c := by
  rcases h.2 with ⟨rfl, h0⟩ | ⟨g, cap, cur, rfl, _⟩
  · exact ⟨_, _, by rw [h0]⟩
  · exact ⟨_, _, rfl⟩
set_option maxHeartbeats 2000000 in
theorem encode_any (w : World) (ca cb : Int) (vn vt vp : Value) (ns : List Int) (ts : List (List UInt8)) (ps : List Pr) (hv : Mv w) (hm : RdM w w.heap.size vn vt vp ns ts ps) :
    Calls Tryz.prog 8 #[.agg (mtA ca cb vn vt vp)] w fun e w' => EcP w' w.heap.size (payP ca cb ns ts ps) e ∧ Below w.heap.size w w' := by
  obtain ⟨a, ha⟩ : ∃ a, w.heap.size = a := ⟨_, rfl⟩
  obtain ⟨w3, hw3⟩ : ∃ w3, ((w.alloc (Obj.cells (mtA ca cb vn vt vp) 26)).alloc (Obj.cells #[Value.slice none 0 0] 31)) = w3 := ⟨_, rfl⟩
  have hb3 : Below a w w3 := by
    rw [← hw3, ← ha]
    exact (below_new w _).trans ((below_new _ _).mono (by simp))
  have hs3 : w3.heap.size = a + 2 := by rw [← hw3]; simp; omega
  have K3 : Blk w3 a (mtA ca cb vn vt vp) 26 := by rw [← hw3, ← ha]; exact (Blk.new w _ _).alloc _
  have R3 : Blk w3 (a + 1) #[.slice none 0 0] 31 := by
    have := Blk.new (w.alloc (Obj.cells (mtA ca cb vn vt vp) 26)) #[Value.slice none 0 0] 31
    rw [World.size_alloc, ha, hw3] at this
    exact this
  have hb4 := below_new w3 (.cells #[.int .i64 0] 32)
  have b04 : Below a w (w3.alloc (.cells #[.int .i64 0] 32)) := hb3.trans (hb4.mono (by omega))
  have E4 : Blk (w3.alloc (.cells #[.int .i64 0] 32)) (a + 2) #[.int .i64 0] 32 := by
    have := Blk.new w3 #[Value.int .i64 0] 32
    rw [hs3] at this
    exact this
  have hm4 : RdM (w3.alloc (.cells #[.int .i64 0] 32)) (w3.alloc (.cells #[.int .i64 0] 32)).heap.size vn vt vp ns ts ps := ((by rw [← ha]; exact hm : RdM w a vn vt vp ns ts ps).on b04).up (by simp; omega)
  have T := enc1_any (w3.alloc (.cells #[.int .i64 0] 32)) a (a + 1) (a + 2) ca cb vn vt vp ns ts ps (K3.alloc _) (R3.alloc _) E4 (by omega) (hv.on (by rw [ha]; exact b04)) hm4
  obtain ⟨na, nc, e1⟩ := hm.n.shape
  obtain ⟨ta, tc, e2⟩ := hm.t.shape
  obtain ⟨pa, pc, e3⟩ := hm.p.shape
  subst e1 e2 e3
  generalize payP ca cb ns ts ps = PP at *
  have G := guarded_any 17 (enters_of Tryz.func17 (by kernel_rfl) rfl) #[.pointer (some ⟨a, 0, none⟩), .pointer (some ⟨a + 1, 0, none⟩)] w3
    (fun w2 => Below a w w2 ∧ ∃ x v, PP = some x ∧ Blk w2 (a + 1) #[v] 31 ∧ Blk w2 (a + 2) #[.int .i64 0] 32 ∧ Own w2 (a + 3) v x)
    (fun n w2 => n = 1 ∧ PP = none ∧ Below a w w2 ∧ Blk w2 (a + 1) #[.slice none 0 0] 31 ∧ Blk w2 (a + 2) #[.int .i64 0] 32) (T.mono fun e w2 ⟨h1, h2, h3⟩ => ⟨by
      rw [hs3]
      exact ⟨h2.cell 0, h2.frozen 0⟩, by
      rcases h3 with ⟨x, v, hx, he, hR, hO⟩ | ⟨hx, he, hR⟩
      · exact .inl ⟨he, b04.trans (h1.mono (by omega)), x, v, hx, hR, h2, hO.lower (by simp; omega)⟩
      · exact .inr ⟨1, he, rfl, hx, b04.trans (h1.mono (by omega)), hR, h2⟩⟩)
  have G2 : Calls Tryz.prog 16 #[.func (.func 17) #[] #[.pointer (some ⟨a, 0, none⟩), .pointer (some ⟨a + 1, 0, none⟩)]] w3 fun e w' => Below a w w' ∧ ((∃ x va vc, PP = some x ∧ e = .returned (.int .i64 0) ∧ Blk w' (a + 1) #[.slice va x.length vc] 31 ∧ Own w' (a + 3) (.slice va x.length vc) x) ∨ (PP = none ∧ e = .returned (.int .i64 1) ∧ Blk w' (a + 1) #[.slice none 0 0] 31)) := by
    refine G.mono ?_
    rintro e w' (⟨rfl, w2, ⟨hbA, x, v, hx, h2, h4, h3⟩, rfl⟩ | ⟨n, rfl, w2, ⟨rfl, hx, hbA, h2, h4⟩, rfl⟩)
    · rw [hs3]
      have hg : w2.grownBy (w2.setCell ⟨a + 2, 0, none⟩ (.int .i64 0)) (some (a + 2)) := ⟨rfl, rfl, rfl, by simp, fun k hk hne => Below.heap_setCell w2 ⟨a + 2, 0, none⟩ _ k (by intro e; exact hne (by simp [e]))⟩
      obtain ⟨oa, oc, rfl⟩ := Own.shapeL h3
      exact ⟨hbA.grown hg (by have := h2.lt; omega) (fun k hk => by cases hk; omega), .inl ⟨_, _, _, hx, rfl, h2.grown hg (by simp), h3.grown hg (fun k hk => by cases hk; omega)⟩⟩
    · rw [hs3]
      have hg : w2.grownBy (w2.setCell ⟨a + 2, 0, none⟩ (.int .i64 1)) (some (a + 2)) := ⟨rfl, rfl, rfl, by simp, fun k hk hne => Below.heap_setCell w2 ⟨a + 2, 0, none⟩ _ k (by intro e; exact hne (by simp [e]))⟩
      exact ⟨hbA.grown hg (by have := h2.lt; omega) (fun k hk => by cases hk; omega), .inr ⟨hx, rfl, h2.grown hg (by simp)⟩⟩
  clear G T hb4 hb3 K3 R3 b04 E4 hv hm hm4
  rw [ha]
  unfold EcP
  go_enter Tryz.func8, Tryz.ntmps8
  go_wp2_with fail
  refine G2.mono ?_
  rintro e W ⟨hB, ⟨x, va, vc, hx, rfl, kR, hO⟩ | ⟨hx, rfl, kR⟩⟩
  · clear G2 hw3
    have k0 := kR.cell 0
    simp only [List.getElem?_toArray, List.getElem?_cons_zero] at k0
    go_wp2_with (refine wpl_set rfl (.tmp 2) (.tmp 6) rfl (a + 1) 0 _ rfl rfl kR (by kernel_rfl) rfl rfl (by simp) ?_)
    intro W2 k2 g2 s2
    have hS2 : Blk W2 (a + 1) #[.slice va x.length vc] 31 := k2
    have hB2 : Below a w W2 := hB.grown g2 (by have := kR.lt; omega) (fun k hk => by cases hk; omega)
    have hO2 := hO.grown g2 (fun k hk => by cases hk; omega)
    clear k0
    have k0 := hS2.cell 0
    simp only [List.getElem?_toArray, List.getElem?_cons_zero] at k0
    go_wp2_with fail
    refine bodyPost_ret (v := .tuple #[.slice va x.length vc, .int .i64 0]) (by simp [results, Tryz.results8, go_sem, k0]) rfl ?_
    exact ⟨.inl ⟨x, va, vc, hx, rfl, hO2.lower (by omega)⟩, hB2⟩
  · clear G2 hw3
    have k0 := kR.cell 0
    simp only [List.getElem?_toArray, List.getElem?_cons_zero] at k0
    go_wp2_with (refine wpl_set rfl (.tmp 2) (.tmp 6) rfl (a + 1) 0 _ rfl rfl kR (by kernel_rfl) rfl rfl (by simp) ?_)
    intro W2 k2 g2 s2
    have hS2 : Blk W2 (a + 1) #[.slice none 0 0] 31 := k2
    have hB2 : Below a w W2 := hB.grown g2 (by have := kR.lt; omega) (fun k hk => by cases hk; omega)
    clear k0
    have k0 := hS2.cell 0
    simp only [List.getElem?_toArray, List.getElem?_cons_zero] at k0
    go_wp2_with fail
    refine bodyPost_ret (v := .tuple #[.slice none 0 0, .int .i64 1]) (by simp [results, Tryz.results8, go_sem, k0]) rfl ?_
    exact ⟨.inr ⟨hx, rfl⟩, hB2⟩
end Go.Proofs.YtmaaacaifpgpaaaGreatDoor

namespace Go.Proofs.YtmaaacaifpgpaaaGreatDoor
open Go.RowKit Go.Lib
set_option maxRecDepth 100000
set_option linter.unusedSimpArgs false

/-- How what the document has read and what the writer hasn't yet written belong together. -/
structure Enq (f : List UInt8) (ns : List Int) (ts : List (List UInt8)) (ps : List Pr) (k nn nt : Nat) (tb : Bool) (q : Wq) : Prop where
  n : q.ns = ns.drop nn
  t : q.ts = ts.drop nt
  p : q.ps = if tb = true then [] else ps
  ln : nn ≤ ns.length
  lt : nt ≤ ts.length
  tb : tb = true → (84 : UInt8) ∉ f.drop k
  l : q.out.length ≤ 4 + 6000 * k
theorem once_aux (a b : Int) : ∀ l : List (Nat × Nat × List UInt8), (l.all fun x => (List.range 7).all fun k => (x.2.2.drop k).head? != some 84 || !(x.2.2.drop (k + 1)).contains 84) = true → (l.all fun x => decide (x.2.2.length ≤ 6)) = true → ∀ k, ((formL a b l).1.drop k).head? = some 84 → (84 : UInt8) ∉ (formL a b l).1.drop (k + 1)
  | [], _, _, k, h => by simp [formL] at h
  | x :: l, hl, hs, k, h => by
    rw [List.all_cons, Bool.and_eq_true] at hl hs
    unfold formL at h ⊢
    split at h
    · rename_i hx
      rw [if_pos hx]
      have h6 : x.2.2.length ≤ 6 := of_decide_eq_true hs.1
      by_cases hk : k < 7
      · have := List.all_eq_true.1 hl.1 k (List.mem_range.2 hk)
        rw [h] at this
        intro hc
        have h2 : (x.2.2.drop (k + 1)).contains 84 = true := by simpa using hc
        rw [h2] at this
        simp at this
      · rw [List.drop_of_length_le (show x.2.2.length ≤ k by omega)] at h
        cases h
    · rename_i hx
      rw [if_neg hx]
      exact once_aux a b l hl.2 hs.2 k h
theorem once (a b : Int) (k : Nat) (h : k < (formL a b mL).1.length) (h2 : (formL a b mL).1[k] = 84) : (84 : UInt8) ∉ (formL a b mL).1.drop (k + 1) :=
  once_aux a b mL (by decide) (by decide) k (by rw [List.drop_eq_getElem_cons h, List.head?_cons, h2])
theorem notin_drop {f : List UInt8} {k : Nat} (h : (84 : UInt8) ∉ f.drop k) : (84 : UInt8) ∉ f.drop (k + 1) := fun hm => h (by
  rw [← List.drop_drop] at hm
  exact List.mem_of_mem_drop hm)
theorem sz_wid {c : Nat} (h : sz c ≠ 0) : sz c = wid c ∧ c ≠ 115 ∧ c ≠ 83 ∧ c ≠ 84 := by
  unfold sz wid at *
  by_cases h1 : c = 111
  · subst h1; decide
  by_cases h2 : c = 98
  · subst h2; decide
  by_cases h3 : c = 104
  · subst h3; decide
  by_cases h4 : c = 108
  · subst h4; decide
  by_cases h5 : c = 76
  · subst h5; decide
  simp [h1, h2, h3, h4, h5] at h
theorem partP_num {c : Nat} {q : Wq} (h : sz c ≠ 0) : partP c q = match q.ns with
    | [] => none
    | n :: r => if fitN n (sz c) = true then some ⟨q.out ++ beN (sz c) n.toNat, r, q.ts, q.ps⟩ else none := by
  obtain ⟨h0, h1, h2, h3⟩ := sz_wid h
  unfold partP
  rw [if_neg h1, if_neg h2, if_neg h3, h0]
  cases q.ns <;> rfl
theorem Enq.num_no {f ns ts ps k nn nt tb q} {c : Nat} (E : Enq f ns ts ps k nn nt tb q) (h : sz c ≠ 0) (hn : ns.length ≤ nn) : partP c q = none := by
  rw [partP_num h, E.n, List.drop_of_length_le hn]
theorem Enq.num_bad {f ns ts ps k nn nt tb q} {c : Nat} (E : Enq f ns ts ps k nn nt tb q) (h : sz c ≠ 0) (hn : nn < ns.length) (hf : fitN ns[nn] (sz c) = false) : partP c q = none := by
  rw [partP_num h, E.n, List.drop_eq_getElem_cons hn]
  exact if_neg (by rw [hf]; decide)
theorem Enq.num {f ns ts ps k nn nt tb q} {c : Nat} (E : Enq f ns ts ps k nn nt tb q) (h : sz c ≠ 0) (hn : nn < ns.length) (hf : fitN ns[nn] (sz c) = true) : ∃ q', partP c q = some q' ∧ q'.out = q.out ++ beN (sz c) ns[nn].toNat ∧ Enq f ns ts ps (k + 1) (nn + 1) nt tb q' := by
  refine ⟨⟨q.out ++ beN (sz c) ns[nn].toNat, ns.drop (nn + 1), q.ts, q.ps⟩, ?_, rfl, rfl, E.t, E.p, hn, E.lt, fun h => notin_drop (E.tb h), ?_⟩
  · rw [partP_num h, E.n, List.drop_eq_getElem_cons hn]
    exact if_pos hf
  · have hw : wid c ≤ 8 := by rcases wid_is c with h | h | h | h <;> omega
    have := (sz_wid h).1
    have := E.l
    simp only [List.length_append, beN_len]
    omega
theorem Enq.txt_no {f ns ts ps k nn nt tb q} {c : Nat} (E : Enq f ns ts ps k nn nt tb q) (h : c = 115 ∨ c = 83) (hn : ts.length ≤ nt) : partP c q = none := by
  unfold partP
  rw [E.t, List.drop_of_length_le hn]
  rcases h with rfl | rfl <;> rfl
theorem Enq.txt_bad {f ns ts ps k nn nt tb q} {c : Nat} (E : Enq f ns ts ps k nn nt tb q) (h : c = 115 ∨ c = 83) (hn : nt < ts.length) (hf : 1024 < ts[nt].length ∨ c = 115 ∧ 255 < ts[nt].length) : partP c q = none := by
  unfold partP
  rw [E.t, List.drop_eq_getElem_cons hn]
  rcases h with rfl | rfl
  · exact if_neg (show ¬ ts[nt].length ≤ 255 by omega)
  · exact if_neg (show ¬ ts[nt].length ≤ 1024 by omega)
theorem Enq.txt_s {f ns ts ps k nn nt tb q} (E : Enq f ns ts ps k nn nt tb q) (hn : nt < ts.length) (hf : ts[nt].length ≤ 255) : ∃ q', partP 115 q = some q' ∧ q'.out = q.out ++ shortL ts[nt] ∧ Enq f ns ts ps (k + 1) nn (nt + 1) tb q' := by
  refine ⟨⟨q.out ++ shortL ts[nt], q.ns, ts.drop (nt + 1), q.ps⟩, ?_, rfl, E.n, rfl, E.p, E.ln, hn, fun h => notin_drop (E.tb h), ?_⟩
  · unfold partP
    rw [E.t, List.drop_eq_getElem_cons hn]
    exact if_pos hf
  · have := E.l
    simp only [List.length_append, shortL, beN_len]
    omega
theorem Enq.txt_l {f ns ts ps k nn nt tb q} (E : Enq f ns ts ps k nn nt tb q) (hn : nt < ts.length) (hf : ts[nt].length ≤ 1024) : ∃ q', partP 83 q = some q' ∧ q'.out = q.out ++ longL ts[nt] ∧ Enq f ns ts ps (k + 1) nn (nt + 1) tb q' := by
  refine ⟨⟨q.out ++ longL ts[nt], q.ns, ts.drop (nt + 1), q.ps⟩, ?_, rfl, E.n, rfl, E.p, E.ln, hn, fun h => notin_drop (E.tb h), ?_⟩
  · unfold partP
    rw [E.t, List.drop_eq_getElem_cons hn]
    exact if_pos hf
  · have := E.l
    simp only [List.length_append, longL, beN_len]
    omega
theorem Enq.fresh {f ns ts ps k nn nt tb q} (E : Enq f ns ts ps k nn nt tb q) (hk : k < f.length) (h : f[k] = 84) : tb = false := by
  cases tb with
  | false => rfl
  | true => exact absurd (by rw [List.drop_eq_getElem_cons hk, h]; exact List.mem_cons_self) (E.tb rfl)
theorem Enq.tab_no {f ns ts ps k nn nt q} (E : Enq f ns ts ps k nn nt false q) (hv : validL ps = false) : partP 84 q = none := by
  have e : q.ps = ps := E.p
  unfold partP
  rw [e]
  exact if_neg (show ¬ validL ps = true by rw [hv]; decide)
theorem Enq.tab {f ns ts ps k nn nt q} (E : Enq f ns ts ps k nn nt false q) (hv : validL ps = true) (hr : ∀ x ∈ ps, x.val.real < 2 ^ 64) (ho : (84 : UInt8) ∉ f.drop (k + 1)) : ∃ q', partP 84 q = some q' ∧ q'.out = q.out ++ tabL ps ∧ Enq f ns ts ps (k + 1) nn nt true q' := by
  refine ⟨⟨q.out ++ tabL ps, q.ns, q.ts, []⟩, ?_, rfl, E.n, E.t, rfl, E.ln, E.lt, fun _ => ho, ?_⟩
  · have e : q.ps = ps := E.p
    unfold partP
    rw [e]
    exact if_pos hv
  · obtain ⟨h16, hs⟩ := sm_all hv hr
    have := flatT_len hs
    have := E.l
    simp only [tabL, longL, List.length_append, beN_len]
    omega
theorem Enq.done {f ns ts ps k nn nt tb q} (E : Enq f ns ts ps k nn nt tb q) : (q.ns = [] ∧ q.ts = [] ∧ q.ps = []) ↔ (ns.length ≤ nn ∧ ts.length ≤ nt ∧ (tb = true ∨ ps.length = 0)) := by
  rw [E.n, E.t, E.p, List.drop_eq_nil_iff, List.drop_eq_nil_iff]
  cases tb <;> simp
theorem RdN.at {w : World} {b : Nat} {v : Value} {l : List Int} (h : RdN w b v l) (i : Nat) (hi : i < l.length) : ∃ g o c, v = .slice (some ⟨g, o, none⟩) l.length c ∧ g < b ∧ w.cell? ⟨g, o + i, none⟩ = some (.int .i64 l[i]) := by
  rcases h with ⟨_, rfl⟩ | ⟨g, o, c, rfl, _, hg, hx⟩
  · simp at hi
  · exact ⟨g, o, c, rfl, hg, hx i hi⟩
theorem RdT.at {w : World} {b : Nat} {v : Value} {l : List (List UInt8)} (h : RdT w b v l) (i : Nat) (hi : i < l.length) : ∃ g o c, v = .slice (some ⟨g, o, none⟩) l.length c ∧ g < b ∧ w.cell? ⟨g, o + i, none⟩ = some (str l[i]) := by
  rcases h with ⟨_, rfl⟩ | ⟨g, o, c, rfl, _, hg, hx⟩
  · simp at hi
  · exact ⟨g, o, c, rfl, hg, hx i hi⟩
theorem EcP.yes {w' : World} {B : Nat} {P : Option (List UInt8)} {x : List UInt8} {v : Value} (hP : P = some x) (h : Own w' B v x) : EcP w' B P (.returned (.tuple #[v, .int .i64 0])) := by
  obtain ⟨a, c, rfl⟩ := h.shapeL
  exact .inl ⟨x, a, c, hP, rfl, h⟩
theorem EcP.no {w' : World} {B : Nat} {P : Option (List UInt8)} (hP : P = none) : EcP w' B P (.returned (.tuple #[.slice none 0 0, .int .i64 1])) := .inr ⟨hP, rfl⟩
end Go.Proofs.YtmaaacaifpgpaaaGreatDoor

namespace Go.Proofs.YtmaaacaifpgpaaaGreatDoor
open Go.RowKit Go.Lib
set_option maxRecDepth 100000
set_option linter.unusedSimpArgs false

set_option maxHeartbeats 1000000 in
theorem dec1_any (w : World) (a r q : Nat) (s : List UInt8) (K : Blk w a #[str s] 9) (R : Blk w r M0 26) (E : Blk w q #[.int .i64 0] 32) (hne : q ≠ r) (hv : Mv w) (hs : s.length ≤ 140737488355328) :
    Calls Tryz.prog 22 #[.pointer (some ⟨a, 0, none⟩), .pointer (some ⟨r, 0, none⟩)] w fun e w' => Below r w w' ∧ Blk w' q #[.int .i64 0] 32 ∧ ((∃ d vn vt vp, metD s = some d ∧ e = .returned (.tuple #[]) ∧ Blk w' r (mtA d.a d.b vn vt vp) 26 ∧ OwnI w' w.heap.size vn d.ns ∧ OwnT w' w.heap.size vt d.ts ∧ OwnP w' w.heap.size vp d.ps) ∨ (metD s = none ∧ e = .panicked (gup 11) ∧ Blk w' r M0 26)) := by
  obtain ⟨n, hn⟩ : ∃ n, w.heap.size = n := ⟨_, rfl⟩
  obtain ⟨gu, hg⟩ : ∃ gu, gup 11 = gu := ⟨_, rfl⟩
  have P : Calls Tryz.prog 23 #[str s] w fun e w' => Below w.heap.size w w' ∧ ((∃ d na nn nc ta tn tc pa pn pc, metD s = some d ∧ e = .returned (.agg (mtA d.a d.b (.slice na nn nc) (.slice ta tn tc) (.slice pa pn pc))) ∧ OwnI w' w.heap.size (.slice na nn nc) d.ns ∧ OwnT w' w.heap.size (.slice ta tn tc) d.ts ∧ OwnP w' w.heap.size (.slice pa pn pc) d.ps) ∨ (metD s = none ∧ e = .panicked gu)) := (method_any w s hv hs).mono fun e w' ⟨h1, h2⟩ => by
    refine ⟨h1, ?_⟩
    rcases h2 with ⟨d, v, h2, h3, vn, vt, vp, rfl, h4, h5, h6⟩ | ⟨h2, h3⟩
    · obtain ⟨na, nn, nc, rfl⟩ := h4.shape3
      obtain ⟨ta, tn, tc, rfl⟩ := h5.shape3
      obtain ⟨pa, pc, rfl⟩ := h6.rd.shape
      exact .inl ⟨d, _, _, _, _, _, _, _, _, _, h2, h3, h4, h5, h6⟩
    · exact .inr ⟨h2, by rw [← hg]; exact h3⟩
  have hr := R.lt
  have hq := E.lt
  rw [hn] at P hr hq ⊢
  rw [hg]
  have c0 := K.cell 0
  simp only [List.getElem?_toArray, List.getElem?_cons_zero, List.getElem?_cons_succ] at c0
  clear hv hs K
  generalize metD s = MD at *
  go_enter Tryz.func22, Tryz.ntmps22
  go_wp2_with (first | (go_at_call 23; refine P.mono ?_; rintro e w1 ⟨hb, ⟨d, na, nn, nc, ta, tn, tc, pa, pn, pc, hx, rfl, o1, o2, o3⟩ | ⟨hx, rfl⟩⟩) | (refine wpl_put rfl (.tmp 1) (.tmp 3) rfl r _ rfl rfl (R.below hb hr) (by kernel_rfl) rfl (by kernel_rfl) ?_))
  · have R1 := R.below hb hr
    have E1 := E.below hb hq
    have HX : Hid (MD = some d) := hx
    clear hx
    intro w2 R2 g2 s2
    go_wp2_with fail
    go_end0
    exact ⟨(hb.mono (Nat.le_of_lt hr)).grown g2 (Nat.le_of_lt R1.lt) (fun k hk => by cases hk; exact Nat.le_refl _), E1.grown g2 (by simpa using hne), .inl ⟨d, _, _, _, HX.out, rfl, R2, o1.grown g2 (fun k hk => by cases hk; exact hr), o2.grown g2 (fun k hk => by cases hk; exact hr), o3.grown g2 (fun k hk => by cases hk; exact hr)⟩⟩
  · exact ⟨rfl, hb.mono (Nat.le_of_lt hr), E.below hb hq, .inr ⟨hx, rfl, R.below hb hr⟩⟩
/-- What Decode answers. -/
def DcP (w' : World) (B : Nat) (P : Option Dq) (e : Ending) : Prop :=
  (∃ d vn vt vp, P = some d ∧ e = .returned (.tuple #[.agg (mtA d.a d.b vn vt vp), .int .i64 0]) ∧ OwnI w' B vn d.ns ∧ OwnT w' B vt d.ts ∧ OwnP w' B vp d.ps) ∨ (P = none ∧ e = .returned (.tuple #[.agg M0, .int .i64 11]))
theorem results36 {fn : Func} (hf : fn.results = #[.cell 2 26, .tmp 3]) {tmps : Array Value} {W : World} {g : Nat} {a b c d x : Value} {R : Ending → World → Prop} {n : Value}
    (hk : Blk W g #[a, b, c, d, x] 26) (hp : tmps.getD 2 undef = .pointer (some ⟨g, 0, none⟩)) (hn : tmps.getD 3 undef = n) (hR : R (.returned (.tuple #[.agg #[a, b, c, d, x], n])) W) :
    bodyPost Tryz.prog fn R .ret { tmps := tmps, defers := [] } W := by
  refine bodyPost_ret (v := .tuple #[.agg #[a, b, c, d, x], n]) ?_ rfl hR
  have d0 := hk.cell 0
  have d1 := hk.cell 1
  have d2 := hk.cell 2
  have d3 := hk.cell 3
  have d4 := hk.cell 4
  simp only [List.getElem?_toArray, List.getElem?_cons_zero, List.getElem?_cons_succ] at d0 d1 d2 d3 d4
  simp only [Array.getD_eq_getD_getElem?] at hp hn
  simp [results, hf, hp, hn, go_sem, d0, d1, d2, d3, d4]
set_option maxHeartbeats 2000000 in
theorem decode_any (w : World) (s : List UInt8) (hv : Mv w) (hs : s.length ≤ 140737488355328) :
    Calls Tryz.prog 10 #[str s] w fun e w' => DcP w' w.heap.size (metD s) e ∧ Below w.heap.size w w' := by
  obtain ⟨a, ha⟩ : ∃ a, w.heap.size = a := ⟨_, rfl⟩
  obtain ⟨w3, hw3⟩ : ∃ w3, ((w.alloc (Obj.cells #[str s] 9)).alloc (Obj.cells M0 26)) = w3 := ⟨_, rfl⟩
  have hb3 : Below a w w3 := by
    rw [← hw3, ← ha]
    exact (below_new w _).trans ((below_new _ _).mono (by simp))
  have hs3 : w3.heap.size = a + 2 := by rw [← hw3]; simp; omega
  have K3 : Blk w3 a #[str s] 9 := by rw [← hw3, ← ha]; exact (Blk.new w _ _).alloc _
  have R3 : Blk w3 (a + 1) M0 26 := by
    have := Blk.new (w.alloc (Obj.cells #[str s] 9)) M0 26
    rw [World.size_alloc, ha, hw3] at this
    exact this
  have hb4 := below_new w3 (.cells #[.int .i64 0] 32)
  have b04 : Below a w (w3.alloc (.cells #[.int .i64 0] 32)) := hb3.trans (hb4.mono (by omega))
  have E4 : Blk (w3.alloc (.cells #[.int .i64 0] 32)) (a + 2) #[.int .i64 0] 32 := by
    have := Blk.new w3 #[Value.int .i64 0] 32
    rw [hs3] at this
    exact this
  have T := dec1_any (w3.alloc (.cells #[.int .i64 0] 32)) a (a + 1) (a + 2) s (K3.alloc _) (R3.alloc _) E4 (by omega) (hv.on (by rw [ha]; exact b04)) hs
  generalize metD s = PP at *
  have G := guarded_any 22 (enters_of Tryz.func22 (by kernel_rfl) rfl) #[.pointer (some ⟨a, 0, none⟩), .pointer (some ⟨a + 1, 0, none⟩)] w3
    (fun w2 => Below a w w2 ∧ ∃ d vn vt vp, PP = some d ∧ Blk w2 (a + 1) (mtA d.a d.b vn vt vp) 26 ∧ Blk w2 (a + 2) #[.int .i64 0] 32 ∧ OwnI w2 (a + 3) vn d.ns ∧ OwnT w2 (a + 3) vt d.ts ∧ OwnP w2 (a + 3) vp d.ps)
    (fun n w2 => n = 11 ∧ PP = none ∧ Below a w w2 ∧ Blk w2 (a + 1) M0 26 ∧ Blk w2 (a + 2) #[.int .i64 0] 32) (T.mono fun e w2 ⟨h1, h2, h3⟩ => ⟨by
      rw [hs3]
      exact ⟨h2.cell 0, h2.frozen 0⟩, by
      rcases h3 with ⟨d, vn, vt, vp, hx, he, hR, q1, q2, q3⟩ | ⟨hx, he, hR⟩
      · exact .inl ⟨he, b04.trans (h1.mono (by omega)), d, vn, vt, vp, hx, hR, h2, q1.low (by simp; omega), q2.low (by simp; omega), q3.low (by simp; omega)⟩
      · exact .inr ⟨11, he, rfl, hx, b04.trans (h1.mono (by omega)), hR, h2⟩⟩)
  have G2 : Calls Tryz.prog 16 #[.func (.func 22) #[] #[.pointer (some ⟨a, 0, none⟩), .pointer (some ⟨a + 1, 0, none⟩)]] w3 fun e w' => Below a w w' ∧ ((∃ d na nn nc ta tn tc pa pn pc, PP = some d ∧ e = .returned (.int .i64 0) ∧ Blk w' (a + 1) (mtA d.a d.b (.slice na nn nc) (.slice ta tn tc) (.slice pa pn pc)) 26 ∧ OwnI w' (a + 3) (.slice na nn nc) d.ns ∧ OwnT w' (a + 3) (.slice ta tn tc) d.ts ∧ OwnP w' (a + 3) (.slice pa pn pc) d.ps) ∨ (PP = none ∧ e = .returned (.int .i64 11) ∧ Blk w' (a + 1) M0 26)) := by
    refine G.mono ?_
    rintro e w' (⟨rfl, w2, ⟨hbA, d, vn, vt, vp, hx, h2, h4, q1, q2, q3⟩, rfl⟩ | ⟨n, rfl, w2, ⟨rfl, hx, hbA, h2, h4⟩, rfl⟩)
    · rw [hs3]
      have hg : w2.grownBy (w2.setCell ⟨a + 2, 0, none⟩ (.int .i64 0)) (some (a + 2)) := ⟨rfl, rfl, rfl, by simp, fun k hk hne => Below.heap_setCell w2 ⟨a + 2, 0, none⟩ _ k (by intro e; exact hne (by simp [e]))⟩
      obtain ⟨na, nn, nc, rfl⟩ := q1.shape3
      obtain ⟨ta, tn, tc, rfl⟩ := q2.shape3
      obtain ⟨pa, pc, rfl⟩ := q3.rd.shape
      exact ⟨hbA.grown hg (by have := h2.lt; omega) (fun k hk => by cases hk; omega), .inl ⟨d, _, _, _, _, _, _, _, _, _, hx, rfl, h2.grown hg (by simp), q1.grown hg (fun k hk => by cases hk; omega), q2.grown hg (fun k hk => by cases hk; omega), q3.grown hg (fun k hk => by cases hk; omega)⟩⟩
    · rw [hs3]
      have hg : w2.grownBy (w2.setCell ⟨a + 2, 0, none⟩ (.int .i64 11)) (some (a + 2)) := ⟨rfl, rfl, rfl, by simp, fun k hk hne => Below.heap_setCell w2 ⟨a + 2, 0, none⟩ _ k (by intro e; exact hne (by simp [e]))⟩
      exact ⟨hbA.grown hg (by have := h2.lt; omega) (fun k hk => by cases hk; omega), .inr ⟨hx, rfl, h2.grown hg (by simp)⟩⟩
  clear G T hb4 hb3 K3 R3 b04 E4 hv hs
  rw [ha]
  unfold DcP
  go_enter Tryz.func10, Tryz.ntmps10
  go_wp2_with fail
  refine G2.mono ?_
  rintro e W ⟨hB, ⟨d, na, nn, nc, ta, tn, tc, pa, pn, pc, hx, rfl, kR, q1, q2, q3⟩ | ⟨hx, rfl, kR⟩⟩
  · clear G2 hw3
    have k0 := kR.cell 0
    have k1 := kR.cell 1
    have k2 := kR.cell 2
    have k3 := kR.cell 3
    have k4 := kR.cell 4
    simp only [List.getElem?_toArray, List.getElem?_cons_zero, List.getElem?_cons_succ] at k0 k1 k2 k3 k4
    go_wp2_with (refine wpl_put rfl (.tmp 2) (.tmp 6) rfl (a + 1) _ rfl rfl kR (by kernel_rfl) rfl (by kernel_rfl) ?_)
    intro W2 kW g2 s2
    have hB2 : Below a w W2 := hB.grown g2 (by have := kR.lt; omega) (fun k hk => by cases hk; omega)
    go_wp2_with fail
    refine results36 Tryz.results10 kW rfl rfl ⟨.inl ⟨d, _, _, _, hx, rfl, (q1.grown g2 (fun k hk => by cases hk; omega)).low (by omega), (q2.grown g2 (fun k hk => by cases hk; omega)).low (by omega), (q3.grown g2 (fun k hk => by cases hk; omega)).low (by omega)⟩, hB2⟩
  · clear G2 hw3
    have k0 := kR.cell 0
    have k1 := kR.cell 1
    have k2 := kR.cell 2
    have k3 := kR.cell 3
    have k4 := kR.cell 4
    simp only [List.getElem?_toArray, List.getElem?_cons_zero, List.getElem?_cons_succ] at k0 k1 k2 k3 k4
    go_wp2_with (refine wpl_put rfl (.tmp 2) (.tmp 6) rfl (a + 1) _ rfl rfl kR (by kernel_rfl) rfl (by kernel_rfl) ?_)
    intro W2 kW g2 s2
    have hB2 : Below a w W2 := hB.grown g2 (by have := kR.lt; omega) (fun k hk => by cases hk; omega)
    go_wp2_with fail
    refine results36 Tryz.results10 kW rfl rfl ⟨.inr ⟨hx, rfl⟩, hB2⟩
end Go.Proofs.YtmaaacaifpgpaaaGreatDoor

namespace Go.Proofs.YtmaaacaifpgpaaaGreatDoor
open Go.RowKit Go.Lib
set_option maxRecDepth 100000
set_option linter.unusedSimpArgs false

/-- How the document's Decode stands: the reader at block r, the method at block m, the result at block c. -/
structure Dst (w W : World) (c r m : Nat) (st : Rs) (q : Dq) (vn vt vp : Value) : Prop where
  s : RdS W r st
  k : Blk W m (mtA q.a q.b vn vt vp) 26
  i : OwnI W (m + 1) vn q.ns
  t : OwnT W (m + 1) vt q.ts
  p : OwnP W (m + 1) vp q.ps
  bc : Blk W c M0 26
  b : Below c w W
  cr : c < r
  rm : r < m
theorem Dst.lt {w W c r m st q vn vt vp} (h : Dst w W c r m st q vn vt vp) : m + 1 ≤ W.heap.size := h.k.lt
theorem Dst.alb {w W W' c r m st st' q vn vt vp} (h : Dst w W c r m st q vn vt vp) (hb : Alb W.heap.size W W' r) (hs : RdS W' r st') : Dst w W' c r m st' q vn vt vp := by
  have h1 := h.cr
  have h2 := h.rm
  have h3 := h.lt
  exact ⟨hs, ⟨by rw [hb.block m (by omega) (by omega)]; exact h.k.h⟩, h.i.alb hb (by omega), h.t.alb hb (by omega), h.p.alb hb (by omega), ⟨by rw [hb.block c (by omega) (by omega)]; exact h.bc.h⟩, h.b.trans ⟨hb.os, hb.tape, hb.output, hb.size, fun k hk => hb.block k (by omega) (by omega)⟩, h1, h2⟩
theorem Dst.but {w W W' c r m st st' q vn vt vp} (h : Dst w W c r m st q vn vt vp) (hb : But W W' r) (hs : RdS W' r st') : Dst w W' c r m st' q vn vt vp := h.alb (.but hb) hs
theorem Dst.on {w W W' c r m st q vn vt vp} (h : Dst w W c r m st q vn vt vp) (hb : Below W.heap.size W W') : Dst w W' c r m st q vn vt vp :=
  h.alb (.below hb) (Rd.below h.s hb (by have := h.rm; have := h.lt; omega))
theorem Dst.bad {w W c r m st q vn vt vp} (h : Dst w W c r m st q vn vt vp) : Dst w (W.setCell ⟨r, 1, none⟩ (.bool true)) c r m (st.1, true) q vn vt vp := h.but (But.set _ _ _ _) (rd_set _ _ _ _ h.s)
theorem Dst.drew {w W c r m st q vn vt vp} (h : Dst w W c r m st q vn vt vp) : Dst w W.drew c r m st q vn vt vp := h.on (Below.refl _ _).drew
theorem Rd.same {w w' : World} {b : Nat} {s : List UInt8} {bad : Bool} (h : Rd w b s bad) (e : w'.heap[b]? = w.heap[b]?) : Rd w' b s bad := by
  obtain ⟨h1, h2, h3, h4⟩ := h
  refine ⟨?_, ?_, ?_, ?_⟩
  · simp only [World.cell?] at h1 ⊢
    rw [e]; exact h1
  · simp only [World.cell?] at h2 ⊢
    rw [e]; exact h2
  · simp only [World.frozen?] at h3 ⊢
    rw [e]; exact h3
  · simp only [World.frozen?] at h4 ⊢
    rw [e]; exact h4
theorem Dst.growI {w W W1 c r m st q vn vt vp} (h : Dst w W c r m st q vn vt vp) (g : W.grownBy W1 vn.ownBlock) : Below (m + 1) W W1 :=
  (Below.refl _ _).grown g h.lt (fun k hk => (World.ownsRow.lt h.i k hk).1)
theorem Dst.growT {w W W1 c r m st q vn vt vp} (h : Dst w W c r m st q vn vt vp) (g : W.grownBy W1 vt.ownBlock) : Below (m + 1) W W1 :=
  (Below.refl _ _).grown g h.lt (fun k hk => (World.ownsRow.lt h.t k hk).1)
theorem Dst.putI {w W W1 W2 c r m st q vn vt vp v' p} (h : Dst w W c r m st q vn vt vp) (g1 : W.grownBy W1 vn.ownBlock) (o : OwnI W1 (m + 1) v' (q.ns ++ [p])) (k2 : Blk W2 m (mtA q.a q.b v' vt vp) 26) (g2 : W1.grownBy W2 (some m)) :
    Dst w W2 c r m st ⟨q.a, q.b, q.ns ++ [p], q.ts, q.ps⟩ v' vt vp := by
  have h1 := h.cr
  have h2 := h.rm
  have h3 := h.lt
  have b1 := h.growI g1
  have h4 := b1.size
  have k2' := k2.lt
  have row : ∀ k, (some m : Option Nat) = some k → k < m + 1 := fun k hk => by cases hk; omega
  exact ⟨(h.s.same (b1.block r (by omega))).same (g2.block r (by omega) (by simp; omega)), k2, o.grown g2 row, World.ownsRow.kept h.t g1 (ne_block h.i h.t (by decide)) |> fun x => OwnT.grown x g2 row, World.ownsRow.kept h.p g1 (ne_block h.i h.p (by decide)) |> fun x => OwnP.grown x g2 row, (h.bc.below b1 (by omega)).grown g2 (by simp; omega), (h.b.trans (b1.mono (by omega))).grown g2 (by omega) (fun k hk => by cases hk; omega), h1, h2⟩
theorem Dst.putT {w W W1 W2 c r m st q vn vt vp v' p} (h : Dst w W c r m st q vn vt vp) (g1 : W.grownBy W1 vt.ownBlock) (o : OwnT W1 (m + 1) v' (q.ts ++ [p])) (k2 : Blk W2 m (mtA q.a q.b vn v' vp) 26) (g2 : W1.grownBy W2 (some m)) :
    Dst w W2 c r m st ⟨q.a, q.b, q.ns, q.ts ++ [p], q.ps⟩ vn v' vp := by
  have h1 := h.cr
  have h2 := h.rm
  have h3 := h.lt
  have b1 := h.growT g1
  have h4 := b1.size
  have k2' := k2.lt
  have row : ∀ k, (some m : Option Nat) = some k → k < m + 1 := fun k hk => by cases hk; omega
  exact ⟨(h.s.same (b1.block r (by omega))).same (g2.block r (by omega) (by simp; omega)), k2, World.ownsRow.kept h.i g1 (ne_block h.t h.i (by decide)) |> fun x => OwnI.grown x g2 row, o.grown g2 row, World.ownsRow.kept h.p g1 (ne_block h.t h.p (by decide)) |> fun x => OwnP.grown x g2 row, (h.bc.below b1 (by omega)).grown g2 (by simp; omega), (h.b.trans (b1.mono (by omega))).grown g2 (by omega) (fun k hk => by cases hk; omega), h1, h2⟩
theorem Dst.putP {w W W2 c r m st q vn vt vp v' L} (h : Dst w W c r m st q vn vt vp) (o : OwnP W (m + 1) v' L) (k2 : Blk W2 m (mtA q.a q.b vn vt v') 26) (g2 : W.grownBy W2 (some m)) :
    Dst w W2 c r m st ⟨q.a, q.b, q.ns, q.ts, L⟩ vn vt v' := by
  have h1 := h.cr
  have h2 := h.rm
  have h3 := h.lt
  have row : ∀ k, (some m : Option Nat) = some k → k < m + 1 := fun k hk => by cases hk; omega
  exact ⟨h.s.same (g2.block r (by omega) (by simp; omega)), k2, h.i.grown g2 row, h.t.grown g2 row, o.grown g2 row, h.bc.grown g2 (by simp; omega), h.b.grown g2 (by omega) (fun k hk => by cases hk; omega), h1, h2⟩
theorem Dst.setB {w W W2 c r m st q vn vt vp} {b : Int} (h : Dst w W c r m st q vn vt vp) (k2 : Blk W2 m (mtA q.a b vn vt vp) 26) (g2 : W.grownBy W2 (some m)) : Dst w W2 c r m st ⟨q.a, b, q.ns, q.ts, q.ps⟩ vn vt vp := by
  have h1 := h.cr
  have h2 := h.rm
  have h3 := h.lt
  have row : ∀ k, (some m : Option Nat) = some k → k < m + 1 := fun k hk => by cases hk; omega
  exact ⟨h.s.same (g2.block r (by omega) (by simp; omega)), k2, h.i.grown g2 row, h.t.grown g2 row, h.p.grown g2 row, h.bc.grown g2 (by simp; omega), h.b.grown g2 (by omega) (fun k hk => by cases hk; omega), h1, h2⟩
theorem wpl_appI {ops : Array Oper} {rest : List Oper} {o : Oper} {a : Act} {Q : Exit → Act → World → Prop} (hgd : o.guard = none) (s x : Operand)
    (ho : o.op = .call { callee := .builtin .append, args := #[s, x], argTypes := #[22, 22] }) (B : Nat) (v : Value) (l : List Int) (p : Int) (w : World) (g : Nat)
    (hs : a.eval s = v) (hown : OwnI w B v l) (hx : a.eval x = .slice (some ⟨g, 0, none⟩) 1 1) (hg : w.cell? ⟨g, 0, none⟩ = some (Value.int .i64 p)) (hn : l.length + 1 ≤ 1000000000) (hB : B ≤ w.heap.size)
    (h : ∀ v' w', OwnI w' B v' (l ++ [p]) → w.grownBy w' v.ownBlock → wpList Tryz.prog ops Q rest (a.put o.dst v') w') : wpList Tryz.prog ops Q (o :: rest) a w :=
  wpList_plain hgd fun _ hK => appI s x ho B v l p w g hs hown hx hg hn hB fun v' w' h1 h2 => hK _ _ (h v' w' h1 h2)
theorem wpl_appT {ops : Array Oper} {rest : List Oper} {o : Oper} {a : Act} {Q : Exit → Act → World → Prop} (hgd : o.guard = none) (s x : Operand)
    (ho : o.op = .call { callee := .builtin .append, args := #[s, x], argTypes := #[23, 23] }) (B : Nat) (v : Value) (l : List (List UInt8)) (p : (List UInt8)) (w : World) (g : Nat)
    (hs : a.eval s = v) (hown : OwnT w B v l) (hx : a.eval x = .slice (some ⟨g, 0, none⟩) 1 1) (hg : w.cell? ⟨g, 0, none⟩ = some (str p)) (hn : l.length + 1 ≤ 1000000000) (hB : B ≤ w.heap.size)
    (h : ∀ v' w', OwnT w' B v' (l ++ [p]) → w.grownBy w' v.ownBlock → wpList Tryz.prog ops Q rest (a.put o.dst v') w') : wpList Tryz.prog ops Q (o :: rest) a w :=
  wpList_plain hgd fun _ hK => appT s x ho B v l p w g hs hown hx hg hn hB fun v' w' h1 h2 => hK _ _ (h v' w' h1 h2)
theorem runR_get {f : List UInt8} {x0 x : Rs × Dq} {k : Nat} (h : k < f.length) (hq : runR f x0 = runR (f.drop k) x) : runR f x0 = runR (f.drop (k + 1)) (stepR f[k].toNat x) := by
  rw [hq, List.drop_eq_getElem_cons h]
  rfl
theorem stepR_num {c : Nat} (st : Rs) (q : Dq) (h : sz c ≠ 0) : stepR c (st, q) = (((numR st (sz c)).2.1, (numR st (sz c)).2.2 || decide (9223372036854775808 ≤ (numR st (sz c)).1)), ⟨q.a, q.b, q.ns ++ [IntKind.i64.wrap ((numR st (sz c)).1 : Int)], q.ts, q.ps⟩) := by
  obtain ⟨h0, h1, h2, h3⟩ := sz_wid h
  unfold stepR
  rw [if_neg h1, if_neg h2, if_neg h3, h0]
theorem sz_le (c : Nat) : sz c ≤ 8 := by
  unfold sz
  repeat' split
  all_goals omega
theorem numR_64 (st : Rs) (c : Nat) : (numR st (sz c)).1 < 2 ^ 64 :=
  Nat.lt_of_lt_of_le (numR_lt st (sz c)) (by
    have : 256 ^ sz c ≤ 256 ^ 8 := Nat.pow_le_pow_right (by omega) (sz_le c)
    exact Nat.le_trans this (by decide))
theorem wrap_neg {n : Nat} (h : n < 2 ^ 64) : (IntKind.i64.wrap (n : Int) < 0) ↔ 9223372036854775808 ≤ n := by
  rw [IntKind.wrap_i64]
  omega
theorem DcP.no {w' : World} {B : Nat} {P : Option Dq} (hP : P = none) : DcP w' B P (.returned (.tuple #[.agg M0, .int .i64 11])) := .inr ⟨hP, rfl⟩
end Go.Proofs.YtmaaacaifpgpaaaGreatDoor

namespace Go.Proofs.YtmaaacaifpgpaaaGreatDoor
open Go.RowKit Go.Lib
set_option maxRecDepth 100000
set_option linter.unusedSimpArgs false

set_option maxHeartbeats 16000000 in
theorem rdecode_any (w : World) (s : List UInt8) : Calls Tryz.prog 11 #[str s] w fun e w' => DcP w' w.heap.size (rmet s) e ∧ Below w.heap.size w w' := by
  obtain ⟨c, hc⟩ : ∃ c, w.heap.size = c := ⟨_, rfl⟩
  obtain ⟨W0, hW0⟩ : ∃ W0, (w.alloc (Obj.cells M0 26)).alloc (Obj.cells #[str s, .bool false] 61) = W0 := ⟨_, rfl⟩
  have hr0 : RdS W0 (c + 1) (s, false) := by
    have := Rd.new (w.alloc (Obj.cells M0 26)) s false 61
    rw [hW0, World.size_alloc, hc] at this
    exact this
  have hc0 : Blk W0 c M0 26 := by rw [← hW0, ← hc]; exact (Blk.new w _ _).alloc _
  have hb0 : Below c w W0 := by
    rw [← hW0, ← hc]
    exact (below_new w _).trans ((below_new _ _).mono (by simp))
  have hs0 : W0.heap.size = c + 2 := by rw [← hW0]; simp; omega
  have HW0 : Hid ((w.alloc (Obj.cells M0 26)).alloc (Obj.cells #[str s, .bool false] 61) = W0) := hW0
  have HC : Hid (w.heap.size = c) := hc
  have hn1 : (numR (s, false) 2).1 < 65536 := numR_lt (s, false) 2
  have hn2 : (numR (numR (s, false) 2).2 2).1 < 65536 := numR_lt _ 2
  have N1 := rnum_any W0 (c + 1) 2 (s, false) (by decide) hr0
  have N2 := fun w st (h : RdS w (c + 1) st) => rnum_any w (c + 1) 2 st (by decide) h
  have HRM : Hid (rmet s = if (numR (numR (s, false) 2).2 2).2.2 = true ∨ (formL (numR (s, false) 2).1 (numR (numR (s, false) 2).2 2).1 mL).2 = false then none
  else endR (runR (formL (numR (s, false) 2).1 (numR (numR (s, false) 2).2 2).1 mL).1 ((numR (numR (s, false) 2).2 2).2, ⟨(numR (s, false) 2).1, (numR (numR (s, false) 2).2 2).1, [], [], []⟩))) := rfl
  generalize rmet s = RM at *
  generalize hq1 : numR (s, false) 2 = nr1 at *
  obtain ⟨n1, st1⟩ := nr1
  have N2 := fun w (h : RdS w (c + 1) st1) => N2 w st1 h
  generalize hq2 : numR st1 2 = nr2 at *
  obtain ⟨n2, st2⟩ := nr2
  have hn1 : n1 < 65536 := hn1
  have hn2 : n2 < 65536 := by simpa only [hq2] using hn2
  have HRM : Hid (RM = if st2.2 = true ∨ (formL n1 n2 mL).2 = false then none else endR (runR (formL n1 n2 mL).1 (st2, ⟨n1, n2, [], [], []⟩))) := by
    have := HRM.out
    simp only [hq2] at this
    exact this
  have hw1 : IntKind.i64.wrap (n1 : Int) = (n1 : Int) := by rw [IntKind.wrap_i64]; omega
  have hw2 : IntKind.i64.wrap (n2 : Int) = (n2 : Int) := by rw [IntKind.wrap_i64]; omega
  have F := fun w => rform_any w n1 n2
  have FS := @form_some n1 n2
  have HL8 : Hid (∀ y ∈ (formL (n1 : Int) n2 mL).1, y ∈ ([111, 98, 104, 108, 76, 115, 83, 84] : List UInt8)) := letters n1 n2
  generalize (formL (n1 : Int) n2 mL).1 = f at *
  generalize (formL (n1 : Int) n2 mL).2 = ok at *
  rw [hc]
  clear hq1 hq2 hn1 hn2 hc
  go_enter Tryz.func11, Tryz.ntmps11
  go_upto_region 2 with fail
  try rw [HW0.out]
  rw [HC.out]
  clear hW0
  go_upto_region 3 with (first | (go_at_call 24; refine N1.mono ?_; rintro e w1 ⟨rfl, hs1, hb1⟩) | (refine wpl_fresh rfl (.tmp 5) (.tmp 19) rfl _ _ rfl rfl (by kernel_rfl) rfl (by kernel_rfl) ?_))
  intro w2 k2 b2 s2
  have hz1 : w1.heap.size = c + 2 := by rw [hb1.size, hs0]
  rw [hz1] at k2 b2 s2 ⊢
  have D2 : Dst w w2 c (c + 1) (c + 2) st1 ⟨n1, 0, [], [], []⟩ (.slice none 0 0) (.slice none 0 0) (.slice none 0 0) := by
    have b02 : Below (c + 1) W0 w2 := (hb1.below (Nat.le_refl _)).trans (b2.mono (by omega))
    exact ⟨Rd.below hs1 b2 (by omega), k2, OwnI.nil _ _, OwnT.nil _ _, World.ownsRow_nil _ _ _ _, hc0.below b02 (by omega), hb0.trans (b02.mono (by omega)), by omega, by omega⟩
  have N2 := N2 w2 D2.s
  clear N1 hs1 hb1 k2 b2 s2 hb0 hc0 hr0 hs0 hw1 HW0 hz1
  go_upto_region 4 with (first | (go_at_call 24; refine N2.mono ?_; rintro e w3 ⟨rfl, hs3, hb3⟩) | (refine wpl_set rfl (.tmp 23) (.tmp 22) rfl (c + 2) 1 (.int .i64 n2) rfl rfl (D2.but hb3 hs3).k (by kernel_rfl) rfl rfl (by simp) ?_))
  intro w4 k4 g4 s4
  have D4 : Dst w w4 c (c + 1) (c + 2) st2 ⟨n1, n2, [], [], []⟩ (.slice none 0 0) (.slice none 0 0) (.slice none 0 0) := (D2.but hb3 hs3).setB k4 g4
  clear N2 D2 hs3 hb3 k4 g4 s4 hw2
  have c0 := D4.k.cell 0
  have c1 := D4.k.cell 1
  simp only [List.getElem?_toArray, List.getElem?_cons_zero, List.getElem?_cons_succ] at c0 c1
  go_upto_region 5 with (go_at_call 7; refine (F _).mono ?_; rintro e w5 ⟨rfl, hb5⟩)
  have D5 := D4.on hb5
  clear D4 hb5 F c0 c1
  have d1 := D5.s.c1
  obtain ⟨s2, bad2⟩ := st2
  have d1 : w5.cell? ⟨c + 1, 1, none⟩ = some (.bool bad2) := d1
  have hcc := D5.bc
  by_cases hbad : bad2 = true ∨ ok = false
  · have hnone : RM = none := by rw [HRM.out]; exact if_pos hbad
    have hcl : c < w5.heap.size := D5.bc.lt
    clear HRM FS HL8
    cases bad2 with
    | true =>
      go_wp2_with (refine wpl_put rfl (.tmp 2) (.tmp 40) rfl c _ rfl rfl hcc (by kernel_rfl) rfl (by kernel_rfl) ?_)
      intro w6 k6 g6 s6
      go_wp2_with fail
      exact results36 Tryz.results11 k6 rfl rfl ⟨DcP.no hnone, D5.b.grown g6 (by omega) (fun k hk => by cases hk; exact Nat.le_refl _)⟩
    | false =>
      obtain rfl : ok = false := by simpa using hbad
      go_wp2_with (refine wpl_put rfl (.tmp 2) (.tmp 40) rfl c _ rfl rfl hcc (by kernel_rfl) rfl (by kernel_rfl) ?_)
      intro w6 k6 g6 s6
      go_wp2_with fail
      exact results36 Tryz.results11 k6 rfl rfl ⟨DcP.no hnone, D5.b.grown g6 (by omega) (fun k hk => by cases hk; exact Nat.le_refl _)⟩
  have hgood : RM = endR (runR f ((s2, bad2), ⟨n1, n2, [], [], []⟩)) := by rw [HRM.out]; exact if_neg hbad
  obtain rfl : bad2 = false := by cases bad2 <;> simp_all
  obtain rfl : ok = true := by cases ok <;> simp_all
  have HRM : Hid (RM = endR (runR f ((s2, false), ⟨n1, n2, [], [], []⟩))) := hgood
  have hf6 : f.length ≤ 6 := (FS (by trivial)).2.2.2.2
  clear hbad hgood FS hcc
  obtain ⟨q0, hq0⟩ : ∃ q0 : Dq, (⟨n1, n2, [], [], []⟩ : Dq) = q0 := ⟨_, rfl⟩
  have HL0 : Hid (q0.ns.length ≤ 0 ∧ q0.ts.length ≤ 0) := by rw [← hq0]; exact ⟨Nat.le_refl _, Nat.le_refl _⟩
  rw [hq0] at D5 HRM
  obtain ⟨st0, hst0⟩ : ∃ st0 : Rs, (s2, false) = st0 := ⟨_, rfl⟩
  rw [hst0] at D5 HRM
  obtain ⟨x0, hx0⟩ : ∃ x0, runR f (st0, q0) = x0 := ⟨_, rfl⟩
  have HX : Hid (runR f (st0, q0) = x0) := hx0
  rw [hx0] at HRM
  obtain ⟨r, hr⟩ : ∃ r, c + 1 = r := ⟨_, rfl⟩
  obtain ⟨m, hm⟩ : ∃ m, c + 2 = m := ⟨_, rfl⟩
  rw [hr] at d1
  rw [hr, hm] at D5 ⊢
  clear hq0 hst0 hx0 hr hm
  go_upto_region 7 with fail
  clear d1
  go_wp2_with fail
  go_loopw [8] (fun i wr => ∃ (k : Nat) (st : Rs) (q : Dq) (vn vt vp : Value), k ≤ f.length ∧ i = .int .i64 (k : Int) ∧ Dst w wr c r m st q vn vt vp ∧ Hid (q.ns.length ≤ k ∧ q.ts.length ≤ k) ∧ Hid (x0 = runR (f.drop k) (st, q))) (fun i _ => f.length - (RowKit.intOf i).toNat)
  case atStart => exact ⟨0, st0, q0, _, _, _, Nat.zero_le _, rfl, D5, HL0, HX.out.symm⟩
  case round =>
    clear D5 HL0 HX
    obtain ⟨k, st, q, vn, vt, vp, hk, rfl, D, HL, HR⟩ := hrel
    by_cases hlt : k < f.length
    · have gk := get_str f k
      have hgk : f.getD k 0 = f[k] := by simp [List.getD_eq_getElem?_getD, hlt]
      rw [hgk] at gk
      have hkz : (k : Int) < (f.length : Int) := by omega
      have HE : Hid (x0 = runR (f.drop (k + 1)) (stepR f[k].toNat (st, q))) := by
        have := runR_get (x0 := (st, q)) hlt (x := (st, q)) (k := k)
        show _ = _
        rw [HR.out, List.drop_eq_getElem_cons hlt]
        rfl
      have hmem : f[k] ∈ ([111, 98, 104, 108, 76, 115, 83, 84] : List UInt8) := HL8.out _ (List.getElem_mem _)
      have SZ := fun w => size_any w f[k].toNat
      have HB : Hid (k ≤ 6) := by show _ ≤ _; omega
      clear hgk HR HL8
      generalize f[k] = y at *
      have hcase : (sz y.toNat ≠ 0) ∨ y = 84 ∨ y = 115 ∨ y = 83 := by
        simp only [List.mem_cons, List.not_mem_nil, or_false] at hmem
        rcases hmem with rfl | rfl | rfl | rfl | rfl | rfl | rfl | rfl
        · exact .inl (by decide)
        · exact .inl (by decide)
        · exact .inl (by decide)
        · exact .inl (by decide)
        · exact .inl (by decide)
        · exact .inr (.inr (.inl rfl))
        · exact .inr (.inr (.inr rfl))
        · exact .inr (.inl rfl)
      clear hmem
      rcases hcase with hz | hz | hz | hz
      · have HST : Hid (stepR y.toNat (st, q) = _) := stepR_num st q hz
        have N := rnum_any wr r (sz y.toNat) st (sz_le _) D.s
        have h64 := numR_64 st y.toNat
        have hzz : (0 : Int) < ((sz y.toNat : Nat) : Int) := by omega
        generalize numR st (sz y.toNat) = nr at *
        generalize sz y.toNat = z at *
        obtain ⟨n, st1⟩ := nr
        have hwn := wrap_neg h64
        have HST : Hid (stepR y.toNat (st, q) = ((st1.1, st1.2 || decide (9223372036854775808 ≤ n)), ⟨q.a, q.b, q.ns ++ [IntKind.i64.wrap (n : Int)], q.ts, q.ps⟩)) := HST.out
        obtain ⟨zv, hzv⟩ : ∃ zv, IntKind.i64.wrap (n : Int) = zv := ⟨_, rfl⟩
        rw [hzv] at hwn HST
        clear hz h64
        go_upto_region 14 with (first | (go_at_call 20; refine (SZ _).mono ?_; rintro e w7 ⟨rfl, rfl⟩) | (go_at_call 24; refine N.mono ?_; rintro e w7 ⟨rfl, hs7, hb7⟩))
        have D7 := D.but hb7 hs7
        clear N D hs7 hb7 hzv
        have HL2 : Hid ((q.ns ++ [zv]).length ≤ k + 1 ∧ q.ts.length ≤ k + 1) := ⟨by have := HL.out.1; simp; omega, by have := HL.out.2; omega⟩
        by_cases hn : 9223372036854775808 ≤ n
        · have HR2 : Hid (x0 = runR (f.drop (k + 1)) ((st1.1, true), ⟨q.a, q.b, q.ns ++ [zv], q.ts, q.ps⟩)) := by
            show _ = _
            rw [HE.out, HST.out, decide_eq_true hn, Bool.or_true]
          have hneg : zv < 0 := hwn.2 hn
          have r0 := D7.s.c0
          have r1 := D7.s.c1
          have rf := D7.s.f1
          clear HE HST hwn
          go_upto_region 16 with fail
          have D8 := D7.bad
          generalize w7.setCell ⟨r, 1, none⟩ (.bool true) = w8 at *
          clear D7 r0 r1 rf
          have CE : Hid ((w8.alloc (.cells #[.int .i64 zv] 3)).cell? ⟨w8.heap.size, 0, none⟩ = some (.int .i64 zv)) := (Blk.new w8 #[.int .i64 zv] 3).cell 0
          have D9 := D8.on (below_new w8 (.cells #[.int .i64 zv] 3))
          have c2 := D8.k.cell 2
          simp only [List.getElem?_toArray, List.getElem?_cons_zero, List.getElem?_cons_succ] at c2
          go_wp2_with (at_builtin; refine wpl_appI rfl (.tmp 64) (.tmp 66) rfl (m + 1) vn q.ns zv _ _ rfl D9.i rfl CE.out (by have := HL.out.1; have := HB.out; omega) D9.lt ?_)
          intro v10 w10 o10 g10
          obtain ⟨xa, xn, xc, rfl⟩ := o10.shape3
          have k10 := D9.k.below (D9.growI g10) (Nat.lt_succ_self m)
          clear c2 CE
          go_wp2_with (refine wpl_set rfl (.tmp 68) (.tmp 67) rfl m 2 _ rfl rfl k10 (by kernel_rfl) rfl rfl (by simp) ?_)
          intro w11 k11 g11 s11
          have D11 := D9.putI g10 o10 k11 g11
          clear D9 D8 k10 o10 g10 k11 g11
          go_wp2_with fail
          go_roundw
          case rel => exact ⟨k + 1, _, _, _, _, _, by omega, by go_num, D11, HL2, HR2⟩
          case measure => simp [RowKit.intOf]; omega
        · have HR2 : Hid (x0 = runR (f.drop (k + 1)) (st1, ⟨q.a, q.b, q.ns ++ [zv], q.ts, q.ps⟩)) := by
            show _ = _
            rw [HE.out, HST.out, decide_eq_false hn, Bool.or_false]
          have hneg : ¬ zv < 0 := fun h => hn (hwn.1 h)
          clear HE HST hwn
          have CE : Hid ((w7.alloc (.cells #[.int .i64 zv] 3)).cell? ⟨w7.heap.size, 0, none⟩ = some (.int .i64 zv)) := (Blk.new w7 #[.int .i64 zv] 3).cell 0
          have D9 := D7.on (below_new w7 (.cells #[.int .i64 zv] 3))
          have c2 := D7.k.cell 2
          simp only [List.getElem?_toArray, List.getElem?_cons_zero, List.getElem?_cons_succ] at c2
          go_wp2_with (at_builtin; refine wpl_appI rfl (.tmp 64) (.tmp 66) rfl (m + 1) vn q.ns zv _ _ rfl D9.i rfl CE.out (by have := HL.out.1; have := HB.out; omega) D9.lt ?_)
          intro v10 w10 o10 g10
          obtain ⟨xa, xn, xc, rfl⟩ := o10.shape3
          have k10 := D9.k.below (D9.growI g10) (Nat.lt_succ_self m)
          clear c2 CE
          go_wp2_with (refine wpl_set rfl (.tmp 68) (.tmp 67) rfl m 2 _ rfl rfl k10 (by kernel_rfl) rfl rfl (by simp) ?_)
          intro w11 k11 g11 s11
          have D11 := D9.putI g10 o10 k11 g11
          clear D9 D7 k10 o10 g10 k11 g11
          go_wp2_with fail
          go_roundw
          case rel => exact ⟨k + 1, _, _, _, _, _, by omega, by go_num, D11, HL2, HR2⟩
          case measure => simp [RowKit.intOf]; omega
      · subst hz
        have SZ : ∀ w, Calls Tryz.prog 20 #[.int .u8 84] w fun e w' => e = .returned (.int .i64 0) ∧ w' = w := SZ
        have HE : Hid (x0 = runR (f.drop (k + 1)) ((rtab st).2, ⟨q.a, q.b, q.ns, q.ts, (rtab st).1⟩)) := HE.out
        have N := rtable_any wr r st D.s (by have := D.rm; have := D.lt; omega)
        generalize rtab st = rt at *
        obtain ⟨L, st1⟩ := rt
        go_wp2_with (first | (go_at_call 20; refine (SZ _).mono ?_; rintro e w7 ⟨rfl, rfl⟩) | (go_at_call 25; refine N.mono ?_; rintro e w7 ⟨v7, rfl, ho7, hs7, hb7⟩) | (refine wpl_set rfl (.tmp 73) (.tmp 72) rfl m 4 _ rfl rfl (D.alb hb7 hs7).k (by kernel_rfl) (by obtain ⟨pa, pc, rfl⟩ := ho7.rd.shape; rfl) (by obtain ⟨pa, pc, rfl⟩ := ho7.rd.shape; rfl) (by simp) ?_))
        intro w11 k11 g11 s11
        have D11 := (D.alb hb7 hs7).putP (ho7.low (by have := D.lt; omega)) k11 g11
        have HL2 : Hid (q.ns.length ≤ k + 1 ∧ q.ts.length ≤ k + 1) := ⟨by have := HL.out.1; omega, by have := HL.out.2; omega⟩
        clear D N ho7 hs7 hb7 k11 g11
        go_wp2_with fail
        go_roundw
        case rel => exact ⟨k + 1, _, _, _, _, _, by omega, by go_num, D11, HL2, HE⟩
        case measure => simp [RowKit.intOf]; omega
      · subst hz
        have SZ : ∀ w, Calls Tryz.prog 20 #[.int .u8 115] w fun e w' => e = .returned (.int .i64 0) ∧ w' = w := SZ
        have HE : Hid (x0 = runR (f.drop (k + 1)) ((shortR st).2, ⟨q.a, q.b, q.ns, q.ts ++ [(shortR st).1], q.ps⟩)) := HE.out
        have N := fun w (h : RdS w r st) => shortR_any w r st h
        generalize shortR st = sr at *
        obtain ⟨t, st1⟩ := sr
        have HE : Hid (x0 = runR (f.drop (k + 1)) (st1, ⟨q.a, q.b, q.ns, q.ts ++ [t], q.ps⟩)) := HE.out
        have HL2 : Hid (q.ns.length ≤ k + 1 ∧ (q.ts ++ [t]).length ≤ k + 1) := ⟨by have := HL.out.1; omega, by have := HL.out.2; simp; omega⟩
        have hl1 : q.ts.length + 1 ≤ 1000000000 := by have := HL.out.2; have := HB.out; omega
        go_wp2_with (go_at_call 20; refine (SZ _).mono ?_; rintro e w7 ⟨rfl, rfl⟩)
        refine wp_region_held (S := fun _ => True) hmix ?_
        show wpAnyH _ _ _ _ _ _ _ _ (World.drew _)
        have D0 := D.drew
        clear D
        generalize World.drew _ = w0 at *
        refine tks [0, 2] [.pointer (some ⟨m, 3, none⟩), .pointer (some ⟨r, 0, none⟩)] 6 ?_ trivial ?_
        · simp only [tkY, tkf]
          refine ⟨.yes ?_, .yes ?_, trivial⟩
          all_goals
            intro W' hW'
            go_simp
        simp only [tkA, tkf]
        refine ak2 1 3 (fun K hK => ?_) (fun K hK => ?_)
        · have d3 := D0.k.cell 3
          simp only [List.getElem?_toArray, List.getElem?_cons_zero, List.getElem?_cons_succ] at d3
          go_wp2_with fail
          refine hK _ _ trivial ?_
          clear hK K d3
          refine ak 3 (fun K hK => ?_)
          have N1 := N w0 D0.s
          go_wp2_with (go_at_call 26; refine N1.mono ?_; rintro e w1 ⟨rfl, hs1, hb1⟩)
          have D1 := D0.but hb1 hs1
          refine hK _ _ trivial ?_
          clear hK K N N1 hs1 hb1 D0
          refine ak 4 (fun K hK => ?_)
          go_wp2_with fail
          have D2 := D1.on (below_new w1 (.cells #[str t] 9))
          have CE : Hid ((w1.alloc (.cells #[str t] 9)).cell? ⟨w1.heap.size, 0, none⟩ = some (str t)) := (Blk.new w1 #[str t] 9).cell 0
          refine hK _ _ trivial ?_
          clear hK K D1
          generalize w1.heap.size = gb at *
          generalize w1.alloc (.cells #[str t] 9) = w2 at *
          refine ak 5 (fun K hK => ?_)
          refine appT (.tmp 77) (.tmp 80) rfl (m + 1) vt q.ts t w2 gb rfl D2.t rfl CE.out hl1 D2.lt ?_
          intro v10 w10 o10 g10
          obtain ⟨xa, xn, xc, rfl⟩ := o10.shape3
          have k10 := D2.k.below (D2.growT g10) (Nat.lt_succ_self m)
          refine hK _ _ trivial ?_
          clear hK K CE
          refine ak 6 (fun K hK => ?_)
          go_wp2_with fail
          refine hK _ _ trivial ?_
          clear hK K
          refine ak 7 (fun K hK => ?_)
          refine opw_set (.tmp 82) (.tmp 81) rfl m 3 _ rfl rfl k10 (by kernel_rfl) rfl rfl (by simp) ?_
          intro w11 k11 g11 s11
          have D11 := D2.putT g10 o10 k11 g11
          refine hK _ _ trivial ?_
          clear hK K D2 k10 o10 g10 k11 g11 hl1
          refine wpAnyH_done (by kernel_rfl) ?_ _
          go_wp2_with fail
          go_roundw
          case rel => exact ⟨k + 1, _, _, _, _, _, by omega, by go_num, D11, HL2, HE⟩
          case measure => simp [RowKit.intOf]; omega
        · have N1 := N w0 D0.s
          go_wp2_with (go_at_call 26; refine N1.mono ?_; rintro e w1 ⟨rfl, hs1, hb1⟩)
          have D1 := D0.but hb1 hs1
          refine hK _ _ trivial ?_
          clear hK K N N1 hs1 hb1 D0
          refine ak2 1 4 (fun K hK => ?_) (fun K hK => ?_)
          · have d3 := D1.k.cell 3
            simp only [List.getElem?_toArray, List.getElem?_cons_zero, List.getElem?_cons_succ] at d3
            go_wp2_with fail
            refine hK _ _ trivial ?_
            clear hK K d3
            refine ak 4 (fun K hK => ?_)
            go_wp2_with fail
            have D2 := D1.on (below_new w1 (.cells #[str t] 9))
            have CE : Hid ((w1.alloc (.cells #[str t] 9)).cell? ⟨w1.heap.size, 0, none⟩ = some (str t)) := (Blk.new w1 #[str t] 9).cell 0
            refine hK _ _ trivial ?_
            clear hK K D1
            generalize w1.heap.size = gb at *
            generalize w1.alloc (.cells #[str t] 9) = w2 at *
            refine ak 5 (fun K hK => ?_)
            refine appT (.tmp 77) (.tmp 80) rfl (m + 1) vt q.ts t w2 gb rfl D2.t rfl CE.out hl1 D2.lt ?_
            intro v10 w10 o10 g10
            obtain ⟨xa, xn, xc, rfl⟩ := o10.shape3
            have k10 := D2.k.below (D2.growT g10) (Nat.lt_succ_self m)
            refine hK _ _ trivial ?_
            clear hK K CE
            refine ak 6 (fun K hK => ?_)
            go_wp2_with fail
            refine hK _ _ trivial ?_
            clear hK K
            refine ak 7 (fun K hK => ?_)
            refine opw_set (.tmp 82) (.tmp 81) rfl m 3 _ rfl rfl k10 (by kernel_rfl) rfl rfl (by simp) ?_
            intro w11 k11 g11 s11
            have D11 := D2.putT g10 o10 k11 g11
            refine hK _ _ trivial ?_
            clear hK K D2 k10 o10 g10 k11 g11 hl1
            refine wpAnyH_done (by kernel_rfl) ?_ _
            go_wp2_with fail
            go_roundw
            case rel => exact ⟨k + 1, _, _, _, _, _, by omega, by go_num, D11, HL2, HE⟩
            case measure => simp [RowKit.intOf]; omega
          · go_wp2_with fail
            have D2 := D1.on (below_new w1 (.cells #[str t] 9))
            have CE : Hid ((w1.alloc (.cells #[str t] 9)).cell? ⟨w1.heap.size, 0, none⟩ = some (str t)) := (Blk.new w1 #[str t] 9).cell 0
            refine hK _ _ trivial ?_
            clear hK K D1
            generalize w1.heap.size = gb at *
            generalize w1.alloc (.cells #[str t] 9) = w2 at *
            refine ak 1 (fun K hK => ?_)
            have d3 := D2.k.cell 3
            simp only [List.getElem?_toArray, List.getElem?_cons_zero, List.getElem?_cons_succ] at d3
            go_wp2_with fail
            refine hK _ _ trivial ?_
            clear hK K d3
            refine ak 5 (fun K hK => ?_)
            refine appT (.tmp 77) (.tmp 80) rfl (m + 1) vt q.ts t w2 gb rfl D2.t rfl CE.out hl1 D2.lt ?_
            intro v10 w10 o10 g10
            obtain ⟨xa, xn, xc, rfl⟩ := o10.shape3
            have k10 := D2.k.below (D2.growT g10) (Nat.lt_succ_self m)
            refine hK _ _ trivial ?_
            clear hK K CE
            refine ak 6 (fun K hK => ?_)
            go_wp2_with fail
            refine hK _ _ trivial ?_
            clear hK K
            refine ak 7 (fun K hK => ?_)
            refine opw_set (.tmp 82) (.tmp 81) rfl m 3 _ rfl rfl k10 (by kernel_rfl) rfl rfl (by simp) ?_
            intro w11 k11 g11 s11
            have D11 := D2.putT g10 o10 k11 g11
            refine hK _ _ trivial ?_
            clear hK K D2 k10 o10 g10 k11 g11 hl1
            refine wpAnyH_done (by kernel_rfl) ?_ _
            go_wp2_with fail
            go_roundw
            case rel => exact ⟨k + 1, _, _, _, _, _, by omega, by go_num, D11, HL2, HE⟩
            case measure => simp [RowKit.intOf]; omega
      · subst hz
        have SZ : ∀ w, Calls Tryz.prog 20 #[.int .u8 83] w fun e w' => e = .returned (.int .i64 0) ∧ w' = w := SZ
        have HE : Hid (x0 = runR (f.drop (k + 1)) (((longR st).2.1, (longR st).2.2 || decide (1024 < (longR st).1.length)), ⟨q.a, q.b, q.ns, q.ts ++ [(longR st).1], q.ps⟩)) := HE.out
        have N := longR_any wr r st D.s
        generalize longR st = lr at *
        obtain ⟨t, st1⟩ := lr
        have HE : Hid (x0 = runR (f.drop (k + 1)) ((st1.1, st1.2 || decide (1024 < t.length)), ⟨q.a, q.b, q.ns, q.ts ++ [t], q.ps⟩)) := HE.out
        go_upto_region 22 with (first | (go_at_call 20; refine (SZ _).mono ?_; rintro e w7 ⟨rfl, rfl⟩) | (go_at_call 27; refine N.mono ?_; rintro e w7 ⟨rfl, hs7, hb7⟩))
        have D7 := D.but hb7 hs7
        clear N D hs7 hb7
        have HL2 : Hid (q.ns.length ≤ k + 1 ∧ (q.ts ++ [t]).length ≤ k + 1) := ⟨by have := HL.out.1; omega, by have := HL.out.2; simp; omega⟩
        by_cases hn : 1024 < t.length
        · have HR2 : Hid (x0 = runR (f.drop (k + 1)) ((st1.1, true), ⟨q.a, q.b, q.ns, q.ts ++ [t], q.ps⟩)) := by
            show _ = _
            rw [HE.out, decide_eq_true hn, Bool.or_true]
          have hneg : (1024 : Int) < (t.length : Int) := by omega
          have r0 := D7.s.c0
          have r1 := D7.s.c1
          have rf := D7.s.f1
          clear HE hn
          go_upto_region 24 with fail
          have D8 := D7.bad
          generalize w7.setCell ⟨r, 1, none⟩ (.bool true) = w8 at *
          clear D7 r0 r1 rf
          have CE : Hid ((w8.alloc (.cells #[str t] 9)).cell? ⟨w8.heap.size, 0, none⟩ = some (str t)) := (Blk.new w8 #[str t] 9).cell 0
          have D9 := D8.on (below_new w8 (.cells #[str t] 9))
          have c3 := D8.k.cell 3
          simp only [List.getElem?_toArray, List.getElem?_cons_zero, List.getElem?_cons_succ] at c3
          go_wp2_with (at_builtin; refine wpl_appT rfl (.tmp 92) (.tmp 94) rfl (m + 1) vt q.ts t _ _ rfl D9.t rfl CE.out (by have := HL.out.2; have := HB.out; omega) D9.lt ?_)
          intro v10 w10 o10 g10
          obtain ⟨xa, xn, xc, rfl⟩ := o10.shape3
          have k10 := D9.k.below (D9.growT g10) (Nat.lt_succ_self m)
          clear c3 CE
          go_wp2_with (refine wpl_set rfl (.tmp 96) (.tmp 95) rfl m 3 _ rfl rfl k10 (by kernel_rfl) rfl rfl (by simp) ?_)
          intro w11 k11 g11 s11
          have D11 := D9.putT g10 o10 k11 g11
          clear D9 D8 k10 o10 g10 k11 g11
          go_wp2_with fail
          go_roundw
          case rel => exact ⟨k + 1, _, _, _, _, _, by omega, by go_num, D11, HL2, HR2⟩
          case measure => simp [RowKit.intOf]; omega
        · have HR2 : Hid (x0 = runR (f.drop (k + 1)) (st1, ⟨q.a, q.b, q.ns, q.ts ++ [t], q.ps⟩)) := by
            show _ = _
            rw [HE.out, decide_eq_false hn, Bool.or_false]
          have hneg : ¬ (1024 : Int) < (t.length : Int) := by omega
          clear HE hn
          have CE : Hid ((w7.alloc (.cells #[str t] 9)).cell? ⟨w7.heap.size, 0, none⟩ = some (str t)) := (Blk.new w7 #[str t] 9).cell 0
          have D9 := D7.on (below_new w7 (.cells #[str t] 9))
          have c3 := D7.k.cell 3
          simp only [List.getElem?_toArray, List.getElem?_cons_zero, List.getElem?_cons_succ] at c3
          go_wp2_with (at_builtin; refine wpl_appT rfl (.tmp 92) (.tmp 94) rfl (m + 1) vt q.ts t _ _ rfl D9.t rfl CE.out (by have := HL.out.2; have := HB.out; omega) D9.lt ?_)
          intro v10 w10 o10 g10
          obtain ⟨xa, xn, xc, rfl⟩ := o10.shape3
          have k10 := D9.k.below (D9.growT g10) (Nat.lt_succ_self m)
          clear c3 CE
          go_wp2_with (refine wpl_set rfl (.tmp 96) (.tmp 95) rfl m 3 _ rfl rfl k10 (by kernel_rfl) rfl rfl (by simp) ?_)
          intro w11 k11 g11 s11
          have D11 := D9.putT g10 o10 k11 g11
          clear D9 D7 k10 o10 g10 k11 g11
          go_wp2_with fail
          go_roundw
          case rel => exact ⟨k + 1, _, _, _, _, _, by omega, by go_num, D11, HL2, HR2⟩
          case measure => simp [RowKit.intOf]; omega
    · obtain rfl : k = f.length := by omega
      have hkz : ¬ (f.length : Int) < (f.length : Int) := by omega
      have HB2 : Hid (RM = endR (st, q)) := by
        show _ = _
        rw [HRM.out, HR.out, List.drop_length]
        rfl
      have r0 := D.s.c0
      have r1 := D.s.c1
      have hcl : c < wr.heap.size := D.bc.lt
      obtain ⟨s1, bad⟩ := st
      have r0 : wr.cell? ⟨r, 0, none⟩ = some (str s1) := r0
      have r1 : wr.cell? ⟨r, 1, none⟩ = some (.bool bad) := r1
      clear HRM HR HL HL8
      cases bad with
      | true =>
        have hnone : RM = none := by rw [HB2.out]; exact if_pos (.inl rfl)
        clear HB2
        go_wp2_with (refine wpl_put rfl (.tmp 2) (.tmp 108) rfl c _ rfl rfl D.bc (by kernel_rfl) rfl (by kernel_rfl) ?_)
        intro w6 k6 g6 s6
        go_wp2_with fail
        exact results36 Tryz.results11 k6 rfl rfl ⟨DcP.no hnone, D.b.grown g6 (by omega) (fun k hk => by cases hk; exact Nat.le_refl _)⟩
      | false =>
        by_cases he : s1 = []
        · subst he
          have hsome : RM = some q := by rw [HB2.out]; exact if_neg (by rintro (h | h); cases h; exact h rfl)
          have d0 := D.k.cell 0
          have d1 := D.k.cell 1
          have d2 := D.k.cell 2
          have d3 := D.k.cell 3
          have d4 := D.k.cell 4
          simp only [List.getElem?_toArray, List.getElem?_cons_zero, List.getElem?_cons_succ] at d0 d1 d2 d3 d4
          obtain ⟨na, nl, nc, rfl⟩ := D.i.shape3
          obtain ⟨ta, tl, tc, rfl⟩ := D.t.shape3
          obtain ⟨pa, pc, rfl⟩ := D.p.rd.shape
          clear HB2
          go_wp2_with (refine wpl_put rfl (.tmp 2) (.tmp 109) rfl c _ rfl rfl D.bc (by kernel_rfl) rfl (by kernel_rfl) ?_)
          intro w6 k6 g6 s6
          have hcm : c < m + 1 := by have := D.cr; have := D.rm; omega
          clear d0 d1 d2 d3 d4 r0 r1
          go_wp2_with fail
          exact results36 Tryz.results11 k6 rfl rfl ⟨.inl ⟨q, _, _, _, hsome, rfl, (D.i.grown g6 (fun k hk => by cases hk; exact hcm)).low (by omega), (D.t.grown g6 (fun k hk => by cases hk; exact hcm)).low (by omega), (D.p.grown g6 (fun k hk => by cases hk; exact hcm)).low (by omega)⟩, D.b.grown g6 (by omega) (fun k hk => by cases hk; exact Nat.le_refl _)⟩
        · have hne : s1.isEmpty = false := by cases s1 <;> simp at *
          have hnone : RM = none := by rw [HB2.out]; exact if_pos (.inr he)
          clear HB2
          go_wp2_with (refine wpl_put rfl (.tmp 2) (.tmp 108) rfl c _ rfl rfl D.bc (by kernel_rfl) rfl (by kernel_rfl) ?_)
          intro w6 k6 g6 s6
          go_wp2_with fail
          exact results36 Tryz.results11 k6 rfl rfl ⟨DcP.no hnone, D.b.grown g6 (by omega) (fun k hk => by cases hk; exact Nat.le_refl _)⟩
end Go.Proofs.YtmaaacaifpgpaaaGreatDoor

namespace Go.Proofs.YtmaaacaifpgpaaaGreatDoor
open Go.RowKit Go.Lib
set_option maxRecDepth 100000
set_option linter.unusedSimpArgs false

set_option maxHeartbeats 4000000 in
theorem heavy_any (w : World) (ca cb : Int) (vn vt vp : Value) (ns : List Int) (ts : List (List UInt8)) (ps : List Pr) (hm : RdM w w.heap.size vn vt vp ns ts ps) :
    Calls Tryz.prog 5 #[.agg (mtA ca cb vn vt vp)] w fun e w' => LoB e ∧ Below w.heap.size w w' := by
  obtain ⟨na, nc, rfl⟩ := hm.n.shape
  have hsz := hm.sz
  have htl : ts.length ≤ 4000000000000000000 := by omega
  have hnl : ns.length ≤ 4000000000000000000 := by omega
  obtain ⟨ta, tc, hvt, HT⟩ : ∃ ta tc, vt = .slice ta ts.length tc ∧ Hid (∀ k (h : k < ts.length), ∃ g o, ta = some ⟨g, o, none⟩ ∧ g < w.heap.size ∧ w.cell? ⟨g, o + k, none⟩ = some (str ts[k])) := by
    rcases hm.t with ⟨⟨a, c, rfl⟩, rfl⟩ | ⟨g, o, c, rfl, hc, hg, hx⟩
    · exact ⟨_, _, rfl, fun k h => absurd h (Nat.not_lt_zero k)⟩
    · exact ⟨_, _, rfl, fun k h => ⟨g, o, rfl, hg, hx k h⟩⟩
  subst hvt
  obtain ⟨pa, pc, rfl⟩ := hm.p.shape
  have b0 := below_new w (.cells (mtA ca cb (.slice na ns.length nc) (.slice ta ts.length tc) (.slice pa ps.length pc)) 26)
  have k0 := Blk.new w (mtA ca cb (.slice na ns.length nc) (.slice ta ts.length tc) (.slice pa ps.length pc)) 26
  have hpl : ps.length ≤ 9223372036854775806 := by omega
  have HL := fun w' (hb : Below w.heap.size w w') => alllong_any w' _ ps (hm.p.on hb).rd hpl
  clear hm hsz
  go_enter Tryz.func5, Tryz.ntmps5
  go_upto_region 1 with fail
  generalize w.alloc (.cells (mtA ca cb (.slice na ns.length nc) (.slice ta ts.length tc) (.slice pa ps.length pc)) 26) = w1 at *
  have c2 := k0.cell 2
  have c3 := k0.cell 3
  simp only [List.getElem?_toArray, List.getElem?_cons_zero, List.getElem?_cons_succ] at c2 c3
  go_wp2_with fail
  go_loopw [3, 12] (fun s i wr => ∃ (k : Nat) (z : Int), k ≤ ts.length ∧ i = .int .i64 k ∧ s = .int .i64 z ∧ w1 = wr) (fun _ i _ => ts.length - (RowKit.intOf i).toNat)
  case atStart => exact ⟨0, _, Nat.zero_le _, rfl, rfl, rfl⟩
  case round =>
    obtain ⟨k, z, hk, rfl, rfl, rfl⟩ := hrel
    by_cases hlt : k < ts.length
    · obtain ⟨g, o, rfl, hg, hc⟩ := HT.out k hlt
      have c0 : w1.cell? ⟨g, o + k, none⟩ = some (str ts[k]) := by rw [b0.cell (p := ⟨g, o + k, none⟩) hg]; exact hc
      have hkz : (k : Int) < (ts.length : Int) := by omega
      generalize ts[k] = y at *
      clear hc
      go_wp2
      · go_ret
        exact ⟨⟨_, rfl⟩, b0⟩
      · go_roundw
        case rel => exact ⟨k + 1, _, by omega, by go_num, rfl, by trivial⟩
        case measure => simp [RowKit.intOf]; omega
    · obtain rfl : k = ts.length := by omega
      have hkz : ¬ (ts.length : Int) < (ts.length : Int) := by omega
      have c4 := k0.cell 4
      simp only [List.getElem?_toArray, List.getElem?_cons_zero, List.getElem?_cons_succ] at c4
      have HL1 := HL w1 b0
      by_cases hz : 16384 < z
      · have hz1 : decide ((16384 : Int) < z) = true := decide_eq_true hz
        go_wp2_with fail
        go_ret
        exact ⟨⟨_, rfl⟩, b0⟩
      · have hz1 : decide ((16384 : Int) < z) = false := decide_eq_false hz
        go_wp2_with (go_at_call 14; refine HL1.mono ?_; rintro e w2 ⟨⟨r, rfl⟩, b2⟩)
        go_ret
        exact ⟨⟨_, rfl⟩, b0.trans (b2.mono b0.size)⟩
end Go.Proofs.YtmaaacaifpgpaaaGreatDoor

namespace Go.Proofs.YtmaaacaifpgpaaaGreatDoor
open Go.RowKit Go.Lib
set_option maxRecDepth 100000
set_option linter.unusedSimpArgs false

theorem rdV_of {w : World} {v : Value} {l : List Pr} (h : RdP w v l) : RdV w w.heap.size v l := by
  rcases h with h | ⟨b, o, c, e, hc, hx⟩
  · exact .inl h
  · by_cases h0 : l = []
    · subst h0
      exact .inl ⟨⟨_, _, e⟩, rfl⟩
    · exact .inr ⟨b, o, c, e, hc, World.block_lt_of_cell? w _ (hx 0 (List.length_pos_iff.2 h0)).1, hx⟩
/-- What is answered of a payload that may be none. -/
def eO (P : Option (List UInt8)) : List UInt8 := P.getD []
def eE (P : Option (List UInt8)) : Int := if P.isSome = true then 0 else 1
theorem EcP.un {w' : World} {B : Nat} {P : Option (List UInt8)} {e : Ending} (h : EcP w' B P e) : ∃ v, e = .returned (.tuple #[v, .int .i64 (eE P)]) ∧ RdB w' v (eO P) := by
  rcases h with ⟨x, a, c, rfl, rfl, h⟩ | ⟨rfl, rfl⟩
  · exact ⟨_, rfl, h.rd⟩
  · exact ⟨_, rfl, .inl ⟨rfl, rfl⟩⟩
/-- What is answered of a method that may be none. -/
def dO (P : Option Dq) : Dq := P.getD ⟨0, 0, [], [], []⟩
def dE (P : Option Dq) : Int := if P.isSome = true then 0 else 11
/-- A method that was read lies in memory. -/
structure MdR (w : World) (d : Dq) (na ta pa : Option Addr) (nc tc pc : Nat) : Prop where
  n : RdN w w.heap.size (.slice na d.ns.length nc) d.ns
  t : RdT w w.heap.size (.slice ta d.ts.length tc) d.ts
  p : RdV w w.heap.size (.slice pa d.ps.length pc) d.ps
theorem MdR.on {w w' : World} {d : Dq} {na ta pa : Option Addr} {nc tc pc : Nat} (h : MdR w d na ta pa nc tc pc) (hb : Below w.heap.size w w') : MdR w' d na ta pa nc tc pc :=
  ⟨(h.n.on hb).up hb.size, (h.t.on hb).up hb.size, (h.p.on hb).up hb.size⟩
theorem DcP.un {w' : World} {B : Nat} {P : Option Dq} {e : Ending} (h : DcP w' B P e) : ∃ na ta pa nc tc pc, e = .returned (.tuple #[.agg (mtA (dO P).a (dO P).b (.slice na (dO P).ns.length nc) (.slice ta (dO P).ts.length tc) (.slice pa (dO P).ps.length pc)), .int .i64 (dE P)]) ∧ MdR w' (dO P) na ta pa nc tc pc := by
  rcases h with ⟨d, vn, vt, vp, rfl, rfl, h1, h2, h3⟩ | ⟨rfl, rfl⟩
  · obtain ⟨na, nc, rfl⟩ := h1.shape
    obtain ⟨ta, tc, rfl⟩ := h2.shape
    obtain ⟨pa, pc, rfl⟩ := h3.rd.shape
    exact ⟨na, ta, pa, nc, tc, pc, rfl, h1.rd, h2.rd, rdV_of h3.rd⟩
  · exact ⟨none, none, none, 0, 0, 0, rfl, .inl ⟨⟨_, _, rfl⟩, rfl⟩, .inl ⟨⟨_, _, rfl⟩, rfl⟩, .inl ⟨⟨_, _, rfl⟩, rfl⟩⟩
theorem partD_few {c : Nat} {s s' : List UInt8} {q q' : Dq} (h : partD c s q = some (q', s')) (hp : q.ps.length ≤ 16) : q'.ps.length ≤ 16 := by
  unfold partD at h
  split at h
  · cases hx : cshort s with
    | none => rw [hx] at h; cases h
    | some x =>
      rw [hx] at h
      simp only [Option.map_some, Option.some.injEq, Prod.mk.injEq] at h
      obtain ⟨rfl, _⟩ := h
      exact hp
  · split at h
    · cases hx : clong s 1024 with
      | none => rw [hx] at h; cases h
      | some x =>
        rw [hx] at h
        simp only [Option.map_some, Option.some.injEq, Prod.mk.injEq] at h
        obtain ⟨rfl, _⟩ := h
        exact hp
    · split at h
      · cases hx : ctab s with
        | none => rw [hx] at h; cases h
        | some x =>
          obtain ⟨L, r⟩ := x
          rw [hx] at h
          simp only [Option.map_some, Option.some.injEq, Prod.mk.injEq] at h
          obtain ⟨rfl, _⟩ := h
          exact ctab_len hx
      · cases hx : cwhole (wid c) s with
        | none => rw [hx] at h; cases h
        | some x =>
          rw [hx] at h
          simp only [Option.map_some, Option.some.injEq, Prod.mk.injEq] at h
          obtain ⟨rfl, _⟩ := h
          exact hp
theorem partsD_few (f : List UInt8) : ∀ (s s' : List UInt8) (q q' : Dq), partsD f s q = some (q', s') → q.ps.length ≤ 16 → q'.ps.length ≤ 16 ∧ q'.ns.length ≤ q.ns.length + f.length ∧ q'.ts.length ≤ q.ts.length + f.length := by
  induction f with
  | nil =>
    intro s s' q q' h hp
    have h : some (q, s) = some (q', s') := h
    injection h with h
    obtain ⟨rfl, _⟩ := Prod.mk.inj h
    exact ⟨hp, Nat.le_refl _, Nat.le_refl _⟩
  | cons c f ih =>
    intro s s' q q' h hp
    have h : ((partD c.toNat s q).bind fun x => partsD f x.2 x.1) = some (q', s') := h
    cases hx : partD c.toNat s q with
    | none => rw [hx] at h; cases h
    | some x =>
      obtain ⟨q1, s1⟩ := x
      rw [hx] at h
      obtain ⟨h1, h2, h3⟩ := partD_lenD hx
      obtain ⟨h4, h5, h6⟩ := ih s1 s' q1 q' h (partD_few hx hp)
      refine ⟨h4, ?_, ?_⟩
      · simp only [List.length_cons]; omega
      · simp only [List.length_cons]; omega
theorem metD_few (s : List UInt8) : (dO (metD s)).ns.length + (dO (metD s)).ts.length ≤ 4000000000000000000 ∧ (dO (metD s)).ps.length ≤ 4000000000000000000 := by
  cases hm : metD s with
  | none => exact ⟨Nat.zero_le _, Nat.zero_le _⟩
  | some d =>
    show d.ns.length + d.ts.length ≤ _ ∧ d.ps.length ≤ _
    unfold metD at hm
    rw [cwhole_two] at hm
    by_cases h1 : s.length < 2
    · rw [if_pos h1] at hm; cases hm
    · rw [if_neg h1] at hm
      simp only [Option.bind_some] at hm
      rw [cwhole_two] at hm
      by_cases h2 : (s.drop 2).length < 2
      · rw [if_pos h2] at hm; cases hm
      · rw [if_neg h2] at hm
        simp only [Option.bind_some] at hm
        generalize numL (s.take 2) = n1 at *
        generalize numL ((s.drop 2).take 2) = n2 at *
        generalize (s.drop 2).drop 2 = r at *
        by_cases hf : (formL (n1 : Int) n2 mL).2 = true
        · rw [if_pos hf] at hm
          have h6 := (form_some hf).2.2.2.2
          generalize (formL (n1 : Int) n2 mL).1 = f at *
          cases hp : partsD f r ⟨n1, n2, [], [], []⟩ with
          | none => rw [hp] at hm; cases hm
          | some z =>
            obtain ⟨q, s'⟩ := z
            rw [hp] at hm
            obtain ⟨h4, h5, h7⟩ := partsD_few f r s' _ q hp (Nat.zero_le _)
            simp only [Option.bind_some] at hm
            split at hm
            · injection hm with hm
              subst hm
              simp only [List.length_nil] at h5 h7
              omega
            · cases hm
        · rw [if_neg hf] at hm; cases hm
theorem same15_eq (w : World) (d : Dq) (na ta pa na' ta' pa' : Option Addr) (nc tc pc nc' tc' pc' : Nat) (h : MdR w d na ta pa nc tc pc) (h' : MdR w d na' ta' pa' nc' tc' pc') (h1 : d.ns.length + d.ts.length ≤ 4000000000000000000) (h2 : d.ps.length ≤ 4000000000000000000) :
    Calls Tryz.prog 12 #[.agg (mtA d.a d.b (.slice na d.ns.length nc) (.slice ta d.ts.length tc) (.slice pa d.ps.length pc)), .agg (mtA d.a d.b (.slice na' d.ns.length nc') (.slice ta' d.ts.length tc') (.slice pa' d.ps.length pc'))] w fun e w' => e = .returned (.bool true) ∧ Below w.heap.size w w' := by
  have key : ∀ {a : Option Addr} {n c : Nat} {l : List Int}, RdN w w.heap.size (.slice a n c) l → ∀ k (h : k < l.length), ∃ g o, a = some ⟨g, o, none⟩ ∧ g < w.heap.size ∧ w.cell? ⟨g, o + k, none⟩ = some (.int .i64 l[k]) := fun h => by
    rcases h with ⟨_, rfl⟩ | ⟨g, o, c, e, hc, hg, hx⟩
    · exact fun k h => absurd h (Nat.not_lt_zero k)
    · injection e with e1 e2 e3
      subst e1
      exact fun k h => ⟨g, o, rfl, hg, hx k h⟩
  have keyT : ∀ {a : Option Addr} {n c : Nat} {l : List (List UInt8)}, RdT w w.heap.size (.slice a n c) l → ∀ k (h : k < l.length), ∃ g o, a = some ⟨g, o, none⟩ ∧ g < w.heap.size ∧ w.cell? ⟨g, o + k, none⟩ = some (str l[k]) := fun h => by
    rcases h with ⟨_, rfl⟩ | ⟨g, o, c, e, hc, hg, hx⟩
    · exact fun k h => absurd h (Nat.not_lt_zero k)
    · injection e with e1 e2 e3
      subst e1
      exact fun k h => ⟨g, o, rfl, hg, hx k h⟩
  have R := same_len15 w d.a d.b na ta na' ta' d.ns.length d.ts.length nc tc nc' tc' (.slice pa d.ps.length pc) (.slice pa' d.ps.length pc') d.ns d.ns d.ts d.ts d.ps d.ps rfl rfl rfl rfl h1 h2 (key h.n) (key h'.n) (keyT h.t) (keyT h'.t) h.p h'.p
  refine R.mono ?_
  rintro e w' ⟨rfl, hb⟩
  refine ⟨?_, hb⟩
  rw [(sameL_eq d.ps d.ps).2 rfl]
  simp
end Go.Proofs.YtmaaacaifpgpaaaGreatDoor
