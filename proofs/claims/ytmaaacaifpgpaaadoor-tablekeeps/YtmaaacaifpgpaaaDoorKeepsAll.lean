/- Lists of numbers and of texts of one's own; table's reader: whole. Conditions: those that each row states. table's reader: part. Conditions: those that each row states. table.method. Conditions: those that each row states. table.Decode. Conditions: those that each row states. A payload is read as its method (pure). The law of TableBack: it answers true at any properties, any method and any text. Conditions: those that each row states. The law of TableKeeps: it answers true at any properties and any method. Conditions: those that each row states. For every slice of properties and every method trivetlaw15.TableKeeps answers true and leaves its arguments as they were, where the listed variable reads as the program's text lays it (tied by the card). -/
import Derived.Test.YtmaaacaifpgpaaaDoorTellsTk
import Derived.Test.YtmaaacaifpgpaaaDoorTellsWr
import Derived.Test.YtmaaacaifpgpaaaDoorBackLj
import Derived.Deep.DeepCutAuto
import Derived.Lib.SlBytesConst
import Derived.Test.YtmaaacaifpgpaaaDoorCards
import Derived.Test.YtmaaacaifpgpaaaDoorTie
import Derived.Test.YtmaaacaifpgpaaaDoorLv
namespace Go.Proofs.YtmaaacaifpgpaaaDoor
open Go.RowKit Go.Lib
set_option maxRecDepth 100000
set_option linter.unusedSimpArgs false

/-- A list of one's own, from block B on. -/
def OwnI (w : World) (B : Nat) (v : Value) (l : List Int) : Prop := w.ownsRow B 3 1 v l.length (l.map fun z => Value.int .i64 z)
theorem OwnI.nil (w : World) (B : Nat) : OwnI w B (.slice none 0 0) [] := World.ownsRow_nil _ _ _ _
theorem OwnI.low {w : World} {B B' : Nat} {v : Value} {l : List Int} (h : OwnI w B' v l) (hB : B ≤ B') : OwnI w B v l := by
  obtain ⟨hl, h⟩ := h
  refine ⟨hl, ?_⟩
  rcases h with h | ⟨g, cap, cur, hv, hb, h⟩
  · exact .inl h
  · exact .inr ⟨g, cap, cur, hv, by omega, h⟩
theorem OwnI.up {w w' : World} {B : Nat} {v : Value} {l : List Int} (h : OwnI w B v l) (hb : Below w.heap.size w w') : OwnI w' B v l := by
  obtain ⟨hl, h⟩ := h
  refine ⟨hl, ?_⟩
  rcases h with h | ⟨g, cap, cur, hv, hg, hc, h⟩
  · exact .inl h
  · exact .inr ⟨g, cap, cur, hv, hg, by rw [hb.block g (Array.getElem?_eq_some_iff.1 hc).1]; exact hc, h⟩
theorem OwnI.alb {w w' : World} {B b : Nat} {v : Value} {l : List Int} (h : OwnI w B v l) (hb : Alb w.heap.size w w' b) (hB : b < B) : OwnI w' B v l := by
  obtain ⟨hl, h⟩ := h
  refine ⟨hl, ?_⟩
  rcases h with h | ⟨g, cap, cur, hv, hg, hc, h⟩
  · exact .inl h
  · exact .inr ⟨g, cap, cur, hv, hg, by rw [hb.block g (Array.getElem?_eq_some_iff.1 hc).1 (by omega)]; exact hc, h⟩
theorem OwnI.grown {w w' : World} {B : Nat} {v : Value} {l : List Int} {row : Option Nat} (h : OwnI w B v l) (hg : w.grownBy w' row) (hr : ∀ k, row = some k → k < B) : OwnI w' B v l := by
  obtain ⟨hl, ho⟩ := h
  refine ⟨hl, ?_⟩
  rcases ho with h | ⟨g, cap, cur, hv, hgB, hc, h⟩
  · exact .inl h
  · refine .inr ⟨g, cap, cur, hv, hgB, ?_, h⟩
    rw [hg.block g (Array.getElem?_eq_some_iff.1 hc).1 (fun e => by have := hr g e.symm; omega)]
    exact hc
theorem OwnI.shape {w : World} {B : Nat} {v : Value} {l : List Int} (h : OwnI w B v l) : ∃ a c, v = .slice a l.length c := by
  obtain ⟨_, h⟩ := h
  rcases h with ⟨rfl, h0⟩ | ⟨g, cap, cur, rfl, _⟩
  · exact ⟨_, _, by rw [h0]⟩
  · exact ⟨_, _, rfl⟩
theorem OwnI.rd {w : World} {B : Nat} {v : Value} {l : List Int} (h : OwnI w B v l) : RdN w w.heap.size v l := by
  obtain ⟨hl, h⟩ := h
  rcases h with ⟨rfl, h0⟩ | ⟨g, cap, cur, rfl, hb, hg, hc, hm, hs, ht⟩
  · exact .inl ⟨⟨_, _, rfl⟩, List.length_eq_zero_iff.1 h0⟩
  · refine .inr ⟨g, 0, cap, rfl, hc, (Array.getElem?_eq_some_iff.1 hg).1, fun i hi => ?_⟩
    have e : (cur.toList.take (l.length * 1))[i]? = (l.map fun z => Value.int .i64 z)[i]? := by rw [ht]
    rw [List.getElem?_take_of_lt (by omega)] at e
    rw [List.getElem?_map, List.getElem?_eq_getElem hi] at e
    simp only [World.cell?, hg, Nat.zero_add]
    simp only [Array.getElem?_toList] at e
    simp [e]
theorem info3' : (Tryd.prog.info? 3).map (fun i => (i.zero, i.size, i.bytes)) = some (some (.int .i64 0), 1, 8) := by kernel_rfl
theorem appI {o : Oper} {a : Act} {K : Act → World → Prop} {Q : Exit → Act → World → Prop} (s x : Operand)
    (ho : o.op = .call { callee := .builtin .append, args := #[s, x], argTypes := #[33, 33] }) (B : Nat) (v : Value) (l : List Int) (p : Int) (w : World) (g : Nat)
    (hs : a.eval s = v) (hown : OwnI w B v l) (hx : a.eval x = .slice (some ⟨g, 0, none⟩) 1 1) (hg : w.cell? ⟨g, 0, none⟩ = some (Value.int .i64 p)) (hn : l.length + 1 ≤ 1000000000) (hB : B ≤ w.heap.size)
    (h : ∀ v' w', OwnI w' B v' (l ++ [p]) → w.grownBy w' v.ownBlock → K (a.put o.dst v') w') : o.wp Tryd.prog a w K Q := by
  obtain ⟨i0, hi, hz0, hz1, hz2⟩ := info_parts info3'
  refine wp_append_own _ s x 33 ho B 3 i0 (.int .i64 0) 1 8 Tryd.underlying33 hi hz0 hz1 hz2 rfl (by decide) v l.length (l.map fun z => Value.int .i64 z) hs hown ⟨g, 0, none⟩ 1 1 [Value.int .i64 p] hx rfl ?_ (fun u hu => by simp at hu; subst hu; rfl) (by unfold maxLen; omega) (by omega) hB ?_
  · intro j u hj
    match j, hj with
    | 0, hj => simp at hj; subst hj; rw [Addr.add_lit]; exact hg
  · intro v' w' h1 h2 _
    refine h v' w' ?_ h2
    unfold OwnI
    rw [List.length_append]
    simpa using h1
/-- A list of one's own, from block B on. -/
def OwnT (w : World) (B : Nat) (v : Value) (l : List (List UInt8)) : Prop := w.ownsRow B 9 1 v l.length (l.map fun z => str z)
theorem OwnT.nil (w : World) (B : Nat) : OwnT w B (.slice none 0 0) [] := World.ownsRow_nil _ _ _ _
theorem OwnT.low {w : World} {B B' : Nat} {v : Value} {l : List (List UInt8)} (h : OwnT w B' v l) (hB : B ≤ B') : OwnT w B v l := by
  obtain ⟨hl, h⟩ := h
  refine ⟨hl, ?_⟩
  rcases h with h | ⟨g, cap, cur, hv, hb, h⟩
  · exact .inl h
  · exact .inr ⟨g, cap, cur, hv, by omega, h⟩
theorem OwnT.up {w w' : World} {B : Nat} {v : Value} {l : List (List UInt8)} (h : OwnT w B v l) (hb : Below w.heap.size w w') : OwnT w' B v l := by
  obtain ⟨hl, h⟩ := h
  refine ⟨hl, ?_⟩
  rcases h with h | ⟨g, cap, cur, hv, hg, hc, h⟩
  · exact .inl h
  · exact .inr ⟨g, cap, cur, hv, hg, by rw [hb.block g (Array.getElem?_eq_some_iff.1 hc).1]; exact hc, h⟩
theorem OwnT.alb {w w' : World} {B b : Nat} {v : Value} {l : List (List UInt8)} (h : OwnT w B v l) (hb : Alb w.heap.size w w' b) (hB : b < B) : OwnT w' B v l := by
  obtain ⟨hl, h⟩ := h
  refine ⟨hl, ?_⟩
  rcases h with h | ⟨g, cap, cur, hv, hg, hc, h⟩
  · exact .inl h
  · exact .inr ⟨g, cap, cur, hv, hg, by rw [hb.block g (Array.getElem?_eq_some_iff.1 hc).1 (by omega)]; exact hc, h⟩
theorem OwnT.grown {w w' : World} {B : Nat} {v : Value} {l : List (List UInt8)} {row : Option Nat} (h : OwnT w B v l) (hg : w.grownBy w' row) (hr : ∀ k, row = some k → k < B) : OwnT w' B v l := by
  obtain ⟨hl, ho⟩ := h
  refine ⟨hl, ?_⟩
  rcases ho with h | ⟨g, cap, cur, hv, hgB, hc, h⟩
  · exact .inl h
  · refine .inr ⟨g, cap, cur, hv, hgB, ?_, h⟩
    rw [hg.block g (Array.getElem?_eq_some_iff.1 hc).1 (fun e => by have := hr g e.symm; omega)]
    exact hc
theorem OwnT.shape {w : World} {B : Nat} {v : Value} {l : List (List UInt8)} (h : OwnT w B v l) : ∃ a c, v = .slice a l.length c := by
  obtain ⟨_, h⟩ := h
  rcases h with ⟨rfl, h0⟩ | ⟨g, cap, cur, rfl, _⟩
  · exact ⟨_, _, by rw [h0]⟩
  · exact ⟨_, _, rfl⟩
theorem OwnT.rd {w : World} {B : Nat} {v : Value} {l : List (List UInt8)} (h : OwnT w B v l) : RdT w w.heap.size v l := by
  obtain ⟨hl, h⟩ := h
  rcases h with ⟨rfl, h0⟩ | ⟨g, cap, cur, rfl, hb, hg, hc, hm, hs, ht⟩
  · exact .inl ⟨⟨_, _, rfl⟩, List.length_eq_zero_iff.1 h0⟩
  · refine .inr ⟨g, 0, cap, rfl, hc, (Array.getElem?_eq_some_iff.1 hg).1, fun i hi => ?_⟩
    have e : (cur.toList.take (l.length * 1))[i]? = (l.map fun z => str z)[i]? := by rw [ht]
    rw [List.getElem?_take_of_lt (by omega)] at e
    rw [List.getElem?_map, List.getElem?_eq_getElem hi] at e
    simp only [World.cell?, hg, Nat.zero_add]
    simp only [Array.getElem?_toList] at e
    simp [e]
theorem info9' : (Tryd.prog.info? 9).map (fun i => (i.zero, i.size, i.bytes)) = some (some (.string ⟨#[]⟩), 1, 16) := by kernel_rfl
theorem appT {o : Oper} {a : Act} {K : Act → World → Prop} {Q : Exit → Act → World → Prop} (s x : Operand)
    (ho : o.op = .call { callee := .builtin .append, args := #[s, x], argTypes := #[34, 34] }) (B : Nat) (v : Value) (l : List (List UInt8)) (p : (List UInt8)) (w : World) (g : Nat)
    (hs : a.eval s = v) (hown : OwnT w B v l) (hx : a.eval x = .slice (some ⟨g, 0, none⟩) 1 1) (hg : w.cell? ⟨g, 0, none⟩ = some (str p)) (hn : l.length + 1 ≤ 1000000000) (hB : B ≤ w.heap.size)
    (h : ∀ v' w', OwnT w' B v' (l ++ [p]) → w.grownBy w' v.ownBlock → K (a.put o.dst v') w') : o.wp Tryd.prog a w K Q := by
  obtain ⟨i0, hi, hz0, hz1, hz2⟩ := info_parts info9'
  refine wp_append_own _ s x 34 ho B 9 i0 (.string ⟨#[]⟩) 1 16 Tryd.underlying34 hi hz0 hz1 hz2 rfl (by decide) v l.length (l.map fun z => str z) hs hown ⟨g, 0, none⟩ 1 1 [str p] hx rfl ?_ (fun u hu => by simp at hu; subst hu; rfl) (by unfold maxLen; omega) (by omega) hB ?_
  · intro j u hj
    match j, hj with
    | 0, hj => simp at hj; subst hj; rw [Addr.add_lit]; exact hg
  · intro v' w' h1 h2 _
    refine h v' w' ?_ h2
    unfold OwnT
    rw [List.length_append]
    simpa using h1
theorem ne_block {w : World} {B1 B2 e1 e2 s1 s2 n1 n2 : Nat} {v1 v2 : Value} {x1 x2 : List Value} (h1 : w.ownsRow B1 e1 s1 v1 n1 x1) (h2 : w.ownsRow B2 e2 s2 v2 n2 x2) (he : e1 ≠ e2) : v2.ownBlock = none ∨ v2.ownBlock ≠ v1.ownBlock := by
  obtain ⟨_, h1⟩ := h1
  obtain ⟨_, h2⟩ := h2
  rcases h2 with ⟨rfl, _⟩ | ⟨g2, c2, u2, rfl, _, hg2, _⟩
  · exact .inl rfl
  · right
    rcases h1 with ⟨rfl, _⟩ | ⟨g1, c1, u1, rfl, _, hg1, _⟩
    · simp [Value.ownBlock]
    · intro e
      simp [Value.ownBlock] at e
      subst e
      rw [hg1] at hg2
      injection hg2 with hg2
      injection hg2 with _ hg2
      exact he hg2
/-- A number without a sign that an int has room for. -/
def cwhole (k : Nat) (s : List UInt8) : Option (Nat × List UInt8) := if s.length < k then none else if numL (s.take k) ≤ 9223372036854775807 then some (numL (s.take k), s.drop k) else none
set_option maxHeartbeats 1000000 in
theorem cwhole_any (w : World) (b k : Nat) (s : List UInt8) (hr : Cr w b s) (hb : b < w.heap.size) (hs : s.length ≤ 140737488355328) (hk8 : k ≤ 8) :
    Calls Tryd.prog 62 #[.pointer (some ⟨b, 0, none⟩), .int .i64 k] w fun e w' =>
      Alb w.heap.size w w' b ∧ ((∃ n r, cwhole k s = some (n, r) ∧ n ≤ 9223372036854775807 ∧ e = .returned (.int .i64 (n : Int)) ∧ Cr w' b r) ∨ (cwhole k s = none ∧ e = .panicked (gup 11))) := by
  have N := cnum_any w b k s hr hb hs hk8
  obtain ⟨g, hg⟩ : ∃ g, gup 11 = g := ⟨_, rfl⟩
  have I := fun w => insist_no w 11
  rw [hg] at N I ⊢
  clear hr hs
  go_enter Tryd.func62, Tryd.ntmps62
  go_wp2_with fail
  refine N.mono ?_
  rintro e w1 ⟨hA, ⟨h1, rfl, hc⟩ | ⟨h1, rfl, -⟩⟩
  · by_cases hm : numL (s.take k) ≤ 9223372036854775807
    · have HE : Hid (cwhole k s = some (numL (s.take k), s.drop k)) := by show _ = _; unfold cwhole; rw [if_neg (by omega), if_pos hm]
      clear N h1
      generalize numL (s.take k) = n at *
      generalize s.drop k = r at *
      have hd : decide ((n : Int) ≤ 9223372036854775807) = true := decide_eq_true (by omega)
      have hw : IntKind.i64.wrap (n : Int) = (n : Int) := by rw [IntKind.wrap_i64]; omega
      go_wp2_with (first | (go_at_call 49; refine (insist_ok _ _).mono ?_; rintro e w' ⟨rfl, rfl⟩))
      go_ret
      exact ⟨hA, .inl ⟨n, r, HE.out, hm, rfl, hc⟩⟩
    · have HE : Hid (cwhole k s = none) := by show _ = _; unfold cwhole; rw [if_neg (by omega), if_neg hm]
      clear N h1
      generalize numL (s.take k) = n at *
      have hd : decide ((n : Int) ≤ 9223372036854775807) = false := decide_eq_false (by omega)
      go_wp2_with (first | (go_at_call 49; refine (I _).mono ?_; rintro e w' ⟨rfl, rfl⟩))
      exact ⟨rfl, hA, .inr ⟨HE.out, rfl⟩⟩
  · exact ⟨rfl, hA, .inr ⟨by unfold cwhole; rw [if_pos h1], rfl⟩⟩
end Go.Proofs.YtmaaacaifpgpaaaDoor

namespace Go.Proofs.YtmaaacaifpgpaaaDoor
open Go.RowKit Go.Lib
set_option maxRecDepth 100000
set_option linter.unusedSimpArgs false

theorem Cr.blk {w w' : World} {b : Nat} {s : List UInt8} (h : Cr w b s) (he : w'.heap[b]? = w.heap[b]?) : Cr w' b s := by
  obtain ⟨h1, h2⟩ := h
  refine ⟨?_, ?_⟩
  · simp only [World.cell?] at h1 ⊢
    rw [he]; exact h1
  · simp only [World.frozen?] at h2 ⊢
    rw [he]; exact h2
theorem Cr.lt {w : World} {b : Nat} {s : List UInt8} (h : Cr w b s) : b < w.heap.size := World.block_lt_of_cell? w _ h.c0
/-- What has been read. -/
structure Dq where
  a : Int
  b : Int
  ns : List Int
  ts : List (List UInt8)
  ps : List Pr
def partD (c : Nat) (s : List UInt8) (q : Dq) : Option (Dq × List UInt8) :=
  if c = 115 then (cshort s).map fun x => (⟨q.a, q.b, q.ns, q.ts ++ [x.1], q.ps⟩, x.2)
  else if c = 83 then (clong s 1024).map fun x => (⟨q.a, q.b, q.ns, q.ts ++ [x.1], q.ps⟩, x.2)
  else if c = 84 then (ctab s).map fun x => (⟨q.a, q.b, q.ns, q.ts, x.1⟩, x.2)
  else (cwhole (wid c) s).map fun x => (⟨q.a, q.b, q.ns ++ [(x.1 : Int)], q.ts, q.ps⟩, x.2)
/-- The method in memory. -/
def Mst (W : World) (m : Nat) (q : Dq) : Prop := ∃ vn vt vp, Blk W m (mtA q.a q.b vn vt vp) 36 ∧ OwnI W (m + 1) vn q.ns ∧ OwnT W (m + 1) vt q.ts ∧ OwnP W (m + 1) vp q.ps
theorem OwnI.shape3 {w : World} {B : Nat} {v : Value} {l : List Int} (h : OwnI w B v l) : ∃ a n c, v = .slice a n c := by
  obtain ⟨a, c, h⟩ := h.shape
  exact ⟨_, _, _, h⟩
theorem OwnT.shape3 {w : World} {B : Nat} {v : Value} {l : List (List UInt8)} (h : OwnT w B v l) : ∃ a n c, v = .slice a n c := by
  obtain ⟨a, c, h⟩ := h.shape
  exact ⟨_, _, _, h⟩
theorem Mst.up {w w' : World} {m : Nat} {q : Dq} (h : Mst w m q) (hb : Below w.heap.size w w') : Mst w' m q := by
  obtain ⟨vn, vt, vp, k, i, t, p⟩ := h
  exact ⟨vn, vt, vp, k.on hb, i.up hb, t.up hb, p.up hb⟩
theorem Mst.alb {w w' : World} {m b : Nat} {q : Dq} (h : Mst w m q) (hb : Alb w.heap.size w w' b) (hbm : b < m) : Mst w' m q := by
  obtain ⟨vn, vt, vp, k, i, t, p⟩ := h
  exact ⟨vn, vt, vp, ⟨by rw [hb.block m k.lt (by omega)]; exact k.h⟩, i.alb hb (by omega), t.alb hb (by omega), p.alb hb (by omega)⟩
/-- What part answers. -/
def RpA (w w' : World) (r m c : Nat) (s : List UInt8) (q : Dq) (e : Ending) : Prop :=
  Below r w w' ∧ ((∃ q' s', partD c s q = some (q', s') ∧ e = .returned (.tuple #[]) ∧ Cr w' r s' ∧ Mst w' m q') ∨ (partD c s q = none ∧ e = .panicked (gup 11)))
set_option maxHeartbeats 4000000 in
theorem rpart_s (w : World) (r m : Nat) (s : List UInt8) (q : Dq) (hr : Cr w r s) (hrm : r < m) (hM : Mst w m q) (hs : s.length ≤ 140737488355328) (hl : q.ts.length + 1 ≤ 1000000000) :
    Calls Tryd.prog 63 #[.pointer (some ⟨r, 0, none⟩), .int .u8 115, .pointer (some ⟨m, 0, none⟩)] w fun e w' => RpA w w' r m 115 s q e := by
  obtain ⟨gu, hg⟩ : ∃ gu, gup 11 = gu := ⟨_, rfl⟩
  obtain ⟨vn, vt, vp, kM, oi, ot, op⟩ := hM
  have hmw := kM.lt
  have HPD : Hid (partD 115 s q = (cshort s).map fun x => (⟨q.a, q.b, q.ns, q.ts ++ [x.1], q.ps⟩, x.2)) := by
    show _ = _
    unfold partD
    rfl
  have N := fun (w' : World) (hc : Cr w' r s) => cshort_any w' r s hc hc.lt hs
  
  
  
  rw [hg] at N
  have HF : Hid (∀ w' e, (Below r w w' ∧ ((∃ q' s', partD 115 s q = some (q', s') ∧ e = .returned (.tuple #[]) ∧ Cr w' r s' ∧ Mst w' m q') ∨ (partD 115 s q = none ∧ e = .panicked gu))) → RpA w w' r m 115 s q e) := by rw [← hg]; exact fun w' e h => h
  have b1 : ((115 : Int) == 115) = true := rfl
  
  
  clear hg
  generalize partD 115 s q = PD at *
  generalize cshort s = PC at *
  go_enter Tryd.func63, Tryd.ntmps63
  go_wp2_with fail
  refine wp_region_held (S := fun _ => True) hmix ?_
  show wpAnyH _ _ _ _ _ _ _ _ (World.drew _)
  have b0 : Below w.heap.size w w.drew := (Below.refl _ _).drew
  have W0 : Hid (Below r w w.drew ∧ Cr w.drew r s ∧ Blk w.drew m (mtA q.a q.b vn vt vp) 36 ∧ OwnI w.drew (m + 1) vn q.ns ∧ OwnT w.drew (m + 1) vt q.ts ∧ OwnP w.drew (m + 1) vp q.ps) := ⟨b0.mono (by omega), hr.blk rfl, kM.on b0, oi.up b0, ot.up b0, op.up b0⟩
  have hz0 : m < w.drew.heap.size := hmw
  clear hr kM oi ot op b0
  generalize w.drew = w0 at *
  refine tks [0, 1, 2, 3, 5] [.pointer (some ⟨m, 0, none⟩), .pointer (some ⟨m, 0, none⟩), .pointer (some ⟨m, 0, none⟩), .pointer (some ⟨m, 3, none⟩), .pointer (some ⟨r, 0, none⟩)] 7 ?_ trivial ?_
  · simp only [tkY, tkf]
    refine ⟨.yes ?_, .yes ?_, .yes ?_, .yes ?_, .yes ?_, trivial⟩
    all_goals
      intro W' hW'
      go_simp
  simp only [tkA, tkf]
  refine ak2 4 6 (fun K hK => ?_) (fun K hK => ?_)
  · have d3 := W0.out.2.2.1.cell 3
    simp only [List.getElem?_toArray, List.getElem?_cons_zero, List.getElem?_cons_succ] at d3
    go_wp2_with fail
    refine hK _ _ trivial ?_
    clear hK K d3
    refine ak 6 (fun K hK => ?_)
    have hz1 := W0.out.2.2.1.lt
    have N1 := N w0 W0.out.2.1
    go_wp2_with (go_at_call 66; refine N1.mono ?_; rintro e w1 ⟨hA1, ⟨p, s', hp, rfl, hc1⟩ | ⟨hp, rfl⟩⟩)
    rotate_left
    · exact ⟨rfl, HF.out _ _ ⟨W0.out.1.trans ⟨hA1.os, hA1.tape, hA1.output, hA1.size, fun k hk => hA1.block k (by omega) (by omega)⟩, .inr ⟨by rw [HPD.out, hp]; rfl, rfl⟩⟩⟩
    have S1 : Hid (Below r w w1 ∧ Cr w1 r s' ∧ Blk w1 m (mtA q.a q.b vn vt vp) 36 ∧ OwnI w1 (m + 1) vn q.ns ∧ OwnT w1 (m + 1) vt q.ts ∧ OwnP w1 (m + 1) vp q.ps) := ⟨W0.out.1.trans ⟨hA1.os, hA1.tape, hA1.output, hA1.size, fun k hk => hA1.block k (by omega) (by omega)⟩, hc1, ⟨by rw [hA1.block m (by omega) (by omega)]; exact W0.out.2.2.1.h⟩, W0.out.2.2.2.1.alb hA1 (by omega), W0.out.2.2.2.2.1.alb hA1 (by omega), W0.out.2.2.2.2.2.alb hA1 (by omega)⟩
    refine hK _ _ trivial ?_
    clear hK K N1 hc1 hA1
    refine ak 7 (fun K hK => ?_)
    go_wp2_with fail
    have bn2 := below_new w1 (.cells #[str p] 9)
    have S2 : Hid (Below r w (w1.alloc (.cells #[str p] 9)) ∧ Cr (w1.alloc (.cells #[str p] 9)) r s' ∧ Blk (w1.alloc (.cells #[str p] 9)) m (mtA q.a q.b vn vt vp) 36 ∧ OwnI (w1.alloc (.cells #[str p] 9)) (m + 1) vn q.ns ∧ OwnT (w1.alloc (.cells #[str p] 9)) (m + 1) vt q.ts ∧ OwnP (w1.alloc (.cells #[str p] 9)) (m + 1) vp q.ps) := ⟨S1.out.1.trans (bn2.mono (by have := S1.out.2.2.1.lt; omega)), S1.out.2.1.blk (bn2.block r S1.out.2.1.lt), S1.out.2.2.1.on bn2, S1.out.2.2.2.1.up bn2, S1.out.2.2.2.2.1.up bn2, S1.out.2.2.2.2.2.up bn2⟩
    have CE2 : Hid ((w1.alloc (.cells #[str p] 9)).cell? ⟨w1.heap.size, 0, none⟩ = some (str p)) := (Blk.new w1 #[str p] 9).cell 0
    refine hK _ _ trivial ?_
    clear hK K bn2
    generalize w1.heap.size = g2 at *
    generalize w1.alloc (.cells #[str p] 9) = w2 at *
    refine ak 8 (fun K hK => ?_)
    have hz9 := S2.out.2.2.1.lt
    refine appT (.tmp 26) (.tmp 29) rfl (m + 1) vt q.ts p w2 g2 rfl S2.out.2.2.2.2.1 rfl CE2.out hl hz9 ?_
    intro v9 w9 o9 g9
    have hrow : ∀ k, vt.ownBlock = some k → m + 1 ≤ k := fun k hk => (World.ownsRow.lt S2.out.2.2.2.2.1 k hk).1
    have b9 : Below (m + 1) w2 w9 := (Below.refl _ _).grown g9 (by omega) hrow
    have S9 : Hid (Below r w w9 ∧ Cr w9 r s' ∧ Blk w9 m (mtA q.a q.b vn vt vp) 36) := ⟨S2.out.1.trans (b9.mono (by omega)), S2.out.2.1.blk (b9.block r (by omega)), S2.out.2.2.1.below b9 (Nat.lt_succ_self m)⟩
    have H9 : Hid (OwnI w9 (m + 1) vn q.ns ∧ OwnP w9 (m + 1) vp q.ps) := ⟨World.ownsRow.kept S2.out.2.2.2.1 g9 (ne_block S2.out.2.2.2.2.1 S2.out.2.2.2.1 (by decide)), World.ownsRow.kept S2.out.2.2.2.2.2 g9 (ne_block S2.out.2.2.2.2.1 S2.out.2.2.2.2.2 (by decide))⟩
    refine hK _ _ trivial ?_
    clear hK K g9 b9 hz9
    obtain ⟨xa, xn, xc, rfl⟩ := o9.shape3
    refine ak 9 (fun K hK => ?_)
    go_wp2_with fail
    refine hK _ _ trivial ?_
    clear hK K
    refine ak 10 (fun K hK => ?_)
    go_wp2_with fail
    refine hK _ _ trivial ?_
    clear hK K
    refine ak 11 (fun K hK => ?_)
    refine opw_set (.tmp 32) (.tmp 30) rfl m 3 _ rfl rfl S9.out.2.2 (by kernel_rfl) rfl rfl (by simp) ?_
    intro w10 k10 g10 s10
    have hz9 := S9.out.2.2.lt
    have h10 := And.intro (H9.out.1.grown g10 (fun k hk => by cases hk; exact Nat.lt_succ_self _)) (H9.out.2.grown g10 (fun k hk => by cases hk; exact Nat.lt_succ_self _))
    have o10 := o9.grown g10 (fun k hk => by cases hk; exact Nat.lt_succ_self _)
    have c10 : Cr w10 r s' := S9.out.2.1.blk (g10.block r (by omega) (by simp; omega))
    have B10 : Below r w w10 := S9.out.1.grown g10 (by have := S9.out.1.size; omega) (fun k hk => by cases hk; omega)
    refine hK _ _ trivial ?_
    clear hK K
    refine wpAnyH_done (by kernel_rfl) ?_ _
    go_wp2_with fail
    go_end0
    exact HF.out _ _ ⟨B10, .inl ⟨⟨q.a, q.b, q.ns, q.ts ++ [p], q.ps⟩, s', by rw [HPD.out, hp]; rfl, rfl, c10, ⟨vn, _, vp, k10, h10.1, o10, h10.2⟩⟩⟩
  · have hz3 := W0.out.2.2.1.lt
    have N3 := N w0 W0.out.2.1
    go_wp2_with (go_at_call 66; refine N3.mono ?_; rintro e w3 ⟨hA3, ⟨p, s', hp, rfl, hc3⟩ | ⟨hp, rfl⟩⟩)
    rotate_left
    · exact ⟨rfl, HF.out _ _ ⟨W0.out.1.trans ⟨hA3.os, hA3.tape, hA3.output, hA3.size, fun k hk => hA3.block k (by omega) (by omega)⟩, .inr ⟨by rw [HPD.out, hp]; rfl, rfl⟩⟩⟩
    have S3 : Hid (Below r w w3 ∧ Cr w3 r s' ∧ Blk w3 m (mtA q.a q.b vn vt vp) 36 ∧ OwnI w3 (m + 1) vn q.ns ∧ OwnT w3 (m + 1) vt q.ts ∧ OwnP w3 (m + 1) vp q.ps) := ⟨W0.out.1.trans ⟨hA3.os, hA3.tape, hA3.output, hA3.size, fun k hk => hA3.block k (by omega) (by omega)⟩, hc3, ⟨by rw [hA3.block m (by omega) (by omega)]; exact W0.out.2.2.1.h⟩, W0.out.2.2.2.1.alb hA3 (by omega), W0.out.2.2.2.2.1.alb hA3 (by omega), W0.out.2.2.2.2.2.alb hA3 (by omega)⟩
    refine hK _ _ trivial ?_
    clear hK K N3 hc3 hA3
    refine ak2 4 7 (fun K hK => ?_) (fun K hK => ?_)
    · have d3 := S3.out.2.2.1.cell 3
      simp only [List.getElem?_toArray, List.getElem?_cons_zero, List.getElem?_cons_succ] at d3
      go_wp2_with fail
      refine hK _ _ trivial ?_
      clear hK K d3
      refine ak 7 (fun K hK => ?_)
      go_wp2_with fail
      have bn4 := below_new w3 (.cells #[str p] 9)
      have S4 : Hid (Below r w (w3.alloc (.cells #[str p] 9)) ∧ Cr (w3.alloc (.cells #[str p] 9)) r s' ∧ Blk (w3.alloc (.cells #[str p] 9)) m (mtA q.a q.b vn vt vp) 36 ∧ OwnI (w3.alloc (.cells #[str p] 9)) (m + 1) vn q.ns ∧ OwnT (w3.alloc (.cells #[str p] 9)) (m + 1) vt q.ts ∧ OwnP (w3.alloc (.cells #[str p] 9)) (m + 1) vp q.ps) := ⟨S3.out.1.trans (bn4.mono (by have := S3.out.2.2.1.lt; omega)), S3.out.2.1.blk (bn4.block r S3.out.2.1.lt), S3.out.2.2.1.on bn4, S3.out.2.2.2.1.up bn4, S3.out.2.2.2.2.1.up bn4, S3.out.2.2.2.2.2.up bn4⟩
      have CE4 : Hid ((w3.alloc (.cells #[str p] 9)).cell? ⟨w3.heap.size, 0, none⟩ = some (str p)) := (Blk.new w3 #[str p] 9).cell 0
      refine hK _ _ trivial ?_
      clear hK K bn4
      generalize w3.heap.size = g4 at *
      generalize w3.alloc (.cells #[str p] 9) = w4 at *
      refine ak 8 (fun K hK => ?_)
      have hz9 := S4.out.2.2.1.lt
      refine appT (.tmp 26) (.tmp 29) rfl (m + 1) vt q.ts p w4 g4 rfl S4.out.2.2.2.2.1 rfl CE4.out hl hz9 ?_
      intro v9 w9 o9 g9
      have hrow : ∀ k, vt.ownBlock = some k → m + 1 ≤ k := fun k hk => (World.ownsRow.lt S4.out.2.2.2.2.1 k hk).1
      have b9 : Below (m + 1) w4 w9 := (Below.refl _ _).grown g9 (by omega) hrow
      have S9 : Hid (Below r w w9 ∧ Cr w9 r s' ∧ Blk w9 m (mtA q.a q.b vn vt vp) 36) := ⟨S4.out.1.trans (b9.mono (by omega)), S4.out.2.1.blk (b9.block r (by omega)), S4.out.2.2.1.below b9 (Nat.lt_succ_self m)⟩
      have H9 : Hid (OwnI w9 (m + 1) vn q.ns ∧ OwnP w9 (m + 1) vp q.ps) := ⟨World.ownsRow.kept S4.out.2.2.2.1 g9 (ne_block S4.out.2.2.2.2.1 S4.out.2.2.2.1 (by decide)), World.ownsRow.kept S4.out.2.2.2.2.2 g9 (ne_block S4.out.2.2.2.2.1 S4.out.2.2.2.2.2 (by decide))⟩
      refine hK _ _ trivial ?_
      clear hK K g9 b9 hz9
      obtain ⟨xa, xn, xc, rfl⟩ := o9.shape3
      refine ak 9 (fun K hK => ?_)
      go_wp2_with fail
      refine hK _ _ trivial ?_
      clear hK K
      refine ak 10 (fun K hK => ?_)
      go_wp2_with fail
      refine hK _ _ trivial ?_
      clear hK K
      refine ak 11 (fun K hK => ?_)
      refine opw_set (.tmp 32) (.tmp 30) rfl m 3 _ rfl rfl S9.out.2.2 (by kernel_rfl) rfl rfl (by simp) ?_
      intro w10 k10 g10 s10
      have hz9 := S9.out.2.2.lt
      have h10 := And.intro (H9.out.1.grown g10 (fun k hk => by cases hk; exact Nat.lt_succ_self _)) (H9.out.2.grown g10 (fun k hk => by cases hk; exact Nat.lt_succ_self _))
      have o10 := o9.grown g10 (fun k hk => by cases hk; exact Nat.lt_succ_self _)
      have c10 : Cr w10 r s' := S9.out.2.1.blk (g10.block r (by omega) (by simp; omega))
      have B10 : Below r w w10 := S9.out.1.grown g10 (by have := S9.out.1.size; omega) (fun k hk => by cases hk; omega)
      refine hK _ _ trivial ?_
      clear hK K
      refine wpAnyH_done (by kernel_rfl) ?_ _
      go_wp2_with fail
      go_end0
      exact HF.out _ _ ⟨B10, .inl ⟨⟨q.a, q.b, q.ns, q.ts ++ [p], q.ps⟩, s', by rw [HPD.out, hp]; rfl, rfl, c10, ⟨vn, _, vp, k10, h10.1, o10, h10.2⟩⟩⟩
    · go_wp2_with fail
      have bn5 := below_new w3 (.cells #[str p] 9)
      have S5 : Hid (Below r w (w3.alloc (.cells #[str p] 9)) ∧ Cr (w3.alloc (.cells #[str p] 9)) r s' ∧ Blk (w3.alloc (.cells #[str p] 9)) m (mtA q.a q.b vn vt vp) 36 ∧ OwnI (w3.alloc (.cells #[str p] 9)) (m + 1) vn q.ns ∧ OwnT (w3.alloc (.cells #[str p] 9)) (m + 1) vt q.ts ∧ OwnP (w3.alloc (.cells #[str p] 9)) (m + 1) vp q.ps) := ⟨S3.out.1.trans (bn5.mono (by have := S3.out.2.2.1.lt; omega)), S3.out.2.1.blk (bn5.block r S3.out.2.1.lt), S3.out.2.2.1.on bn5, S3.out.2.2.2.1.up bn5, S3.out.2.2.2.2.1.up bn5, S3.out.2.2.2.2.2.up bn5⟩
      have CE5 : Hid ((w3.alloc (.cells #[str p] 9)).cell? ⟨w3.heap.size, 0, none⟩ = some (str p)) := (Blk.new w3 #[str p] 9).cell 0
      refine hK _ _ trivial ?_
      clear hK K bn5
      generalize w3.heap.size = g5 at *
      generalize w3.alloc (.cells #[str p] 9) = w5 at *
      refine ak 4 (fun K hK => ?_)
      have d3 := S5.out.2.2.1.cell 3
      simp only [List.getElem?_toArray, List.getElem?_cons_zero, List.getElem?_cons_succ] at d3
      go_wp2_with fail
      refine hK _ _ trivial ?_
      clear hK K d3
      refine ak 8 (fun K hK => ?_)
      have hz9 := S5.out.2.2.1.lt
      refine appT (.tmp 26) (.tmp 29) rfl (m + 1) vt q.ts p w5 g5 rfl S5.out.2.2.2.2.1 rfl CE5.out hl hz9 ?_
      intro v9 w9 o9 g9
      have hrow : ∀ k, vt.ownBlock = some k → m + 1 ≤ k := fun k hk => (World.ownsRow.lt S5.out.2.2.2.2.1 k hk).1
      have b9 : Below (m + 1) w5 w9 := (Below.refl _ _).grown g9 (by omega) hrow
      have S9 : Hid (Below r w w9 ∧ Cr w9 r s' ∧ Blk w9 m (mtA q.a q.b vn vt vp) 36) := ⟨S5.out.1.trans (b9.mono (by omega)), S5.out.2.1.blk (b9.block r (by omega)), S5.out.2.2.1.below b9 (Nat.lt_succ_self m)⟩
      have H9 : Hid (OwnI w9 (m + 1) vn q.ns ∧ OwnP w9 (m + 1) vp q.ps) := ⟨World.ownsRow.kept S5.out.2.2.2.1 g9 (ne_block S5.out.2.2.2.2.1 S5.out.2.2.2.1 (by decide)), World.ownsRow.kept S5.out.2.2.2.2.2 g9 (ne_block S5.out.2.2.2.2.1 S5.out.2.2.2.2.2 (by decide))⟩
      refine hK _ _ trivial ?_
      clear hK K g9 b9 hz9
      obtain ⟨xa, xn, xc, rfl⟩ := o9.shape3
      refine ak 9 (fun K hK => ?_)
      go_wp2_with fail
      refine hK _ _ trivial ?_
      clear hK K
      refine ak 10 (fun K hK => ?_)
      go_wp2_with fail
      refine hK _ _ trivial ?_
      clear hK K
      refine ak 11 (fun K hK => ?_)
      refine opw_set (.tmp 32) (.tmp 30) rfl m 3 _ rfl rfl S9.out.2.2 (by kernel_rfl) rfl rfl (by simp) ?_
      intro w10 k10 g10 s10
      have hz9 := S9.out.2.2.lt
      have h10 := And.intro (H9.out.1.grown g10 (fun k hk => by cases hk; exact Nat.lt_succ_self _)) (H9.out.2.grown g10 (fun k hk => by cases hk; exact Nat.lt_succ_self _))
      have o10 := o9.grown g10 (fun k hk => by cases hk; exact Nat.lt_succ_self _)
      have c10 : Cr w10 r s' := S9.out.2.1.blk (g10.block r (by omega) (by simp; omega))
      have B10 : Below r w w10 := S9.out.1.grown g10 (by have := S9.out.1.size; omega) (fun k hk => by cases hk; omega)
      refine hK _ _ trivial ?_
      clear hK K
      refine wpAnyH_done (by kernel_rfl) ?_ _
      go_wp2_with fail
      go_end0
      exact HF.out _ _ ⟨B10, .inl ⟨⟨q.a, q.b, q.ns, q.ts ++ [p], q.ps⟩, s', by rw [HPD.out, hp]; rfl, rfl, c10, ⟨vn, _, vp, k10, h10.1, o10, h10.2⟩⟩⟩
set_option maxHeartbeats 4000000 in
theorem rpart_l (w : World) (r m : Nat) (s : List UInt8) (q : Dq) (hr : Cr w r s) (hrm : r < m) (hM : Mst w m q) (hs : s.length ≤ 140737488355328) (hl : q.ts.length + 1 ≤ 1000000000) :
    Calls Tryd.prog 63 #[.pointer (some ⟨r, 0, none⟩), .int .u8 83, .pointer (some ⟨m, 0, none⟩)] w fun e w' => RpA w w' r m 83 s q e := by
  obtain ⟨gu, hg⟩ : ∃ gu, gup 11 = gu := ⟨_, rfl⟩
  obtain ⟨vn, vt, vp, kM, oi, ot, op⟩ := hM
  have hmw := kM.lt
  have HPD : Hid (partD 83 s q = (clong s 1024).map fun x => (⟨q.a, q.b, q.ns, q.ts ++ [x.1], q.ps⟩, x.2)) := by
    show _ = _
    unfold partD
    rw [if_neg (by decide)]; rfl
  have N := fun (w' : World) (hc : Cr w' r s) => clong_any w' r 1024 s hc hc.lt hs
  
  
  
  rw [hg] at N
  have HF : Hid (∀ w' e, (Below r w w' ∧ ((∃ q' s', partD 83 s q = some (q', s') ∧ e = .returned (.tuple #[]) ∧ Cr w' r s' ∧ Mst w' m q') ∨ (partD 83 s q = none ∧ e = .panicked gu))) → RpA w w' r m 83 s q e) := by rw [← hg]; exact fun w' e h => h
  have b1 : ((83 : Int) == 115) = false := rfl
  have b2 : ((83 : Int) == 83) = true := rfl
  
  clear hg
  generalize partD 83 s q = PD at *
  generalize clong s 1024 = PC at *
  go_enter Tryd.func63, Tryd.ntmps63
  go_wp2_with fail
  refine wp_region_held (S := fun _ => True) hmix ?_
  show wpAnyH _ _ _ _ _ _ _ _ (World.drew _)
  have b0 : Below w.heap.size w w.drew := (Below.refl _ _).drew
  have W0 : Hid (Below r w w.drew ∧ Cr w.drew r s ∧ Blk w.drew m (mtA q.a q.b vn vt vp) 36 ∧ OwnI w.drew (m + 1) vn q.ns ∧ OwnT w.drew (m + 1) vt q.ts ∧ OwnP w.drew (m + 1) vp q.ps) := ⟨b0.mono (by omega), hr.blk rfl, kM.on b0, oi.up b0, ot.up b0, op.up b0⟩
  have hz0 : m < w.drew.heap.size := hmw
  clear hr kM oi ot op b0
  generalize w.drew = w0 at *
  refine tks [0, 1, 2, 3, 5] [.pointer (some ⟨m, 0, none⟩), .pointer (some ⟨m, 0, none⟩), .pointer (some ⟨m, 0, none⟩), .pointer (some ⟨m, 3, none⟩), .pointer (some ⟨r, 0, none⟩)] 7 ?_ trivial ?_
  · simp only [tkY, tkf]
    refine ⟨.yes ?_, .yes ?_, .yes ?_, .yes ?_, .yes ?_, trivial⟩
    all_goals
      intro W' hW'
      go_simp
  simp only [tkA, tkf]
  refine ak2 4 6 (fun K hK => ?_) (fun K hK => ?_)
  · have d3 := W0.out.2.2.1.cell 3
    simp only [List.getElem?_toArray, List.getElem?_cons_zero, List.getElem?_cons_succ] at d3
    go_wp2_with fail
    refine hK _ _ trivial ?_
    clear hK K d3
    refine ak 6 (fun K hK => ?_)
    have hz1 := W0.out.2.2.1.lt
    have N1 := N w0 W0.out.2.1
    go_wp2_with (go_at_call 81; refine N1.mono ?_; rintro e w1 ⟨hA1, ⟨p, s', hp, rfl, hc1⟩ | ⟨hp, rfl⟩⟩)
    rotate_left
    · exact ⟨rfl, HF.out _ _ ⟨W0.out.1.trans ⟨hA1.os, hA1.tape, hA1.output, hA1.size, fun k hk => hA1.block k (by omega) (by omega)⟩, .inr ⟨by rw [HPD.out, hp]; rfl, rfl⟩⟩⟩
    have S1 : Hid (Below r w w1 ∧ Cr w1 r s' ∧ Blk w1 m (mtA q.a q.b vn vt vp) 36 ∧ OwnI w1 (m + 1) vn q.ns ∧ OwnT w1 (m + 1) vt q.ts ∧ OwnP w1 (m + 1) vp q.ps) := ⟨W0.out.1.trans ⟨hA1.os, hA1.tape, hA1.output, hA1.size, fun k hk => hA1.block k (by omega) (by omega)⟩, hc1, ⟨by rw [hA1.block m (by omega) (by omega)]; exact W0.out.2.2.1.h⟩, W0.out.2.2.2.1.alb hA1 (by omega), W0.out.2.2.2.2.1.alb hA1 (by omega), W0.out.2.2.2.2.2.alb hA1 (by omega)⟩
    refine hK _ _ trivial ?_
    clear hK K N1 hc1 hA1
    refine ak 7 (fun K hK => ?_)
    go_wp2_with fail
    have bn2 := below_new w1 (.cells #[str p] 9)
    have S2 : Hid (Below r w (w1.alloc (.cells #[str p] 9)) ∧ Cr (w1.alloc (.cells #[str p] 9)) r s' ∧ Blk (w1.alloc (.cells #[str p] 9)) m (mtA q.a q.b vn vt vp) 36 ∧ OwnI (w1.alloc (.cells #[str p] 9)) (m + 1) vn q.ns ∧ OwnT (w1.alloc (.cells #[str p] 9)) (m + 1) vt q.ts ∧ OwnP (w1.alloc (.cells #[str p] 9)) (m + 1) vp q.ps) := ⟨S1.out.1.trans (bn2.mono (by have := S1.out.2.2.1.lt; omega)), S1.out.2.1.blk (bn2.block r S1.out.2.1.lt), S1.out.2.2.1.on bn2, S1.out.2.2.2.1.up bn2, S1.out.2.2.2.2.1.up bn2, S1.out.2.2.2.2.2.up bn2⟩
    have CE2 : Hid ((w1.alloc (.cells #[str p] 9)).cell? ⟨w1.heap.size, 0, none⟩ = some (str p)) := (Blk.new w1 #[str p] 9).cell 0
    refine hK _ _ trivial ?_
    clear hK K bn2
    generalize w1.heap.size = g2 at *
    generalize w1.alloc (.cells #[str p] 9) = w2 at *
    refine ak 8 (fun K hK => ?_)
    have hz9 := S2.out.2.2.1.lt
    refine appT (.tmp 39) (.tmp 42) rfl (m + 1) vt q.ts p w2 g2 rfl S2.out.2.2.2.2.1 rfl CE2.out hl hz9 ?_
    intro v9 w9 o9 g9
    have hrow : ∀ k, vt.ownBlock = some k → m + 1 ≤ k := fun k hk => (World.ownsRow.lt S2.out.2.2.2.2.1 k hk).1
    have b9 : Below (m + 1) w2 w9 := (Below.refl _ _).grown g9 (by omega) hrow
    have S9 : Hid (Below r w w9 ∧ Cr w9 r s' ∧ Blk w9 m (mtA q.a q.b vn vt vp) 36) := ⟨S2.out.1.trans (b9.mono (by omega)), S2.out.2.1.blk (b9.block r (by omega)), S2.out.2.2.1.below b9 (Nat.lt_succ_self m)⟩
    have H9 : Hid (OwnI w9 (m + 1) vn q.ns ∧ OwnP w9 (m + 1) vp q.ps) := ⟨World.ownsRow.kept S2.out.2.2.2.1 g9 (ne_block S2.out.2.2.2.2.1 S2.out.2.2.2.1 (by decide)), World.ownsRow.kept S2.out.2.2.2.2.2 g9 (ne_block S2.out.2.2.2.2.1 S2.out.2.2.2.2.2 (by decide))⟩
    refine hK _ _ trivial ?_
    clear hK K g9 b9 hz9
    obtain ⟨xa, xn, xc, rfl⟩ := o9.shape3
    refine ak 9 (fun K hK => ?_)
    go_wp2_with fail
    refine hK _ _ trivial ?_
    clear hK K
    refine ak 10 (fun K hK => ?_)
    go_wp2_with fail
    refine hK _ _ trivial ?_
    clear hK K
    refine ak 11 (fun K hK => ?_)
    refine opw_set (.tmp 45) (.tmp 43) rfl m 3 _ rfl rfl S9.out.2.2 (by kernel_rfl) rfl rfl (by simp) ?_
    intro w10 k10 g10 s10
    have hz9 := S9.out.2.2.lt
    have h10 := And.intro (H9.out.1.grown g10 (fun k hk => by cases hk; exact Nat.lt_succ_self _)) (H9.out.2.grown g10 (fun k hk => by cases hk; exact Nat.lt_succ_self _))
    have o10 := o9.grown g10 (fun k hk => by cases hk; exact Nat.lt_succ_self _)
    have c10 : Cr w10 r s' := S9.out.2.1.blk (g10.block r (by omega) (by simp; omega))
    have B10 : Below r w w10 := S9.out.1.grown g10 (by have := S9.out.1.size; omega) (fun k hk => by cases hk; omega)
    refine hK _ _ trivial ?_
    clear hK K
    refine wpAnyH_done (by kernel_rfl) ?_ _
    go_wp2_with fail
    go_end0
    exact HF.out _ _ ⟨B10, .inl ⟨⟨q.a, q.b, q.ns, q.ts ++ [p], q.ps⟩, s', by rw [HPD.out, hp]; rfl, rfl, c10, ⟨vn, _, vp, k10, h10.1, o10, h10.2⟩⟩⟩
  · have hz3 := W0.out.2.2.1.lt
    have N3 := N w0 W0.out.2.1
    go_wp2_with (go_at_call 81; refine N3.mono ?_; rintro e w3 ⟨hA3, ⟨p, s', hp, rfl, hc3⟩ | ⟨hp, rfl⟩⟩)
    rotate_left
    · exact ⟨rfl, HF.out _ _ ⟨W0.out.1.trans ⟨hA3.os, hA3.tape, hA3.output, hA3.size, fun k hk => hA3.block k (by omega) (by omega)⟩, .inr ⟨by rw [HPD.out, hp]; rfl, rfl⟩⟩⟩
    have S3 : Hid (Below r w w3 ∧ Cr w3 r s' ∧ Blk w3 m (mtA q.a q.b vn vt vp) 36 ∧ OwnI w3 (m + 1) vn q.ns ∧ OwnT w3 (m + 1) vt q.ts ∧ OwnP w3 (m + 1) vp q.ps) := ⟨W0.out.1.trans ⟨hA3.os, hA3.tape, hA3.output, hA3.size, fun k hk => hA3.block k (by omega) (by omega)⟩, hc3, ⟨by rw [hA3.block m (by omega) (by omega)]; exact W0.out.2.2.1.h⟩, W0.out.2.2.2.1.alb hA3 (by omega), W0.out.2.2.2.2.1.alb hA3 (by omega), W0.out.2.2.2.2.2.alb hA3 (by omega)⟩
    refine hK _ _ trivial ?_
    clear hK K N3 hc3 hA3
    refine ak2 4 7 (fun K hK => ?_) (fun K hK => ?_)
    · have d3 := S3.out.2.2.1.cell 3
      simp only [List.getElem?_toArray, List.getElem?_cons_zero, List.getElem?_cons_succ] at d3
      go_wp2_with fail
      refine hK _ _ trivial ?_
      clear hK K d3
      refine ak 7 (fun K hK => ?_)
      go_wp2_with fail
      have bn4 := below_new w3 (.cells #[str p] 9)
      have S4 : Hid (Below r w (w3.alloc (.cells #[str p] 9)) ∧ Cr (w3.alloc (.cells #[str p] 9)) r s' ∧ Blk (w3.alloc (.cells #[str p] 9)) m (mtA q.a q.b vn vt vp) 36 ∧ OwnI (w3.alloc (.cells #[str p] 9)) (m + 1) vn q.ns ∧ OwnT (w3.alloc (.cells #[str p] 9)) (m + 1) vt q.ts ∧ OwnP (w3.alloc (.cells #[str p] 9)) (m + 1) vp q.ps) := ⟨S3.out.1.trans (bn4.mono (by have := S3.out.2.2.1.lt; omega)), S3.out.2.1.blk (bn4.block r S3.out.2.1.lt), S3.out.2.2.1.on bn4, S3.out.2.2.2.1.up bn4, S3.out.2.2.2.2.1.up bn4, S3.out.2.2.2.2.2.up bn4⟩
      have CE4 : Hid ((w3.alloc (.cells #[str p] 9)).cell? ⟨w3.heap.size, 0, none⟩ = some (str p)) := (Blk.new w3 #[str p] 9).cell 0
      refine hK _ _ trivial ?_
      clear hK K bn4
      generalize w3.heap.size = g4 at *
      generalize w3.alloc (.cells #[str p] 9) = w4 at *
      refine ak 8 (fun K hK => ?_)
      have hz9 := S4.out.2.2.1.lt
      refine appT (.tmp 39) (.tmp 42) rfl (m + 1) vt q.ts p w4 g4 rfl S4.out.2.2.2.2.1 rfl CE4.out hl hz9 ?_
      intro v9 w9 o9 g9
      have hrow : ∀ k, vt.ownBlock = some k → m + 1 ≤ k := fun k hk => (World.ownsRow.lt S4.out.2.2.2.2.1 k hk).1
      have b9 : Below (m + 1) w4 w9 := (Below.refl _ _).grown g9 (by omega) hrow
      have S9 : Hid (Below r w w9 ∧ Cr w9 r s' ∧ Blk w9 m (mtA q.a q.b vn vt vp) 36) := ⟨S4.out.1.trans (b9.mono (by omega)), S4.out.2.1.blk (b9.block r (by omega)), S4.out.2.2.1.below b9 (Nat.lt_succ_self m)⟩
      have H9 : Hid (OwnI w9 (m + 1) vn q.ns ∧ OwnP w9 (m + 1) vp q.ps) := ⟨World.ownsRow.kept S4.out.2.2.2.1 g9 (ne_block S4.out.2.2.2.2.1 S4.out.2.2.2.1 (by decide)), World.ownsRow.kept S4.out.2.2.2.2.2 g9 (ne_block S4.out.2.2.2.2.1 S4.out.2.2.2.2.2 (by decide))⟩
      refine hK _ _ trivial ?_
      clear hK K g9 b9 hz9
      obtain ⟨xa, xn, xc, rfl⟩ := o9.shape3
      refine ak 9 (fun K hK => ?_)
      go_wp2_with fail
      refine hK _ _ trivial ?_
      clear hK K
      refine ak 10 (fun K hK => ?_)
      go_wp2_with fail
      refine hK _ _ trivial ?_
      clear hK K
      refine ak 11 (fun K hK => ?_)
      refine opw_set (.tmp 45) (.tmp 43) rfl m 3 _ rfl rfl S9.out.2.2 (by kernel_rfl) rfl rfl (by simp) ?_
      intro w10 k10 g10 s10
      have hz9 := S9.out.2.2.lt
      have h10 := And.intro (H9.out.1.grown g10 (fun k hk => by cases hk; exact Nat.lt_succ_self _)) (H9.out.2.grown g10 (fun k hk => by cases hk; exact Nat.lt_succ_self _))
      have o10 := o9.grown g10 (fun k hk => by cases hk; exact Nat.lt_succ_self _)
      have c10 : Cr w10 r s' := S9.out.2.1.blk (g10.block r (by omega) (by simp; omega))
      have B10 : Below r w w10 := S9.out.1.grown g10 (by have := S9.out.1.size; omega) (fun k hk => by cases hk; omega)
      refine hK _ _ trivial ?_
      clear hK K
      refine wpAnyH_done (by kernel_rfl) ?_ _
      go_wp2_with fail
      go_end0
      exact HF.out _ _ ⟨B10, .inl ⟨⟨q.a, q.b, q.ns, q.ts ++ [p], q.ps⟩, s', by rw [HPD.out, hp]; rfl, rfl, c10, ⟨vn, _, vp, k10, h10.1, o10, h10.2⟩⟩⟩
    · go_wp2_with fail
      have bn5 := below_new w3 (.cells #[str p] 9)
      have S5 : Hid (Below r w (w3.alloc (.cells #[str p] 9)) ∧ Cr (w3.alloc (.cells #[str p] 9)) r s' ∧ Blk (w3.alloc (.cells #[str p] 9)) m (mtA q.a q.b vn vt vp) 36 ∧ OwnI (w3.alloc (.cells #[str p] 9)) (m + 1) vn q.ns ∧ OwnT (w3.alloc (.cells #[str p] 9)) (m + 1) vt q.ts ∧ OwnP (w3.alloc (.cells #[str p] 9)) (m + 1) vp q.ps) := ⟨S3.out.1.trans (bn5.mono (by have := S3.out.2.2.1.lt; omega)), S3.out.2.1.blk (bn5.block r S3.out.2.1.lt), S3.out.2.2.1.on bn5, S3.out.2.2.2.1.up bn5, S3.out.2.2.2.2.1.up bn5, S3.out.2.2.2.2.2.up bn5⟩
      have CE5 : Hid ((w3.alloc (.cells #[str p] 9)).cell? ⟨w3.heap.size, 0, none⟩ = some (str p)) := (Blk.new w3 #[str p] 9).cell 0
      refine hK _ _ trivial ?_
      clear hK K bn5
      generalize w3.heap.size = g5 at *
      generalize w3.alloc (.cells #[str p] 9) = w5 at *
      refine ak 4 (fun K hK => ?_)
      have d3 := S5.out.2.2.1.cell 3
      simp only [List.getElem?_toArray, List.getElem?_cons_zero, List.getElem?_cons_succ] at d3
      go_wp2_with fail
      refine hK _ _ trivial ?_
      clear hK K d3
      refine ak 8 (fun K hK => ?_)
      have hz9 := S5.out.2.2.1.lt
      refine appT (.tmp 39) (.tmp 42) rfl (m + 1) vt q.ts p w5 g5 rfl S5.out.2.2.2.2.1 rfl CE5.out hl hz9 ?_
      intro v9 w9 o9 g9
      have hrow : ∀ k, vt.ownBlock = some k → m + 1 ≤ k := fun k hk => (World.ownsRow.lt S5.out.2.2.2.2.1 k hk).1
      have b9 : Below (m + 1) w5 w9 := (Below.refl _ _).grown g9 (by omega) hrow
      have S9 : Hid (Below r w w9 ∧ Cr w9 r s' ∧ Blk w9 m (mtA q.a q.b vn vt vp) 36) := ⟨S5.out.1.trans (b9.mono (by omega)), S5.out.2.1.blk (b9.block r (by omega)), S5.out.2.2.1.below b9 (Nat.lt_succ_self m)⟩
      have H9 : Hid (OwnI w9 (m + 1) vn q.ns ∧ OwnP w9 (m + 1) vp q.ps) := ⟨World.ownsRow.kept S5.out.2.2.2.1 g9 (ne_block S5.out.2.2.2.2.1 S5.out.2.2.2.1 (by decide)), World.ownsRow.kept S5.out.2.2.2.2.2 g9 (ne_block S5.out.2.2.2.2.1 S5.out.2.2.2.2.2 (by decide))⟩
      refine hK _ _ trivial ?_
      clear hK K g9 b9 hz9
      obtain ⟨xa, xn, xc, rfl⟩ := o9.shape3
      refine ak 9 (fun K hK => ?_)
      go_wp2_with fail
      refine hK _ _ trivial ?_
      clear hK K
      refine ak 10 (fun K hK => ?_)
      go_wp2_with fail
      refine hK _ _ trivial ?_
      clear hK K
      refine ak 11 (fun K hK => ?_)
      refine opw_set (.tmp 45) (.tmp 43) rfl m 3 _ rfl rfl S9.out.2.2 (by kernel_rfl) rfl rfl (by simp) ?_
      intro w10 k10 g10 s10
      have hz9 := S9.out.2.2.lt
      have h10 := And.intro (H9.out.1.grown g10 (fun k hk => by cases hk; exact Nat.lt_succ_self _)) (H9.out.2.grown g10 (fun k hk => by cases hk; exact Nat.lt_succ_self _))
      have o10 := o9.grown g10 (fun k hk => by cases hk; exact Nat.lt_succ_self _)
      have c10 : Cr w10 r s' := S9.out.2.1.blk (g10.block r (by omega) (by simp; omega))
      have B10 : Below r w w10 := S9.out.1.grown g10 (by have := S9.out.1.size; omega) (fun k hk => by cases hk; omega)
      refine hK _ _ trivial ?_
      clear hK K
      refine wpAnyH_done (by kernel_rfl) ?_ _
      go_wp2_with fail
      go_end0
      exact HF.out _ _ ⟨B10, .inl ⟨⟨q.a, q.b, q.ns, q.ts ++ [p], q.ps⟩, s', by rw [HPD.out, hp]; rfl, rfl, c10, ⟨vn, _, vp, k10, h10.1, o10, h10.2⟩⟩⟩
set_option maxHeartbeats 4000000 in
theorem rpart_n (w : World) (r m c : Nat) (s : List UInt8) (q : Dq) (h1 : c ≠ 115) (h2 : c ≠ 83) (h3 : c ≠ 84) (hr : Cr w r s) (hrm : r < m) (hM : Mst w m q) (hs : s.length ≤ 140737488355328) (hl : q.ns.length + 1 ≤ 1000000000) :
    Calls Tryd.prog 63 #[.pointer (some ⟨r, 0, none⟩), .int .u8 (c : Int), .pointer (some ⟨m, 0, none⟩)] w fun e w' => RpA w w' r m c s q e := by
  obtain ⟨gu, hg⟩ : ∃ gu, gup 11 = gu := ⟨_, rfl⟩
  obtain ⟨vn, vt, vp, kM, oi, ot, op⟩ := hM
  have hmw := kM.lt
  have HPD : Hid (partD c s q = (cwhole (wid c) s).map fun x => (⟨q.a, q.b, q.ns ++ [(x.1 : Int)], q.ts, q.ps⟩, x.2)) := by
    show _ = _
    unfold partD
    rw [if_neg h1, if_neg h2, if_neg h3]
  have N := fun (w' : World) (hc : Cr w' r s) => cwhole_any w' r (wid c) s hc hc.lt hs (by rcases wid_is c with h | h | h | h <;> omega)
  have WD := fun w => width_any w c
  obtain ⟨k, hk⟩ : ∃ k, wid c = k := ⟨_, rfl⟩
  rw [hk] at N HPD WD
  rw [hg] at N
  have HF : Hid (∀ w' e, (Below r w w' ∧ ((∃ q' s', partD c s q = some (q', s') ∧ e = .returned (.tuple #[]) ∧ Cr w' r s' ∧ Mst w' m q') ∨ (partD c s q = none ∧ e = .panicked gu))) → RpA w w' r m c s q e) := by rw [← hg]; exact fun w' e h => h
  have b1 : ((c : Int) == 115) = false := by simp; omega
  have b2 : ((c : Int) == 83) = false := by simp; omega
  have b3 : ((c : Int) == 84) = false := by simp; omega
  clear hg
  generalize partD c s q = PD at *
  generalize cwhole k s = PC at *
  go_enter Tryd.func63, Tryd.ntmps63
  go_wp2_with fail
  refine wp_region_held (S := fun _ => True) hmix ?_
  show wpAnyH _ _ _ _ _ _ _ _ (World.drew _)
  have b0 : Below w.heap.size w w.drew := (Below.refl _ _).drew
  have W0 : Hid (Below r w w.drew ∧ Cr w.drew r s ∧ Blk w.drew m (mtA q.a q.b vn vt vp) 36 ∧ OwnI w.drew (m + 1) vn q.ns ∧ OwnT w.drew (m + 1) vt q.ts ∧ OwnP w.drew (m + 1) vp q.ps) := ⟨b0.mono (by omega), hr.blk rfl, kM.on b0, oi.up b0, ot.up b0, op.up b0⟩
  have hz0 : m < w.drew.heap.size := hmw
  clear hr kM oi ot op b0
  generalize w.drew = w0 at *
  refine tks [0, 1, 2, 3, 5, 6] [.pointer (some ⟨m, 0, none⟩), .pointer (some ⟨m, 0, none⟩), .pointer (some ⟨m, 0, none⟩), .pointer (some ⟨m, 2, none⟩), .pointer (some ⟨r, 0, none⟩), .int .u8 (c : Int)] 8 ?_ trivial ?_
  · simp only [tkY, tkf]
    refine ⟨.yes ?_, .yes ?_, .yes ?_, .yes ?_, .yes ?_, .yes ?_, trivial⟩
    all_goals
      intro W' hW'
      go_simp
  simp only [tkA, tkf]
  refine ak2 4 7 (fun K hK => ?_) (fun K hK => ?_)
  · have d2 := W0.out.2.2.1.cell 2
    simp only [List.getElem?_toArray, List.getElem?_cons_zero, List.getElem?_cons_succ] at d2
    go_wp2_with fail
    refine hK _ _ trivial ?_
    clear hK K d2
    refine ak 7 (fun K hK => ?_)
    go_wp2_with (go_at_call 79; refine (WD _).mono ?_; rintro e w0 ⟨rfl, rfl⟩)
    refine hK _ _ trivial ?_
    clear hK K
    refine ak 8 (fun K hK => ?_)
    have hz1 := W0.out.2.2.1.lt
    have N1 := N w0 W0.out.2.1
    go_wp2_with (go_at_call 62; refine N1.mono ?_; rintro e w1 ⟨hA1, ⟨p, s', hp, hpn, rfl, hc1⟩ | ⟨hp, rfl⟩⟩)
    rotate_left
    · exact ⟨rfl, HF.out _ _ ⟨W0.out.1.trans ⟨hA1.os, hA1.tape, hA1.output, hA1.size, fun k hk => hA1.block k (by omega) (by omega)⟩, .inr ⟨by rw [HPD.out, hp]; rfl, rfl⟩⟩⟩
    have S1 : Hid (Below r w w1 ∧ Cr w1 r s' ∧ Blk w1 m (mtA q.a q.b vn vt vp) 36 ∧ OwnI w1 (m + 1) vn q.ns ∧ OwnT w1 (m + 1) vt q.ts ∧ OwnP w1 (m + 1) vp q.ps) := ⟨W0.out.1.trans ⟨hA1.os, hA1.tape, hA1.output, hA1.size, fun k hk => hA1.block k (by omega) (by omega)⟩, hc1, ⟨by rw [hA1.block m (by omega) (by omega)]; exact W0.out.2.2.1.h⟩, W0.out.2.2.2.1.alb hA1 (by omega), W0.out.2.2.2.2.1.alb hA1 (by omega), W0.out.2.2.2.2.2.alb hA1 (by omega)⟩
    refine hK _ _ trivial ?_
    clear hK K N1 hc1 hA1
    refine ak 9 (fun K hK => ?_)
    go_wp2_with fail
    have bn2 := below_new w1 (.cells #[.int .i64 (p : Int)] 3)
    have S2 : Hid (Below r w (w1.alloc (.cells #[.int .i64 (p : Int)] 3)) ∧ Cr (w1.alloc (.cells #[.int .i64 (p : Int)] 3)) r s' ∧ Blk (w1.alloc (.cells #[.int .i64 (p : Int)] 3)) m (mtA q.a q.b vn vt vp) 36 ∧ OwnI (w1.alloc (.cells #[.int .i64 (p : Int)] 3)) (m + 1) vn q.ns ∧ OwnT (w1.alloc (.cells #[.int .i64 (p : Int)] 3)) (m + 1) vt q.ts ∧ OwnP (w1.alloc (.cells #[.int .i64 (p : Int)] 3)) (m + 1) vp q.ps) := ⟨S1.out.1.trans (bn2.mono (by have := S1.out.2.2.1.lt; omega)), S1.out.2.1.blk (bn2.block r S1.out.2.1.lt), S1.out.2.2.1.on bn2, S1.out.2.2.2.1.up bn2, S1.out.2.2.2.2.1.up bn2, S1.out.2.2.2.2.2.up bn2⟩
    have CE2 : Hid ((w1.alloc (.cells #[.int .i64 (p : Int)] 3)).cell? ⟨w1.heap.size, 0, none⟩ = some (.int .i64 (p : Int))) := (Blk.new w1 #[.int .i64 (p : Int)] 3).cell 0
    refine hK _ _ trivial ?_
    clear hK K bn2
    generalize w1.heap.size = g2 at *
    generalize w1.alloc (.cells #[.int .i64 (p : Int)] 3) = w2 at *
    refine ak 10 (fun K hK => ?_)
    have hz9 := S2.out.2.2.1.lt
    refine appI (.tmp 11) (.tmp 16) rfl (m + 1) vn q.ns (p : Int) w2 g2 rfl S2.out.2.2.2.1 rfl CE2.out hl hz9 ?_
    intro v9 w9 o9 g9
    have hrow : ∀ k, vn.ownBlock = some k → m + 1 ≤ k := fun k hk => (World.ownsRow.lt S2.out.2.2.2.1 k hk).1
    have b9 : Below (m + 1) w2 w9 := (Below.refl _ _).grown g9 (by omega) hrow
    have S9 : Hid (Below r w w9 ∧ Cr w9 r s' ∧ Blk w9 m (mtA q.a q.b vn vt vp) 36) := ⟨S2.out.1.trans (b9.mono (by omega)), S2.out.2.1.blk (b9.block r (by omega)), S2.out.2.2.1.below b9 (Nat.lt_succ_self m)⟩
    have H9 : Hid (OwnT w9 (m + 1) vt q.ts ∧ OwnP w9 (m + 1) vp q.ps) := ⟨World.ownsRow.kept S2.out.2.2.2.2.1 g9 (ne_block S2.out.2.2.2.1 S2.out.2.2.2.2.1 (by decide)), World.ownsRow.kept S2.out.2.2.2.2.2 g9 (ne_block S2.out.2.2.2.1 S2.out.2.2.2.2.2 (by decide))⟩
    refine hK _ _ trivial ?_
    clear hK K g9 b9 hz9
    obtain ⟨xa, xn, xc, rfl⟩ := o9.shape3
    refine ak 11 (fun K hK => ?_)
    go_wp2_with fail
    refine hK _ _ trivial ?_
    clear hK K
    refine ak 12 (fun K hK => ?_)
    go_wp2_with fail
    refine hK _ _ trivial ?_
    clear hK K
    refine ak 13 (fun K hK => ?_)
    refine opw_set (.tmp 19) (.tmp 17) rfl m 2 _ rfl rfl S9.out.2.2 (by kernel_rfl) rfl rfl (by simp) ?_
    intro w10 k10 g10 s10
    have hz9 := S9.out.2.2.lt
    have h10 := And.intro (H9.out.1.grown g10 (fun k hk => by cases hk; exact Nat.lt_succ_self _)) (H9.out.2.grown g10 (fun k hk => by cases hk; exact Nat.lt_succ_self _))
    have o10 := o9.grown g10 (fun k hk => by cases hk; exact Nat.lt_succ_self _)
    have c10 : Cr w10 r s' := S9.out.2.1.blk (g10.block r (by omega) (by simp; omega))
    have B10 : Below r w w10 := S9.out.1.grown g10 (by have := S9.out.1.size; omega) (fun k hk => by cases hk; omega)
    refine hK _ _ trivial ?_
    clear hK K
    refine wpAnyH_done (by kernel_rfl) ?_ _
    go_wp2_with fail
    go_end0
    exact HF.out _ _ ⟨B10, .inl ⟨⟨q.a, q.b, q.ns ++ [(p : Int)], q.ts, q.ps⟩, s', by rw [HPD.out, hp]; rfl, rfl, c10, ⟨_, vt, vp, k10, o10, h10.1, h10.2⟩⟩⟩
  · go_wp2_with (go_at_call 79; refine (WD _).mono ?_; rintro e w0 ⟨rfl, rfl⟩)
    refine hK _ _ trivial ?_
    clear hK K
    refine ak2 4 8 (fun K hK => ?_) (fun K hK => ?_)
    · have d2 := W0.out.2.2.1.cell 2
      simp only [List.getElem?_toArray, List.getElem?_cons_zero, List.getElem?_cons_succ] at d2
      go_wp2_with fail
      refine hK _ _ trivial ?_
      clear hK K d2
      refine ak 8 (fun K hK => ?_)
      have hz3 := W0.out.2.2.1.lt
      have N3 := N w0 W0.out.2.1
      go_wp2_with (go_at_call 62; refine N3.mono ?_; rintro e w3 ⟨hA3, ⟨p, s', hp, hpn, rfl, hc3⟩ | ⟨hp, rfl⟩⟩)
      rotate_left
      · exact ⟨rfl, HF.out _ _ ⟨W0.out.1.trans ⟨hA3.os, hA3.tape, hA3.output, hA3.size, fun k hk => hA3.block k (by omega) (by omega)⟩, .inr ⟨by rw [HPD.out, hp]; rfl, rfl⟩⟩⟩
      have S3 : Hid (Below r w w3 ∧ Cr w3 r s' ∧ Blk w3 m (mtA q.a q.b vn vt vp) 36 ∧ OwnI w3 (m + 1) vn q.ns ∧ OwnT w3 (m + 1) vt q.ts ∧ OwnP w3 (m + 1) vp q.ps) := ⟨W0.out.1.trans ⟨hA3.os, hA3.tape, hA3.output, hA3.size, fun k hk => hA3.block k (by omega) (by omega)⟩, hc3, ⟨by rw [hA3.block m (by omega) (by omega)]; exact W0.out.2.2.1.h⟩, W0.out.2.2.2.1.alb hA3 (by omega), W0.out.2.2.2.2.1.alb hA3 (by omega), W0.out.2.2.2.2.2.alb hA3 (by omega)⟩
      refine hK _ _ trivial ?_
      clear hK K N3 hc3 hA3
      refine ak 9 (fun K hK => ?_)
      go_wp2_with fail
      have bn4 := below_new w3 (.cells #[.int .i64 (p : Int)] 3)
      have S4 : Hid (Below r w (w3.alloc (.cells #[.int .i64 (p : Int)] 3)) ∧ Cr (w3.alloc (.cells #[.int .i64 (p : Int)] 3)) r s' ∧ Blk (w3.alloc (.cells #[.int .i64 (p : Int)] 3)) m (mtA q.a q.b vn vt vp) 36 ∧ OwnI (w3.alloc (.cells #[.int .i64 (p : Int)] 3)) (m + 1) vn q.ns ∧ OwnT (w3.alloc (.cells #[.int .i64 (p : Int)] 3)) (m + 1) vt q.ts ∧ OwnP (w3.alloc (.cells #[.int .i64 (p : Int)] 3)) (m + 1) vp q.ps) := ⟨S3.out.1.trans (bn4.mono (by have := S3.out.2.2.1.lt; omega)), S3.out.2.1.blk (bn4.block r S3.out.2.1.lt), S3.out.2.2.1.on bn4, S3.out.2.2.2.1.up bn4, S3.out.2.2.2.2.1.up bn4, S3.out.2.2.2.2.2.up bn4⟩
      have CE4 : Hid ((w3.alloc (.cells #[.int .i64 (p : Int)] 3)).cell? ⟨w3.heap.size, 0, none⟩ = some (.int .i64 (p : Int))) := (Blk.new w3 #[.int .i64 (p : Int)] 3).cell 0
      refine hK _ _ trivial ?_
      clear hK K bn4
      generalize w3.heap.size = g4 at *
      generalize w3.alloc (.cells #[.int .i64 (p : Int)] 3) = w4 at *
      refine ak 10 (fun K hK => ?_)
      have hz9 := S4.out.2.2.1.lt
      refine appI (.tmp 11) (.tmp 16) rfl (m + 1) vn q.ns (p : Int) w4 g4 rfl S4.out.2.2.2.1 rfl CE4.out hl hz9 ?_
      intro v9 w9 o9 g9
      have hrow : ∀ k, vn.ownBlock = some k → m + 1 ≤ k := fun k hk => (World.ownsRow.lt S4.out.2.2.2.1 k hk).1
      have b9 : Below (m + 1) w4 w9 := (Below.refl _ _).grown g9 (by omega) hrow
      have S9 : Hid (Below r w w9 ∧ Cr w9 r s' ∧ Blk w9 m (mtA q.a q.b vn vt vp) 36) := ⟨S4.out.1.trans (b9.mono (by omega)), S4.out.2.1.blk (b9.block r (by omega)), S4.out.2.2.1.below b9 (Nat.lt_succ_self m)⟩
      have H9 : Hid (OwnT w9 (m + 1) vt q.ts ∧ OwnP w9 (m + 1) vp q.ps) := ⟨World.ownsRow.kept S4.out.2.2.2.2.1 g9 (ne_block S4.out.2.2.2.1 S4.out.2.2.2.2.1 (by decide)), World.ownsRow.kept S4.out.2.2.2.2.2 g9 (ne_block S4.out.2.2.2.1 S4.out.2.2.2.2.2 (by decide))⟩
      refine hK _ _ trivial ?_
      clear hK K g9 b9 hz9
      obtain ⟨xa, xn, xc, rfl⟩ := o9.shape3
      refine ak 11 (fun K hK => ?_)
      go_wp2_with fail
      refine hK _ _ trivial ?_
      clear hK K
      refine ak 12 (fun K hK => ?_)
      go_wp2_with fail
      refine hK _ _ trivial ?_
      clear hK K
      refine ak 13 (fun K hK => ?_)
      refine opw_set (.tmp 19) (.tmp 17) rfl m 2 _ rfl rfl S9.out.2.2 (by kernel_rfl) rfl rfl (by simp) ?_
      intro w10 k10 g10 s10
      have hz9 := S9.out.2.2.lt
      have h10 := And.intro (H9.out.1.grown g10 (fun k hk => by cases hk; exact Nat.lt_succ_self _)) (H9.out.2.grown g10 (fun k hk => by cases hk; exact Nat.lt_succ_self _))
      have o10 := o9.grown g10 (fun k hk => by cases hk; exact Nat.lt_succ_self _)
      have c10 : Cr w10 r s' := S9.out.2.1.blk (g10.block r (by omega) (by simp; omega))
      have B10 : Below r w w10 := S9.out.1.grown g10 (by have := S9.out.1.size; omega) (fun k hk => by cases hk; omega)
      refine hK _ _ trivial ?_
      clear hK K
      refine wpAnyH_done (by kernel_rfl) ?_ _
      go_wp2_with fail
      go_end0
      exact HF.out _ _ ⟨B10, .inl ⟨⟨q.a, q.b, q.ns ++ [(p : Int)], q.ts, q.ps⟩, s', by rw [HPD.out, hp]; rfl, rfl, c10, ⟨_, vt, vp, k10, o10, h10.1, h10.2⟩⟩⟩
    · have hz5 := W0.out.2.2.1.lt
      have N5 := N w0 W0.out.2.1
      go_wp2_with (go_at_call 62; refine N5.mono ?_; rintro e w5 ⟨hA5, ⟨p, s', hp, hpn, rfl, hc5⟩ | ⟨hp, rfl⟩⟩)
      rotate_left
      · exact ⟨rfl, HF.out _ _ ⟨W0.out.1.trans ⟨hA5.os, hA5.tape, hA5.output, hA5.size, fun k hk => hA5.block k (by omega) (by omega)⟩, .inr ⟨by rw [HPD.out, hp]; rfl, rfl⟩⟩⟩
      have S5 : Hid (Below r w w5 ∧ Cr w5 r s' ∧ Blk w5 m (mtA q.a q.b vn vt vp) 36 ∧ OwnI w5 (m + 1) vn q.ns ∧ OwnT w5 (m + 1) vt q.ts ∧ OwnP w5 (m + 1) vp q.ps) := ⟨W0.out.1.trans ⟨hA5.os, hA5.tape, hA5.output, hA5.size, fun k hk => hA5.block k (by omega) (by omega)⟩, hc5, ⟨by rw [hA5.block m (by omega) (by omega)]; exact W0.out.2.2.1.h⟩, W0.out.2.2.2.1.alb hA5 (by omega), W0.out.2.2.2.2.1.alb hA5 (by omega), W0.out.2.2.2.2.2.alb hA5 (by omega)⟩
      refine hK _ _ trivial ?_
      clear hK K N5 hc5 hA5
      refine ak2 4 9 (fun K hK => ?_) (fun K hK => ?_)
      · have d2 := S5.out.2.2.1.cell 2
        simp only [List.getElem?_toArray, List.getElem?_cons_zero, List.getElem?_cons_succ] at d2
        go_wp2_with fail
        refine hK _ _ trivial ?_
        clear hK K d2
        refine ak 9 (fun K hK => ?_)
        go_wp2_with fail
        have bn6 := below_new w5 (.cells #[.int .i64 (p : Int)] 3)
        have S6 : Hid (Below r w (w5.alloc (.cells #[.int .i64 (p : Int)] 3)) ∧ Cr (w5.alloc (.cells #[.int .i64 (p : Int)] 3)) r s' ∧ Blk (w5.alloc (.cells #[.int .i64 (p : Int)] 3)) m (mtA q.a q.b vn vt vp) 36 ∧ OwnI (w5.alloc (.cells #[.int .i64 (p : Int)] 3)) (m + 1) vn q.ns ∧ OwnT (w5.alloc (.cells #[.int .i64 (p : Int)] 3)) (m + 1) vt q.ts ∧ OwnP (w5.alloc (.cells #[.int .i64 (p : Int)] 3)) (m + 1) vp q.ps) := ⟨S5.out.1.trans (bn6.mono (by have := S5.out.2.2.1.lt; omega)), S5.out.2.1.blk (bn6.block r S5.out.2.1.lt), S5.out.2.2.1.on bn6, S5.out.2.2.2.1.up bn6, S5.out.2.2.2.2.1.up bn6, S5.out.2.2.2.2.2.up bn6⟩
        have CE6 : Hid ((w5.alloc (.cells #[.int .i64 (p : Int)] 3)).cell? ⟨w5.heap.size, 0, none⟩ = some (.int .i64 (p : Int))) := (Blk.new w5 #[.int .i64 (p : Int)] 3).cell 0
        refine hK _ _ trivial ?_
        clear hK K bn6
        generalize w5.heap.size = g6 at *
        generalize w5.alloc (.cells #[.int .i64 (p : Int)] 3) = w6 at *
        refine ak 10 (fun K hK => ?_)
        have hz9 := S6.out.2.2.1.lt
        refine appI (.tmp 11) (.tmp 16) rfl (m + 1) vn q.ns (p : Int) w6 g6 rfl S6.out.2.2.2.1 rfl CE6.out hl hz9 ?_
        intro v9 w9 o9 g9
        have hrow : ∀ k, vn.ownBlock = some k → m + 1 ≤ k := fun k hk => (World.ownsRow.lt S6.out.2.2.2.1 k hk).1
        have b9 : Below (m + 1) w6 w9 := (Below.refl _ _).grown g9 (by omega) hrow
        have S9 : Hid (Below r w w9 ∧ Cr w9 r s' ∧ Blk w9 m (mtA q.a q.b vn vt vp) 36) := ⟨S6.out.1.trans (b9.mono (by omega)), S6.out.2.1.blk (b9.block r (by omega)), S6.out.2.2.1.below b9 (Nat.lt_succ_self m)⟩
        have H9 : Hid (OwnT w9 (m + 1) vt q.ts ∧ OwnP w9 (m + 1) vp q.ps) := ⟨World.ownsRow.kept S6.out.2.2.2.2.1 g9 (ne_block S6.out.2.2.2.1 S6.out.2.2.2.2.1 (by decide)), World.ownsRow.kept S6.out.2.2.2.2.2 g9 (ne_block S6.out.2.2.2.1 S6.out.2.2.2.2.2 (by decide))⟩
        refine hK _ _ trivial ?_
        clear hK K g9 b9 hz9
        obtain ⟨xa, xn, xc, rfl⟩ := o9.shape3
        refine ak 11 (fun K hK => ?_)
        go_wp2_with fail
        refine hK _ _ trivial ?_
        clear hK K
        refine ak 12 (fun K hK => ?_)
        go_wp2_with fail
        refine hK _ _ trivial ?_
        clear hK K
        refine ak 13 (fun K hK => ?_)
        refine opw_set (.tmp 19) (.tmp 17) rfl m 2 _ rfl rfl S9.out.2.2 (by kernel_rfl) rfl rfl (by simp) ?_
        intro w10 k10 g10 s10
        have hz9 := S9.out.2.2.lt
        have h10 := And.intro (H9.out.1.grown g10 (fun k hk => by cases hk; exact Nat.lt_succ_self _)) (H9.out.2.grown g10 (fun k hk => by cases hk; exact Nat.lt_succ_self _))
        have o10 := o9.grown g10 (fun k hk => by cases hk; exact Nat.lt_succ_self _)
        have c10 : Cr w10 r s' := S9.out.2.1.blk (g10.block r (by omega) (by simp; omega))
        have B10 : Below r w w10 := S9.out.1.grown g10 (by have := S9.out.1.size; omega) (fun k hk => by cases hk; omega)
        refine hK _ _ trivial ?_
        clear hK K
        refine wpAnyH_done (by kernel_rfl) ?_ _
        go_wp2_with fail
        go_end0
        exact HF.out _ _ ⟨B10, .inl ⟨⟨q.a, q.b, q.ns ++ [(p : Int)], q.ts, q.ps⟩, s', by rw [HPD.out, hp]; rfl, rfl, c10, ⟨_, vt, vp, k10, o10, h10.1, h10.2⟩⟩⟩
      · go_wp2_with fail
        have bn7 := below_new w5 (.cells #[.int .i64 (p : Int)] 3)
        have S7 : Hid (Below r w (w5.alloc (.cells #[.int .i64 (p : Int)] 3)) ∧ Cr (w5.alloc (.cells #[.int .i64 (p : Int)] 3)) r s' ∧ Blk (w5.alloc (.cells #[.int .i64 (p : Int)] 3)) m (mtA q.a q.b vn vt vp) 36 ∧ OwnI (w5.alloc (.cells #[.int .i64 (p : Int)] 3)) (m + 1) vn q.ns ∧ OwnT (w5.alloc (.cells #[.int .i64 (p : Int)] 3)) (m + 1) vt q.ts ∧ OwnP (w5.alloc (.cells #[.int .i64 (p : Int)] 3)) (m + 1) vp q.ps) := ⟨S5.out.1.trans (bn7.mono (by have := S5.out.2.2.1.lt; omega)), S5.out.2.1.blk (bn7.block r S5.out.2.1.lt), S5.out.2.2.1.on bn7, S5.out.2.2.2.1.up bn7, S5.out.2.2.2.2.1.up bn7, S5.out.2.2.2.2.2.up bn7⟩
        have CE7 : Hid ((w5.alloc (.cells #[.int .i64 (p : Int)] 3)).cell? ⟨w5.heap.size, 0, none⟩ = some (.int .i64 (p : Int))) := (Blk.new w5 #[.int .i64 (p : Int)] 3).cell 0
        refine hK _ _ trivial ?_
        clear hK K bn7
        generalize w5.heap.size = g7 at *
        generalize w5.alloc (.cells #[.int .i64 (p : Int)] 3) = w7 at *
        refine ak 4 (fun K hK => ?_)
        have d2 := S7.out.2.2.1.cell 2
        simp only [List.getElem?_toArray, List.getElem?_cons_zero, List.getElem?_cons_succ] at d2
        go_wp2_with fail
        refine hK _ _ trivial ?_
        clear hK K d2
        refine ak 10 (fun K hK => ?_)
        have hz9 := S7.out.2.2.1.lt
        refine appI (.tmp 11) (.tmp 16) rfl (m + 1) vn q.ns (p : Int) w7 g7 rfl S7.out.2.2.2.1 rfl CE7.out hl hz9 ?_
        intro v9 w9 o9 g9
        have hrow : ∀ k, vn.ownBlock = some k → m + 1 ≤ k := fun k hk => (World.ownsRow.lt S7.out.2.2.2.1 k hk).1
        have b9 : Below (m + 1) w7 w9 := (Below.refl _ _).grown g9 (by omega) hrow
        have S9 : Hid (Below r w w9 ∧ Cr w9 r s' ∧ Blk w9 m (mtA q.a q.b vn vt vp) 36) := ⟨S7.out.1.trans (b9.mono (by omega)), S7.out.2.1.blk (b9.block r (by omega)), S7.out.2.2.1.below b9 (Nat.lt_succ_self m)⟩
        have H9 : Hid (OwnT w9 (m + 1) vt q.ts ∧ OwnP w9 (m + 1) vp q.ps) := ⟨World.ownsRow.kept S7.out.2.2.2.2.1 g9 (ne_block S7.out.2.2.2.1 S7.out.2.2.2.2.1 (by decide)), World.ownsRow.kept S7.out.2.2.2.2.2 g9 (ne_block S7.out.2.2.2.1 S7.out.2.2.2.2.2 (by decide))⟩
        refine hK _ _ trivial ?_
        clear hK K g9 b9 hz9
        obtain ⟨xa, xn, xc, rfl⟩ := o9.shape3
        refine ak 11 (fun K hK => ?_)
        go_wp2_with fail
        refine hK _ _ trivial ?_
        clear hK K
        refine ak 12 (fun K hK => ?_)
        go_wp2_with fail
        refine hK _ _ trivial ?_
        clear hK K
        refine ak 13 (fun K hK => ?_)
        refine opw_set (.tmp 19) (.tmp 17) rfl m 2 _ rfl rfl S9.out.2.2 (by kernel_rfl) rfl rfl (by simp) ?_
        intro w10 k10 g10 s10
        have hz9 := S9.out.2.2.lt
        have h10 := And.intro (H9.out.1.grown g10 (fun k hk => by cases hk; exact Nat.lt_succ_self _)) (H9.out.2.grown g10 (fun k hk => by cases hk; exact Nat.lt_succ_self _))
        have o10 := o9.grown g10 (fun k hk => by cases hk; exact Nat.lt_succ_self _)
        have c10 : Cr w10 r s' := S9.out.2.1.blk (g10.block r (by omega) (by simp; omega))
        have B10 : Below r w w10 := S9.out.1.grown g10 (by have := S9.out.1.size; omega) (fun k hk => by cases hk; omega)
        refine hK _ _ trivial ?_
        clear hK K
        refine wpAnyH_done (by kernel_rfl) ?_ _
        go_wp2_with fail
        go_end0
        exact HF.out _ _ ⟨B10, .inl ⟨⟨q.a, q.b, q.ns ++ [(p : Int)], q.ts, q.ps⟩, s', by rw [HPD.out, hp]; rfl, rfl, c10, ⟨_, vt, vp, k10, o10, h10.1, h10.2⟩⟩⟩
set_option maxHeartbeats 1000000 in
theorem rpart_t (w : World) (r m : Nat) (s : List UInt8) (q : Dq) (hr : Cr w r s) (hrm : r < m) (hM : Mst w m q) (hs : s.length ≤ 140737488355328) :
    Calls Tryd.prog 63 #[.pointer (some ⟨r, 0, none⟩), .int .u8 84, .pointer (some ⟨m, 0, none⟩)] w fun e w' => RpA w w' r m 84 s q e := by
  obtain ⟨gu, hg⟩ : ∃ gu, gup 11 = gu := ⟨_, rfl⟩
  obtain ⟨vn, vt, vp, kM, oi, ot, op⟩ := hM
  have hmw := kM.lt
  have HPD : Hid (partD 84 s q = (ctab s).map fun x => (⟨q.a, q.b, q.ns, q.ts, x.1⟩, x.2)) := by
    show _ = _
    unfold partD
    rw [if_neg (by decide), if_neg (by decide)]; rfl
  have N := ctable_any w r s hr hr.lt hs
  rw [hg] at N
  have HF : Hid (∀ w' e, (Below r w w' ∧ ((∃ q' s', partD 84 s q = some (q', s') ∧ e = .returned (.tuple #[]) ∧ Cr w' r s' ∧ Mst w' m q') ∨ (partD 84 s q = none ∧ e = .panicked gu))) → RpA w w' r m 84 s q e) := by rw [← hg]; exact fun w' e h => h
  have b1 : ((84 : Int) == 115) = false := rfl
  have b2 : ((84 : Int) == 83) = false := rfl
  have b3 : ((84 : Int) == 84) = true := rfl
  clear hg
  generalize partD 84 s q = PD at *
  generalize ctab s = PC at *
  go_enter Tryd.func63, Tryd.ntmps63
  go_wp2_with (first | (go_at_call 30; refine N.mono ?_; rintro e w1 ⟨hA, ⟨v, L, s', hp, rfl, o1, hc⟩ | ⟨hp, rfl⟩⟩) | (obtain ⟨x1, x2, rfl⟩ := o1.rd.shape; refine wpl_set rfl (.tmp 52) (.tmp 50) rfl m 4 _ rfl rfl ⟨by rw [hA.block m hmw (by omega)]; exact kM.h⟩ (by kernel_rfl) rfl rfl (by simp) ?_))
  · have k1 : Blk w1 m (mtA q.a q.b vn vt vp) 36 := ⟨by rw [hA.block m hmw (by omega)]; exact kM.h⟩
    intro w2 k2 g2 s2
    have hz := k1.lt
    have B1 : Below r w w1 := ⟨hA.os, hA.tape, hA.output, hA.size, fun k hk => hA.block k (by omega) (by omega)⟩
    have B2 : Below r w w2 := B1.grown g2 (by have := B1.size; omega) (fun k hk => by cases hk; omega)
    have c2 : Cr w2 r s' := hc.blk (g2.block r (by omega) (by simp; omega))
    have i2 := (oi.alb hA (by omega)).grown g2 (fun k hk => by cases hk; exact Nat.lt_succ_self _)
    have t2 := (ot.alb hA (by omega)).grown g2 (fun k hk => by cases hk; exact Nat.lt_succ_self _)
    have p2 := (o1.low (show m + 1 ≤ w.heap.size by omega)).grown g2 (fun k hk => by cases hk; exact Nat.lt_succ_self _)
    go_wp2_with fail
    go_end0
    exact HF.out _ _ ⟨B2, .inl ⟨⟨q.a, q.b, q.ns, q.ts, L⟩, s', by rw [HPD.out, hp]; rfl, rfl, c2, ⟨vn, vt, _, k2, i2, t2, p2⟩⟩⟩
  · exact ⟨rfl, HF.out _ _ ⟨⟨hA.os, hA.tape, hA.output, hA.size, fun k hk => hA.block k (by omega) (by omega)⟩, .inr ⟨by rw [HPD.out, hp]; rfl, rfl⟩⟩⟩
theorem rpart_any (w : World) (r m c : Nat) (s : List UInt8) (q : Dq) (hr : Cr w r s) (hrm : r < m) (hM : Mst w m q) (hs : s.length ≤ 140737488355328) (hl : q.ts.length + 1 ≤ 1000000000) (hl2 : q.ns.length + 1 ≤ 1000000000) :
    Calls Tryd.prog 63 #[.pointer (some ⟨r, 0, none⟩), .int .u8 (c : Int), .pointer (some ⟨m, 0, none⟩)] w fun e w' => RpA w w' r m c s q e := by
  by_cases c1 : c = 115
  · subst c1; exact rpart_s w r m s q hr hrm hM hs hl
  by_cases c2 : c = 83
  · subst c2; exact rpart_l w r m s q hr hrm hM hs hl
  by_cases c3 : c = 84
  · subst c3; exact rpart_t w r m s q hr hrm hM hs
  exact rpart_n w r m c s q c1 c2 c3 hr hrm hM hs hl2
end Go.Proofs.YtmaaacaifpgpaaaDoor

namespace Go.Proofs.YtmaaacaifpgpaaaDoor
open Go.RowKit Go.Lib
set_option maxRecDepth 100000
set_option linter.unusedSimpArgs false

def partsD : List UInt8 → List UInt8 → Dq → Option (Dq × List UInt8)
  | [], s, q => some (q, s)
  | c :: f, s, q => (partD c.toNat s q).bind fun x => partsD f x.2 x.1
/-- The method of a payload; none: it is none's. -/
def metD (s : List UInt8) : Option Dq :=
  (cwhole 2 s).bind fun x => (cwhole 2 x.2).bind fun y => if (formL x.1 y.1 mL).2 = true then (partsD (formL x.1 y.1 mL).1 y.2 ⟨x.1, y.1, [], [], []⟩).bind fun z => if z.2 = [] then some z.1 else none else none
theorem cutP_lenD {s t r : List UInt8} {n : Nat} (h : cutP s n = some (t, r)) : r.length ≤ s.length := by
  unfold cutP at h
  split at h
  · injection h with h
    injection h with _ h
    subst h
    rw [List.length_drop]
    omega
  · cases h
theorem cshort_lenD {s t r : List UInt8} (h : cshort s = some (t, r)) : r.length ≤ s.length := by
  unfold cshort at h
  split at h
  · cases h
  · have := cutP_lenD h
    rw [List.length_drop] at this
    omega
theorem clong_lenD {s t r : List UInt8} {m : Nat} (h : clong s m = some (t, r)) : r.length ≤ s.length := by
  unfold clong at h
  split at h
  · cases h
  · split at h
    · cases h
    · have := cutP_lenD h
      rw [List.length_drop] at this
      omega
theorem cwhole_lenD {s r : List UInt8} {k n : Nat} (h : cwhole k s = some (n, r)) : r.length ≤ s.length := by
  unfold cwhole at h
  split at h
  · cases h
  · split at h
    · injection h with h
      injection h with _ h
      subst h
      rw [List.length_drop]
      omega
    · cases h
theorem ctab_lenD {s r : List UInt8} {L : List Pr} (h : ctab s = some (L, r)) : r.length ≤ s.length := by
  unfold ctab at h
  split at h
  · cases h
  · split at h
    · cases h
    · rename_i t r' hc
      have := cutP_lenD hc
      rw [List.length_drop] at this
      cases ht : tabO t with
      | none => rw [ht] at h; cases h
      | some L' =>
        rw [ht] at h
        injection h with h
        injection h with _ h
        subst h
        omega
theorem partD_lenD {c : Nat} {s s' : List UInt8} {q q' : Dq} (h : partD c s q = some (q', s')) : s'.length ≤ s.length ∧ q'.ts.length ≤ q.ts.length + 1 ∧ q'.ns.length ≤ q.ns.length + 1 := by
  unfold partD at h
  split at h
  · cases hc : cshort s with
    | none => rw [hc] at h; cases h
    | some x =>
      rw [hc] at h
      injection h with h
      injection h with h1 h2
      subst h1 h2
      exact ⟨cshort_lenD (t := x.1) (r := x.2) (by rw [hc]), by simp, by simp⟩
  · split at h
    · cases hc : clong s 1024 with
      | none => rw [hc] at h; cases h
      | some x =>
        rw [hc] at h
        injection h with h
        injection h with h1 h2
        subst h1 h2
        exact ⟨clong_lenD (t := x.1) (r := x.2) (by rw [hc]), by simp, by simp⟩
    · split at h
      · cases hc : ctab s with
        | none => rw [hc] at h; cases h
        | some x =>
          rw [hc] at h
          injection h with h
          injection h with h1 h2
          subst h1 h2
          exact ⟨ctab_lenD (L := x.1) (r := x.2) (by rw [hc]), by simp, by simp⟩
      · cases hc : cwhole (wid c) s with
        | none => rw [hc] at h; cases h
        | some x =>
          rw [hc] at h
          injection h with h
          injection h with h1 h2
          subst h1 h2
          exact ⟨cwhole_lenD (n := x.1) (r := x.2) (by rw [hc]), by simp, by simp⟩
theorem partsD_get {f : List UInt8} {s s0 : List UInt8} {q q0 : Dq} {k : Nat} (h : k < f.length) (hq : partsD f s0 q0 = partsD (f.drop k) s q) : partsD f s0 q0 = (partD f[k].toNat s q).bind fun x => partsD (f.drop (k + 1)) x.2 x.1 := by
  rw [hq, List.drop_eq_getElem_cons h, partsD]
abbrev M0 : Array Value := mtA 0 0 (.slice none 0 0) (.slice none 0 0) (.slice none 0 0)
/-- A method of one's own. -/
def MV (w : World) (B : Nat) (v : Value) (q : Dq) : Prop := ∃ vn vt vp, v = .agg (mtA q.a q.b vn vt vp) ∧ OwnI w B vn q.ns ∧ OwnT w B vt q.ts ∧ OwnP w B vp q.ps
theorem ret36 {fn : Func} {p : Tmp} {tmps : Array Value} {W : World} {g : Nat} {cs : Array Value} {R : Ending → World → Prop} (hf : fn.results = #[.cell p 36]) (h : Blk W g cs 36) (hs : cs.size = 5) (hp : tmps.getD p undef = .pointer (some ⟨g, 0, none⟩)) (hR : R (.returned (.agg cs)) W) :
    bodyPost Tryd.prog fn R .ret { tmps := tmps, defers := [] } W :=
  bodyPost_ret (results_cell_row hf tmps W g 36 cs (0, 0) _ hp h.h Tryd.underlying36 rfl (by rw [hs]; kernel_rfl)) rfl hR
theorem alb_below {w w' w0 : World} {r a : Nat} (h : Alb w.heap.size w w' r) (hb : Below a w0 w) (har : a ≤ r) (haw : a ≤ w.heap.size) : Below a w0 w' :=
  hb.trans ⟨h.os, h.tape, h.output, h.size, fun k hk => h.block k (by omega) (by omega)⟩
set_option maxHeartbeats 8000000 in
theorem method_any (w : World) (s : List UInt8) (hv : Mv w) (hs : s.length ≤ 140737488355328) :
    Calls Tryd.prog 37 #[str s] w fun e w' => Below w.heap.size w w' ∧ ((∃ q v, metD s = some q ∧ e = .returned v ∧ MV w' w.heap.size v q) ∨ (metD s = none ∧ e = .panicked (gup 11))) := by
  obtain ⟨gu, hg⟩ : ∃ gu, gup 11 = gu := ⟨_, rfl⟩
  have I := fun w => insist_no w 11
  have F := fun w (hv : Mv w) a b => form_any w a b hv
  have WH := fun (w : World) (r : Nat) (s : List UInt8) (hc : Cr w r s) (hs : s.length ≤ 140737488355328) => cwhole_any w r 2 s hc hc.lt hs (by omega)
  have RP := fun (w : World) (r m c : Nat) (s : List UInt8) (q : Dq) h1 h2 h3 h4 h5 h6 => rpart_any w r m c s q h1 h2 h3 h4 h5 h6
  unfold RpA at RP
  rw [hg] at I WH RP ⊢
  have HG : Hid (gup 11 = gu) := hg
  clear hg
  have HM : Hid (metD s = (cwhole 2 s).bind fun x => (cwhole 2 x.2).bind fun y => if (formL x.1 y.1 mL).2 = true then (partsD (formL x.1 y.1 mL).1 y.2 ⟨x.1, y.1, [], [], []⟩).bind fun z => if z.2 = [] then some z.1 else none else none) := rfl
  have HV : Hid (Mv w) := hv
  have HS : Hid (s.length ≤ 140737488355328) := hs
  clear hv hs
  generalize metD s = MD at *
  have b0 := below_new w (.cells M0 36)
  have k0 := Blk.new w M0 36
  obtain ⟨a, ha⟩ : ∃ a, w.heap.size = a := ⟨_, rfl⟩
  have s0 : (w.alloc (.cells M0 36)).heap.size = a + 1 := by simp [ha]
  rw [ha] at b0 k0 ⊢
  go_enter Tryd.func37, Tryd.ntmps37
  go_upto_region 1 with fail
  generalize w.alloc (.cells M0 36) = w0 at *
  obtain ⟨r, hr⟩ : ∃ r, w0.heap.size = r := ⟨_, rfl⟩
  have har : a < r := by omega
  clear s0
  have kr := Blk.new w0 #[str s] 63
  have b1 := below_new w0 (.cells #[str s] 63)
  rw [hr] at kr b1
  go_upto_region 2 with fail
  generalize w0.alloc (.cells #[str s] 63) = w1 at *
  have cr1 : Cr w1 r s := ⟨kr.cell 0, kr.frozen 0⟩
  have ka1 : Blk w1 a M0 36 := k0.below b1 har
  have B1 : Below a w w1 := b0.trans (b1.mono (by omega))
  have hz1 : r < w1.heap.size := kr.lt
  have W1 := WH w1 r s cr1 HS.out
  clear kr b1 k0 b0 hr cr1
  go_wp2_with fail
  refine W1.mono ?_
  rintro e w2 ⟨hA2, ⟨ca, s2, hp2, hca, rfl, cr2⟩ | ⟨hp2, rfl⟩⟩
  rotate_left
  · exact ⟨rfl, alb_below hA2 B1 (by omega) (by omega), .inr ⟨by rw [HM.out, hp2]; rfl, rfl⟩⟩
  have B2 : Below a w w2 := alb_below hA2 B1 (by omega) (by omega)
  have ka2 : Blk w2 a M0 36 := ⟨by rw [hA2.block a (by omega) (by omega)]; exact ka1.h⟩
  have hz2 : r < w2.heap.size := cr2.lt
  have hs2 : Hid (s2.length ≤ 140737488355328) := Nat.le_trans (cwhole_lenD hp2) HS.out
  have W2 := WH w2 r s2 cr2 hs2.out
  have HM : Hid (MD = (cwhole 2 s2).bind fun y => if (formL ca y.1 mL).2 = true then (partsD (formL ca y.1 mL).1 y.2 ⟨ca, y.1, [], [], []⟩).bind fun z => if z.2 = [] then some z.1 else none else none) := by
    show _ = _
    rw [HM.out, hp2]
    rfl
  clear W1 hA2 ka1 B1 cr2 hp2 HS
  go_wp2_with fail
  refine W2.mono ?_
  rintro e w3 ⟨hA3, ⟨cb, s3, hp3, hcb, rfl, cr3⟩ | ⟨hp3, rfl⟩⟩
  rotate_left
  · exact ⟨rfl, alb_below hA3 B2 (by omega) (by omega), .inr ⟨by rw [HM.out, hp3]; rfl, rfl⟩⟩
  have B3 : Below a w w3 := alb_below hA3 B2 (by omega) (by omega)
  have ka3 : Blk w3 a M0 36 := ⟨by rw [hA3.block a (by omega) (by omega)]; exact ka2.h⟩
  have hz3 : r < w3.heap.size := cr3.lt
  have hs3 : Hid (s3.length ≤ 140737488355328) := Nat.le_trans (cwhole_lenD hp3) hs2.out
  have HM : Hid (MD = if (formL ca cb mL).2 = true then (partsD (formL ca cb mL).1 s3 ⟨ca, cb, [], [], []⟩).bind fun z => if z.2 = [] then some z.1 else none else none) := by
    show _ = _
    rw [HM.out, hp3]
    rfl
  clear W2 hA3 ka2 B2 hp3 hs2 WH
  obtain ⟨m, hm⟩ : ∃ m, w3.heap.size = m := ⟨_, rfl⟩
  have km := Blk.new w3 (mtA ca cb (.slice none 0 0) (.slice none 0 0) (.slice none 0 0)) 36
  have b4 := below_new w3 (.cells (mtA ca cb (.slice none 0 0) (.slice none 0 0) (.slice none 0 0)) 36)
  rw [hm] at km b4
  go_upto_region 3 with fail
  generalize w3.alloc (.cells (mtA ca cb (.slice none 0 0) (.slice none 0 0) (.slice none 0 0)) 36) = w4 at *
  have hrm : r < m := by omega
  have cr4 : Cr w4 r s3 := cr3.blk (b4.block r (by omega))
  have ka4 : Blk w4 a M0 36 := ka3.below b4 (by omega)
  have B4 : Below a w w4 := B3.trans (b4.mono (by omega))
  have M4 : Mv w4 := HV.out.on (by rw [ha]; exact B4)
  have F4 := F w4 M4 ca cb
  have FS := @form_some ca cb
  have d0 := km.cell 0
  have d1 := km.cell 1
  simp only [List.getElem?_toArray, List.getElem?_cons_zero, List.getElem?_cons_succ] at d0 d1
  clear ha hm b4 ka3 B3 cr3 hz3 hz2 M4 F HV
  generalize (formL ca cb mL).1 = f at *
  generalize (formL ca cb mL).2 = ok at *
  go_wp2_with (go_at_call 59; refine F4.mono ?_; rintro e w5 ⟨rfl, b5⟩)
  have km5 := km.on b5
  have cr5 : Cr w5 r s3 := cr4.blk (b5.block r cr4.lt)
  have ka5 := ka4.on b5
  have B5 : Below a w w5 := B4.trans (b5.mono (by have := km.lt; omega))
  clear F4 d0 d1 km cr4 ka4 B4 b5
  cases ok with
  | false =>
    refine (I _).mono ?_
    rintro e w' ⟨rfl, rfl⟩
    exact ⟨rfl, B5, .inr ⟨by rw [HM.out]; rfl, rfl⟩⟩
  | true =>
  obtain ⟨_, _, _, _, f5⟩ := FS (by trivial)
  have HM : Hid (MD = (partsD f s3 ⟨ca, cb, [], [], []⟩).bind fun z => if z.2 = [] then some z.1 else none) := HM.out
  refine (insist_ok _ _).mono ?_
  rintro e w' ⟨rfl, hw'⟩
  rw [hw']
  clear hw' w' FS
  have HQ0 : Hid (Cr w5 r s3 ∧ Mst w5 m ⟨ca, cb, [], [], []⟩ ∧ s3.length ≤ 140737488355328 ∧ (0 : Nat) ≤ 0 ∧ (0 : Nat) ≤ 0 ∧ Blk w5 a M0 36 ∧ Below a w w5) := ⟨cr5, ⟨_, _, _, km5, OwnI.nil _ _, OwnT.nil _ _, World.ownsRow_nil _ _ _ _⟩, hs3.out, Nat.le_refl _, Nat.le_refl _, ka5, B5⟩
  clear cr5 km5 ka5 B5 hs3
  go_wp2_with fail
  go_loopw [25] (fun i wr => ∃ (k : Nat) (q : Dq) (s' : List UInt8), k ≤ f.length ∧ i = .int .i64 (k : Int) ∧ Hid (Cr wr r s' ∧ Mst wr m q ∧ s'.length ≤ 140737488355328 ∧ q.ts.length ≤ k ∧ q.ns.length ≤ k ∧ Blk wr a M0 36 ∧ Below a w wr) ∧ Hid (partsD f s3 ⟨ca, cb, [], [], []⟩ = partsD (f.drop k) s' q)) (fun i _ => f.length - (RowKit.intOf i).toNat)
  case atStart => exact ⟨0, _, s3, Nat.zero_le _, rfl, HQ0, rfl⟩
  case round =>
    clear HQ0
    obtain ⟨k, q, s', hk, rfl, HQ, HB⟩ := hrel
    by_cases hlt : k < f.length
    · have gk := get_str f k
      have hgk : f.getD k 0 = f[k] := by simp [List.getD_eq_getElem?_getD, hlt]
      rw [hgk] at gk
      have hkz : (k : Int) < (f.length : Int) := by omega
      have HE : Hid (partsD f s3 ⟨ca, cb, [], [], []⟩ = (partD f[k].toNat s' q).bind fun x => partsD (f.drop (k + 1)) x.2 x.1) := partsD_get hlt HB.out
      have P := RP wr r m f[k].toNat s' q HQ.out.1 hrm HQ.out.2.1 HQ.out.2.2.1 (by have := HQ.out.2.2.2.1; omega) (by have := HQ.out.2.2.2.2.1; omega)
      clear HB hgk
      generalize f[k] = y at *
      go_wp2_with (go_at_call 63; refine P.mono ?_; rintro e w7 ⟨hb7, ⟨q', s7, hq, rfl, cr7, st7⟩ | ⟨hq, rfl⟩⟩)
      · obtain ⟨l1, l2, l3⟩ := partD_lenD hq
        have HQ7 : Hid (Cr w7 r s7 ∧ Mst w7 m q' ∧ s7.length ≤ 140737488355328 ∧ q'.ts.length ≤ k + 1 ∧ q'.ns.length ≤ k + 1 ∧ Blk w7 a M0 36 ∧ Below a w w7) := ⟨cr7, st7, by have := HQ.out.2.2.1; omega, by have := HQ.out.2.2.2.1; omega, by have := HQ.out.2.2.2.2.1; omega, HQ.out.2.2.2.2.2.1.below hb7 har, HQ.out.2.2.2.2.2.2.trans (hb7.mono (by omega))⟩
        have HB7 : Hid (partsD f s3 ⟨ca, cb, [], [], []⟩ = partsD (f.drop (k + 1)) s7 q') := by show _ = _; rw [HE.out, hq]; rfl
        clear P HE hq st7 cr7 HQ l1 l2 l3
        go_wp2_with fail
        go_roundw
        case rel => exact ⟨k + 1, q', s7, by omega, by go_num, HQ7, HB7⟩
        case measure => simp [RowKit.intOf]; omega
      · exact ⟨rfl, HQ.out.2.2.2.2.2.2.trans (hb7.mono (by omega)), .inr ⟨by rw [HM.out, HE.out, hq]; rfl, rfl⟩⟩
    · obtain rfl : k = f.length := by omega
      have HM : Hid (MD = if s' = [] then some q else none) := by
        show _ = _
        rw [HM.out, HB.out, List.drop_length]
        rfl
      obtain ⟨cr, ⟨vn, vt, vp, km, oi, ot, op⟩, _, _, _, ka, BB⟩ := HQ.out
      obtain ⟨na, nn, nc, rfl⟩ := oi.shape3
      obtain ⟨ta, tn, tc, rfl⟩ := ot.shape3
      obtain ⟨pa, pc, rfl⟩ := op.rd.shape
      have hkz : ¬ (f.length : Int) < (f.length : Int) := by omega
      have c0 := cr.c0
      clear HB HQ RP
      by_cases hz : s' = []
      · have hmd : MD = some q := by rw [HM.out, if_pos hz]
        subst hz
        clear HM
        have c1 := km.cell 0
        have c2 := km.cell 1
        have c3 := km.cell 2
        have c4 := km.cell 3
        have c5 := km.cell 4
        simp only [List.getElem?_toArray, List.getElem?_cons_zero, List.getElem?_cons_succ] at c1 c2 c3 c4 c5
        go_wp2_with (first | (go_at_call 49; refine (insist_ok _ _).mono ?_; rintro e wr ⟨rfl, rfl⟩) | (refine wpl_put rfl (.tmp 2) (.tmp 37) rfl a _ rfl rfl ka (by kernel_rfl) rfl (by kernel_rfl) ?_))
        intro w9 k9 g9 s9
        have hz9 := km.lt
        have B9 : Below a w w9 := BB.grown g9 (by have := BB.size; omega) (fun k hk => by cases hk; omega)
        go_wp2_with fail
        refine ret36 Tryd.results37 k9 rfl rfl ⟨B9, .inl ⟨q, _, hmd, rfl, ⟨_, _, _, rfl, (oi.grown g9 (fun k hk => by cases hk; omega)).low (by omega), (ot.grown g9 (fun k hk => by cases hk; omega)).low (by omega), (op.grown g9 (fun k hk => by cases hk; omega)).low (by omega)⟩⟩⟩
      · have hmd : MD = none := by rw [HM.out, if_neg hz]
        have hzb : (s' == []) = false := by rw [beq_l]; exact decide_eq_false hz
        clear HM hz
        go_wp2_with (go_at_call 49; refine (I _).mono ?_; rintro e w' ⟨rfl, rfl⟩)
        exact ⟨rfl, BB, .inr ⟨hmd, rfl⟩⟩
end Go.Proofs.YtmaaacaifpgpaaaDoor

namespace Go.Proofs.YtmaaacaifpgpaaaDoor
open Go.RowKit Go.Lib
set_option maxRecDepth 100000
set_option linter.unusedSimpArgs false

set_option maxHeartbeats 1000000 in
theorem dec1_any (w : World) (a r q : Nat) (s : List UInt8) (K : Blk w a #[str s] 9) (R : Blk w r M0 36) (E : Blk w q #[.int .i64 0] 26) (hne : q ≠ r) (hv : Mv w) (hs : s.length ≤ 140737488355328) :
    Calls Tryd.prog 36 #[.pointer (some ⟨a, 0, none⟩), .pointer (some ⟨r, 0, none⟩)] w fun e w' => Below r w w' ∧ Blk w' q #[.int .i64 0] 26 ∧ ((∃ d vn vt vp, metD s = some d ∧ e = .returned (.tuple #[]) ∧ Blk w' r (mtA d.a d.b vn vt vp) 36 ∧ OwnI w' w.heap.size vn d.ns ∧ OwnT w' w.heap.size vt d.ts ∧ OwnP w' w.heap.size vp d.ps) ∨ (metD s = none ∧ e = .panicked (gup 11) ∧ Blk w' r M0 36)) := by
  obtain ⟨n, hn⟩ : ∃ n, w.heap.size = n := ⟨_, rfl⟩
  obtain ⟨gu, hg⟩ : ∃ gu, gup 11 = gu := ⟨_, rfl⟩
  have P : Calls Tryd.prog 37 #[str s] w fun e w' => Below w.heap.size w w' ∧ ((∃ d na nn nc ta tn tc pa pn pc, metD s = some d ∧ e = .returned (.agg (mtA d.a d.b (.slice na nn nc) (.slice ta tn tc) (.slice pa pn pc))) ∧ OwnI w' w.heap.size (.slice na nn nc) d.ns ∧ OwnT w' w.heap.size (.slice ta tn tc) d.ts ∧ OwnP w' w.heap.size (.slice pa pn pc) d.ps) ∨ (metD s = none ∧ e = .panicked gu)) := (method_any w s hv hs).mono fun e w' ⟨h1, h2⟩ => by
    refine ⟨h1, ?_⟩
    rcases h2 with ⟨d, v, h2, h3, vn, vt, vp, rfl, h4, h5, h6⟩ | ⟨h2, h3⟩
    · obtain ⟨na, nn, nc, rfl⟩ := h4.shape3
      obtain ⟨ta, tn, tc, rfl⟩ := h5.shape3
      obtain ⟨pa, pc, rfl⟩ := h6.rd.shape
      exact .inl ⟨d, _, _, _, _, _, _, _, _, _, h2, h3, h4, h5, h6⟩
    · exact .inr ⟨h2, by rw [← hg]; exact h3⟩
  have hr := R.lt
  have hq := E.lt
  rw [hn] at P hr hq ⊢
  rw [hg]
  have c0 := K.cell 0
  simp only [List.getElem?_toArray, List.getElem?_cons_zero, List.getElem?_cons_succ] at c0
  clear hv hs K
  generalize metD s = MD at *
  go_enter Tryd.func36, Tryd.ntmps36
  go_wp2_with (first | (go_at_call 37; refine P.mono ?_; rintro e w1 ⟨hb, ⟨d, na, nn, nc, ta, tn, tc, pa, pn, pc, hx, rfl, o1, o2, o3⟩ | ⟨hx, rfl⟩⟩) | (refine wpl_put rfl (.tmp 1) (.tmp 3) rfl r _ rfl rfl (R.below hb hr) (by kernel_rfl) rfl (by kernel_rfl) ?_))
  · have R1 := R.below hb hr
    have E1 := E.below hb hq
    have HX : Hid (MD = some d) := hx
    clear hx
    intro w2 R2 g2 s2
    go_wp2_with fail
    go_end0
    exact ⟨(hb.mono (Nat.le_of_lt hr)).grown g2 (Nat.le_of_lt R1.lt) (fun k hk => by cases hk; exact Nat.le_refl _), E1.grown g2 (by simpa using hne), .inl ⟨d, _, _, _, HX.out, rfl, R2, o1.grown g2 (fun k hk => by cases hk; exact hr), o2.grown g2 (fun k hk => by cases hk; exact hr), o3.grown g2 (fun k hk => by cases hk; exact hr)⟩⟩
  · exact ⟨rfl, hb.mono (Nat.le_of_lt hr), E.below hb hq, .inr ⟨hx, rfl, R.below hb hr⟩⟩
/-- What Decode answers. -/
def DcP (w' : World) (B : Nat) (P : Option Dq) (e : Ending) : Prop :=
  (∃ d vn vt vp, P = some d ∧ e = .returned (.tuple #[.agg (mtA d.a d.b vn vt vp), .int .i64 0]) ∧ OwnI w' B vn d.ns ∧ OwnT w' B vt d.ts ∧ OwnP w' B vp d.ps) ∨ (P = none ∧ e = .returned (.tuple #[.agg M0, .int .i64 11]))
theorem results36 {fn : Func} (hf : fn.results = #[.cell 2 36, .tmp 3]) {tmps : Array Value} {W : World} {g : Nat} {a b c d x : Value} {R : Ending → World → Prop} {n : Value}
    (hk : Blk W g #[a, b, c, d, x] 36) (hp : tmps.getD 2 undef = .pointer (some ⟨g, 0, none⟩)) (hn : tmps.getD 3 undef = n) (hR : R (.returned (.tuple #[.agg #[a, b, c, d, x], n])) W) :
    bodyPost Tryd.prog fn R .ret { tmps := tmps, defers := [] } W := by
  refine bodyPost_ret (v := .tuple #[.agg #[a, b, c, d, x], n]) ?_ rfl hR
  have d0 := hk.cell 0
  have d1 := hk.cell 1
  have d2 := hk.cell 2
  have d3 := hk.cell 3
  have d4 := hk.cell 4
  simp only [List.getElem?_toArray, List.getElem?_cons_zero, List.getElem?_cons_succ] at d0 d1 d2 d3 d4
  simp only [Array.getD_eq_getD_getElem?] at hp hn
  simp [results, hf, hp, hn, go_sem, d0, d1, d2, d3, d4]
set_option maxHeartbeats 2000000 in
theorem decode_any (w : World) (s : List UInt8) (hv : Mv w) (hs : s.length ≤ 140737488355328) :
    Calls Tryd.prog 18 #[str s] w fun e w' => DcP w' w.heap.size (metD s) e ∧ Below w.heap.size w w' := by
  obtain ⟨a, ha⟩ : ∃ a, w.heap.size = a := ⟨_, rfl⟩
  obtain ⟨w3, hw3⟩ : ∃ w3, ((w.alloc (Obj.cells #[str s] 9)).alloc (Obj.cells M0 36)) = w3 := ⟨_, rfl⟩
  have hb3 : Below a w w3 := by
    rw [← hw3, ← ha]
    exact (below_new w _).trans ((below_new _ _).mono (by simp))
  have hs3 : w3.heap.size = a + 2 := by rw [← hw3]; simp; omega
  have K3 : Blk w3 a #[str s] 9 := by rw [← hw3, ← ha]; exact (Blk.new w _ _).alloc _
  have R3 : Blk w3 (a + 1) M0 36 := by
    have := Blk.new (w.alloc (Obj.cells #[str s] 9)) M0 36
    rw [World.size_alloc, ha, hw3] at this
    exact this
  have hb4 := below_new w3 (.cells #[.int .i64 0] 26)
  have b04 : Below a w (w3.alloc (.cells #[.int .i64 0] 26)) := hb3.trans (hb4.mono (by omega))
  have E4 : Blk (w3.alloc (.cells #[.int .i64 0] 26)) (a + 2) #[.int .i64 0] 26 := by
    have := Blk.new w3 #[Value.int .i64 0] 26
    rw [hs3] at this
    exact this
  have T := dec1_any (w3.alloc (.cells #[.int .i64 0] 26)) a (a + 1) (a + 2) s (K3.alloc _) (R3.alloc _) E4 (by omega) (hv.on (by rw [ha]; exact b04)) hs
  generalize metD s = PP at *
  have G := guarded_any 36 (enters_of Tryd.func36 (by kernel_rfl) rfl) #[.pointer (some ⟨a, 0, none⟩), .pointer (some ⟨a + 1, 0, none⟩)] w3
    (fun w2 => Below a w w2 ∧ ∃ d vn vt vp, PP = some d ∧ Blk w2 (a + 1) (mtA d.a d.b vn vt vp) 36 ∧ Blk w2 (a + 2) #[.int .i64 0] 26 ∧ OwnI w2 (a + 3) vn d.ns ∧ OwnT w2 (a + 3) vt d.ts ∧ OwnP w2 (a + 3) vp d.ps)
    (fun n w2 => n = 11 ∧ PP = none ∧ Below a w w2 ∧ Blk w2 (a + 1) M0 36 ∧ Blk w2 (a + 2) #[.int .i64 0] 26) (T.mono fun e w2 ⟨h1, h2, h3⟩ => ⟨by
      rw [hs3]
      exact ⟨h2.cell 0, h2.frozen 0⟩, by
      rcases h3 with ⟨d, vn, vt, vp, hx, he, hR, q1, q2, q3⟩ | ⟨hx, he, hR⟩
      · exact .inl ⟨he, b04.trans (h1.mono (by omega)), d, vn, vt, vp, hx, hR, h2, q1.low (by simp; omega), q2.low (by simp; omega), q3.low (by simp; omega)⟩
      · exact .inr ⟨11, he, rfl, hx, b04.trans (h1.mono (by omega)), hR, h2⟩⟩)
  have G2 : Calls Tryd.prog 28 #[.func (.func 36) #[] #[.pointer (some ⟨a, 0, none⟩), .pointer (some ⟨a + 1, 0, none⟩)]] w3 fun e w' => Below a w w' ∧ ((∃ d na nn nc ta tn tc pa pn pc, PP = some d ∧ e = .returned (.int .i64 0) ∧ Blk w' (a + 1) (mtA d.a d.b (.slice na nn nc) (.slice ta tn tc) (.slice pa pn pc)) 36 ∧ OwnI w' (a + 3) (.slice na nn nc) d.ns ∧ OwnT w' (a + 3) (.slice ta tn tc) d.ts ∧ OwnP w' (a + 3) (.slice pa pn pc) d.ps) ∨ (PP = none ∧ e = .returned (.int .i64 11) ∧ Blk w' (a + 1) M0 36)) := by
    refine G.mono ?_
    rintro e w' (⟨rfl, w2, ⟨hbA, d, vn, vt, vp, hx, h2, h4, q1, q2, q3⟩, rfl⟩ | ⟨n, rfl, w2, ⟨rfl, hx, hbA, h2, h4⟩, rfl⟩)
    · rw [hs3]
      have hg : w2.grownBy (w2.setCell ⟨a + 2, 0, none⟩ (.int .i64 0)) (some (a + 2)) := ⟨rfl, rfl, rfl, by simp, fun k hk hne => Below.heap_setCell w2 ⟨a + 2, 0, none⟩ _ k (by intro e; exact hne (by simp [e]))⟩
      obtain ⟨na, nn, nc, rfl⟩ := q1.shape3
      obtain ⟨ta, tn, tc, rfl⟩ := q2.shape3
      obtain ⟨pa, pc, rfl⟩ := q3.rd.shape
      exact ⟨hbA.grown hg (by have := h2.lt; omega) (fun k hk => by cases hk; omega), .inl ⟨d, _, _, _, _, _, _, _, _, _, hx, rfl, h2.grown hg (by simp), q1.grown hg (fun k hk => by cases hk; omega), q2.grown hg (fun k hk => by cases hk; omega), q3.grown hg (fun k hk => by cases hk; omega)⟩⟩
    · rw [hs3]
      have hg : w2.grownBy (w2.setCell ⟨a + 2, 0, none⟩ (.int .i64 11)) (some (a + 2)) := ⟨rfl, rfl, rfl, by simp, fun k hk hne => Below.heap_setCell w2 ⟨a + 2, 0, none⟩ _ k (by intro e; exact hne (by simp [e]))⟩
      exact ⟨hbA.grown hg (by have := h2.lt; omega) (fun k hk => by cases hk; omega), .inr ⟨hx, rfl, h2.grown hg (by simp)⟩⟩
  clear G T hb4 hb3 K3 R3 b04 E4 hv hs
  rw [ha]
  unfold DcP
  go_enter Tryd.func18, Tryd.ntmps18
  go_wp2_with fail
  refine G2.mono ?_
  rintro e W ⟨hB, ⟨d, na, nn, nc, ta, tn, tc, pa, pn, pc, hx, rfl, kR, q1, q2, q3⟩ | ⟨hx, rfl, kR⟩⟩
  · clear G2 hw3
    have k0 := kR.cell 0
    have k1 := kR.cell 1
    have k2 := kR.cell 2
    have k3 := kR.cell 3
    have k4 := kR.cell 4
    simp only [List.getElem?_toArray, List.getElem?_cons_zero, List.getElem?_cons_succ] at k0 k1 k2 k3 k4
    go_wp2_with (refine wpl_put rfl (.tmp 2) (.tmp 6) rfl (a + 1) _ rfl rfl kR (by kernel_rfl) rfl (by kernel_rfl) ?_)
    intro W2 kW g2 s2
    have hB2 : Below a w W2 := hB.grown g2 (by have := kR.lt; omega) (fun k hk => by cases hk; omega)
    go_wp2_with fail
    refine results36 Tryd.results18 kW rfl rfl ⟨.inl ⟨d, _, _, _, hx, rfl, (q1.grown g2 (fun k hk => by cases hk; omega)).low (by omega), (q2.grown g2 (fun k hk => by cases hk; omega)).low (by omega), (q3.grown g2 (fun k hk => by cases hk; omega)).low (by omega)⟩, hB2⟩
  · clear G2 hw3
    have k0 := kR.cell 0
    have k1 := kR.cell 1
    have k2 := kR.cell 2
    have k3 := kR.cell 3
    have k4 := kR.cell 4
    simp only [List.getElem?_toArray, List.getElem?_cons_zero, List.getElem?_cons_succ] at k0 k1 k2 k3 k4
    go_wp2_with (refine wpl_put rfl (.tmp 2) (.tmp 6) rfl (a + 1) _ rfl rfl kR (by kernel_rfl) rfl (by kernel_rfl) ?_)
    intro W2 kW g2 s2
    have hB2 : Below a w W2 := hB.grown g2 (by have := kR.lt; omega) (fun k hk => by cases hk; omega)
    go_wp2_with fail
    refine results36 Tryd.results18 kW rfl rfl ⟨.inr ⟨hx, rfl⟩, hB2⟩
end Go.Proofs.YtmaaacaifpgpaaaDoor

namespace Go.Proofs.YtmaaacaifpgpaaaDoor
open Go.RowKit Go.Lib
set_option maxRecDepth 100000
set_option linter.unusedSimpArgs false

theorem be_take (k n : Nat) (r : List UInt8) : (beN k n ++ r).take k = beN k n := by
  rw [List.take_append_of_le_length (by rw [beN_len]; omega)]
  exact List.take_of_length_le (by rw [beN_len]; omega)
theorem be_drop (k n : Nat) (r : List UInt8) : (beN k n ++ r).drop k = r := by
  rw [List.drop_append_of_le_length (by rw [beN_len]; omega), List.drop_of_length_le (by rw [beN_len]; omega)]
  rfl
theorem cutP_put (t r : List UInt8) : cutP (t ++ r) t.length = some (t, r) := by
  unfold cutP
  rw [if_pos (by rw [List.length_append]; omega), List.take_left, List.drop_left]
theorem cshort_put (t r : List UInt8) (h : t.length ≤ 255) : cshort (shortL t ++ r) = some (t, r) := by
  unfold cshort shortL
  rw [List.append_assoc, if_neg (by rw [List.length_append, beN_len]; omega), be_take, be_drop, numL_be 1 t.length (by omega)]
  exact cutP_put t r
theorem clong_put (t r : List UInt8) (h : t.length ≤ 1024) : clong (longL t ++ r) 1024 = some (t, r) := by
  unfold clong longL
  rw [List.append_assoc, if_neg (by rw [List.length_append, beN_len]; omega), be_take, be_drop, numL_be 4 t.length (by omega), if_neg (by omega)]
  exact cutP_put t r
theorem cwhole_put (k n : Nat) (r : List UInt8) (h : n < 256 ^ k) (h2 : n ≤ 9223372036854775807) : cwhole k (beN k n ++ r) = some (n, r) := by
  unfold cwhole
  rw [if_neg (by rw [List.length_append, beN_len]; omega), be_take, be_drop, numL_be k n h, if_pos h2]
theorem part_back {c : Nat} {q e : Wq} (h : partP c q = some e) (hn : ∀ x ∈ q.ns, x < 9223372036854775808) (np : ∀ r ∈ q.ps, Nums r) :
    ∃ z n1 t1, e.out = q.out ++ z ∧ q.ns = n1 ++ e.ns ∧ q.ts = t1 ++ e.ts ∧ (c ≠ 84 → e.ps = q.ps) ∧ ((∀ r ∈ e.ps, Nums r)) ∧ ∀ more d, partD c (z ++ more) d = some (⟨d.a, d.b, d.ns ++ n1, d.ts ++ t1, if c = 84 then q.ps else d.ps⟩, more) := by
  obtain ⟨o, ns, ts, ps⟩ := q
  dsimp only at hn np ⊢
  unfold partP at h
  dsimp only at h
  by_cases k1 : c = 115
  · rw [if_pos k1] at h
    cases ts with
    | nil => cases h
    | cons s ts =>
      dsimp only at h
      split at h
      · rename_i hs
        injection h with h
        subst h k1
        refine ⟨shortL s, [], [s], rfl, rfl, rfl, fun _ => rfl, np, fun more d => ?_⟩
        unfold partD
        rw [if_pos rfl, cshort_put s more hs, if_neg (by decide), List.append_nil]
        rfl
      · cases h
  rw [if_neg k1] at h
  by_cases k2 : c = 83
  · rw [if_pos k2] at h
    cases ts with
    | nil => cases h
    | cons s ts =>
      dsimp only at h
      split at h
      · rename_i hs
        injection h with h
        subst h k2
        refine ⟨longL s, [], [s], rfl, rfl, rfl, fun _ => rfl, np, fun more d => ?_⟩
        unfold partD
        rw [if_neg (by decide), if_pos rfl, clong_put s more hs, if_neg (by decide), List.append_nil]
        rfl
      · cases h
  rw [if_neg k2] at h
  by_cases k3 : c = 84
  · rw [if_pos k3] at h
    split at h
    · rename_i hs
      injection h with h
      subst h k3
      refine ⟨tabL ps, [], [], rfl, rfl, rfl, fun h => absurd rfl h, fun r hr => absurd hr (by simp), fun more d => ?_⟩
      unfold partD
      rw [if_neg (by decide), if_neg (by decide), if_pos rfl, ctab_put more hs np, if_pos rfl, List.append_nil, List.append_nil]
      rfl
    · cases h
  rw [if_neg k3] at h
  cases ns with
  | nil => cases h
  | cons n ns =>
    dsimp only at h
    split at h
    · rename_i hs
      injection h with h
      subst h
      obtain ⟨m1, m2⟩ := fit_nat hs
      refine ⟨beN (wid c) n.toNat, [n], [], rfl, rfl, rfl, fun _ => rfl, np, fun more d => ?_⟩
      unfold partD
      have h9 := hn n (by simp)
      rw [if_neg k1, if_neg k2, if_neg k3, cwhole_put (wid c) n.toNat more m2 (by omega), if_neg k3, List.append_nil]
      show some ((⟨d.a, d.b, d.ns ++ [(n.toNat : Int)], d.ts, d.ps⟩ : Dq), more) = _
      rw [← m1]
    · cases h
theorem parts_back : ∀ (f : List UInt8) {q e : Wq}, partsP f q = some e → f.count 84 ≤ 1 → (∀ x ∈ q.ns, x < 9223372036854775808) → (∀ r ∈ q.ps, Nums r) →
    ∃ z n1 t1, e.out = q.out ++ z ∧ q.ns = n1 ++ e.ns ∧ q.ts = t1 ++ e.ts ∧ ((84 : UInt8) ∉ f → e.ps = q.ps) ∧ ∀ more d, partsD f (z ++ more) d = some (⟨d.a, d.b, d.ns ++ n1, d.ts ++ t1, if (84 : UInt8) ∈ f then q.ps else d.ps⟩, more)
  | [], q, e, h, _, _, _ => by
    injection h with h
    subst h
    exact ⟨[], [], [], by simp, rfl, rfl, fun _ => rfl, fun more d => by simp [partsD]⟩
  | c :: f, q, e, h, hc, hn, np => by
    unfold partsP at h
    cases hp : partP c.toNat q with
    | none => rw [hp] at h; cases h
    | some q1 =>
      rw [hp] at h
      simp only [Option.bind_some] at h
      obtain ⟨z1, n1, t1, a1, a2, a3, a4, a5, a6⟩ := part_back hp hn np
      have hc2 : f.count 84 ≤ 1 := by
        have := List.count_le_count_cons (a := (84 : UInt8)) (b := c) (l := f)
        omega
      obtain ⟨z2, n2, t2, b1, b2, b3, b4, b5⟩ := parts_back f h hc2 (fun x hx => hn x (by rw [a2]; exact List.mem_append_right _ hx)) a5
      refine ⟨z1 ++ z2, n1 ++ n2, t1 ++ t2, by rw [b1, a1, List.append_assoc], by rw [a2, b2, List.append_assoc], by rw [a3, b3, List.append_assoc], fun hm => ?_, fun more d => ?_⟩
      · simp only [List.mem_cons, not_or] at hm
        rw [b4 hm.2, a4 (fun e => hm.1 (by rw [← UInt8.toNat_inj]; exact e.symm))]
      · unfold partsD
        rw [List.append_assoc, a6]
        simp only [Option.bind_some]
        rw [b5]
        by_cases k : c = 84
        · subst k
          have hnot : (84 : UInt8) ∉ f := fun hm => by
            have h1 := List.count_pos_iff.2 hm
            rw [List.count_cons_self] at hc
            omega
          have e84 : (84 : UInt8).toNat = 84 := rfl
          rw [if_pos e84, if_neg hnot, if_pos (List.mem_cons_self ..)]
          simp only [List.append_assoc]
        · have hk : ¬ c.toNat = 84 := fun e => k (by rw [← UInt8.toNat_inj]; exact e)
          rw [if_neg hk, a4 hk]
          have hiff : ((84 : UInt8) ∈ c :: f) ↔ (84 : UInt8) ∈ f := by
            simp only [List.mem_cons]
            exact ⟨fun h => h.elim (fun e => absurd e.symm k) id, .inr⟩
          by_cases hm : (84 : UInt8) ∈ f
          · rw [if_pos hm, if_pos (hiff.2 hm)]
            simp only [List.append_assoc]
          · rw [if_neg hm, if_neg (fun h => hm (hiff.1 h))]
            simp only [List.append_assoc]
theorem form_one_aux (a b : Int) : ∀ l : List (Nat × Nat × List UInt8), (l.all fun x => decide (x.2.2.count 84 ≤ 1)) = true → (formL a b l).1.count 84 ≤ 1
  | [], _ => by simp [formL]
  | x :: l, hl => by
    simp only [List.all_cons, Bool.and_eq_true, decide_eq_true_eq] at hl
    unfold formL
    split
    · exact hl.1
    · exact form_one_aux a b l hl.2
theorem form_one (a b : Int) : (formL a b mL).1.count 84 ≤ 1 := form_one_aux a b mL (by decide)
/-- What is written is read. -/
theorem metD_back {a b : Int} {ns : List Int} {ts : List (List UInt8)} {ps : List Pr} {x : List UInt8} (h : payP a b ns ts ps = some x) (hn : ∀ y ∈ ns, y < 9223372036854775808) (np : ∀ r ∈ ps, Nums r) (more : List UInt8) :
    metD (x ++ more) = if more = [] then some ⟨a, b, ns, ts, ps⟩ else none := by
  have hok : (formL a b mL).2 = true := by
    unfold payP at h
    split at h
    · assumption
    · cases h
  obtain ⟨⟨f1, f2, f3, f4⟩, q, hq, q1, q2, q3, hx⟩ := payP_some h
  obtain ⟨z, n1, t1, b1, b2, b3, b4, b5⟩ := parts_back _ hq (form_one a b) hn np
  dsimp only at b1 b2 b3 b4 b5
  have hxz : x = beN 2 a.toNat ++ (beN 2 b.toNat ++ z) := by rw [← hx, b1, List.append_assoc]
  unfold metD
  rw [hxz, List.append_assoc, cwhole_put 2 a.toNat _ (by omega) (by omega)]
  simp only [Option.bind_some]
  rw [List.append_assoc, cwhole_put 2 b.toNat _ (by omega) (by omega)]
  simp only [Option.bind_some]
  have ea : ((a.toNat : Nat) : Int) = a := by omega
  have eb : ((b.toNat : Nat) : Int) = b := by omega
  rw [ea, eb, if_pos hok, b5]
  simp only [Option.bind_some, List.nil_append]
  rw [q1, List.append_nil] at b2
  rw [q2, List.append_nil] at b3
  have hp : (if (84 : UInt8) ∈ (formL a b mL).1 then ps else []) = ps := by
    by_cases hm : (84 : UInt8) ∈ (formL a b mL).1
    · rw [if_pos hm]
    · rw [if_neg hm, ← b4 hm, q3]
  rw [hp, ← b2, ← b3]
theorem ctab_part {ps : List Pr} (hv : validL ps = true) (hn : ∀ q ∈ ps, Nums q) {n : Nat} (h : n < (tabL ps).length) : ctab ((tabL ps).take n) = none := by
  have hfl := flat_small hv hn
  unfold ctab
  by_cases h4 : n < 4
  · rw [if_pos (by rw [List.length_take]; omega)]
  · rw [if_neg (by rw [List.length_take]; omega)]
    have e1 : ((tabL ps).take n).take 4 = beN 4 (flatT ps).length := by
      rw [List.take_take, Nat.min_eq_left (by omega)]
      exact be_take 4 _ _
    have e2 : (((tabL ps).take n).drop 4).length < (flatT ps).length := by
      rw [List.length_drop, List.length_take]
      have : (tabL ps).length = 4 + (flatT ps).length := by simp [tabL, longL, beN_len]
      omega
    rw [e1, numL_be 4 _ (by omega)]
    unfold cutP
    rw [if_neg (by omega)]
end Go.Proofs.YtmaaacaifpgpaaaDoor

namespace Go.Proofs.YtmaaacaifpgpaaaDoor
open Go.RowKit Go.Lib
set_option maxRecDepth 100000
set_option linter.unusedSimpArgs false

theorem app_str (s t : List UInt8) : (⟨s.toArray⟩ : ByteArray) ++ ⟨t.toArray⟩ = ⟨(s ++ t).toArray⟩ := by
  apply ByteArray.ext
  simp
theorem rdb_piece {w : World} {g o n c : Nat} {l : List UInt8} (h : RdB w (.slice (some ⟨g, o, none⟩) n c) l) (i j c' : Nat) (hij : i ≤ j) (hj : j ≤ n) (hc : j - i ≤ c') : RdB w (.slice (some ⟨g, o + i, none⟩) (j - i) c') ((l.drop i).take (j - i)) := by
  rcases h with ⟨h1, rfl⟩ | ⟨b, o', c2, h1, h2, h3⟩
  · cases h1
  · injection h1 with h4 h5 h6
    injection h4 with h4
    injection h4 with h7 h8
    subst h5 h6 h7 h8
    have hl : ((l.drop i).take (j - i)).length = j - i := by rw [List.length_take, List.length_drop]; omega
    refine .inr ⟨g, o + i, c', by rw [hl], by omega, fun k hk => ?_⟩
    rw [hl] at hk
    have := h3 (i + k) (by omega)
    rw [Nat.add_assoc, this]
    simp [List.getD_eq_getElem?_getD, List.getElem?_take, List.getElem?_drop, hk]
theorem partsP_ok : ∀ (f : List UInt8) {q e : Wq} {m : Nat}, partsP f q = some e → Wok m q → Wok (m + 6000 * f.length) e
  | [], q, e, m, h, hk => by injection h with h; subst h; exact ⟨by have := hk.l; omega, hk.n, hk.p⟩
  | c :: f, q, e, m, h, hk => by
    unfold partsP at h
    cases hp : partP c.toNat q with
    | none => rw [hp] at h; cases h
    | some q' =>
      rw [hp] at h
      have := partsP_ok f h (partP_ok hp hk)
      rw [show m + 6000 * (c :: f).length = m + 6000 + 6000 * f.length by simp; omega]
      exact this
theorem payP_len {a b : Int} {ns : List Int} {ts : List (List UInt8)} {ps : List Pr} {x : List UInt8} (h : payP a b ns ts ps = some x) (hn : ∀ y ∈ ns, y < 9223372036854775808) (hp : ∀ y ∈ ps, y.val.real < 2 ^ 64) : x.length ≤ 40004 := by
  have hok : (formL a b mL).2 = true := by
    unfold payP at h
    split at h
    · assumption
    · cases h
  obtain ⟨_, _, _, _, f5⟩ := form_some hok
  obtain ⟨_, q, hq, _, _, _, hx⟩ := payP_some h
  have := (partsP_ok _ hq (m := 4) ⟨by simp [beN_len], hn, hp⟩).l
  rw [hx] at this
  omega
theorem rdV_of {w : World} {v : Value} {l : List Pr} (h : RdP w v l) : RdV w w.heap.size v l := by
  rcases h with h | ⟨b, o, c, e, hc, hx⟩
  · exact .inl h
  · by_cases h0 : l = []
    · subst h0
      exact .inl ⟨⟨_, _, e⟩, rfl⟩
    · exact .inr ⟨b, o, c, e, hc, World.block_lt_of_cell? w _ (hx 0 (List.length_pos_iff.2 h0)).1, hx⟩
theorem rd_byte2 {w : World} {a : Option Addr} {n c : Nat} {l : List UInt8} (h : RdB w (.slice a n c) l) (h0 : 0 < l.length) : ∃ g o, a = some ⟨g, o, none⟩ ∧ n ≤ c ∧ n = l.length ∧ ∀ i, i < l.length → w.cell? ⟨g, o + i, none⟩ = some (.int .u8 ((l.getD i 0).toNat : Int)) := by
  rcases h with ⟨h1, rfl⟩ | ⟨b, o, c', h1, hc', hc⟩
  · simp at h0
  · injection h1 with h2 h3 h4
    subst h2 h3 h4
    exact ⟨b, o, rfl, hc', rfl, hc⟩
theorem RdM.rdp {w : World} {b : Nat} {vn vt vp : Value} {ns : List Int} {ts : List (List UInt8)} {ps : List Pr} (h : RdM w b vn vt vp ns ts ps) : RdP w vp ps := h.p.rd
set_option maxHeartbeats 16000000 in
theorem back_law (w : World) (va : Value) (ps : List Pr) (ca cb : Int) (vn vt vp : Value) (ns : List Int) (ts : List (List UInt8)) (qs : List Pr) (s : List UInt8) (hv : Mv w) (hr : RdP w va ps) (hf : ∀ q ∈ ps, Fits q) (h63 : ps.length ≤ 9223372036854775806) (hnp : ∀ q ∈ ps, Nums q) (h : RdM w w.heap.size vn vt vp ns ts qs) (n1 : ∀ r ∈ qs, Nums r) :
    Calls Tryd.prog 4 #[va, .agg (mtA ca cb vn vt vp), str s] w fun e w' => e = .returned (.bool true) ∧ Below w.heap.size w w' := by
  obtain ⟨na, nc, e1⟩ := h.n.shape
  obtain ⟨ta, tc, e2⟩ := h.t.shape
  obtain ⟨pa, pc, e3⟩ := h.p.shape
  obtain ⟨aa, ac, e4⟩ := hr.shape
  subst e1 e2 e3 e4
  have b1 := below_new w (.cells (mtA ca cb (.slice na ns.length nc) (.slice ta ts.length tc) (.slice pa qs.length pc)) 36)
  have k1 := Blk.new w (mtA ca cb (.slice na ns.length nc) (.slice ta ts.length tc) (.slice pa qs.length pc)) 36
  generalize hw1 : w.alloc (.cells (mtA ca cb (.slice na ns.length nc) (.slice ta ts.length tc) (.slice pa qs.length pc)) 36) = w1 at *
  have W := wakes_any w1 (hv.on b1)
  go_enter Tryd.func4, Tryd.ntmps4
  go_wp2_with fail
  refine W.mono ?_
  rintro e w2 ⟨rfl, b2⟩
  have B2 := b1.trans (b2.mono b1.size)
  have k2 := k1.on b2
  have L1 := alllong_any w2 _ ps (hr.on B2) h63
  clear W b2 b1 k1 hw1
  go_wp2_with fail
  refine L1.mono ?_
  rintro e w3 ⟨⟨r1, rfl⟩, b3⟩
  have B3 := B2.trans (b3.mono B2.size)
  have k3 := k2.on b3
  have m3 : RdM w3 w3.heap.size _ _ _ ns ts qs := (h.on B3).up B3.size
  have H1 := heavy_any w3 ca cb _ _ _ ns ts qs m3
  clear L1 b3 k2 B2
  have c0 := k3.cell 0
  have c1 := k3.cell 1
  have c2 := k3.cell 2
  have c3 := k3.cell 3
  have c4 := k3.cell 4
  simp only [List.getElem?_toArray, List.getElem?_cons_zero, List.getElem?_cons_succ] at c0 c1 c2 c3 c4
  cases r1 with
  | true =>
    go_wp2_with fail
    go_ret
    exact ⟨rfl, B3⟩
  | false =>
  go_wp2_with fail
  refine H1.mono ?_
  rintro e w4 ⟨⟨r2, rfl⟩, b4⟩
  have B4 := B3.trans (b4.mono B3.size)
  have k4 := k3.on b4
  clear H1 m3 b4 k3 B3 c0 c1 c2 c3 c4
  cases r2 with
  | true =>
    go_wp2_with fail
    go_ret
    exact ⟨rfl, B4⟩
  | false =>
  by_cases hs1 : 4096 < s.length
  · have z4 : decide ((4096 : Int) < (s.length : Int)) = true := decide_eq_true (by omega)
    go_wp2_with fail
    go_ret
    exact ⟨rfl, B4⟩
  have z4 : decide ((4096 : Int) < (s.length : Int)) = false := decide_eq_false (by omega)
  have hs2 : s.length ≤ 4096 := by omega
  clear hs1
  have b5 := below_new w4 (.cells #[.int .u8 120] 5 (1, 2))
  have B5 := B4.trans (b5.mono B4.size)
  have k45 := k4.on b5
  have rx : RdB (w4.alloc (.cells #[.int .u8 120] 5 (1, 2))) (.slice (some ⟨w4.heap.size, 0, none⟩) 1 1) [120] := .inr ⟨w4.heap.size, 0, 1, rfl, Nat.le_refl _, fun i hi => by
    have : i = 0 := by simpa using hi
    subst this
    exact cell_of_row _ w4.heap.size 0 #[.int .u8 120] 5 (1, 2) (heap_alloc_new w4 _)⟩
  have P := put_any (w4.alloc (.cells #[.int .u8 120] 5 (1, 2))) _ _ [120] ps (.inl rx) (by simp) (hr.on B5) hf
  have kc := fun (w : World) (C : Array Value) (n c : Nat) => Lib.run_convert_bytes_const (P := Tryd.prog) w 23 5 C n c Tryd.underlying23 Tryd.underlying5
  clear k4 B4 b5 rx
  go_wp2_with fail
  refine P.mono ?_
  rintro e w5 ⟨v5, rfl, o5, b5⟩
  have B6 := B5.trans (b5.mono B5.size)
  have k5 := k45.on b5
  have V := valid7 w5 _ ps (hr.on B6)
  have hP : Hid ((validL ps = true → putE ps = 0 ∧ putL [120] ps = [120] ++ tabL ps) ∧ (validL ps = false → putE ps = 36)) := ⟨fun h => by unfold putE putL; rw [if_pos h, if_pos h]; exact ⟨rfl, rfl⟩, fun h => by unfold putE; rw [if_neg (by rw [h]; decide)]⟩
  have rd5 := o5.rd
  obtain ⟨a5, c5, rfl⟩ := o5.shapeL
  clear P k45 B5 o5 b5 kc
  generalize putE ps = pe at *
  generalize putL [120] ps = pl at *
  have HCT : Hid (validL ps = true → (∀ more, ctab (tabL ps ++ more) = some (ps, more)) ∧ (∀ n, n < (tabL ps).length → ctab ((tabL ps).take n) = none) ∧ 4 ≤ (tabL ps).length ∧ (tabL ps).length ≤ 6000) := fun h => ⟨fun more => ctab_put more h hnp, fun n hn => ctab_part h hnp hn, by simp [tabL, longL, beN_len], by have := flat_small h hnp; simp [tabL, longL, beN_len]; omega⟩
  generalize tabL ps = T at *
  generalize validL ps = vl at *
  have zc : ((pe == 0) == vl) = true := by
    cases vl with
    | true => rw [(hP.out.1 rfl).1]; rfl
    | false => rw [hP.out.2 rfl]; rfl
  go_upto_if 42 with (go_at_call 16; refine V.mono ?_; rintro e w6 ⟨rfl, b6⟩)
  have B7 := B6.trans (b6.mono B6.size)
  have rd6 := rd5.on b6
  have k6 := k5.on b6
  clear V rd5 k5 b6 B6 zc
  go_cut [] (fun W => Blk W w.heap.size (mtA ca cb (.slice na ns.length nc) (.slice ta ts.length tc) (.slice pa qs.length pc)) 36 ∧ Below w.heap.size w W)
  case first =>
    cases vl with
    | false =>
      obtain rfl := hP.out.2 rfl
      clear hP HCT
      go_wp2_with fail
      go_meet
      case rel => exact ⟨k6, B7⟩
    | true =>
      obtain ⟨rfl, rfl⟩ := hP.out.1 rfl
      obtain ⟨hT1, hT2, hT3, hT4⟩ := HCT.out rfl
      have HT1 : Hid (∀ more, ctab (T ++ more) = some (ps, more)) := hT1
      have HT2 : Hid (∀ n, n < T.length → ctab (T.take n) = none) := hT2
      clear hP HCT hT1 hT2
      obtain ⟨g, o, rfl, hc5, hn5, hcell⟩ := rd_byte2 rd6 (by simp)
      have x0 := hcell 0 (by simp)
      generalize hn : ([120] ++ T).length = n at *
      have hnT : Hid (n = T.length + 1) := by show _ = _; rw [← hn]; simp
      have hnl : 5 ≤ n ∧ n ≤ 6001 := by have := hnT.out; omega
      have e0 : ((([120] ++ T : List UInt8).getD 0 0).toNat : Int) = 120 := rfl
      rw [e0, Nat.add_zero] at x0
      have HSB : Hid (∀ w', Below w6.heap.size w6 w' → ∀ j, 1 ≤ j → j ≤ n → (convert 23 9 (.slice (some ⟨g, o + 1, none⟩) (j - 1) (c5 - 1))).run Tryd.prog w' = .ok (.string ⟨(T.take (j - 1)).toArray⟩) w') := fun w' hb j h1 h2 => by
        have := rdb_piece (rd6.on hb) 1 j (c5 - 1) h1 h2 (by omega)
        exact conv_any this
      have hcv := HSB.out w6 (Below.refl _ _) n (by omega) (Nat.le_refl _)
      have eT : T.take (n - 1) = T := List.take_of_length_le (by have := hnT.out; omega)
      rw [eT] at hcv
      have happ := app_str T s
      have TK := ttake_any w6 (T ++ s) (by rw [List.length_append]; omega)
      have p1 : (1 : Int) ≤ (n : Int) := by omega
      have p2 : ¬ c5 = 1 := by omega
      clear hcell e0 eT rd6 hn5 hn
      go_upto_region 10 with (go_at_call 12; refine TK.mono ?_; rintro e w7 ⟨v7, z7, n7, rfl, tk, b7⟩)
      rcases tk with ⟨L, r, h1, rfl, o7, rfl⟩ | ⟨h1, _⟩
      rotate_left
      · rw [HT1.out] at h1; cases h1
      rw [HT1.out] at h1
      injection h1 with h1
      injection h1 with h2 h3
      subst h2 h3
      have ez : (((T ++ s).length - s.length : Nat) : Int) = (n : Int) - 1 := by rw [List.length_append]; have := hnT.out; omega
      rw [ez]
      have y0 : w7.cell? ⟨g, o, none⟩ = some (.int .u8 120) := (b7.cell (p := ⟨g, o, none⟩) (World.block_lt_of_cell? w6 _ x0)).trans x0
      have B8 := B7.trans (b7.mono B7.size)
      have k7 := k6.on b7
      have A7 := all7 w7 v7 _ ps ps o7.rd (hr.on B8) h63
      rw [sameL_self] at A7
      have zz : (((n : Int) - 1) != ((n : Int) - 1)) = false := by simp
      have zu : ((120 : Int) != 120) = false := rfl
      clear TK hcv happ x0 ez o7
      go_upto_region 12 with (first | (go_at_call 14; refine A7.mono ?_; rintro e w8 ⟨rfl, b8⟩))
      have B9 := B8.trans (b8.mono B8.size)
      have k8 := k7.on b8
      have HSB8 : Hid (∀ w', Below w8.heap.size w8 w' → ∀ j, 1 ≤ j → j ≤ n → (convert 23 9 (.slice (some ⟨g, o + 1, none⟩) (j - 1) (c5 - 1))).run Tryd.prog w' = .ok (.string ⟨(T.take (j - 1)).toArray⟩) w') := fun w' hb j h1 h2 => HSB.out w' (b7.trans ((b8.trans (hb.mono b8.size)).mono b7.size)) j h1 h2
      clear HSB A7 y0 B8 B7 b7 b8 p1 zz zu
      go_wp2_with fail
      go_loopw [12] (fun i wr => ∃ k : Nat, 1 ≤ k ∧ k ≤ n + n ∧ i = .int .i64 k ∧ Below w8.heap.size w8 wr) (fun i _ => n - (RowKit.intOf i).toNat)
      case atStart => exact ⟨1, Nat.le_refl _, by omega, rfl, Below.refl _ _⟩
      case round =>
        obtain ⟨k, hk1, hk2, rfl, hbr⟩ := hrel
        by_cases hlt : k < n
        · have hkz : (k : Int) < (n : Int) := by omega
          have hk1z : (1 : Int) ≤ (k : Int) := by omega
          have hkn : (k : Int) ≤ (n : Int) := by omega
          have hkc : (k : Int) ≤ (c5 : Int) := by omega
          have hcv := HSB8.out wr hbr k hk1 (by omega)
          have h2 := HT2.out (k - 1) (by have := hnT.out; omega)
          have TK2 := ttake_any wr (T.take (k - 1)) (by rw [List.length_take]; omega)
          generalize T.take (k - 1) = U at *
          have hdiv : Int.tdiv (n : Int) 40 = ((n / 40 : Nat) : Int) := by
            rw [Int.tdiv_eq_ediv_of_nonneg (by omega)]
            omega
          have hd40 : n / 40 ≤ n := Nat.div_le_self _ _
          have u11 : ((11 : Int) != 11) = false := rfl
          have s9 := hbr.size
          go_wp2_with (go_at_call 12; refine TK2.mono ?_; rintro e w9 ⟨v9, z9, n9, rfl, ⟨L, r, h1, rfl, o7, rfl⟩ | ⟨h1, rfl, rfl, rfl⟩, b9⟩)
          · rw [h2] at h1; cases h1
          · clear TK2 hcv h2
            go_wp2_with fail
            go_roundw
            case rel => exact ⟨k + (1 + n / 40), by omega, by omega, by go_num, hbr.trans (b9.mono s9)⟩
            case measure => simp [RowKit.intOf]; omega
        · have hkz : ¬ (k : Int) < (n : Int) := by omega
          go_wp2_with fail
          go_meet
          case rel => exact ⟨k8.on hbr, B9.trans (hbr.mono B9.size)⟩
  case rest =>
  obtain ⟨k7, B7⟩ := hcut
  have m7 : RdM wc wc.heap.size _ _ _ ns ts qs := (h.on B7).up B7.size
  have E1 := encode_any wc ca cb _ _ _ ns ts qs (hv.on B7) m7
  have c0 := k7.cell 0
  have c1 := k7.cell 1
  have c2 := k7.cell 2
  have c3 := k7.cell 3
  have c4 := k7.cell 4
  simp only [List.getElem?_toArray, List.getElem?_cons_zero, List.getElem?_cons_succ] at c0 c1 c2 c3 c4
  clear hP HCT
  go_wp2_with fail
  refine E1.mono ?_
  rintro e w8 ⟨⟨x, xa, xc, hx, rfl, ox⟩ | ⟨hx, rfl⟩, b8⟩
  rotate_left
  · go_wp2_with fail
    go_ret
    exact ⟨rfl, B7.trans (b8.mono B7.size)⟩
  have B8 := B7.trans (b8.mono B7.size)
  have k8 := k7.on b8
  have hxl := payP_len hx h.ln h.lp
  have D1 := decode_any w8 x (hv.on B8) (by omega)
  have hm1 := metD_back hx h.ln n1 []
  rw [List.append_nil, if_pos rfl] at hm1
  have hm2 := metD_back hx h.ln n1 [120]
  rw [if_neg (by decide)] at hm2
  have hcv := conv_any ox.rd
  have rx8 := ox.rd
  clear E1 m7 k7 hx ox b8 c0 c1 c2 c3 c4
  go_wp2_with fail
  refine D1.mono ?_
  rintro e w9 ⟨⟨d, vn', vt', vp', hd, rfl, q1, q2, q3⟩ | ⟨hd, rfl⟩, b9⟩
  rotate_left
  · rw [hm1] at hd; cases hd
  rw [hm1] at hd
  injection hd with hd
  subst hd
  dsimp only at q1 q2 q3 ⊢
  have B9 := B8.trans (b9.mono B8.size)
  have k9 := k8.on b9
  have rx9 := rx8.on b9
  obtain ⟨na', nn', nc', rfl⟩ := q1.shape3
  obtain ⟨ta', tn', tc', rfl⟩ := q2.shape3
  obtain ⟨pa', pc', rfl⟩ := q3.rd.shape
  have k9' := Blk.new w9 (mtA ca cb (.slice na' nn' nc') (.slice ta' tn' tc') (.slice pa' qs.length pc')) 36
  have b10 := below_new w9 (.cells (mtA ca cb (.slice na' nn' nc') (.slice ta' tn' tc') (.slice pa' qs.length pc')) 36)
  have B10 := B9.trans (b10.mono B9.size)
  have k10 := k9.on b10
  have rx10 := rx9.on b10
  have m10 : RdM (w9.alloc (.cells (mtA ca cb (.slice na' nn' nc') (.slice ta' tn' tc') (.slice pa' qs.length pc')) 36)) (w9.alloc (.cells (mtA ca cb (.slice na' nn' nc') (.slice ta' tn' tc') (.slice pa' qs.length pc')) 36)).heap.size (.slice na' nn' nc') (.slice ta' tn' tc') (.slice pa' qs.length pc') ns ts qs := ⟨(q1.up b10).rd, (q2.up b10).rd, rdV_of (q3.up b10).rd, h.ln, h.lp, h.sz⟩
  have m10' : RdM (w9.alloc (.cells (mtA ca cb (.slice na' nn' nc') (.slice ta' tn' tc') (.slice pa' qs.length pc')) 36)) (w9.alloc (.cells (mtA ca cb (.slice na' nn' nc') (.slice ta' tn' tc') (.slice pa' qs.length pc')) 36)).heap.size _ _ _ ns ts qs := (h.on B10).up B10.size
  clear D1 hcv hm1 q1 q2 q3 b9 b10 B8 B9 k8 k9 rx8 rx9
  go_upto_region 22 with fail
  generalize w9.alloc (.cells (mtA ca cb (.slice na' nn' nc') (.slice ta' tn' tc') (.slice pa' qs.length pc')) 36) = w10 at *
  have SM := same15_any w10 ca cb _ _ _ ns ts qs ca cb _ _ _ ns ts qs m10 m10'
  have hs : sameM ca cb ns ts qs ca cb ns ts qs = true := by unfold sameM; rw [sameL_self]; simp
  rw [hs] at SM
  have c0 := k10.cell 0
  have c1 := k10.cell 1
  have c2 := k10.cell 2
  have c3 := k10.cell 3
  have c4 := k10.cell 4
  have d0 := k9'.cell 0
  have d1 := k9'.cell 1
  have d2 := k9'.cell 2
  have d3 := k9'.cell 3
  have d4 := k9'.cell 4
  simp only [List.getElem?_toArray, List.getElem?_cons_zero, List.getElem?_cons_succ] at c0 c1 c2 c3 c4 d0 d1 d2 d3 d4
  go_upto_region 24 with (go_at_call 19; refine SM.mono ?_; rintro e w11 ⟨rfl, b11⟩)
  have B11 := B10.trans (b11.mono B10.size)
  have hcv := conv_any (rx10.on b11)
  have happ := app_str x [120]
  have D2 := decode_any w11 (x ++ [120]) (hv.on B11) (by rw [List.length_append]; simp; omega)
  rw [hm2] at D2
  clear SM m10 m10' c0 c1 c2 c3 c4 d0 d1 d2 d3 d4 rx10 hm2 k10 k9'
  go_wp2_with fail
  refine D2.mono ?_
  rintro e w12 ⟨⟨d, _, _, _, hd, _⟩ | ⟨_, rfl⟩, b12⟩
  · cases hd
  go_wp2_with fail
  go_ret
  exact ⟨rfl, B11.trans (b12.mono B11.size)⟩
end Go.Proofs.YtmaaacaifpgpaaaDoor

namespace Go.Proofs.YtmaaacaifpgpaaaDoor
open Go.RowKit Go.Lib
set_option maxRecDepth 100000
set_option linter.unusedSimpArgs false

/-- The row of one's own list. -/
theorem row_blk {w : World} {B e s n : Nat} {v : Value} {x : List Value} (h : w.ownsRow B e s v n x) : ∀ g, v.ownBlock = some g → ∃ cur : Array Value, Blk w g cur e ∧ n * s ≤ cur.size := fun g hg => by
  obtain ⟨_, h⟩ := h
  rcases h with ⟨rfl, _⟩ | ⟨g', cap, cur, rfl, _, hg', hc, _, hs, _⟩
  · cases hg
  · cases hg
    exact ⟨cur, ⟨hg'⟩, by rw [hs]; exact Nat.mul_le_mul_right s hc⟩
theorem row_some {w : World} {B e s n : Nat} {v : Value} {x : List Value} (h : w.ownsRow B e s v n x) (hn : 0 < n) : ∃ g cap, v = .slice (some ⟨g, 0, none⟩) n cap := by
  obtain ⟨_, h⟩ := h
  rcases h with ⟨_, h0⟩ | ⟨g', cap, cur, rfl, _⟩
  · omega
  · exact ⟨g', cap, rfl⟩
theorem row_len {w : World} {B e s n : Nat} {v : Value} {x : List Value} (h : w.ownsRow B e s v n x) : n ≤ 9223372036854775807 := by
  obtain ⟨_, h⟩ := h
  rcases h with ⟨rfl, h0⟩ | ⟨g', cap, cur, rfl, _, _, hc, hm, _⟩
  · omega
  · unfold maxLen at hm
    omega
theorem kept_ge {v u : Value} {m gy : Nat} (hv : ∀ g, v.ownBlock = some g → m ≤ g) (hu : ∀ g, u.ownBlock = some g → g < gy) (hm : gy ≤ m) : v.ownBlock = none ∨ v.ownBlock ≠ u.ownBlock := by
  cases h : v.ownBlock with
  | none => exact .inl rfl
  | some g =>
    right
    intro e
    have h1 := hv g h
    have h2 := hu g e.symm
    omega
theorem row_cases {w : World} {B e s n : Nat} {v : Value} {x : List Value} (h : w.ownsRow B e s v n x) : ∃ a c, v = .slice a n c := by
  obtain ⟨_, h⟩ := h
  rcases h with ⟨rfl, h0⟩ | ⟨g', cap, cur, rfl, _⟩
  · exact ⟨none, 0, by rw [h0]⟩
  · exact ⟨_, _, rfl⟩
theorem grown_trans {w w1 w2 : World} {r : Option Nat} (h1 : w.grownBy w1 r) (h2 : w1.grownBy w2 r) : w.grownBy w2 r :=
  ⟨h2.os.trans h1.os, h2.tape.trans h1.tape, h2.output.trans h1.output, Nat.le_trans h1.size h2.size, fun k hk hne => (h2.block k (Nat.lt_of_lt_of_le hk h1.size) hne).trans (h1.block k hk hne)⟩
theorem rdb_slice {w : World} {v : Value} {l : List UInt8} (h : RdB w v l) : ∃ a n c, v = .slice a n c := by
  rcases h with ⟨rfl, _⟩ | ⟨b, o, c, rfl, _⟩
  · exact ⟨_, _, _, rfl⟩
  · exact ⟨_, _, _, rfl⟩
theorem ec_out {w : World} {B : Nat} {P : Option (List UInt8)} {e : Ending} (h : EcP w B P e) (hl : ∀ x, P = some x → x.length ≤ 40004) : ∃ v n X, e = .returned (.tuple #[v, .int .i64 n]) ∧ RdB w v X ∧ X.length ≤ 40004 ∧ (n = 0 → P = some X) := by
  rcases h with ⟨x, a, c, hx, rfl, ho⟩ | ⟨hx, rfl⟩
  · exact ⟨_, _, x, rfl, ho.rd, hl x hx, fun _ => hx⟩
  · exact ⟨_, _, [], rfl, .inl ⟨rfl, rfl⟩, by simp, fun h => by cases h⟩
theorem dc_out {w : World} {B : Nat} {P : Option Dq} {e : Ending} (h : DcP w B P e) : ∃ ya yb v1 v2 v3 l1 l2 l3 n, e = .returned (.tuple #[.agg (mtA ya yb v1 v2 v3), .int .i64 n]) ∧ OwnI w B v1 l1 ∧ OwnT w B v2 l2 ∧ OwnP w B v3 l3 ∧ (∀ d : Dq, P = some d → n = 0 ∧ d = ⟨ya, yb, l1, l2, l3⟩) := by
  rcases h with ⟨d, vn, vt, vp, hx, rfl, h1, h2, h3⟩ | ⟨hx, rfl⟩
  · refine ⟨_, _, _, _, _, _, _, _, _, rfl, h1, h2, h3, fun d' hd => ?_⟩
    rw [hx] at hd
    injection hd with hd
    subst hd
    exact ⟨rfl, rfl⟩
  · refine ⟨0, 0, _, _, _, [], [], [], 11, rfl, OwnI.nil _ _, OwnT.nil _ _, World.ownsRow_nil _ _ _ _, fun d' hd => ?_⟩
    rw [hx] at hd
    cases hd
set_option maxHeartbeats 16000000 in
theorem keeps_law (w : World) (va : Value) (ps : List Pr) (ca cb : Int) (vn vt vp : Value) (ns : List Int) (ts : List (List UInt8)) (qs : List Pr) (hv : Mv w) (hr : RdP w va ps) (hf : ∀ q ∈ ps, Fits q) (h63 : ps.length ≤ 9223372036854775806) (h : RdM w w.heap.size vn vt vp ns ts qs) (n1 : ∀ r ∈ qs, Nums r) :
    Calls Tryd.prog 6 #[va, .agg (mtA ca cb vn vt vp)] w fun e w' => e = .returned (.bool true) ∧ Below w.heap.size w w' := by
  obtain ⟨na, nc, e1⟩ := h.n.shape
  obtain ⟨ta, tc, e2⟩ := h.t.shape
  obtain ⟨pa, pc, e3⟩ := h.p.shape
  obtain ⟨aa, ac, e4⟩ := hr.shape
  subst e1 e2 e3 e4
  have b1 := below_new w (.cells (mtA ca cb (.slice na ns.length nc) (.slice ta ts.length tc) (.slice pa qs.length pc)) 36)
  have k1 := Blk.new w (mtA ca cb (.slice na ns.length nc) (.slice ta ts.length tc) (.slice pa qs.length pc)) 36
  generalize hw1 : w.alloc (.cells (mtA ca cb (.slice na ns.length nc) (.slice ta ts.length tc) (.slice pa qs.length pc)) 36) = w1 at *
  have W := wakes_any w1 (hv.on b1)
  go_enter Tryd.func6, Tryd.ntmps6
  go_wp2_with fail
  refine W.mono ?_
  rintro e w2 ⟨rfl, b2⟩
  have B2 := b1.trans (b2.mono b1.size)
  have k2 := k1.on b2
  have L1 := alllong_any w2 _ ps (hr.on B2) h63
  clear W b2 b1 k1 hw1
  go_wp2_with fail
  refine L1.mono ?_
  rintro e w3 ⟨⟨r1, rfl⟩, b3⟩
  have B3 := B2.trans (b3.mono B2.size)
  have k3 := k2.on b3
  have m3 : RdM w3 w3.heap.size _ _ _ ns ts qs := (h.on B3).up B3.size
  have H1 := heavy_any w3 ca cb _ _ _ ns ts qs m3
  clear L1 b3 k2 B2
  have c0 := k3.cell 0
  have c1 := k3.cell 1
  have c2 := k3.cell 2
  have c3 := k3.cell 3
  have c4 := k3.cell 4
  simp only [List.getElem?_toArray, List.getElem?_cons_zero, List.getElem?_cons_succ] at c0 c1 c2 c3 c4
  cases r1 with
  | true =>
    go_wp2_with fail
    go_ret
    exact ⟨rfl, B3⟩
  | false =>
  go_wp2_with fail
  refine H1.mono ?_
  rintro e w4 ⟨⟨r2, rfl⟩, b4⟩
  have B4 := B3.trans (b4.mono B3.size)
  have k4 := k3.on b4
  clear H1 m3 b4 k3 B3 c0 c1 c2 c3 c4
  cases r2 with
  | true =>
    go_wp2_with fail
    go_ret
    exact ⟨rfl, B4⟩
  | false =>
  have b5 := below_new w4 (.cells #[.int .u8 97, .int .u8 98, .int .u8 99] 5 (3, 4))
  have B5 := B4.trans (b5.mono B4.size)
  have k5 := k4.on b5
  have rs5 : RdB (w4.alloc (.cells #[.int .u8 97, .int .u8 98, .int .u8 99] 5 (3, 4))) (.slice (some ⟨w4.heap.size, 0, none⟩) 3 3) [97, 98, 99] := .inr ⟨w4.heap.size, 0, 3, rfl, Nat.le_refl _, fun i hi => by
    rw [Nat.zero_add, cell_of_row _ w4.heap.size i #[.int .u8 97, .int .u8 98, .int .u8 99] 5 (3, 4) (heap_alloc_new w4 _)]
    match i, hi with
    | 0, _ => rfl
    | 1, _ => rfl
    | 2, _ => rfl⟩
  have rx5 : RdB (w4.alloc (.cells #[.int .u8 97, .int .u8 98, .int .u8 99] 5 (3, 4))) (.slice (some ⟨w4.heap.size, 0, none⟩) 1 3) [97] := .inr ⟨w4.heap.size, 0, 3, rfl, by decide, fun i hi => by
    have : i = 0 := by simpa using hi
    subst this
    exact cell_of_row _ w4.heap.size 0 #[.int .u8 97, .int .u8 98, .int .u8 99] 5 (3, 4) (heap_alloc_new w4 _)⟩
  have P := fun w' (hb : Below (w4.alloc (.cells #[.int .u8 97, .int .u8 98, .int .u8 99] 5 (3, 4))).heap.size (w4.alloc (.cells #[.int .u8 97, .int .u8 98, .int .u8 99] 5 (3, 4))) w') => put_any w' _ _ [97] ps (.inl (rx5.on hb)) (by simp) (hr.on (B5.trans (hb.mono B5.size))) hf
  have kc := fun (w : World) (C : Array Value) (n c : Nat) => Lib.run_convert_bytes_const (P := Tryd.prog) w 23 5 C n c Tryd.underlying23 Tryd.underlying5
  clear k4 B4 b5 rx5
  go_upto_region 6 with fail
  generalize w4.alloc (.cells #[.int .u8 97, .int .u8 98, .int .u8 99] 5 (3, 4)) = w5 at *
  generalize w4.heap.size = gs at *
  have P1 := P w5 (Below.refl _ _)
  clear kc
  go_wp2_with fail
  refine P1.mono ?_
  rintro e w6 ⟨v6, rfl, o6, b6⟩
  have B6 := B5.trans (b6.mono B5.size)
  have k6 := k5.on b6
  have P2 := P w6 b6
  have cs6 := conv_any (rs5.on b6)
  have h97 : putE ps = 0 → putL [97] ps = [97] ++ tabL ps := fun he => by
    unfold putE at he
    unfold putL
    split at he
    · rename_i hv2; rw [if_pos hv2]
    · cases he
  have hpl : (putL [97] ps).length ≤ 10000 := by
    unfold putL
    split
    · rename_i hv2
      obtain ⟨h16, hs⟩ := sm_all hv2 (fun q hq => (hf q hq).2)
      have := flatT_len hs
      simp only [tabL, longL, List.length_append, beN_len, List.length_cons, List.length_nil]
      omega
    · simp
  have hw5 : w.heap.size < w5.heap.size := k5.lt
  clear P P1 k5 B5 rs5
  generalize putE ps = pe at *
  generalize putL [97] ps = pl at *
  generalize tabL ps = T at *
  go_wp2_with fail
  refine P2.mono ?_
  rintro e w7 ⟨v7, rfl, o7, b7⟩
  have B7 := B6.trans (b7.mono B6.size)
  have k7 := k6.on b7
  have o67 : Own w7 w5.heap.size v6 pl := o6.on b7
  have cw7 := conv_any o7.rd
  have hb6 : ∀ g, v6.ownBlock = some g → w5.heap.size ≤ g ∧ g < w6.heap.size := fun g hg => World.ownsRow.lt o6 g hg
  have hb7 : ∀ g, v7.ownBlock = some g → w6.heap.size ≤ g := fun g hg => (World.ownsRow.lt o7 g hg).1
  have HR6 : Hid (∀ g, v6.ownBlock = some g → ∃ cur : Array Value, Blk w7 g cur 5 ∧ pl.length ≤ cur.size) := fun g hg => by
    obtain ⟨cur, h1, h2⟩ := row_blk o67 g hg
    exact ⟨cur, h1, by omega⟩
  have HS6 : Hid (0 < pl.length → ∃ g cap, v6 = .slice (some ⟨g, 0, none⟩) pl.length cap) := fun hn => row_some o67 hn
  obtain ⟨a6, c6, rfl⟩ := o6.shapeL
  obtain ⟨a7, c7, rfl⟩ := o7.shapeL
  go_upto_region 12 with fail
  go_loopw [51] (fun i wr => ∃ k : Nat, k ≤ pl.length ∧ i = .int .i64 k ∧ Hid (w7.grownBy wr (Value.slice a6 pl.length c6).ownBlock ∧ ∀ g, (Value.slice a6 pl.length c6).ownBlock = some g → ∃ cur : Array Value, Blk wr g cur 5 ∧ pl.length ≤ cur.size)) (fun i _ => pl.length - (RowKit.intOf i).toNat)
  case atStart => exact ⟨0, Nat.zero_le _, rfl, ⟨rfl, rfl, rfl, Nat.le_refl _, fun _ _ _ => rfl⟩, HR6.out⟩
  case round =>
    obtain ⟨k, hk, rfl, HG⟩ := hrel
    by_cases hlt : k < pl.length
    · obtain ⟨g, cap, hsl⟩ := HS6.out (by omega)
      injection hsl with h1 _ h3
      subst h1 h3
      obtain ⟨cur, hB, hcs⟩ := HG.out.2 g rfl
      have hkz : (k : Int) < (pl.length : Int) := by omega
      go_wp2_with (refine wpl_set rfl (.tmp 56) (.const (.int .u8 9)) rfl g k _ rfl rfl hB (by kernel_rfl) rfl rfl (by omega) ?_)
      intro w8 k8 g8 s8
      have HG8 : Hid (w7.grownBy w8 (Value.slice (some ⟨g, 0, none⟩) pl.length c6).ownBlock ∧ ∀ g', (Value.slice (some ⟨g, 0, none⟩) pl.length c6).ownBlock = some g' → ∃ cur : Array Value, Blk w8 g' cur 5 ∧ pl.length ≤ cur.size) := ⟨grown_trans HG.out.1 g8, fun g' hg' => by cases hg'; exact ⟨_, k8, by simpa using hcs⟩⟩
      clear HG hB k8 g8 s8
      go_wp2_with fail
      go_roundw
      case rel => exact ⟨k + 1, by omega, by go_num, HG8⟩
      case measure => simp [RowKit.intOf]; omega
    · obtain rfl : k = pl.length := by omega
      have hkz : ¬ (pl.length : Int) < (pl.length : Int) := by omega
      have hg := HG.out.1
      have o8 : Own wr w6.heap.size (.slice a7 pl.length c7) pl := World.ownsRow.kept o7 hg (by
        cases h7 : (Value.slice a7 pl.length c7).ownBlock with
        | none => exact .inl rfl
        | some g7 =>
          right
          intro e
          have := (hb6 g7 e.symm).2
          have := hb7 g7 h7
          omega)
      have cw8 := conv_any o8.rd
      have k8 : Blk wr w.heap.size (mtA ca cb (.slice na ns.length nc) (.slice ta ts.length tc) (.slice pa qs.length pc)) 36 := k7.grown hg (fun e => by have := (hb6 _ e.symm).1; omega)
      have B8 : Below w.heap.size w wr := B7.grown hg (by have := B7.size; omega) (fun g e => by have := (hb6 g e).1; omega)
      have r8 := o8.rd
      clear HG hg HR6 HS6 hb6 hb7 o7 o67 o6 k7 k6 B7 B6 b7 b6 cs6 cw7 o8
      have zpl : (pl == pl) = true := by simp
      go_upto_region 16 with fail
      go_cut [71] (fun s W => s = .bool false ∧ wr = W)
      case first =>
        by_cases hpe : pe = 0
        · have hp0 : 0 < pl.length := by rw [h97 hpe]; simp
          have e0 : ((pl.getD 0 0).toNat : Int) = 97 := by rw [h97 hpe]; rfl
          subst hpe
          obtain ⟨g7, o7', rfl, _, _, hcell⟩ := rd_byte2 r8 hp0
          have x0 := hcell 0 hp0
          rw [e0, Nat.add_zero] at x0
          have p0 : (0 : Int) < (pl.length : Int) := by omega
          have zu : ((97 : Int) != 97) = false := rfl
          clear hcell e0 r8 h97
          go_wp2_with fail
          go_meet
          case rel => exact ⟨rfl, rfl⟩
        · have hpb : (pe == 0) = false := by rw [beq_eq_false_iff_ne]; exact hpe
          go_wp2_with fail
          go_meet
          case rel => exact ⟨rfl, rfl⟩
      case rest =>
      obtain ⟨e71, ew⟩ := hcut
      subst e71
      subst ew
      clear cw8 r8 h97 zpl hpl
      have m8 : RdM wr wr.heap.size _ _ _ ns ts qs := (h.on B8).up B8.size
      have E1 := encode_any wr ca cb _ _ _ ns ts qs (hv.on B8) m8
      have c0 := k8.cell 0
      have c1 := k8.cell 1
      have c2 := k8.cell 2
      have c3 := k8.cell 3
      have c4 := k8.cell 4
      simp only [List.getElem?_toArray, List.getElem?_cons_zero, List.getElem?_cons_succ] at c0 c1 c2 c3 c4
      go_wp2_with fail
      refine E1.mono ?_
      rintro e w9 ⟨hE, b9⟩
      obtain ⟨vx, xn, X, rfl, rx, hXl, hxn⟩ := ec_out hE (fun x hx => payP_len hx h.ln h.lp)
      have B9 := B8.trans (b9.mono B8.size)
      have k9 := k8.on b9
      have hcv9 := conv_any rx
      have D1 := decode_any w9 X (hv.on B9) (by omega)
      have hmd : xn = 0 → metD X = some ⟨ca, cb, ns, ts, qs⟩ := fun h0 => by
        have := metD_back (hxn h0) h.ln n1 []
        rw [List.append_nil, if_pos rfl] at this
        exact this
      have hsl : Hid (∃ aa nn cc, vx = .slice aa nn cc) := rdb_slice rx
      obtain ⟨aX, nX, cX, rfl⟩ := hsl.out
      clear E1 m8 b9 B8 k8 c0 c1 c2 c3 c4 hE hxn hsl
      go_wp2_with fail
      refine D1.mono ?_
      rintro e w10 ⟨hD, b10⟩
      obtain ⟨ya, yb, v1, v2, v3, l1, l2, l3, yn, rfl, q1, q2, q3, hy⟩ := dc_out hD
      have hq1 : ∀ g, v1.ownBlock = some g → w9.heap.size ≤ g ∧ g < w10.heap.size := fun g hg => World.ownsRow.lt q1 g hg
      have hq3 : ∀ g, v3.ownBlock = some g → w9.heap.size ≤ g ∧ g < w10.heap.size := fun g hg => World.ownsRow.lt q3 g hg
      obtain ⟨y1, y1c, rfl⟩ := row_cases q1
      obtain ⟨y2, y2c, rfl⟩ := row_cases q2
      obtain ⟨y3, y3c, rfl⟩ := row_cases q3
      have B10 := B9.trans (b10.mono B9.size)
      have k10 := k9.on b10
      have rx10 := rx.on b10
      have kY := Blk.new w10 (mtA ya yb (.slice y1 l1.length y1c) (.slice y2 l2.length y2c) (.slice y3 l3.length y3c)) 36
      have b11 := below_new w10 (.cells (mtA ya yb (.slice y1 l1.length y1c) (.slice y2 l2.length y2c) (.slice y3 l3.length y3c)) 36)
      have B11 := B10.trans (b11.mono B10.size)
      have k11 := k10.on b11
      have rx11 := rx10.on b11
      have p1 := q1.up b11
      have p3 := q3.up b11
      have hz9 : w.heap.size < w9.heap.size := k9.lt
      clear D1 hD hcv9 rx rx10 q1 q2 q3 b10 b11 B10 k10 k9 B9
      go_upto_region 20 with fail
      generalize w10.alloc (.cells (mtA ya yb (.slice y1 l1.length y1c) (.slice y2 l2.length y2c) (.slice y3 l3.length y3c)) 36) = w11 at *
      generalize hgy : w10.heap.size = gy at *
      have hcv11 := conv_any rx11
      have D2 := decode_any w11 X (hv.on B11) (by omega)
      have hB11 := B11
      clear B11
      have B11 : Below w.heap.size w w11 := hB11
      go_wp2_with fail
      refine D2.mono ?_
      rintro e w12 ⟨hD, b12⟩
      obtain ⟨za, zb, u1, u2, u3, m1, m2, m3, zn, rfl, q1, q2, q3, hz⟩ := dc_out hD
      have hu1 : ∀ g, u1.ownBlock = some g → w11.heap.size ≤ g := fun g hg => (World.ownsRow.lt q1 g hg).1
      have hu2 : ∀ g, u2.ownBlock = some g → w11.heap.size ≤ g := fun g hg => (World.ownsRow.lt q2 g hg).1
      have hu3 : ∀ g, u3.ownBlock = some g → w11.heap.size ≤ g := fun g hg => (World.ownsRow.lt q3 g hg).1
      obtain ⟨z1, z1c, rfl⟩ := row_cases q1
      obtain ⟨z2, z2c, rfl⟩ := row_cases q2
      obtain ⟨z3, z3c, rfl⟩ := row_cases q3
      have B12 := B11.trans (b12.mono B11.size)
      have k12 := k11.on b12
      have kY12 := kY.on b12
      have p12 := p1.up b12
      have p32 := p3.up b12
      have kZ := Blk.new w12 (mtA za zb (.slice z1 m1.length z1c) (.slice z2 m2.length z2c) (.slice z3 m3.length z3c)) 36
      have b13 := below_new w12 (.cells (mtA za zb (.slice z1 m1.length z1c) (.slice z2 m2.length z2c) (.slice z3 m3.length z3c)) 36)
      have B13 := B12.trans (b13.mono B12.size)
      have k13 := k12.on b13
      have kY13 := kY12.on b13
      have p13 := p12.up b13
      have p33 := p32.up b13
      have t1 := q1.up b13
      have t2 := q2.up b13
      have t3 := q3.up b13
      have hgz : gy < w12.heap.size := kY12.lt
      have hs12 := b12.size
      have hgy11 : gy < w11.heap.size := kY.lt
      clear D2 hD hcv11 rx11 q1 q2 q3 b12 b13 B12 k12 k11 kY kY12 p1 p3 p12 p32 B11
      go_upto_region 21 with fail
      generalize w12.alloc (.cells (mtA za zb (.slice z1 m1.length z1c) (.slice z2 m2.length z2c) (.slice z3 m3.length z3c)) 36) = w13 at *
      generalize hgz2 : w12.heap.size = gz at *
      have HR1 : Hid (∀ g, (Value.slice y1 l1.length y1c).ownBlock = some g → ∃ cur : Array Value, Blk w13 g cur 3 ∧ l1.length ≤ cur.size) := fun g hg => by
        obtain ⟨cur, h1, h2⟩ := row_blk p13 g hg
        exact ⟨cur, h1, by omega⟩
      have HS1 : Hid (0 < l1.length → ∃ g cap, Value.slice y1 l1.length y1c = .slice (some ⟨g, 0, none⟩) l1.length cap) := fun hn => row_some p13 hn
      have hl1 := row_len p13
      have hl3 := row_len p33
      have d2 := kY13.cell 2
      simp only [List.getElem?_toArray, List.getElem?_cons_zero, List.getElem?_cons_succ] at d2
      go_wp2_with fail
      go_loopw [92] (fun i wx => ∃ k : Nat, k ≤ l1.length ∧ i = .int .i64 k ∧ Hid (w13.grownBy wx (Value.slice y1 l1.length y1c).ownBlock ∧ ∀ g, (Value.slice y1 l1.length y1c).ownBlock = some g → ∃ cur : Array Value, Blk wx g cur 3 ∧ l1.length ≤ cur.size)) (fun i _ => l1.length - (RowKit.intOf i).toNat)
      case atStart => exact ⟨0, Nat.zero_le _, rfl, ⟨rfl, rfl, rfl, Nat.le_refl _, fun _ _ _ => rfl⟩, HR1.out⟩
      case round =>
        clear d2
        obtain ⟨k, hk, rfl, HG⟩ := hrel
        have kYx := kY13.grown HG.out.1 (fun e => by have := (hq1 _ e.symm).2; omega)
        by_cases hlt : k < l1.length
        · obtain ⟨g, cap, hsl⟩ := HS1.out (by omega)
          injection hsl with h1 _ h3
          subst h1 h3
          obtain ⟨cur, hB, hcs⟩ := HG.out.2 g rfl
          have hkz : (k : Int) < (l1.length : Int) := by omega
          have d2 := kYx.cell 2
          simp only [List.getElem?_toArray, List.getElem?_cons_zero, List.getElem?_cons_succ] at d2
          go_wp2_with (refine wpl_set rfl (.tmp 98) (.const (.int .i64 (-9))) rfl g k _ rfl rfl hB (by kernel_rfl) rfl rfl (by omega) ?_)
          intro w14 k14 g14 s14
          have HG14 : Hid (w13.grownBy w14 (Value.slice (some ⟨g, 0, none⟩) l1.length y1c).ownBlock ∧ ∀ g', (Value.slice (some ⟨g, 0, none⟩) l1.length y1c).ownBlock = some g' → ∃ cur : Array Value, Blk w14 g' cur 3 ∧ l1.length ≤ cur.size) := ⟨grown_trans HG.out.1 g14, fun g' hg' => by cases hg'; exact ⟨_, k14, by simpa using hcs⟩⟩
          clear HG hB k14 g14 s14 kYx d2
          go_wp2_with fail
          go_roundw
          case rel => exact ⟨k + 1, by omega, by go_num, HG14⟩
          case measure => simp [RowKit.intOf]; omega
        · obtain rfl : k = l1.length := by omega
          have hkz : ¬ (l1.length : Int) < (l1.length : Int) := by omega
          have G1 := HG.out.1
          have hne : ∀ g, (Value.slice y1 l1.length y1c).ownBlock = some g → w9.heap.size ≤ g ∧ g < gy := hq1
          have p3x := World.ownsRow.kept p33 G1 (ne_block p13 p33 (by decide))
          have kZx := kZ.grown G1 (fun e => by have := (hne _ e.symm).2; omega)
          have kx := k13.grown G1 (fun e => by have := (hne _ e.symm).1; omega)
          have t1x := World.ownsRow.kept t1 G1 (kept_ge hu1 (fun g hg => (hne g hg).2) (by omega))
          have t2x := World.ownsRow.kept t2 G1 (kept_ge hu2 (fun g hg => (hne g hg).2) (by omega))
          have t3x := World.ownsRow.kept t3 G1 (kept_ge hu3 (fun g hg => (hne g hg).2) (by omega))
          have Bx : Below w.heap.size w wr := B13.grown G1 (by have := B13.size; omega) (fun g hg => by have := (hne g hg).1; omega)
          clear HG G1 HR1 HS1 p13 p33 kZ k13 kY13 t1 t2 t3 B13 hq1 hne
          have HR3 : Hid (∀ g, (Value.slice y3 l3.length y3c).ownBlock = some g → ∃ cur : Array Value, Blk wr g cur 51 ∧ l3.length * 5 ≤ cur.size) := fun g hg => row_blk p3x g hg
          have HS3 : Hid (0 < l3.length → ∃ g cap, Value.slice y3 l3.length y3c = .slice (some ⟨g, 0, none⟩) l3.length cap) := fun hn => row_some p3x hn
          have d4 := kYx.cell 4
          simp only [List.getElem?_toArray, List.getElem?_cons_zero, List.getElem?_cons_succ] at d4
          go_wp2_with fail
          clear d4
          generalize wr = wb at *
          go_loopw [103] (fun i wx => ∃ k : Nat, k ≤ l3.length ∧ i = .int .i64 k ∧ Hid (wb.grownBy wx (Value.slice y3 l3.length y3c).ownBlock ∧ ∀ g, (Value.slice y3 l3.length y3c).ownBlock = some g → ∃ cur : Array Value, Blk wx g cur 51 ∧ l3.length * 5 ≤ cur.size)) (fun i _ => l3.length - (RowKit.intOf i).toNat)
          case atStart => exact ⟨0, Nat.zero_le _, rfl, ⟨rfl, rfl, rfl, Nat.le_refl _, fun _ _ _ => rfl⟩, HR3.out⟩
          case round =>
            clear hlt hk hkz
            obtain ⟨k, hk, rfl, HG⟩ := hrel
            have kYy := kYx.grown HG.out.1 (fun e => by have := (hq3 _ e.symm).2; omega)
            by_cases hlt : k < l3.length
            · obtain ⟨g, cap, hsl⟩ := HS3.out (by omega)
              injection hsl with h1 _ h3
              subst h1 h3
              obtain ⟨cur, hB, hcs⟩ := HG.out.2 g rfl
              have hkz : (k : Int) < (l3.length : Int) := by omega
              have d4 := kYy.cell 4
              simp only [List.getElem?_toArray, List.getElem?_cons_zero, List.getElem?_cons_succ] at d4
              go_wp2_with (refine wpl_putAt rfl (.tmp 110) (.tmp 109) rfl g (k * 5) _ rfl rfl hB (by kernel_rfl) (by simp; omega) (by kernel_rfl) ?_)
              intro w14 k14 g14 s14
              have HG14 : Hid (wb.grownBy w14 (Value.slice (some ⟨g, 0, none⟩) l3.length y3c).ownBlock ∧ ∀ g', (Value.slice (some ⟨g, 0, none⟩) l3.length y3c).ownBlock = some g' → ∃ cur : Array Value, Blk w14 g' cur 51 ∧ l3.length * 5 ≤ cur.size) := ⟨grown_trans HG.out.1 g14, fun g' hg' => by cases hg'; exact ⟨_, k14, by simp; omega⟩⟩
              clear HG hB k14 g14 s14 kYy d4
              go_wp2_with fail
              go_roundw
              case rel => exact ⟨k + 1, by omega, by go_num, HG14⟩
              case measure => simp [RowKit.intOf]; omega
            · obtain rfl : k = l3.length := by omega
              have hkz : ¬ (l3.length : Int) < (l3.length : Int) := by omega
              have G3 := HG.out.1
              have hne : ∀ g, (Value.slice y3 l3.length y3c).ownBlock = some g → w9.heap.size ≤ g ∧ g < gy := hq3
              have kZy := kZx.grown G3 (fun e => by have := (hne _ e.symm).2; omega)
              have ky := kx.grown G3 (fun e => by have := (hne _ e.symm).1; omega)
              have t1y : OwnI wr w11.heap.size _ m1 := World.ownsRow.kept t1x G3 (kept_ge hu1 (fun g hg => (hne g hg).2) (by omega))
              have t2y : OwnT wr w11.heap.size _ m2 := World.ownsRow.kept t2x G3 (kept_ge hu2 (fun g hg => (hne g hg).2) (by omega))
              have t3y : OwnP wr w11.heap.size _ m3 := World.ownsRow.kept t3x G3 (kept_ge hu3 (fun g hg => (hne g hg).2) (by omega))
              have By : Below w.heap.size w wr := Bx.grown G3 (by have := Bx.size; omega) (fun g hg => by have := (hne g hg).1; omega)
              clear HG G3 HR3 HS3 p3x kZx kx kYx kYy t1x t2x t3x Bx hq3 hne
              by_cases hx0 : xn = 0
              · obtain ⟨rfl, _⟩ := hy _ (hmd hx0)
                obtain ⟨rfl, he⟩ := hz _ (hmd hx0)
                injection he with h1 h2 h3 h4 h5
                subst h1 h2 h3 h4 h5 hx0
                have mz : RdM wr wr.heap.size _ _ _ ns ts qs := ⟨t1y.rd, t2y.rd, rdV_of t3y.rd, h.ln, h.lp, h.sz⟩
                have mm : RdM wr wr.heap.size _ _ _ ns ts qs := (h.on By).up By.size
                have SM := same15_any wr ca cb _ _ _ ns ts qs ca cb _ _ _ ns ts qs mz mm
                have hs : sameM ca cb ns ts qs ca cb ns ts qs = true := by unfold sameM; rw [sameL_self]; simp
                rw [hs] at SM
                have c0 := ky.cell 0
                have c1 := ky.cell 1
                have c2 := ky.cell 2
                have c3 := ky.cell 3
                have c4 := ky.cell 4
                have d0 := kZy.cell 0
                have d1 := kZy.cell 1
                have d2 := kZy.cell 2
                have d3 := kZy.cell 3
                have d4 := kZy.cell 4
                simp only [List.getElem?_toArray, List.getElem?_cons_zero, List.getElem?_cons_succ] at c0 c1 c2 c3 c4 d0 d1 d2 d3 d4
                go_wp2_with (go_at_call 19; refine SM.mono ?_; rintro e w20 ⟨rfl, b20⟩)
                go_ret
                exact ⟨rfl, By.trans (b20.mono By.size)⟩
              · have hxb : (xn == 0) = false := by rw [beq_eq_false_iff_ne]; exact hx0
                go_wp2_with fail
                go_ret
                exact ⟨rfl, By⟩
end Go.Proofs.YtmaaacaifpgpaaaDoor

set_option maxRecDepth 100000
namespace Go.Proofs.YtmaaacaifpgpaaaDoor
open Go.ChangeShapes Go.WideShapes Go.ChangeAt Go.RowKit Go.Lib
open Go.ChangeMaps (open_string shut_string)

theorem mv_of_laid6 {W : World} (h : laidMetH Tryd.prog Rows.tableKeepsRow.laid W) : Mv W := mv_of_laid h
theorem keeps_contract (H : Type) (enc : TypeId × Value → H) (W : World) (base : Nat) (args : Array Value) (ds gs : List (DataW H)) (before : List MemPlace)
    (hval : ∀ (j : Nat) t v, Tryd.f6.params[j]? = some t → args[j]? = some v → Value.okWide Tryd.prog W .any base t v)
    (hW : DataW.Whole enc Tryd.prog Tryd.f6.params.toList Rows.tableKeepsSpec.vars false W args.toList ds gs before)
    (hsz0 : (DataW.weightsEach Tryd.prog (Tryd.f6.params.toList ++ Rows.tableKeepsSpec.plain.varTypes Tryd.prog) (ds ++ gs)).all (· ≤ reachBytes) = true)
    (hL : laidMetH Tryd.prog Rows.tableKeepsRow.laid W) :
    Calls Tryd.prog 6 args W fun e W' => ∃ v, e = .returned v ∧ Rows.tableKeepsSpec.post enc Tryd.prog Tryd.f6 false true false false W args v W' := by
  have hv : Mv W := mv_of_laid6 hL
  clear hL
  have hW' := hW
  obtain ⟨p, q, hA0, hV, rfl, hfz, hnd⟩ := hW
  have hA : DataW.TrodAll enc Tryd.prog W 0 (fun _ => true) true Tryd.f6.params.toList args.toList ds p := hA0
  have hsz := hsz0
  rw [Tryd.params6] at hA hval hsz
  obtain ⟨v0, vs0, d0, ds0, p0, q0, hargs, rfl, rfl, h0, r0⟩ := trodAll_cons hA
  obtain ⟨v1, vs1, d1, ds1, p1, q1, rfl, rfl, rfl, h1, r1⟩ := trodAll_cons r0
  obtain ⟨rfl, rfl, rfl⟩ := trodAll_nil r1
  obtain rfl : args = #[v0, v1] := by cases args; simp_all
  obtain ⟨rfl, rfl⟩ := trodVars_none hV
  obtain ⟨a0, len0, cap0, rfl⟩ := okWide_slice Tryd.underlying22 (hval 0 22 v0 rfl rfl)
  have lt0 : ∀ x ∈ p0, x.block < W.heap.size := by obtain ⟨m, hm⟩ := h0; exact DataW.trod_lt m _ _ _ hm
  have lt1 : ∀ x ∈ p1, x.block < W.heap.size := by obtain ⟨m, hm⟩ := h1; exact DataW.trod_lt m _ _ _ hm
  obtain ⟨ps0, hr0, hn0, hi0, hb0⟩ := rd_props h0
  have b0 : ps0.length ≤ 140737488355328 := by
    rcases hb0 with h | ⟨E, S, rfl, h⟩
    · omega
    · have := sized_slice hsz (j := 0) (t := 22) (e := 51) rfl rfl Tryd.underlying22
      rw [bytes51] at this
      simp only [reachBytes] at this
      omega
  obtain ⟨a1, c1, n1, t1, p11, ns1, ts1, ps1, rfl, m1, k1⟩ := open_method h1
  have w1 := weights_le hsz (j := 1) (t := 36) rfl rfl
  have T := keeps_law W _ ps0 a1 c1 n1 t1 p11 ns1 ts1 ps1 hv hr0 (fun q hq => (hi0 q hq).fits) (by omega) (m1 w1) k1
  refine T.mono fun e W' ⟨he, bel⟩ => ?_
  subst he
  exact ⟨_, rfl, _, _, _, [], _, [], hW', trodAll_mk1 (shut_bool Tryd.underlying4 _), (trodAll_cons_mk (Below.trod laidOut (by kernel_rfl) (of_decide_eq_true (by kernel_rfl)) h0 bel lt0) (trodAll_cons_mk (Below.trod laidOut (by kernel_rfl) (of_decide_eq_true (by kernel_rfl)) h1 bel lt1) trodAll_mk0)), rfl, bel.frame _, fun h => by cases h⟩

theorem keeps_lifted (os : Os) (started : os.Started) (H : Type) (enc : TypeId × Value → H) :
    ReturnsInHanded {} Tryd.checked os 6 .any (fun w args => (Rows.tableKeepsSpec.pre enc Tryd.prog Tryd.f6 [] false w args ∧ laidMetH Tryd.prog Rows.tableKeepsRow.laid w) ∧ sizedMet enc Tryd.prog Tryd.f6 (OpenSpec.ofChange Rows.tableKeepsSpec) false w args)
      (Rows.tableKeepsSpec.post enc Tryd.prog Tryd.f6 false true false false) := by
  refine returnsInHanded_of_change_and (C := Tryd.checked) (X := fun w _ => laidMetH Tryd.prog Rows.tableKeepsRow.laid w) (fun _ _ _ hh h => h.of_heap hh) own started (by kernel_rfl) Tryd.func6
    (ChangeSpec.witness_shaped (enc := enc) (C := Tryd.checked) (os := os) (X := fun w _ => laidMetH Tryd.prog Rows.tableKeepsRow.laid w) false (World.laidAll Tryd.prog os Rows.tableKeepsRow.laid) #[.slice none 0 0, .agg #[.int .i64 0, .int .i64 0, .slice none 0 0, .slice none 0 0, .slice none 0 0]] 8 (World.laidAll_os _ _ _)
      (World.shaped_of_ZipB (by kernel_rfl) (by kernel_rfl)) (by kernel_rfl) (by kernel_rfl) (by kernel_rfl)
      (by rw [MakeChecks.laidMetH_plain _ _ _ (by kernel_rfl)]; exact laidMet_laidAll _ (by kernel_rfl) (by kernel_rfl))) ?_
  intro W base args ds gs before hval hW _ hsz hL _
  exact keeps_contract H enc W base args ds gs before hval hW hsz hL

theorem keeps_said : Rows.TableKeepsSaid :=
  OpenClaim.holds_of_wide 6 Tryd.f6 rfl rfl rfl rfl rfl rfl rfl ⟨rfl, rfl, rfl, rfl, rfl⟩ rfl rfl rfl rfl rfl (by kernel_rfl) Tryd.func6 (by kernel_rfl)
    (of_decide_eq_true (by kernel_rfl)) (by unfold Func.isWrapper; first | (rw [if_pos (by decide +kernel)]; kernel_rfl) | (rw [if_neg (by decide +kernel)]; exact ⟨rfl, rfl⟩))
    (fun os started H enc _ => keeps_lifted os started H enc)

theorem keeps_plain (f : FuncId) (fn : Func) (hf : Tryd.pinned.checked.prog.funcNamed "trivet/trivetlaw15.TableKeeps" = some f) (hfn : Tryd.pinned.checked.prog.funcs[f]? = some fn) :
    true = Tryd.pinned.checked.prog.looks [] ∧ ∀ (j : Nat) t, fn.params[j]? = some t → Tryd.pinned.checked.prog.wantsStandIn t = false := by
  obtain rfl : f = 6 := Option.some.inj ((show Tryd.prog.funcNamed "trivet/trivetlaw15.TableKeeps" = some 6 by kernel_rfl).symm.trans hf) |>.symm
  obtain rfl : fn = Tryd.f6 := (Option.some.inj (Tryd.func6.symm.trans hfn)).symm
  refine ⟨by kernel_rfl, fun j t ht => ?_⟩
  rw [Tryd.params6] at ht
  have hm : t ∈ [22, 36] := by simpa using Array.mem_of_getElem? ht
  have hall : ([22, 36].all fun u => !Tryd.prog.wantsStandIn u) = true := by kernel_rfl
  exact (show Tryd.prog.wantsStandIn t = false by simpa using List.all_eq_true.1 hall t hm)

theorem tableKeeps_card : Rows.TableKeepsCardSaid :=
  Claim7.holds_tied_plain_at .later [] _ _ _ _ keeps_said (fun _ h => by cases h) (by kernel_rfl) (fun _ h => by cases h) tableKeeps_row_tie rfl ⟨rfl, rfl⟩ (by kernel_rfl) rfl keeps_plain (by kernel_rfl)
#print axioms tableKeeps_card
end Go.Proofs.YtmaaacaifpgpaaaDoor
