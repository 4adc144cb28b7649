/- strings.SplitSeq at a dot: its iterator. Conditions: those that each row states. -/
import Derived.Test.YtcicnbbnkeellaaGreatDoorSq
namespace Go.Proofs.YtcicnbbnkeellaaGreatDoor
open Go.RowKit Go.Shelf
attribute [local go_sem] Oper.semAt_some

theorem SqC.next {l : List UInt8} {bp bs bv k : Nat} {W : World} (h : SqC l bp bs bv k W) (h1 : bs ≠ bp) : SqC l bp bs bv (k + 1) (W.setCell ⟨bs, 0, none⟩ (str (restL l (k + 1)))) := by
  have hv : bs ≠ bv := fun e => by
    have := h.s
    rw [e, h.v] at this
    injection this with this
    injection this with this
    injection this with this
    simp [str] at this
  refine ⟨?_, ?_, ?_⟩
  · simp only [World.setCell, Array.getElem?_modify, if_pos, h.s]
    simp
  · rw [RowKit.Below.heap_setCell _ _ _ _ (fun e => h1 e.symm)]
    exact h.p
  · rw [RowKit.Below.heap_setCell _ _ _ _ (fun e => hv e.symm)]
    exact h.v
theorem chg_cell {Z : Nat → Prop} {W : World} {b : Nat} (v : Value) (hb : Z b) : Chg Z W (W.setCell ⟨b, 0, none⟩ v) :=
  ⟨rfl, rfl, rfl, by simp, fun k hk => RowKit.Below.heap_setCell _ _ _ _ (fun e => hk (e ▸ hb))⟩
theorem ext_take (r : List UInt8) (i : Nat) : (⟨r.toArray⟩ : ByteArray).extract 0 i = ⟨(r.take i).toArray⟩ := by
  apply ByteArray.ext
  simp
theorem ext_drop (r : List UInt8) (i : Nat) : (⟨r.toArray⟩ : ByteArray).extract i r.length = ⟨(r.drop i).toArray⟩ := by
  apply ByteArray.ext
  simp
  rw [List.take_of_length_le (by simp)]
theorem rest_len (l : List UInt8) (k : Nat) : (restL l k).length ≤ l.length := by
  induction k with
  | zero => exact Nat.le_refl _
  | succ k ih => unfold restL; rw [List.length_drop]; omega
set_option maxRecDepth 100000 in
set_option maxHeartbeats 2000000 in
theorem split_iter (hix : IdxDot) (l : List UInt8) (bp bs bv : Nat) (h1 : bs ≠ bp) (hl : l.length ≤ 9223372036854775807) :
    Iter Tryz.prog 77 #[.pointer (some ⟨bp, 0, none⟩), .pointer (some ⟨bs, 0, none⟩), .pointer (some ⟨bv, 0, none⟩)] (fun k => #[str ((wordsL l).getD k [])]) (wordsL l).length (fun b => b = bs) (SqC l bp bs bv) := by
  intro lo J Y W hJ hY h0 hc0
  refine callsIn_wide (n := 2).1 ?_
  have c1 : W.cell? ⟨bp, 0, none⟩ = some (.string ⟨#[46]⟩) := (cell_1 hc0.p).1
  refine callsIn_of_wp Tryz.func77 rfl trivial ?_ rfl
  simp only [Tryz.ntmps77, List.size_toArray, List.length_cons, List.length_nil, Nat.reduceAdd, Nat.reduceSub, Array.replicate_succ, Array.replicate_zero, List.push_toArray, List.append_toArray, List.nil_append, List.cons_append]
  gi_wp2
  gi_loopw [7] (fun _ wr => ∃ k : Nat, k < (wordsL l).length ∧ J k wr ∧ SqC l bp bs bv k wr) (fun _ wr => txtLen wr bs)
  case atStart => exact ⟨0, List.length_pos_iff.2 (wordsL_ne l), h0, hc0⟩
  case round =>
    obtain ⟨k, hk, hJk, hck⟩ := hrel
    have d1 : wr.cell? ⟨bp, 0, none⟩ = some (.string ⟨#[46]⟩) := (cell_1 hck.p).1
    have d2 : wr.cell? ⟨bs, 0, none⟩ = some (.string ⟨(restL l k).toArray⟩) := (cell_1 hck.s).1
    have d3 := (cell_1 hck.v).1
    have hi := hix (restL l k) wr
    simp only [str] at hi
    have hrw := rest_words l k hk
    rcases dot_cases (restL l k) with ⟨h2, h3⟩ | ⟨i, h2, h3, h4⟩
    · rw [h2] at hi
      rw [h3] at hrw
      have hkn : k + 1 = (wordsL l).length := by
        have := congrArg List.length hrw
        simp at this
        omega
      obtain ⟨fn, tmps, assign, body, hy, hR⟩ := hY k wr hk hJk hck
      have hgd : (wordsL l).getD k [] = restL l k := by
        rw [List.getD_eq_getElem?_getD, List.getElem?_eq_getElem hk]
        have := congrArg (fun x => x[0]?) hrw
        simp [hk] at this
        simp [this]
      rw [hgd] at hy
      simp only [str] at hy
      gi_wp2_with (refine ⟨trivial, ?_⟩; gi_at_call 79; refine (callsIn_wide.2 hi).mono ?_; rintro e w1 ⟨rfl, rfl⟩)
      refine hR.mono ?_
      rintro e W3 (⟨rfl, hJ3, _⟩ | ⟨rfl, hY3⟩)
      · gi_wp2
        go_end0
        exact ⟨rfl, .inl (by rw [← hkn]; exact hJ3)⟩
      · gi_wp2
        go_end0
        exact ⟨rfl, .inr hY3⟩
    · rw [h2] at hi
      rw [h4] at hrw
      obtain ⟨fn, tmps, assign, body, hy, hR⟩ := hY k wr hk hJk hck
      have hgd : (wordsL l).getD k [] = (restL l k).take i := by
        rw [List.getD_eq_getElem?_getD, List.getElem?_eq_getElem hk]
        have := congrArg (fun x => x[0]?) hrw
        simp [hk] at this
        simp [this]
      have hkn : k + 1 < (wordsL l).length := by
        have := congrArg List.length hrw
        have h9 := List.length_pos_iff.2 (wordsL_ne ((restL l k).drop (i + 1)))
        simp at this
        omega
      have hrs : restL l (k + 1) = (restL l k).drop (i + 1) := by
        show (restL l k).drop ((dotAt (restL l k)).toNat + 1) = _
        rw [h2]
        rfl
      rw [hgd] at hy
      simp only [str] at hy
      have hlen : Hid (txtLen wr bs = (restL l k).length) := by
        show txtLen wr bs = _
        unfold txtLen
        rw [d2]
        simp [ByteArray.size]
      have HR : Hid _ := hrs
      have hi2 : (i : Int) ≤ ((restL l k).length : Int) := by omega
      have hi3 : (i : Int) + 1 ≤ ((restL l k).length : Int) := by omega
      have hi4 : (i : Int) ≤ 9223372036854775806 := by have := rest_len l k; omega
      have hi5 : ¬ ((i : Int) < 0) := by omega
      rw [← ext_take] at hy
      clear hrs hgd hrw h4 h2
      obtain ⟨r, hr⟩ : ∃ r, restL l k = r := ⟨_, rfl⟩
      have HE : Hid (restL l k = r) := hr
      rw [hr] at d2 hi hy HR hlen hi2 hi3
      clear hr
      gi_wp2_with (refine ⟨trivial, ?_⟩; gi_at_call 79; refine (callsIn_wide.2 hi).mono ?_; rintro e w1 ⟨rfl, rfl⟩)
      refine hR.mono ?_
      rintro e W3 (⟨rfl, hJ3, hc3⟩ | ⟨rfl, hY3⟩)
      · have e1 : W3.cell? ⟨bp, 0, none⟩ = some (.string ⟨#[46]⟩) := (cell_1 hc3.p).1
        have e2 : W3.cell? ⟨bs, 0, none⟩ = some (.string ⟨r.toArray⟩) := by rw [(cell_1 hc3.s).1, HE.out]; rfl
        have f2 := (cell_1 hc3.s).2
        gi_wp2
        have ev : Value.string ((⟨r.toArray⟩ : ByteArray).extract (i + 1) r.length) = str (restL l (k + 1)) := by rw [ext_drop, HR.out]; rfl
        rw [ev]
        go_roundw
        case rel => exact ⟨k + 1, hkn, hJ _ _ _ hJ3 (chg_cell _ rfl), hc3.next h1⟩
        case measure =>
          rw [hlen.out]
          have e9 : (W3.setCell ⟨bs, 0, none⟩ (str (restL l (k + 1)))).cell? ⟨bs, 0, none⟩ = some (str (restL l (k + 1))) := (cell_1 (hc3.next h1).s).1
          unfold txtLen
          rw [e9]
          simp only [str, ByteArray.size, HR.out]
          simp
          omega
      · gi_wp2
        refine bodyPost_ret (results_none rfl _ _ _) rfl ?_
        exact ⟨rfl, .inr hY3⟩
end Go.Proofs.YtcicnbbnkeellaaGreatDoor
