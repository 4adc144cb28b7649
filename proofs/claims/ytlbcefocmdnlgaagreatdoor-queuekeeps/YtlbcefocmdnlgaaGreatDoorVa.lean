/- The document's way of putting back, and of settling, as lists. -/
import Derived.Test.YtlbcefocmdnlgaaGreatDoorRl
namespace Go.Proofs.YtlbcefocmdnlgaaGreatDoor
open Go.RowKit Go.Lib

def bkS (x : Itm) (s : List Itm × Bool) (y : Itm) : List Itm × Bool :=
  if !s.2 && decide (x.seq < y.seq) then (s.1 ++ [{ x with again := true }] ++ [y], true) else (s.1 ++ [y], s.2)
def bkF (x : Itm) (s : List Itm × Bool) : List Itm := if s.2 then s.1 else s.1 ++ [{ x with again := true }]
theorem bk_true (x : Itm) : ∀ (l o : List Itm), l.foldl (bkS x) (o, true) = (o ++ l, true)
  | [], o => by simp
  | y :: l, o => by
    rw [List.foldl_cons]
    have e : bkS x (o, true) y = (o ++ [y], true) := by simp [bkS]
    rw [e, bk_true x l]
    simp
theorem bk_all (x : Itm) : ∀ (l o : List Itm), x.seq ∉ l.map (·.seq) → bkF x (l.foldl (bkS x) (o, false)) = o ++ putB l x
  | [], o, _ => by simp [bkF, putB]
  | y :: l, o, h => by
    rw [List.foldl_cons]
    by_cases hy : x.seq < y.seq
    · have e : bkS x (o, false) y = (o ++ [{ x with again := true }] ++ [y], true) := by simp [bkS, hy]
      rw [e, bk_true]
      have h2 : ¬ y.seq < x.seq := by omega
      simp [bkF, putB, h2]
    · have h1 : x.seq ≠ y.seq := fun e => h (by simp [e])
      have h2 : y.seq < x.seq := by omega
      have e : bkS x (o, false) y = (o ++ [y], false) := by simp [bkS, hy]
      rw [e, bk_all x l (o ++ [y]) (fun hm => h (by simp at hm ⊢; exact .inr hm))]
      simp [putB, h2]
theorem bk_snoc (x : Itm) (l : List Itm) (k : Nat) (h : k < l.length) : (l.take (k + 1)).foldl (bkS x) ([], false) = bkS x ((l.take k).foldl (bkS x) ([], false)) l[k] := by
  rw [List.take_succ_eq_append_getElem h, List.foldl_append]
  rfl
theorem bk_len (x : Itm) : ∀ (l : List Itm) (s : List Itm × Bool), (l.foldl (bkS x) s).1.length ≤ s.1.length + 2 * l.length
  | [], s => by simp
  | y :: l, s => by
    rw [List.foldl_cons]
    have := bk_len x l (bkS x s y)
    have h : (bkS x s y).1.length ≤ s.1.length + 2 := by
      unfold bkS
      split <;> simp
    simp
    omega

/-- What is not meant stays. -/
theorem back_out {q : Que} (h : GoodP q) (p : Hld → Bool) (k : Nat) (hk : k < q.held.length) : q.held[k].itm.seq ∉ (backs q.items ((q.held.take k).filter p)).map (·.seq) := fun hm => by
  have hs : ((q.held.take k).filter p ++ [q.held[k]]).Sublist q.held := by
    have h1 : (q.held.take (k + 1)).Sublist q.held := List.take_sublist _ _
    rw [List.take_succ_eq_append_getElem hk] at h1
    exact (List.filter_sublist.append (List.Sublist.refl _)).trans h1
  have hn : (q.items.map (·.seq) ++ ((q.held.take k).filter p ++ [q.held[k]]).map (·.itm.seq)).Nodup := h.nd.sublist ((List.Sublist.refl _).append (hs.map _))
  rw [List.map_append, ← List.append_assoc] at hn
  obtain ⟨h1, h2, _⟩ := backs_facts ((q.held.take k).filter p) q.items h.ri (List.nodup_append.1 hn).1
  have := h2.mem_iff.1 hm
  exact (List.nodup_append.1 hn).2.2 _ this _ (by simp) rfl
theorem backs_size {q : Que} (h : GoodP q) (p : Hld → Bool) (k : Nat) : (backs q.items ((q.held.take k).filter p)).length ≤ lenQ q := by
  have hs : ((q.held.take k).filter p).Sublist q.held := List.filter_sublist.trans (List.take_sublist _ _)
  have hn : (q.items.map (·.seq) ++ ((q.held.take k).filter p).map (·.itm.seq)).Nodup := h.nd.sublist ((List.Sublist.refl _).append (hs.map _))
  obtain ⟨_, h2, _⟩ := backs_facts _ q.items h.ri hn
  have e := h2.length_eq
  have e2 := hs.length_le
  simp at e
  unfold lenQ
  omega
/-- One tag is held once. -/
theorem held_once (conn tag : Int) : ∀ (l : List Hld), RisesT l →
    (l.findIdx (isH conn tag) < l.length → l.filter (isH conn tag) = [l.getD (l.findIdx (isH conn tag)) zeroH] ∧ l.filter (fun h => !isH conn tag h) = l.eraseIdx (l.findIdx (isH conn tag)))
    ∧ (¬ l.findIdx (isH conn tag) < l.length → l.filter (isH conn tag) = [])
  | [], _ => by simp
  | x :: l, h => by
    have hr : ∀ y ∈ l, x.tag < y.tag := (List.pairwise_cons.1 h).1
    have ih := held_once conn tag l (List.pairwise_cons.1 h).2
    cases hx : isH conn tag x with
    | true =>
      have ht : x.tag = tag := by
        simp only [isH, Bool.and_eq_true, decide_eq_true_eq] at hx
        exact hx.2
      have hno : ∀ y ∈ l, isH conn tag y = false := fun y hy => by
        have := hr y hy
        simp only [isH, Bool.and_eq_false_iff, decide_eq_false_iff_not]
        right
        omega
      have e1 : l.filter (isH conn tag) = [] := List.filter_eq_nil_iff.2 fun y hy => by simp [hno y hy]
      have e2 : l.filter (fun h => !isH conn tag h) = l := List.filter_eq_self.2 fun y hy => by simp [hno y hy]
      refine ⟨fun _ => ?_, fun h1 => ?_⟩
      · simp [List.findIdx_cons, hx, e1, e2]
      · simp [List.findIdx_cons, hx] at h1
    | false =>
      refine ⟨fun h1 => ?_, fun h1 => ?_⟩
      · have h2 : l.findIdx (isH conn tag) < l.length := by rw [List.findIdx_cons, hx] at h1; simpa using h1
        obtain ⟨e1, e2⟩ := ih.1 h2
        simp [List.findIdx_cons, hx, e1, e2]
      · have h2 : ¬ l.findIdx (isH conn tag) < l.length := by rw [List.findIdx_cons, hx] at h1; simpa using h1
        simp [hx, ih.2 h2]
end Go.Proofs.YtlbcefocmdnlgaaGreatDoor
