/- What the calls of package queue lead to: a queue that can be to one that can be. -/
import Derived.Test.YtlbcefocmdnlgaaGreatDoorPb2
namespace Go.Proofs.YtlbcefocmdnlgaaGreatDoor
open Go.RowKit Go.Lib

theorem itmsB_parts (s : Int) : ∀ (l : List Itm) (a : Int), itmsB s a l = true ↔ Rises l ∧ ∀ x ∈ l, a < x.seq ∧ itmB s x = true
  | [], a => by simp [itmsB, Rises]
  | x :: l, a => by
    simp only [itmsB, Bool.and_eq_true, decide_eq_true_eq, itmsB_parts s l x.seq, Rises, List.pairwise_cons, List.mem_cons]
    constructor
    · rintro ⟨⟨h1, h2⟩, h3, h4⟩
      refine ⟨⟨fun y hy => (h4 y hy).1, h3⟩, ?_⟩
      rintro y (rfl | hy)
      · exact ⟨h1, h2⟩
      · have := h4 y hy
        exact ⟨by omega, this.2⟩
    · rintro ⟨⟨h1, h2⟩, h3⟩
      exact ⟨h3 x (.inl rfl), h2, fun y hy => ⟨h1 y hy, (h3 y (.inr hy)).2⟩⟩
def RisesT (l : List Hld) : Prop := l.Pairwise (fun a b => a.tag < b.tag)
theorem hldsB_parts (s t : Int) : ∀ (l : List Hld) (a : Int), hldsB s t a l = true ↔ RisesT l ∧ ∀ x ∈ l, a < x.tag ∧ hldB s t x = true
  | [], a => by simp [hldsB, RisesT]
  | x :: l, a => by
    simp only [hldsB, Bool.and_eq_true, decide_eq_true_eq, hldsB_parts s t l x.tag, RisesT, List.pairwise_cons, List.mem_cons]
    constructor
    · rintro ⟨⟨h1, h2⟩, h3, h4⟩
      refine ⟨⟨fun y hy => (h4 y hy).1, h3⟩, ?_⟩
      rintro y (rfl | hy)
      · exact ⟨h1, h2⟩
      · have := h4 y hy
        exact ⟨by omega, this.2⟩
    · rintro ⟨⟨h1, h2⟩, h3⟩
      exact ⟨h3 x (.inl rfl), h2, fun y hy => ⟨h1 y hy, (h3 y (.inr hy)).2⟩⟩
theorem itmB_one {s : Int} {x : Itm} (h : itmB s x = true) : 0 < x.seq := by
  simp only [itmB, givB, Bool.and_eq_true, decide_eq_true_eq] at h
  omega
theorem hldB_one {s t : Int} {x : Hld} (h : hldB s t x = true) : 0 < x.tag := by
  simp only [hldB, givB, Bool.and_eq_true, decide_eq_true_eq] at h
  omega
/-- A queue that can be. -/
structure GoodP (q : Que) : Prop where
  name : nameL q.name = true
  dep : depB q.depth = true
  seq : numB q.seq = true
  tag : numB q.tag = true
  len : (lenQ q : Int) ≤ q.depth
  ri : Rises q.items
  it : ∀ x ∈ q.items, itmB q.seq x = true
  rt : RisesT q.held
  ht : ∀ h ∈ q.held, hldB q.seq q.tag h = true
  nd : (seqs q).Nodup
theorem goodQ_iff (q : Que) : goodQ q = true ↔ GoodP q := by
  simp only [goodQ, Bool.and_eq_true, decide_eq_true_eq, itmsB_parts, hldsB_parts]
  constructor
  · rintro ⟨⟨⟨⟨⟨⟨⟨h1, h2⟩, h3⟩, h4⟩, h5⟩, h6⟩, h7⟩, h8⟩
    exact ⟨h1, h2, h3, h4, h5, h6.1, fun x hx => (h6.2 x hx).2, h7.1, fun x hx => (h7.2 x hx).2, h8⟩
  · rintro ⟨h1, h2, h3, h4, h5, h6, h7, h8, h9, h10⟩
    exact ⟨⟨⟨⟨⟨⟨⟨h1, h2⟩, h3⟩, h4⟩, h5⟩, h6, fun x hx => ⟨itmB_one (h7 x hx), h7 x hx⟩⟩, h8, fun x hx => ⟨hldB_one (h9 x hx), h9 x hx⟩⟩, h10⟩

theorem putB_perm (l : List Itm) (x : Itm) : (putB l x).Perm ({ x with again := true } :: l) := by
  unfold putB
  refine List.perm_middle.trans ?_
  rw [List.takeWhile_append_dropWhile]
theorem putB_mem {l : List Itm} {x y : Itm} : y ∈ putB l x ↔ y = { x with again := true } ∨ y ∈ l := by
  rw [(putB_perm l x).mem_iff, List.mem_cons]
theorem tw_all {α : Type} (p : α → Bool) : ∀ (l : List α) (y : α), y ∈ l.takeWhile p → p y = true
  | [], _, h => by simp at h
  | x :: l, y, h => by
    cases e : p x with
    | true =>
      rw [List.takeWhile_cons_of_pos e] at h
      rcases List.mem_cons.1 h with rfl | h
      · exact e
      · exact tw_all p l y h
    | false =>
      rw [List.takeWhile_cons_of_neg (by simp [e])] at h
      cases h
theorem putB_rises {l : List Itm} {x : Itm} (h : Rises l) (hx : x.seq ∉ l.map (·.seq)) : Rises (putB l x) := by
  unfold putB Rises
  have e := List.takeWhile_append_dropWhile (p := fun y : Itm => decide (y.seq < x.seq)) (l := l)
  have h2 : Rises (l.takeWhile (fun y => decide (y.seq < x.seq)) ++ l.dropWhile (fun y => decide (y.seq < x.seq))) := by rw [e]; exact h
  have ha : ∀ y ∈ l.takeWhile (fun y => decide (y.seq < x.seq)), y.seq < x.seq := fun y hy => by
    have := tw_all _ l y hy
    simpa using this
  have hb : ∀ y ∈ l.dropWhile (fun y => decide (y.seq < x.seq)), x.seq < y.seq := by
    have hr := (List.pairwise_append.1 h2).2.1
    have hm : ∀ y ∈ l.dropWhile (fun y => decide (y.seq < x.seq)), y.seq ≠ x.seq := fun y hy e' => hx (by
      rw [← e']
      exact List.mem_map_of_mem ((List.dropWhile_sublist _).mem hy))
    have hd : ∀ y, (l.dropWhile (fun y => decide (y.seq < x.seq))).head? = some y → ¬ y.seq < x.seq := fun y hy => by
      have := List.head?_dropWhile_not (fun y : Itm => decide (y.seq < x.seq)) l
      rw [hy] at this
      simpa using this
    cases hdw : l.dropWhile (fun y => decide (y.seq < x.seq)) with
    | nil => intro y hy; cases hy
    | cons z r =>
      rw [hdw] at hr hm hd
      have hz1 := hd z rfl
      have hz2 := hm z (List.mem_cons_self ..)
      intro y hy
      rcases List.mem_cons.1 hy with rfl | hy
      · omega
      · have := (List.pairwise_cons.1 hr).1 y hy
        omega
  refine List.pairwise_append.2 ⟨(List.pairwise_append.1 h2).1, List.pairwise_cons.2 ⟨fun y hy => hb y hy, (List.pairwise_append.1 h2).2.1⟩, ?_⟩
  intro y hy z hz
  rcases List.mem_cons.1 hz with rfl | hz
  · exact ha y hy
  · have := ha y hy
    have := hb z hz
    omega
theorem putB_seqs (l : List Itm) (x : Itm) : ((putB l x).map (·.seq)).Perm (x.seq :: l.map (·.seq)) := (putB_perm l x).map _

/-- Held ones put back one after another. -/
theorem backs_facts : ∀ (hs : List Hld) (l : List Itm), Rises l → (l.map (·.seq) ++ hs.map (·.itm.seq)).Nodup →
    Rises (backs l hs) ∧ ((backs l hs).map (·.seq)).Perm (l.map (·.seq) ++ hs.map (·.itm.seq)) ∧ ∀ y, y ∈ backs l hs → y ∈ l ∨ ∃ h ∈ hs, y = { h.itm with again := true }
  | [], l, h, _ => ⟨h, by simp [backs], fun y hy => .inl hy⟩
  | x :: hs, l, h, hn => by
    have hx : x.itm.seq ∉ l.map (·.seq) := fun hm => by
      rw [List.nodup_append] at hn
      exact hn.2.2 _ hm _ (by simp) rfl
    have hp := putB_seqs l x.itm
    have hn2 : ((putB l x.itm).map (·.seq) ++ hs.map (·.itm.seq)).Nodup := by
      refine (List.Perm.nodup_iff ?_).2 hn
      refine (hp.append_right _).trans ?_
      simp only [List.map_cons]
      exact List.perm_middle.symm
    obtain ⟨h1, h2, h3⟩ := backs_facts hs (putB l x.itm) (putB_rises h hx) hn2
    refine ⟨h1, ?_, fun y hy => ?_⟩
    · refine h2.trans ((hp.append_right _).trans ?_)
      simp only [List.map_cons]
      exact List.perm_middle.symm
    · rcases h3 y hy with h4 | ⟨z, hz, e⟩
      · rcases putB_mem.1 h4 with rfl | h4
        · exact .inr ⟨x, by simp, rfl⟩
        · exact .inl h4
      · exact .inr ⟨z, by simp [hz], e⟩
theorem itmB_again {s : Int} {x : Itm} (h : itmB s x = true) : itmB s { x with again := true } = true := h
theorem itmB_up {s s' : Int} {x : Itm} (h : itmB s x = true) (hs : s ≤ s') : itmB s' x = true := by
  simp only [itmB, givB, Bool.and_eq_true, decide_eq_true_eq] at h ⊢
  exact ⟨⟨h.1.1, by omega⟩, h.2⟩
theorem hldB_itm {s t : Int} {x : Hld} (h : hldB s t x = true) : itmB s x.itm = true := by
  simp only [hldB, Bool.and_eq_true] at h
  exact h.2
theorem hldB_up {s t s' t' : Int} {x : Hld} (h : hldB s t x = true) (hs : s ≤ s') (ht : t ≤ t') : hldB s' t' x = true := by
  simp only [hldB, givB, Bool.and_eq_true, decide_eq_true_eq] at h ⊢
  exact ⟨⟨⟨⟨h.1.1.1.1, by omega⟩, h.1.1.2⟩, h.1.2⟩, itmB_up h.2 hs⟩

theorem good_push {q : Que} {m : Msg} (h : GoodP q) (hc : pushC q m = 0) : GoodP (pushQ q m) := by
  have hg := (goodQ_iff q).2 h
  have hd := h.len
  have hs := h.seq
  simp only [numB, Bool.and_eq_true, decide_eq_true_eq] at hs
  simp only [pushC, hg, Bool.not_true, Bool.false_or, decide_eq_true_eq] at hc
  split at hc
  · cases hc
  · rename_i h1
    split at hc
    · cases hc
    · rename_i h2
      split at hc
      · cases hc
      · rename_i h3
        have hm : msgB m = true := by simpa using h2
        have hlow : ∀ x ∈ q.items, x.seq ≤ q.seq := fun x hx => by have := h.it x hx; simp only [itmB, givB, Bool.and_eq_true, decide_eq_true_eq] at this; exact this.1.2
        have hlow2 : ∀ x ∈ q.held, x.itm.seq ≤ q.seq := fun x hx => by have := hldB_itm (h.ht x hx); simp only [itmB, givB, Bool.and_eq_true, decide_eq_true_eq] at this; exact this.1.2
        refine ⟨h.name, h.dep, ?_, h.tag, ?_, ?_, ?_, h.rt, ?_, ?_⟩
        · show numB (q.seq + 1) = true
          simp only [numB, Bool.and_eq_true, decide_eq_true_eq]
          omega
        · show ((lenQ (pushQ q m) : Nat) : Int) ≤ q.depth
          have : lenQ (pushQ q m) = lenQ q + 1 := by simp [lenQ, pushQ]; omega
          omega
        · refine List.pairwise_append.2 ⟨h.ri, by simp, fun a ha b hb => ?_⟩
          simp at hb
          subst hb
          have := hlow a ha
          show a.seq < q.seq + 1
          omega
        · intro x hx
          rcases List.mem_append.1 hx with hx | hx
          · exact itmB_up (h.it x hx) (by show q.seq ≤ q.seq + 1; omega)
          · simp at hx
            subst hx
            show itmB (q.seq + 1) ⟨q.seq + 1, false, m⟩ = true
            simp only [itmB, givB, Bool.and_eq_true, decide_eq_true_eq]
            exact ⟨by omega, hm⟩
        · intro x hx
          exact hldB_up (h.ht x hx) (by show q.seq ≤ q.seq + 1; omega) (Int.le_refl _)
        · have hp : (seqs (pushQ q m)).Perm ((q.seq + 1) :: seqs q) := by
            show ((q.items ++ [(⟨q.seq + 1, false, m⟩ : Itm)]).map (·.seq) ++ q.held.map (·.itm.seq)).Perm _
            rw [List.map_append, List.append_assoc]
            exact List.perm_middle
          refine hp.nodup_iff.2 (List.nodup_cons.2 ⟨fun hm' => ?_, h.nd⟩)
          rcases List.mem_append.1 hm' with hm' | hm'
          · obtain ⟨x, hx, e⟩ := List.mem_map.1 hm'
            have := hlow x hx
            omega
          · obtain ⟨x, hx, e⟩ := List.mem_map.1 hm'
            have := hlow2 x hx
            omega
theorem good_expire {q : Que} (h : GoodP q) (now : Int) : GoodP (expireQ q now) := by
  have hsub : (expireQ q now).items.Sublist q.items := List.filter_sublist
  refine ⟨h.name, h.dep, h.seq, h.tag, ?_, h.ri.sublist hsub, fun x hx => h.it x (hsub.mem hx), h.rt, h.ht, ?_⟩
  · have h1 := hsub.length_le
    have h2 := h.len
    show ((lenQ (expireQ q now) : Nat) : Int) ≤ q.depth
    have : lenQ (expireQ q now) ≤ lenQ q := by unfold lenQ; exact Nat.add_le_add_right h1 _
    omega
  · exact h.nd.sublist ((hsub.map _).append (List.Sublist.refl _))
theorem good_release {q : Que} (h : GoodP q) (conn sub : Int) : GoodP (releaseQ q conn sub) := by
  have hnd := h.nd
  have hpf : (q.held.filter (isR conn sub) ++ q.held.filter (fun h => !isR conn sub h)).Perm q.held := List.filter_append_perm (isR conn sub) q.held
  have hsp : (q.items.map (·.seq) ++ (q.held.filter (isR conn sub)).map (·.itm.seq) ++ (q.held.filter (fun h => !isR conn sub h)).map (·.itm.seq)).Perm (seqs q) := by
    rw [List.append_assoc, ← List.map_append]
    exact (hpf.map _).append_left _
  have hn1 : (q.items.map (·.seq) ++ (q.held.filter (isR conn sub)).map (·.itm.seq)).Nodup := (List.nodup_append.1 (hsp.nodup_iff.2 hnd)).1
  obtain ⟨h1, h2, h3⟩ := backs_facts (q.held.filter (isR conn sub)) q.items h.ri hn1
  have hsq : (seqs (releaseQ q conn sub)).Perm (seqs q) := by
    show ((backs q.items (q.held.filter (isR conn sub))).map (·.seq) ++ (q.held.filter (fun h => !isR conn sub h)).map (·.itm.seq)).Perm _
    exact (h2.append_right _).trans hsp
  refine ⟨h.name, h.dep, h.seq, h.tag, ?_, h1, fun y hy => ?_, h.rt.sublist List.filter_sublist, fun x hx => h.ht x (List.mem_filter.1 hx).1, hsq.nodup_iff.2 hnd⟩
  · have e1 : lenQ (releaseQ q conn sub) = (seqs (releaseQ q conn sub)).length := by simp [lenQ, seqs]
    have e2 : lenQ q = (seqs q).length := by simp [lenQ, seqs]
    show ((lenQ (releaseQ q conn sub) : Nat) : Int) ≤ q.depth
    rw [e1, hsq.length_eq, ← e2]
    exact h.len
  · rcases h3 y hy with hy | ⟨x, hx, rfl⟩
    · exact h.it y hy
    · exact itmB_again (hldB_itm (h.ht x (List.mem_filter.1 hx).1))
theorem takeC_zero {q : Que} {conn sub : Int} (hc : takeC q conn sub = 0) : goodQ q = true ∧ conB conn = true ∧ numB sub = true ∧ q.tag ≠ 1099511627776 ∧ q.items.length ≠ 0 := by
  unfold takeC at hc
  split at hc
  · cases hc
  · rename_i h1
    split at hc
    · cases hc
    · rename_i h2
      simp only [Bool.or_eq_true, Bool.not_eq_true', decide_eq_true_eq, not_or, Bool.not_eq_false] at h1
      exact ⟨h1.1, h1.2.1, h1.2.2.1, h1.2.2.2, h2⟩
theorem good_take {q : Que} {conn sub : Int} (h : GoodP q) (hc : takeC q conn sub = 0) (hold : Bool) : GoodP (takeQ q conn sub hold) := by
  obtain ⟨_, h1, h2, h3, h4⟩ := takeC_zero hc
  have htg := h.tag
  simp only [numB, Bool.and_eq_true, decide_eq_true_eq] at htg
  obtain ⟨x, r, hxr⟩ : ∃ x r, q.items = x :: r := by
    cases e : q.items with
    | nil => rw [e] at h4; exact absurd rfl h4
    | cons x r => exact ⟨x, r, rfl⟩
  have hri := h.ri
  have hit := h.it
  have hlen := h.len
  have hnd := h.nd
  unfold seqs at hnd
  unfold lenQ at hlen
  rw [hxr] at hri hit hlen hnd
  simp only [List.map_cons, List.cons_append, List.length_cons] at hnd hlen
  cases hold with
  | false =>
    have e : takeQ q conn sub false = { q with items := r } := by simp [takeQ, hxr]
    rw [e]
    refine ⟨h.name, h.dep, h.seq, h.tag, ?_, (List.pairwise_cons.1 hri).2, fun y hy => hit y (List.mem_cons_of_mem _ hy), h.rt, h.ht, (List.nodup_cons.1 hnd).2⟩
    show ((r.length + q.held.length : Nat) : Int) ≤ q.depth
    omega
  | true =>
    have e : takeQ q conn sub true = { q with tag := q.tag + 1, items := r, held := q.held ++ [⟨q.tag + 1, conn, sub, x⟩] } := by simp [takeQ, hxr]
    rw [e]
    have hlow : ∀ y ∈ q.held, y.tag ≤ q.tag := fun y hy => by have := h.ht y hy; simp only [hldB, givB, Bool.and_eq_true, decide_eq_true_eq] at this; exact this.1.1.1.2
    refine ⟨h.name, h.dep, h.seq, ?_, ?_, (List.pairwise_cons.1 hri).2, fun y hy => hit y (List.mem_cons_of_mem _ hy), ?_, ?_, ?_⟩
    · show numB (q.tag + 1) = true
      simp only [numB, Bool.and_eq_true, decide_eq_true_eq]
      omega
    · show ((r.length + (q.held ++ [(⟨q.tag + 1, conn, sub, x⟩ : Hld)]).length : Nat) : Int) ≤ q.depth
      simp
      omega
    · refine List.pairwise_append.2 ⟨h.rt, by simp, fun a ha b hb => ?_⟩
      simp at hb
      subst hb
      have := hlow a ha
      show a.tag < q.tag + 1
      omega
    · intro y hy
      rcases List.mem_append.1 hy with hy | hy
      · exact hldB_up (h.ht y hy) (Int.le_refl _) (by show q.tag ≤ q.tag + 1; omega)
      · simp at hy
        subst hy
        show hldB q.seq (q.tag + 1) ⟨q.tag + 1, conn, sub, x⟩ = true
        simp only [hldB, givB, Bool.and_eq_true, decide_eq_true_eq]
        exact ⟨⟨⟨by omega, h1⟩, h2⟩, hit x (by simp)⟩
    · show (r.map (·.seq) ++ (q.held ++ [(⟨q.tag + 1, conn, sub, x⟩ : Hld)]).map (·.itm.seq)).Nodup
      refine (List.Perm.nodup_iff ?_).2 hnd
      rw [List.map_append, ← List.append_assoc]
      exact List.perm_append_singleton _ _
theorem erase_perm {α : Type} : ∀ (l : List α) (K : Nat) (h : K < l.length), (l[K] :: l.eraseIdx K).Perm l
  | x :: l, 0, _ => by simp
  | x :: l, K + 1, h => by
    simp only [List.getElem_cons_succ, List.eraseIdx_cons_succ]
    exact (List.Perm.swap _ _ _).trans ((erase_perm l K (by simpa using h)).cons x)
theorem settleC_zero {q : Que} {conn tag : Int} (hc : settleC q conn tag = 0) : goodQ q = true ∧ q.held.findIdx (isH conn tag) < q.held.length := by
  unfold settleC at hc
  split at hc
  · cases hc
  · rename_i h1
    split at hc
    · rename_i h2
      exact ⟨by simpa using h1, h2⟩
    · cases hc
theorem good_settle {q : Que} {conn tag : Int} (h : GoodP q) (hc : settleC q conn tag = 0) (again : Bool) : GoodP (settleQ q conn tag again) := by
  obtain ⟨_, hK⟩ := settleC_zero hc
  unfold settleQ
  generalize q.held.findIdx (isH conn tag) = K at *
  have eg : q.held.getD K zeroH = q.held[K] := by simp [List.getD, hK]
  rw [eg]
  have hsub := List.eraseIdx_sublist q.held K
  have hpm : (q.held[K] :: q.held.eraseIdx K).Perm q.held := erase_perm q.held K hK
  have hmem : q.held[K] ∈ q.held := List.getElem_mem hK
  have hlenE : (q.held.eraseIdx K).length + 1 = q.held.length := by have := hpm.length_eq; simpa using this
  have hnd : ((q.items.map (·.seq) ++ [q.held[K].itm.seq]) ++ (q.held.eraseIdx K).map (·.itm.seq)).Nodup := by
    refine (List.Perm.nodup_iff ?_).2 h.nd
    rw [List.append_assoc]
    exact ((hpm.map (fun h : Hld => h.itm.seq)).append_left (q.items.map (·.seq)))
  have hlen := h.len
  unfold lenQ at hlen
  cases again with
  | false =>
    refine ⟨h.name, h.dep, h.seq, h.tag, ?_, h.ri, h.it, h.rt.sublist hsub, fun x hx => h.ht x (hsub.mem hx), ?_⟩
    · show ((q.items.length + (q.held.eraseIdx K).length : Nat) : Int) ≤ q.depth
      omega
    · exact h.nd.sublist ((List.Sublist.refl _).append (hsub.map _))
  | true =>
    have hx : q.held[K].itm.seq ∉ q.items.map (·.seq) := fun hm => by
      have := (List.nodup_append.1 (List.nodup_append.1 hnd).1).2.2
      exact this _ hm _ (by simp) rfl
    refine ⟨h.name, h.dep, h.seq, h.tag, ?_, putB_rises h.ri hx, fun y hy => ?_, h.rt.sublist hsub, fun x hx => h.ht x (hsub.mem hx), ?_⟩
    · show (((putB q.items q.held[K].itm).length + (q.held.eraseIdx K).length : Nat) : Int) ≤ q.depth
      have := (putB_perm q.items q.held[K].itm).length_eq
      simp at this
      omega
    · rcases putB_mem.1 hy with rfl | hy
      · exact itmB_again (hldB_itm (h.ht _ hmem))
      · exact h.it y hy
    · show ((putB q.items q.held[K].itm).map (·.seq) ++ (q.held.eraseIdx K).map (·.itm.seq)).Nodup
      refine (List.Perm.nodup_iff ?_).2 hnd
      exact ((putB_seqs _ _).trans (List.perm_append_singleton _ _).symm).append_right _
end Go.Proofs.YtlbcefocmdnlgaaGreatDoor
