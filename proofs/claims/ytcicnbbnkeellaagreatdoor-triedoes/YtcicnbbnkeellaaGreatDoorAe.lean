/- A node's numbers changed; where a number stands. Conditions: those that each row states. -/
import Derived.Test.YtcicnbbnkeellaaGreatDoorPt
import Derived.Test.YtcicnbbnkeellaaGreatDoorPo
import Derived.Test.YtcicnbbnkeellaaGreatDoorGx
import Derived.Test.YtcicnbbnkeellaaGreatDoorWb
namespace Go.Proofs.YtcicnbbnkeellaaGreatDoor
open Go.RowKit
set_option maxRecDepth 100000

theorem pos_split (l : List Int) (z : Int) (h : RisI l) : ∃ A B, l = A ++ B ∧ (∀ a ∈ A, a < z) ∧ (∀ b ∈ B, z ≤ b) ∧ posI l z = A.length := by
  induction l with
  | nil => exact ⟨[], [], rfl, by simp, by simp, rfl⟩
  | cons a l ih =>
    have h1 := (List.pairwise_cons.1 h).1
    have h2 := (List.pairwise_cons.1 h).2
    by_cases ha : a < z
    · obtain ⟨A, B, e, hA, hB, hp⟩ := ih h2
      refine ⟨a :: A, B, by rw [e]; rfl, fun x hx => ?_, hB, ?_⟩
      · rcases List.mem_cons.1 hx with rfl | hx
        · exact ha
        · exact hA x hx
      · unfold posI at *
        rw [List.countP_cons_of_pos (by simpa using ha), hp]
        rfl
    · refine ⟨[], a :: l, rfl, by simp, fun x hx => ?_, ?_⟩
      · rcases List.mem_cons.1 hx with rfl | hx
        · omega
        · have : a < x := h1 x hx
          omega
      · unfold posI
        rw [List.countP_eq_zero.2]
        · rfl
        · intro x hx
          rcases List.mem_cons.1 hx with rfl | hx
          · simpa using ha
          · have : a < x := h1 x hx
            simp
            omega
theorem ins_facts (l : List Int) (z : Int) (h : RisI l) (hz : z ∉ l) : RisI (l.take (posI l z) ++ z :: l.drop (posI l z)) ∧ ∀ y, y ∈ l.take (posI l z) ++ z :: l.drop (posI l z) ↔ y = z ∨ y ∈ l := by
  obtain ⟨A, B, e, hA, hB, hp⟩ := pos_split l z h
  rw [hp, e, List.take_left, List.drop_left]
  constructor
  · rw [e] at h
    have h1 := List.pairwise_append.1 h
    refine List.pairwise_append.2 ⟨h1.1, List.pairwise_cons.2 ⟨fun b hb => ?_, h1.2.1⟩, fun a ha b hb => ?_⟩
    · have := hB b hb
      have hne : b ≠ z := fun e' => hz (by rw [e]; exact List.mem_append.2 (.inr (e' ▸ hb)))
      show z < b
      omega
    · rcases List.mem_cons.1 hb with rfl | hb
      · exact hA a ha
      · exact h1.2.2 a ha b hb
  · intro y
    simp only [List.mem_append, List.mem_cons]
    constructor
    · rintro (h | h | h)
      · exact .inr (.inl h)
      · exact .inl h
      · exact .inr (.inr h)
    · rintro (h | h | h)
      · exact .inr (.inl h)
      · exact .inl h
      · exact .inr (.inr h)
theorem del_facts (l : List Int) (z : Int) (h : RisI l) (hz : z ∈ l) : posI l z < l.length ∧ RisI (l.take (posI l z) ++ l.drop (posI l z + 1)) ∧ ∀ y, y ∈ l.take (posI l z) ++ l.drop (posI l z + 1) ↔ y ≠ z ∧ y ∈ l := by
  obtain ⟨A, B, e, hA, hB, hp⟩ := pos_split l z h
  have hzB : z ∈ B := by
    rw [e] at hz
    rcases List.mem_append.1 hz with h1 | h1
    · have := hA z h1; omega
    · exact h1
  cases B with
  | nil => cases hzB
  | cons b B =>
    have hb : b = z := by
      have h1 := hB b (by simp)
      rcases List.mem_cons.1 hzB with h2 | h2
      · exact h2.symm
      · rw [e] at h
        have h3 : b < z := (List.pairwise_cons.1 (List.pairwise_append.1 h).2.1).1 z h2
        omega
    subst hb
    have e2 : l.drop (posI l b + 1) = B := by rw [hp, e]; simp
    rw [e2, hp]
    rw [e, List.take_left]
    rw [e] at h
    have h1 := List.pairwise_append.1 h
    have h2 := List.pairwise_cons.1 h1.2.1
    refine ⟨by simp, List.pairwise_append.2 ⟨h1.1, h2.2, fun a ha c hc => h1.2.2 a ha c (by simp [hc])⟩, fun y => ?_⟩
    simp only [List.mem_append, List.mem_cons]
    constructor
    · rintro (h3 | h3)
      · have := hA y h3; exact ⟨by omega, .inl h3⟩
      · have : b < y := h2.1 y h3; exact ⟨by omega, .inr (.inr h3)⟩
    · rintro ⟨h3, h4 | h4 | h4⟩
      · exact .inl h4
      · exact absurd h4 h3
      · exact .inr h4

/-- A node's numbers are others. -/
theorem TrW.put {w w' : World} {N : Nat} {T : Tr} (h : TrW w N T) {p : List Wd} {nd : Nd} (hp : T p = some nd) (hpe : p ≠ []) {v' : Value} {ids' : List Int}
    (hq : w'.heap[nd.q]? = some (.cells #[.map (some nd.m), v'] 58 (0, 0))) (hr : w'.ownsRow 0 3 1 v' ids'.length (ints ids')) (hris : RisI ids') (hfew : ids'.length ≤ 64)
    (hst : ∀ b, XT T b → b ≠ nd.q → nd.v.ownBlock ≠ some b → w'.heap[b]? = w.heap[b]?) (hnew : ∀ b, v'.ownBlock = some b → nd.v.ownBlock = some b ∨ w.heap.size ≤ b) :
    TrW w' N (addN T p ⟨nd.q, nd.m, v', ids'⟩) := by
  have hmap : ∀ x, (addN T p ⟨nd.q, nd.m, v', ids'⟩ x).map Nd.q = (T x).map Nd.q := fun x => by
    by_cases e : x = p
    · rw [e, addN_same, hp]; rfl
    · rw [addN_other _ _ _ e]
  have hnone : ∀ x, addN T p ⟨nd.q, nd.m, v', ids'⟩ x ≠ none → T x ≠ none := fun x hx e => by
    have := hmap x
    rw [e] at this
    cases e2 : addN T p ⟨nd.q, nd.m, v', ids'⟩ x with
    | none => exact hx e2
    | some _ => rw [e2] at this; cases this
  have hnone' : ∀ x, T x ≠ none → addN T p ⟨nd.q, nd.m, v', ids'⟩ x ≠ none := fun x hx e => by
    have := hmap x
    rw [e] at this
    cases e2 : T x with
    | none => exact hx e2
    | some _ => rw [e2] at this; cases this
  have hget : ∀ {x nx}, addN T p ⟨nd.q, nd.m, v', ids'⟩ x = some nx → (x = p ∧ nx = ⟨nd.q, nd.m, v', ids'⟩) ∨ (x ≠ p ∧ T x = some nx) := fun {x nx} e => by
    by_cases e1 : x = p
    · rw [e1, addN_same] at e
      exact .inl ⟨e1, by injection e with e; exact e.symm⟩
    · rw [addN_other _ _ _ e1] at e
      exact .inr ⟨e1, e⟩
  refine ⟨?_, fun x nx hx => ?_, fun x k hx => hnone' _ (h.up x k (hnone _ hx)), fun x k hx => h.word x k (hnone _ hx), fun x hx => h.deep x (hnone _ hx), fun x y nx ny hx hy he => ?_, fun x y nx ny hx hy he => ?_, fun x y nx ny b hx hy hb hb' => ?_⟩
  · obtain ⟨r, h1, h2⟩ := h.root
    exact ⟨r, by rw [addN_other _ _ _ (fun e => hpe e.symm)]; exact h1, h2⟩
  · rcases hget hx with ⟨rfl, rfl⟩ | ⟨hne, hx⟩
    · have ha := h.at' _ nd hp
      refine ⟨hq, hr, ?_, hris, hfew⟩
      refine (ha.map.on (hst _ ⟨_, nd, hp, .inr (.inl rfl)⟩ (fun e => h.qm hp hp e.symm) (h.mv hp hp))).ext (fun k _ => (hmap _).symm)
    · have ha := h.at' _ nx hx
      refine (NdAt.on (w := w) (w' := w') (N := N) (T := T) ha (fun b hb => ?_)) |> fun a => ⟨a.cells, a.ids, a.map.ext (fun k _ => (hmap _).symm), a.ris, a.few⟩
      refine hst b ⟨x, nx, hx, hb⟩ (fun e => ?_) (fun e => ?_)
      · subst e
        rcases hb with h1 | h1 | h1
        · exact hne (h.injq _ _ _ _ hx hp h1.symm)
        · exact h.qm hp hx h1
        · exact h.qv hp hx h1
      · rcases hb with h1 | h1 | h1
        · exact h.qv hx hp (h1 ▸ e)
        · exact h.mv hx hp (h1 ▸ e)
        · exact hne (h.injv _ _ _ _ b hx hp h1 e)
  · rcases hget hx with ⟨rfl, rfl⟩ | ⟨_, hx'⟩ <;> rcases hget hy with ⟨rfl, rfl⟩ | ⟨_, hy'⟩
    · rfl
    · exact h.injq _ _ _ _ hp hy' he
    · exact h.injq _ _ _ _ hx' hp he
    · exact h.injq _ _ _ _ hx' hy' he
  · rcases hget hx with ⟨rfl, rfl⟩ | ⟨_, hx'⟩ <;> rcases hget hy with ⟨rfl, rfl⟩ | ⟨_, hy'⟩
    · rfl
    · exact h.injm _ _ _ _ hp hy' he
    · exact h.injm _ _ _ _ hx' hp he
    · exact h.injm _ _ _ _ hx' hy' he
  · rcases hget hx with ⟨rfl, rfl⟩ | ⟨_, hx'⟩ <;> rcases hget hy with ⟨rfl, rfl⟩ | ⟨_, hy'⟩
    · rfl
    · rcases hnew b hb with h1 | h1
      · exact h.injv _ _ _ _ b hp hy' h1 hb'
      · have := h.lt ⟨y, ny, hy', .inr (.inr hb')⟩
        omega
    · rcases hnew b hb' with h1 | h1
      · exact h.injv _ _ _ _ b hx' hp hb h1
      · have := h.lt ⟨x, nx, hx', .inr (.inr hb)⟩
        omega
    · exact h.injv _ _ _ _ b hx' hy' hb hb'
theorem XT_put {T : Tr} {p : List Wd} {nd : Nd} (hp : T p = some nd) {v' : Value} {ids' : List Int} {b : Nat} (h : XT (addN T p ⟨nd.q, nd.m, v', ids'⟩) b) : XT T b ∨ v'.ownBlock = some b := by
  obtain ⟨x, nx, hx, h2⟩ := h
  by_cases h1 : x = p
  · rw [h1, addN_same] at hx
    cases hx
    rcases h2 with h2 | h2 | h2
    · exact .inl ⟨p, nd, hp, .inl h2⟩
    · exact .inl ⟨p, nd, hp, .inr (.inl h2)⟩
    · exact .inr h2
  · rw [addN_other _ _ _ h1] at hx
    exact .inl ⟨x, nx, hx, h2⟩
theorem put_ids (T : Tr) (p : List Wd) (q m : Nat) (v' : Value) (ids' : List Int) (x : List Wd) : idsAt (addN T p ⟨q, m, v', ids'⟩) x = if x = p then ids' else idsAt T x := by
  by_cases h : x = p
  · subst h
    rw [if_pos rfl, ids_some (addN_same _ _ _)]
  · rw [if_neg h]
    unfold idsAt
    rw [addN_other _ _ _ h]
end Go.Proofs.YtcicnbbnkeellaaGreatDoor
