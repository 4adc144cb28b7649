/- A tree of nodes by their paths: which numbers are found, which pairs there are: facts of lists, with those conditions that each row states. -/
import Derived.Test.YtcicnbbnkeellaaGreatDoorTm
namespace Go.Proofs.YtcicnbbnkeellaaGreatDoor

abbrev Wd := List UInt8
/-- A node as it lies: its block, its map's, the value that holds its numbers, these. -/
structure Nd where
  q : Nat
  m : Nat
  v : Value
  ids : List Int
/-- Which node stands behind which words. -/
abbrev Tr := List Wd → Option Nd
def idsAt (T : Tr) (p : List Wd) : List Int := match T p with | some nd => nd.ids | none => []
theorem ids_some {T : Tr} {p : List Wd} {nd : Nd} (h : T p = some nd) : idsAt T p = nd.ids := by unfold idsAt; rw [h]
theorem ids_none {T : Tr} {p : List Wd} (h : T p = none) : idsAt T p = [] := by unfold idsAt; rw [h]
def opens (T : Tr) (p : List Wd) : List Int := idsAt T (p ++ [[35]])
def stepP (T : Tr) (w : Wd) (ps : List (List Wd)) : List (List Wd) := (ps.flatMap fun p => [p ++ [w], p ++ [[42]]]).filter (fun p => (T p).isSome)
def goF (T : Tr) (s : List (List Wd) × List Int) (w : Wd) : List (List Wd) × List Int := (stepP T w s.1, s.2 ++ s.1.flatMap (opens T))
def finF (T : Tr) (s : List (List Wd) × List Int) : List Int := s.2 ++ s.1.flatMap (fun p => idsAt T p ++ opens T p)
def hits : List Wd → List Wd → Bool
  | [], ws => ws.isEmpty
  | c :: s, ws => if c = [35] then s.isEmpty else
    match ws with
    | [] => false
    | r :: rs => (c == [42] || c == r) && hits s rs

theorem step_mem (T : Tr) (w : Wd) (ps : List (List Wd)) (p : List Wd) : p ∈ stepP T w ps ↔ (∃ p0 ∈ ps, p = p0 ++ [w] ∨ p = p0 ++ [[42]]) ∧ (T p).isSome = true := by
  unfold stepP
  rw [List.mem_filter, List.mem_flatMap]
  simp

theorem fold_found (T : Tr) (hup : ∀ p k, T (p ++ [k]) ≠ none → T p ≠ none) (ws : List Wd) (hw : ∀ w ∈ ws, w ≠ [42] ∧ w ≠ [35]) : ∀ (ps : List (List Wd)) (acc : List Int) (z : Int),
    z ∈ finF T (ws.foldl (goF T) (ps, acc)) ↔ z ∈ acc ∨ ∃ p ∈ ps, ∃ s, z ∈ idsAt T (p ++ s) ∧ hits s ws = true := by
  have hup2 : ∀ (s p : List Wd), T (p ++ s) ≠ none → T p ≠ none := by
    intro s
    induction s with
    | nil => intro p h; simpa using h
    | cons k s ih =>
      intro p h
      exact hup p k (ih (p ++ [k]) (by simpa using h))
  induction ws with
  | nil =>
    intro ps acc z
    simp only [List.foldl_nil, finF, List.mem_append, List.mem_flatMap]
    constructor
    · rintro (h | ⟨p, hp, h | h⟩)
      · exact .inl h
      · exact .inr ⟨p, hp, [], by simpa using h, rfl⟩
      · exact .inr ⟨p, hp, [[35]], h, by simp [hits]⟩
    · rintro (h | ⟨p, hp, s, h, hh⟩)
      · exact .inl h
      · right
        refine ⟨p, hp, ?_⟩
        cases s with
        | nil => left; simpa using h
        | cons c s =>
          unfold hits at hh
          split at hh
          · rename_i hc
            subst hc
            have : s = [] := by simpa using hh
            subst this
            exact .inr h
          · simp at hh
  | cons w ws ih =>
    intro ps acc z
    have hww := hw w (by simp)
    rw [List.foldl_cons, show goF T (ps, acc) w = (stepP T w ps, acc ++ ps.flatMap (opens T)) from rfl, ih (fun x hx => hw x (by simp [hx]))]
    constructor
    · rintro (h | ⟨p, hp, s, h, hh⟩)
      · rcases List.mem_append.1 h with h | h
        · exact .inl h
        · obtain ⟨p, hp, h⟩ := List.mem_flatMap.1 h
          exact .inr ⟨p, hp, [[35]], h, by simp [hits]⟩
      · obtain ⟨⟨p0, hp0, he⟩, _⟩ := (step_mem T w ps p).1 hp
        rcases he with rfl | rfl
        · exact .inr ⟨p0, hp0, w :: s, by simpa using h, by simp [hits, hww.2, hh]⟩
        · exact .inr ⟨p0, hp0, [42] :: s, by simpa using h, by simp [hits, hh]⟩
    · rintro (h | ⟨p, hp, s, h, hh⟩)
      · exact .inl (List.mem_append.2 (.inl h))
      · cases s with
        | nil => simp [hits] at hh
        | cons c s =>
          unfold hits at hh
          split at hh
          · rename_i hc
            subst hc
            have : s = [] := by simpa using hh
            subst this
            exact .inl (List.mem_append.2 (.inr (List.mem_flatMap.2 ⟨p, hp, h⟩)))
          · simp only [Bool.and_eq_true, Bool.or_eq_true, beq_iff_eq] at hh
            have hs : T (p ++ [c]) ≠ none := hup2 s (p ++ [c]) (fun e => by
              rw [List.append_assoc, List.singleton_append] at e
              rw [ids_none e] at h
              cases h)
            have hi : (T (p ++ [c])).isSome = true := by
              cases e : T (p ++ [c]) with
              | none => exact absurd e hs
              | some _ => rfl
            refine .inr ⟨p ++ [c], (step_mem T w ps _).2 ⟨⟨p, hp, ?_⟩, hi⟩, s, by simpa using h, hh.2⟩
            rcases hh.1 with rfl | rfl
            · exact .inr rfl
            · exact .inl rfl

theorem hits_cov (s ws : List Wd) (hs : okP s = true) (hw : ∀ w ∈ ws, w ≠ [35]) : hits s ws = cov s ws := by
  induction s generalizing ws with
  | nil => rfl
  | cons c s ih =>
    unfold hits cov
    split
    · rename_i hc
      subst hc
      cases s with
      | nil => rfl
      | cons d s => simp [okP, midW, isW, inW] at hs
    · cases ws with
      | nil => rfl
      | cons r rs =>
        have h1 := hw r (by simp)
        have h2 : okP s = true := by
          cases s with
          | nil => rfl
          | cons d s => unfold okP at hs; simp only [Bool.and_eq_true] at hs; exact hs.2
        dsimp only
        rw [ih rs h2 (fun x hx => hw x (by simp [hx]))]
        have h3 : (r != [35]) = true := bne_iff_ne.2 h1
        rw [h3]
        simp

/-- The numbers that were found lead to the document's answer. -/
theorem found_mem (T : Tr) (l : List Pr) (n : List UInt8) (hn : good n = true) (hup : ∀ p k, T (p ++ [k]) ≠ none → T p ≠ none)
    (hl : ∀ x : Pr, x ∈ l ↔ x.2 ∈ idsAt T (wordsL x.1)) (hp : ∀ x ∈ l, pat x.1 = true) (hd : ∀ p, idsAt T p ≠ [] → p ≠ [] ∧ ∀ w ∈ p, ∀ c ∈ w, c ≠ 46) (z : Int) :
    z ∈ finF T ((wordsL n).foldl (goF T) ([[]], [])) ↔ z ∈ findP l n := by
  have hw := good_words hn
  have hws : ∀ w ∈ wordsL n, w ≠ [42] ∧ w ≠ [35] := fun w h => isW_star (hw w h)
  rw [fold_found T hup _ hws, find_mem]
  constructor
  · rintro (h | ⟨p, hp1, s, h, hh⟩)
    · cases h
    · simp only [List.mem_singleton] at hp1
      subst hp1
      rw [List.nil_append] at h
      obtain ⟨h1, h2⟩ := hd s (fun e => by rw [e] at h; cases h)
      have e := words_join s h1 h2
      have hx : (joinL s, z) ∈ l := (hl (joinL s, z)).2 (by rw [e]; exact h)
      have hpx := hp _ hx
      refine ⟨(joinL s, z), hx, ?_, rfl⟩
      unfold mat covers
      have ho : okP s = true := by
        have := hpx
        unfold pat at this
        rw [e] at this
        simp only [Bool.and_eq_true] at this
        exact this.2
      rw [hn, hpx, good_pat hn, e, ← hits_cov s _ ho (fun w h => (hws w h).2), hh]
      rfl
  · rintro ⟨x, hx, hm, rfl⟩
    right
    refine ⟨[], by simp, wordsL x.1, by rw [List.nil_append]; exact (hl x).1 hx, ?_⟩
    unfold mat covers at hm
    simp only [Bool.and_eq_true] at hm
    have ho : okP (wordsL x.1) = true := by
      have := hp x hx
      unfold pat at this
      simp only [Bool.and_eq_true] at this
      exact this.2
    rw [hits_cov _ _ ho (fun w h => (hws w h).2)]
    exact hm.2.2
end Go.Proofs.YtcicnbbnkeellaaGreatDoor
