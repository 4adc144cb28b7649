/- slices.DeleteFunc of nodes, slices.Sort and slices.Compact of numbers, as Find calls them. Conditions: those that each row states. -/
import Derived.Test.YtcicnbbnkeellaaGreatDoorIn
import Derived.Shelf.Sort.Plain
namespace Go.Proofs.YtcicnbbnkeellaaGreatDoor
open Go.RowKit
set_option maxRecDepth 100000

/-- Nodes' addresses, some of them none. -/
def ptrs (l : List (Option Nat)) : List Value := l.map ptrO
theorem clos1 (W : World) (x : Option Nat) : Calls Tryz.prog 34 #[ptrO x] W fun e w' => e = .returned (.bool x.isNone) ∧ w' = W := by
  cases x with
  | none =>
    simp only [ptrO]
    go_enter Tryz.func34, Tryz.ntmps34
    go_wp2
    go_ret
    exact ⟨rfl, rfl⟩
  | some q =>
    simp only [ptrO]
    go_enter Tryz.func34, Tryz.ntmps34
    go_wp2
    go_ret
    exact ⟨rfl, rfl⟩
theorem idxf_nil (w : World) (a : Option Addr) (c : Nat) (f : Value) : Calls Tryz.prog 59 #[.slice a 0 c, f] w fun e w' => e = .returned (.int .i64 (-1)) ∧ w' = w := by
  go_enter Tryz.func59, Tryz.ntmps59
  go_wp2
  go_loopw [8] (fun i wr => i = .int .i64 0 ∧ wr = w) (fun _ _ => 0)
  case atStart => exact ⟨rfl, rfl⟩
  case round =>
    obtain ⟨rfl, rfl⟩ := hrel
    go_wp2
    go_ret
    exact ⟨rfl, rfl⟩
theorem delf_nil (w : World) (a : Option Addr) (c : Nat) (f : Value) : Calls Tryz.prog 33 #[.slice a 0 c, f] w fun e w' => e = .returned (.slice a 0 c) ∧ w' = w := by
  have h := idxf_nil w a c f
  go_enter Tryz.func33, Tryz.ntmps33
  go_wp2_with (go_at_call 59; refine h.mono ?_; rintro e w1 ⟨rfl, rfl⟩)
  go_ret
  exact ⟨rfl, rfl⟩
theorem delf_any (w : World) (B : Nat) (v : Value) (l : List (Option Nat)) (h : w.ownsRow B 47 1 v l.length (ptrs l)) (hl : l.length ≤ 100000) :
    Calls Tryz.prog 33 #[v, .func (.func 34) #[] #[]] w fun e w' => ∃ v', e = .returned v' ∧ w'.ownsRow B 47 1 v' (l.filter (·.isSome)).length (ptrs (l.filter (·.isSome))) ∧ Below B w w' ∧ (∀ b, v.ownBlock ≠ some b → w'.heap[b]? = w.heap[b]?) ∧ w'.heap.size = w.heap.size := by
  obtain ⟨hl2, ⟨rfl, h0⟩ | ⟨g, cap, cur, rfl, hB, hg, hnc, hcm, hcs, hct⟩⟩ := h
  · have hL : l = [] := List.eq_nil_of_length_eq_zero h0
    subst hL
    refine (delf_nil w none 0 _).mono ?_
    rintro e w' ⟨rfl, rfl⟩
    exact ⟨_, rfl, ⟨rfl, .inl ⟨rfl, rfl⟩⟩, Below.refl _ _, fun _ _ => rfl, rfl⟩
  · rw [Nat.mul_one] at hct
    have hH : Sort.Holds ptrO w g 0 l.toArray := fun j hj => by
      have hj' : j < l.length := by simpa using hj
      have hcj : cur.toList[j]? = some (ptrO l[j]) := by
        rw [← List.getElem?_take_of_lt hj', hct]
        simp [ptrs, hj']
      have hjc : j < cur.size := by omega
      unfold World.cell? World.frozen?
      rw [hg]
      refine ⟨?_, by simp⟩
      rw [getElem!_pos l.toArray j hj]
      simpa using hcj
    have hc := AnyE.slices_DeleteFunc Tryz.laysDel33 ptrO (fun x => by cases x <;> rfl) (fun x : Option Nat => x.isNone) 34 #[] (enters_of Tryz.func34 (by kernel_rfl) rfl) none (fun w => zero47 w) g 0 cap l.toArray w (fun W x _ => (clos1 W x).mono (fun e w' h => ⟨h.1, 0, h.2⟩)) (fun n os dk x _ => (clos1 _ x).mono (fun e w' h => ⟨h.1, 0, h.2⟩)) hH (by simp; omega) (by simpa using hnc)
    have hfl : (l.filter fun x => !x.isNone) = l.filter (fun x : Option Nat => x.isSome) := by
      congr 1
      funext x
      cases x <;> rfl
    simp only [List.size_toArray] at hc
    rw [hfl] at hc
    refine hc.mono ?_
    rintro e w' ⟨rfl, q, rfl⟩
    have hfle : (l.filter (·.isSome)).length ≤ l.length := List.length_filter_le _ _
    obtain ⟨cur', h1, h2, h3, h4, h5, h6, h7, h8⟩ := put_row ptrO w q g 47 cur hg (l.filter (fun x : Option Nat => x.isSome) ++ List.replicate (l.length - (l.filter (fun x : Option Nat => x.isSome)).length) (none : Option Nat)) (by simp; omega)
    refine ⟨_, rfl, ⟨by simp [ptrs], .inr ⟨g, cap, cur', rfl, hB, h1, by omega, hcm, by omega, ?_⟩⟩, ⟨h6, h7, h8, Nat.le_of_eq h5.symm, fun b hb => h4 b (by omega)⟩, fun b hb => h4 b (fun e => hb (by rw [e]; rfl)), h5⟩
    have hl9 : (l.filter (fun x : Option Nat => x.isSome) ++ List.replicate (l.length - (l.filter (fun x : Option Nat => x.isSome)).length) (none : Option Nat)).length = l.length := by simp; omega
    rw [hl9] at h3
    have e9 : cur'.toList.take ((l.filter (·.isSome)).length * 1) = (cur'.toList.take l.length).take (l.filter (·.isSome)).length := by
      rw [List.take_take]; congr 1; omega
    rw [e9, h3, List.map_append, take_two _ _ _ (by simp)]
    rfl
theorem compact_upto (d : Array Int) (hs : ∀ i j, i ≤ j → j < d.size → d[i]! ≤ d[j]!) : ∀ m, m ≤ d.size → RisI (Lib.compactUpTo d m) ∧ ∀ z, z ∈ Lib.compactUpTo d m ↔ ∃ j, j < m ∧ d[j]! = z := by
  intro m
  induction m with
  | zero =>
    intro _
    refine ⟨List.Pairwise.nil, fun z => ⟨fun h => (by cases h), ?_⟩⟩
    rintro ⟨j, hj, _⟩
    omega
  | succ m ih =>
    intro hm
    obtain ⟨h1, h2⟩ := ih (by omega)
    rw [Lib.compactUpTo_succ]
    cases hk : Lib.keeps d m with
    | true =>
      simp only [if_true]
      refine ⟨List.pairwise_append.2 ⟨h1, List.pairwise_singleton _ _, fun a ha b hb => ?_⟩, fun z => ?_⟩
      · simp only [List.mem_singleton] at hb
        subst hb
        obtain ⟨j, hj, rfl⟩ := (h2 a).1 ha
        unfold Lib.keeps at hk
        simp only [decide_eq_true_eq] at hk
        rcases hk with h0 | hk
        · omega
        · have a1 := hs j (m - 1) (by omega) (by omega)
          have a2 := hs (m - 1) m (by omega) (by omega)
          omega
      · rw [List.mem_append, h2, List.mem_singleton]
        constructor
        · rintro (⟨j, hj, e⟩ | e)
          · exact ⟨j, by omega, e⟩
          · exact ⟨m, by omega, e.symm⟩
        · rintro ⟨j, hj, e⟩
          by_cases hjm : j = m
          · right; rw [← e, hjm]
          · exact .inl ⟨j, by omega, e⟩
    | false =>
      simp only [Bool.false_eq_true, if_false, List.append_nil]
      refine ⟨h1, fun z => ?_⟩
      rw [h2]
      unfold Lib.keeps at hk
      simp only [decide_eq_false_iff_not, not_or, Decidable.not_not] at hk
      constructor
      · rintro ⟨j, hj, e⟩
        exact ⟨j, by omega, e⟩
      · rintro ⟨j, hj, e⟩
        by_cases hjm : j = m
        · exact ⟨m - 1, by omega, by rw [← hk.2, ← hjm]; exact e⟩
        · exact ⟨j, by omega, e⟩
/-- What is left of a sorted list, each once. -/
theorem compact_facts (l : List Int) (h : l.Pairwise (· ≤ ·)) : RisI (Lib.compact l) ∧ ∀ z, z ∈ Lib.compact l ↔ z ∈ l := by
  have hg : ∀ i (hi : i < l.length), l.toArray[i]! = l[i] := fun i hi => by rw [getElem!_pos l.toArray i (by simpa using hi)]; simp
  have h1 := compact_upto l.toArray (fun i j hij hj => by
    have hj' : j < l.length := by simpa using hj
    rw [hg i (by omega), hg j hj']
    by_cases e : i = j
    · subst e; exact Int.le_refl _
    · exact (List.pairwise_iff_getElem.1 h) i j (by omega) hj' (by omega)) l.length (by simp)
  refine ⟨h1.1, fun z => ?_⟩
  unfold Lib.compact
  rw [h1.2]
  constructor
  · rintro ⟨j, hj, e⟩
    rw [hg j hj] at e
    rw [← e]
    exact List.getElem_mem _
  · intro hz
    obtain ⟨j, hj, e⟩ := List.getElem_of_mem hz
    exact ⟨j, hj, by rw [hg j hj]; exact e⟩
theorem holdsI {w : World} {g cap : Nat} {cur : Array Value} {l : List Int} (hg : w.heap[g]? = some (.cells cur 3 (0, 0))) (hnc : l.length ≤ cap) (hcs : cur.size = cap * 1) (hct : cur.toList.take l.length = ints l) : Sort.Holds (Value.int .i64) w g 0 l.toArray := fun j hj => by
  have hj' : j < l.length := by simpa using hj
  refine ⟨?_, by rw [Nat.zero_add]; exact (row_there hg j (by omega)).2⟩
  have h9 : (ints l)[j]? = some (.int .i64 l[j]) := by simp [ints, hj']
  rw [row_cells hg hct j _ h9]
  simp [hj']
theorem sortI_any (w : World) (B : Nat) (v : Value) (l : List Int) (h : w.ownsRow B 3 1 v l.length (ints l)) (hl : l.length ≤ 1000000) :
    Calls Tryz.prog 35 #[v] w fun e w' => e = .returned (.tuple #[]) ∧ ∃ l' : List Int, l'.Perm l ∧ l'.Pairwise (· ≤ ·) ∧ w'.ownsRow B 3 1 v l'.length (ints l') ∧ Below B w w' ∧ (∀ b, b < w.heap.size → v.ownBlock ≠ some b → w'.heap[b]? = w.heap[b]?) := by
  obtain ⟨hl2, ⟨rfl, h0⟩ | ⟨g, cap, cur, rfl, hB, hg, hnc, hcm, hcs, hct⟩⟩ := h
  · have hL : l = [] := List.eq_nil_of_length_eq_zero h0
    subst hL
    refine (Tryz.slices_Sort_int_none none 0 w).mono ?_
    rintro e w' ⟨rfl, rfl⟩
    exact ⟨rfl, [], List.Perm.refl _, List.Pairwise.nil, ⟨rfl, .inl ⟨rfl, rfl⟩⟩, Below.refl _ _, fun _ _ _ => rfl⟩
  · rw [Nat.mul_one] at hct
    refine (Tryz.slices_Sort_int g 0 cap l w (holdsI hg hnc hcs hct) (lt_of_some hg) (by omega)).mono ?_
    rintro e w' ⟨rfl, n, os, rfl⟩
    have hperm := List.mergeSort_perm l (fun x y => decide (x ≤ y))
    have hlen : (l.mergeSort fun x y => decide (x ≤ y)).length = l.length := hperm.length_eq
    obtain ⟨cur', h1, h2, h3, h4, h5, h6, h7, h8⟩ := put_row (Value.int .i64) w n g 3 cur hg (l.mergeSort fun x y => decide (x ≤ y)) (by omega)
    have hgl := lt_of_some hg
    have hgrow : ∀ b, b < w.heap.size → (Sort.grow (Sort.putRow (Value.int .i64) (Sort.ahead w n) g 0 (l.mergeSort fun x y => decide (x ≤ y)).toArray) os).heap[b]? = (Sort.putRow (Value.int .i64) (Sort.ahead w n) g 0 (l.mergeSort fun x y => decide (x ≤ y)).toArray).heap[b]? := fun b hb => by
      unfold Sort.grow
      rw [Array.getElem?_append_left (by rw [h5]; exact hb)]
    refine ⟨rfl, _, hperm, ?_, ?_, ⟨h6, h7, h8, ?_, fun b hb => ?_⟩, fun b hb hne => ?_⟩
    · have := List.pairwise_mergeSort (le := fun x y : Int => decide (x ≤ y)) (fun a b c h1 h2 => by simp at *; omega) (fun a b => by simp; omega) l
      exact this.imp (fun h => by simpa using h)
    · refine ⟨by simp [ints], .inr ⟨g, cap, cur', by rw [hlen], hB, (hgrow g hgl).trans h1, by omega, hcm, by omega, ?_⟩⟩
      rw [Nat.mul_one, h3]
      rfl
    · unfold Sort.grow
      simp only [Array.size_append]
      omega
    · rw [hgrow b (by omega), h4 b (by omega)]
    · rw [hgrow b hb, h4 b (fun e => hne (by rw [e]; rfl))]
theorem compI_any (w : World) (B : Nat) (v : Value) (l : List Int) (h : w.ownsRow B 3 1 v l.length (ints l)) (hl : l.length ≤ 1000000) :
    Calls Tryz.prog 36 #[v] w fun e w' => ∃ v', e = .returned v' ∧ w'.ownsRow B 3 1 v' (Lib.compact l).length (ints (Lib.compact l)) ∧ Below B w w' ∧ (∀ b, v.ownBlock ≠ some b → w'.heap[b]? = w.heap[b]?) ∧ (∀ b, v'.ownBlock = some b → v.ownBlock = some b) := by
  obtain ⟨hl2, ⟨rfl, h0⟩ | ⟨g, cap, cur, rfl, hB, hg, hnc, hcm, hcs, hct⟩⟩ := h
  · have hL : l = [] := List.eq_nil_of_length_eq_zero h0
    subst hL
    refine (Tryz.slices_Compact_int_empty none 0 w).mono ?_
    rintro e w' ⟨rfl, rfl⟩
    exact ⟨_, rfl, ⟨rfl, .inl ⟨rfl, rfl⟩⟩, Below.refl _ _, fun _ _ => rfl, fun _ e => e⟩
  · rw [Nat.mul_one] at hct
    refine (Tryz.slices_Compact_int g 0 cap l w (holdsI hg hnc hcs hct) (by omega) hnc).mono ?_
    rintro e w' ⟨rfl, q, rfl⟩
    have hcl : (Lib.compact l).length ≤ l.length := by
      unfold Lib.compact Lib.compactUpTo
      rw [List.length_map]
      exact Nat.le_trans (List.length_filter_le _ _) (by simp)
    obtain ⟨cur', h1, h2, h3, h4, h5, h6, h7, h8⟩ := put_row (Value.int .i64) w q g 3 cur hg (Lib.compact l ++ List.replicate (l.length - (Lib.compact l).length) (0 : Int)) (by simp; omega)
    refine ⟨_, rfl, ⟨by simp [ints], .inr ⟨g, cap, cur', rfl, hB, h1, by omega, hcm, by omega, ?_⟩⟩, ⟨h6, h7, h8, Nat.le_of_eq h5.symm, fun b hb => h4 b (by omega)⟩, fun b hb => h4 b (fun e => hb (by rw [e]; rfl)), fun _ e => e⟩
    have hl9 : (Lib.compact l ++ List.replicate (l.length - (Lib.compact l).length) (0 : Int)).length = l.length := by simp; omega
    rw [hl9] at h3
    have e9 : cur'.toList.take ((Lib.compact l).length * 1) = (cur'.toList.take l.length).take (Lib.compact l).length := by
      rw [List.take_take]; congr 1; omega
    rw [e9, h3, List.map_append, take_two _ _ _ (by simp)]
    rfl
end Go.Proofs.YtcicnbbnkeellaaGreatDoor
