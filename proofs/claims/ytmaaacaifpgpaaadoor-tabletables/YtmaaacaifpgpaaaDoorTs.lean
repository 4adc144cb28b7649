
/- slices.SortFunc of properties by their names. Conditions: those that each row states. -/
import Derived.Test.YtmaaacaifpgpaaaDoorTn
import Derived.Test.YtmaaacaifpgpaaaDoorSx
namespace Go.Proofs.YtmaaacaifpgpaaaDoor
open Go.RowKit Go.Lib Go.Sort
set_option maxRecDepth 100000

theorem retI {a b : Int} (h : a = b) : Ending.returned (.int .i64 a) = Ending.returned (.int .i64 b) := by rw [h]
theorem retB {a b : Bool} (h : a = b) : Ending.returned (.bool a) = Ending.returned (.bool b) := by rw [h]
theorem isnanS (w : World) (a : ByteArray) : Calls Tryd.prog 70 #[.string a] w fun e w' => e = .returned (.bool false) ∧ w' = w := by
  go_enter Tryd.func70, Tryd.ntmps70
  go_wp2
  go_ret
  exact ⟨retB (by simp), rfl⟩
theorem cmpS_any (w : World) (a b : ByteArray) :
    Calls Tryd.prog 53 #[.string a, .string b] w fun e w' => e = .returned (.int .i64 (cmpL a.toList b.toList)) ∧ w' = w := by
  have h1 := isnanS w a
  have h2 := isnanS w b
  go_enter Tryd.func53, Tryd.ntmps53
  go_wp2_with fail
  refine h1.mono ?_
  rintro e w1 ⟨rfl, rfl⟩
  go_wp2_with fail
  refine h2.mono ?_
  rintro e w2 ⟨rfl, rfl⟩
  clear h1 h2
  go_wp2
  all_goals go_ret
  · rename_i h
    exact ⟨retI (cmpL_lt h).symm, rfl⟩
  · rename_i h _ _ h'
    exact ⟨retI (cmpL_gt h (by simp_all)).symm, rfl⟩
  · have e : a.toList = b.toList := by simp_all
    exact ⟨retI (by rw [e, cmpL_self]), rfl⟩
def cfN (x y : Pr) : Int := cmpL x.name.toList y.name.toList
theorem lt_less (x y : Pr) : ltOf cfN x y = lessP x y := by
  unfold ltOf cfN cmpL lessP
  cases h : Op.bytesLess x.name.toList y.name.toList with
  | true => simp
  | false => by_cases e : x.name.toList = y.name.toList <;> simp [e]
theorem swoN : Sort.SWO (ltOf cfN) where
  irrefl x := by rw [lt_less]; exact bl_irrefl _
  trans x y z h1 h2 := by rw [lt_less] at *; exact bl_trans _ _ _ h1 h2
  ntrans x y z h1 h2 := by
    rw [lt_less] at *
    unfold lessP at *
    cases e : Op.bytesLess x.name.toList z.name.toList with
    | false => rfl
    | true =>
      cases e2 : Op.bytesLess y.name.toList x.name.toList with
      | true =>
        have := bl_trans _ _ _ e2 e
        rw [h2] at this
        cases this
      | false =>
        have := bl_tri _ _ h1 e2
        rw [this, h2] at e
        cases e
set_option maxHeartbeats 1000000 in
theorem closN_any (W : World) (x y : Pr) : Calls Tryd.prog 52 #[.agg (prC x).toArray, .agg (prC y).toArray] W fun e w' => e = .returned (.int .i64 (cfN x y)) ∧ ∃ q os', w' = Sort.grow (W.drewN q) os' := by
  have HF : Hid (∀ o1 o2, ∃ q os', ((W.alloc o1).alloc o2) = Sort.grow (W.drewN q) os') := fun o1 o2 => ⟨0, #[o1, o2], by
    rw [Sort.alloc_eq_grow, Sort.alloc_eq_grow, Sort.grow_grow]
    rfl⟩
  have C := fun w => cmpS_any w x.name y.name
  have hE : cfN x y = cmpL x.name.toList y.name.toList := rfl
  rw [hE]
  clear hE
  generalize cmpL x.name.toList y.name.toList = c at *
  simp only [prC]
  go_enter Tryd.func52, Tryd.ntmps52
  go_wp2_with fail
  refine (C _).mono ?_
  rintro e w2 ⟨rfl, rfl⟩
  go_wp2
  go_ret
  exact ⟨rfl, HF.out _ _⟩
instance : Inhabited Pr := ⟨⟨⟨#[]⟩, ⟨0, 0, ⟨#[]⟩, 0⟩⟩⟩
theorem flat_cells (L : List Pr) : Sort.flatK prC 5 L.toArray = (cellsP L).toArray := by
  apply Array.ext
  · simp [cellsP_len]
  · intro t h1 h2
    have ht : t < L.length * 5 := by simpa [cellsP_len] using h2
    have h3 := Sort.get_flatK prC 5 L.toArray t (by simpa using ht)
    rw [getElem!_pos _ t h1] at h3
    rw [h3]
    have hi : t / 5 < L.length := by omega
    have h4 := cellsP_at L (t / 5) hi (t % 5) (Nat.mod_lt _ (by omega))
    rw [show t / 5 * 5 + t % 5 = t by omega] at h4
    have h5 : (cellsP L)[t]? = some ((cellsP L)[t]'(by rw [cellsP_len]; exact ht)) := List.getElem?_eq_getElem _
    rw [h5] at h4
    have h6 : L.toArray[t / 5]! = L[t / 5] := by rw [getElem!_pos _ _ (by simpa using hi)]; simp
    rw [h6]
    have h7 : t % 5 < (prC L[t / 5]).length := by simp [prC]; omega
    rw [getElem!_pos (prC L[t / 5]) (t % 5) h7]
    rw [List.getElem?_eq_getElem h7] at h4
    injection h4 with h4
    simp [h4]
theorem put_row (w : World) (q b t : Nat) (cur : Array Value) (h : w.heap[b]? = some (.cells cur t (0, 0))) (d : List Value) (hs : d.length ≤ cur.size) :
    ∃ cur' : Array Value, (putRow (id : Value → Value) (Sort.ahead w q) b 0 d.toArray).heap[b]? = some (.cells cur' t (0, 0)) ∧ cur'.size = cur.size ∧ cur'.toList.take d.length = d ∧ (∀ k, k ≠ b → (putRow (id : Value → Value) (Sort.ahead w q) b 0 d.toArray).heap[k]? = w.heap[k]?) ∧ (putRow (id : Value → Value) (Sort.ahead w q) b 0 d.toArray).heap.size = w.heap.size ∧
      (putRow (id : Value → Value) (Sort.ahead w q) b 0 d.toArray).os = w.os ∧ (putRow (id : Value → Value) (Sort.ahead w q) b 0 d.toArray).tape = w.tape ∧ (putRow (id : Value → Value) (Sort.ahead w q) b 0 d.toArray).output = w.output := by
  refine ⟨putCells id 0 d.toArray cur, ?_, ?_, ?_, ?_, ?_, rfl, rfl, rfl⟩
  · simp only [putRow, mapBlock, Array.getElem?_modify, if_pos, Sort.ahead, h]
    rfl
  · simp [putCells]
  · apply List.ext_getElem?
    intro j
    by_cases hj : j < d.length
    · rw [List.getElem?_take_of_lt hj]
      have hjc : j < cur.size := by omega
      simp [putCells, hj, hjc]
    · rw [List.getElem?_eq_none (by simp; omega), List.getElem?_eq_none (by omega)]
  · intro k hk
    simp only [putRow, mapBlock, Array.getElem?_modify, Sort.ahead]
    rw [if_neg (fun e => hk e.symm)]
  · simp [putRow, mapBlock, Sort.ahead]
theorem isAgg60 : ∀ w, (isAgg 51).run Tryd.prog w = .ok true w := Tryd.isAgg51
theorem sizeOf60 : ∀ w, (Go.sizeOf 51).run Tryd.prog w = .ok 5 w := Tryd.sizeOf51
/-- Nothing is kept by the call but what its list holds. -/
theorem sort_any (w : World) (B : Nat) (v : Value) (L : List Pr) (h : OwnP w B v L) (hl : L.length ≤ 64) :
    Calls Tryd.prog 51 #[v, .func (.func 52) #[] #[]] w fun e w' => e = .returned (.tuple #[]) ∧ ∃ L' : List Pr, L'.Perm L ∧ L'.Pairwise (fun x y => lessP y x = false) ∧ OwnP w' B v L' ∧ Below B w w' ∧ (∀ (k : Nat) (cs : Array Value) (t : TypeId) (fr : Nat × Nat), t ≠ 51 → w.heap[k]? = some (Obj.cells cs t fr) → w'.heap[k]? = some (Obj.cells cs t fr)) := by
  obtain ⟨hl2, ⟨rfl, h0⟩ | ⟨g, cap, cur, rfl, hB, hg, hnc, hcm, hcs, hct⟩⟩ := h
  · have hL : L = [] := List.eq_nil_of_length_eq_zero h0
    subst hL
    refine (AnyF.slices_SortFunc_none Tryd.laysSort51 none 0 (.func (.func 52) #[] #[]) w).mono ?_
    rintro e w' ⟨rfl, rfl⟩
    exact ⟨rfl, [], List.Perm.refl _, List.Pairwise.nil, ⟨hl2, .inl ⟨rfl, rfl⟩⟩, Below.refl _ _, fun _ _ _ _ _ h => h⟩
  · have hH : Sort.HoldsK prC 5 w g 0 L.toArray := by
      unfold Sort.HoldsK
      rw [flat_cells]
      intro j hj
      have hj' : j < (cellsP L).length := by simpa using hj
      unfold World.cell? World.frozen?
      rw [hg]
      have hjc : j < cur.size := by rw [cellsP_len] at hj'; omega
      have hcj : cur.toList[j]? = some (cellsP L)[j] := by
        rw [← List.getElem?_take_of_lt (show j < L.length * 5 by rw [cellsP_len] at hj'; exact hj'), hct, List.getElem?_eq_getElem hj']
      refine ⟨?_, by simp⟩
      rw [getElem!_pos (cellsP L).toArray j hj]
      simpa using hcj
    have hgl := (Array.getElem?_eq_some_iff.1 hg).1
    have hc := AnyQ.slices_SortFunc Tryd.laysSort51 5 isAgg60 sizeOf60 prC (fun _ => rfl) (fun x u hu => by simp [prC] at hu; rcases hu with rfl | rfl | rfl | rfl | rfl <;> rfl) cfN swoN 52 #[] g 0 cap L.toArray w (enters_of Tryd.func52 (by kernel_rfl) rfl) (fun m os dk _ x y => closN_any _ x y) hH hgl (by simp; omega)
    simp only [List.size_toArray] at hc
    refine hc.mono ?_
    rintro e w' ⟨rfl, d', n, os, hp, hs, rfl⟩
    obtain ⟨L', rfl⟩ : ∃ L' : List Pr, d' = L'.toArray := ⟨d'.toList, by simp⟩
    have hlen : L'.length = L.length := by simpa using hp.1
    have hperm : L'.Perm L := by
      have := hp.2.2
      simp only [List.extract_toArray, List.extract_eq_take_drop, List.drop_zero, Nat.sub_zero, List.toList_toArray] at this
      rw [List.take_length, ← hlen, List.take_length] at this
      exact this
    obtain ⟨cur', h1, h2, h3, h4, h5, h6, h7, h8⟩ := put_row w n g 51 cur hg (cellsP L') (by rw [cellsP_len, hlen]; omega)
    have hgrow : ∀ b, b < w.heap.size → (Sort.grow (Sort.putRow id (Sort.ahead w n) g 0 (cellsP L').toArray) os).heap[b]? = (Sort.putRow id (Sort.ahead w n) g 0 (cellsP L').toArray).heap[b]? := fun b hb => by
      unfold Sort.grow
      rw [Array.getElem?_append_left (by rw [h5]; exact hb)]
    have hW : sortWorldK prC 5 w g 0 n L'.toArray os = Sort.grow (Sort.putRow id (Sort.ahead w n) g 0 (cellsP L').toArray) os := by
      unfold sortWorldK Sort.putRowK
      rw [flat_cells]
    rw [hW]
    refine ⟨rfl, L', hperm, List.pairwise_iff_getElem.2 fun i j hi hj hij => ?_, ?_, ?_, ?_⟩
    · have := hs i j (Nat.zero_le _) hij (by rw [← hlen]; exact hj)
      rw [lt_less, getElem!_pos _ _ (by simpa using hj), getElem!_pos _ _ (by simp; omega)] at this
      simpa using this
    · refine ⟨by rw [cellsP_len], .inr ⟨g, cap, cur', by rw [hlen], hB, (hgrow g hgl).trans h1, by omega, hcm, by omega, ?_⟩⟩
      rw [cellsP_len] at h3
      rw [h3]
    · refine ⟨h6, h7, h8, ?_, fun b hb => ?_⟩
      · unfold Sort.grow
        simp only [Array.size_append]
        omega
      · by_cases hbw : b < w.heap.size
        · rw [hgrow b hbw, h4 b (by omega)]
        · omega
    · intro k cs t fr ht hk
      have hkl := (Array.getElem?_eq_some_iff.1 hk).1
      rw [hgrow k hkl, h4 k (fun e => ?_)]
      · exact hk
      · subst e
        rw [hg] at hk
        injection hk with hk
        injection hk with _ hk _
        exact ht hk.symm
end Go.Proofs.YtmaaacaifpgpaaaDoor
