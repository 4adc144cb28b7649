/- strings.Clone; (*node).place; slices.Insert and slices.Delete of one number. Conditions: those that each row states. -/
import Derived.Test.YtcicnbbnkeellaaGreatDoorRw
import Derived.Test.YtcicnbbnkeellaaGreatDoorGr
import Derived.Test.YtcicnbbnkeellaaGreatDoorPa
namespace Go.Proofs.YtcicnbbnkeellaaGreatDoor
open Go.RowKit
set_option maxRecDepth 100000

theorem clone_any : ClnW := fun l w hl => by
  have h := Tryz.stringslite_Clone ⟨l.toArray⟩ w (by show l.length ≤ _; omega)
  simp only [str]
  go_enter Tryz.func50, Tryz.ntmps50
  go_wp2_with (go_at_call 74; refine h.mono ?_; rintro e w' ⟨rfl, hb⟩)
  go_ret
  exact ⟨rfl, hb⟩

/-- Where a number stands, or would stand. -/
def posI (l : List Int) (z : Int) : Nat := l.countP (· < z)
theorem posI_le (l : List Int) (z : Int) : posI l z ≤ l.length := List.countP_le_length
theorem place_none (w : World) (z : Int) : Calls Tryz.prog 23 #[.pointer none, .int .i64 z] w fun e w' => e = .returned (.tuple #[.int .i64 0, .bool false]) ∧ w' = w := by
  go_enter Tryz.func23, Tryz.ntmps23
  go_wp2
  go_ret2
  exact ⟨rfl, rfl⟩
theorem search_any (w : World) {N : Nat} {T : Tr} {p : List Wd} {nd : Nd} (h : NdAt w N T p nd) (z : Int) : Calls Tryz.prog 49 #[nd.v, .int .i64 z] w fun e w' => e = .returned (.tuple #[.int .i64 (posI nd.ids z), .bool (nd.ids.contains z)]) ∧ Below w.heap.size w w' := by
  obtain ⟨a, cp, hv, hA⟩ := h.rd
  rw [hv]
  by_cases h0 : nd.ids = []
  · rw [h0]
    refine (Tryz.slices_BinarySearch_int_empty a cp z w).mono ?_
    rintro e w' ⟨rfl, rfl⟩
    exact ⟨rfl, Below.refl _ _⟩
  · obtain ⟨g, rfl, _⟩ := hA 0 (List.length_pos_iff.2 h0)
    refine (Tryz.slices_BinarySearch_int g 0 nd.ids.length cp nd.ids z w (Nat.le_refl _) (by have := h.few; omega) (fun j hj => ?_) ?_).mono ?_
    · obtain ⟨g', e, hc⟩ := hA j hj
      injection e with e
      injection e with e
      subst e
      rw [Nat.zero_add, hc, List.getD_eq_getElem?_getD, List.getElem?_eq_getElem hj]
      rfl
    · rw [List.take_length]
      exact h.ris.imp (fun {a b} hab => by have : a < b := hab; omega)
    · rintro e w' ⟨rfl, q, rfl⟩
      rw [List.take_length]
      exact ⟨rfl, ⟨rfl, rfl, rfl, Nat.le_refl _, fun _ _ => rfl⟩⟩
theorem place_any (w : World) {N : Nat} {T : Tr} {p : List Wd} {nd : Nd} (h : NdAt w N T p nd) (z : Int) : Calls Tryz.prog 23 #[ptrO (some nd.q), .int .i64 z] w fun e w' => e = .returned (.tuple #[.int .i64 (posI nd.ids z), .bool (nd.ids.contains z)]) ∧ Below w.heap.size w w' := by
  obtain ⟨c0, c1, _, _⟩ := cell_q h.cells
  have hs := search_any w h z
  clear c0
  generalize nd.ids.contains z = r at *
  generalize posI nd.ids z = k at *
  generalize nd.v = v at *
  simp only [ptrO]
  go_enter Tryz.func23, Tryz.ntmps23
  go_wp2_with (go_at_call 49; refine hs.mono ?_; rintro e w' ⟨rfl, hb⟩)
  go_ret2
  exact ⟨rfl, hb⟩

theorem ints_one (l : List Int) : ∀ v ∈ ints l, v.oneCell' = true := by
  intro v hv
  obtain ⟨z, _, rfl⟩ := List.mem_map.1 hv
  rfl
theorem row_cells {w : World} {g n : Nat} {cur : Array Value} {xs : List Value} (hg : w.heap[g]? = some (.cells cur 3 (0, 0))) (ht : cur.toList.take n = xs) : ∀ j v, xs[j]? = some v → w.cell? ⟨g, 0 + j, none⟩ = some v := fun j v hj => by
  rw [← ht] at hj
  have hjn : j < n := by
    have := (List.getElem?_eq_some_iff.1 hj).1
    rw [List.length_take] at this
    omega
  rw [List.getElem?_take_of_lt hjn] at hj
  unfold World.cell?
  rw [hg, Nat.zero_add]
  simpa using hj
theorem row_there {w : World} {g : Nat} {cur : Array Value} (hg : w.heap[g]? = some (.cells cur 3 (0, 0))) (j : Nat) (hj : j < cur.size) : (w.cell? ⟨g, j, none⟩).isSome = true ∧ w.frozen? ⟨g, j, none⟩ = false := by
  unfold World.cell? World.frozen?
  rw [hg]
  simp [hj]
theorem take_two (A C : List Value) (n : Nat) (h : A.length = n) : (A ++ C).take n = A := by rw [← h, List.take_left]
theorem setA (cur D : List Value) (i : Nat) (x : Value) (h : i + 1 + D.length ≤ cur.length) : (setL (setL cur (i + 1) D) i [x]).take (i + 1 + D.length) = cur.take i ++ [x] ++ D := by
  rw [setL_eq _ _ _ (by rw [setL_len]; simp; omega), setL_eq D cur (i + 1) (by omega)]
  have e1 : (cur.take (i + 1) ++ D ++ cur.drop (i + 1 + D.length)).take i = cur.take i := by
    rw [List.append_assoc, List.take_append_of_le_length (by simp; omega), List.take_take]
    congr 1
    omega
  have e2 : (cur.take (i + 1) ++ D ++ cur.drop (i + 1 + D.length)).drop (i + [x].length) = D ++ cur.drop (i + 1 + D.length) := by
    rw [List.append_assoc, List.drop_append_of_le_length (by simp; omega)]
    simp
  rw [e1, e2, ← List.append_assoc, take_two _ _ _ (by simp; omega)]
theorem setB (cur D : List Value) (i : Nat) (x : Value) (h : i + 1 + D.length ≤ cur.length) : (setL (setL cur i [x]) (i + 1) D).take (i + 1 + D.length) = cur.take i ++ [x] ++ D := by
  rw [setL_eq D _ _ (by rw [setL_len]; omega), setL_eq [x] cur i (by simp; omega)]
  have e1 : (cur.take i ++ [x] ++ cur.drop (i + [x].length)).take (i + 1) = cur.take i ++ [x] := by
    rw [take_two _ _ _ (by simp; omega)]
  rw [e1, take_two _ _ _ (by simp; omega)]
theorem zero_size (n : Nat) : (Builtin.zeroCells (Value.int .i64 0).cells n).size = n := by
  simp [Builtin.zeroCells, Value.cells]
/-- A new row. -/
theorem grow_row (w : World) (L : List Value) (n old : Nat) (hL : L.length = n) (hm : n ≤ 1000) :
    (w.drew.alloc (.cells (L.toArray ++ Builtin.zeroCells (Value.int .i64 0).cells (grownCap w n old 3 - n)) 3)).ownsRow 0 3 1 (.slice (some ⟨w.heap.size, 0, none⟩) n (grownCap w n old 3)) n L := by
  have h1 := grownCap_ge w n old 3
  have h2 := grownCap_le_maxLen w n old 3 (by unfold maxLen; omega)
  refine ⟨by omega, .inr ⟨w.heap.size, _, _, rfl, Nat.zero_le _, (MapKept.heap_alloc w.drew _).1, h1, h2, ?_, ?_⟩⟩
  · rw [Array.size_append, zero_size]
    simp
    omega
  · rw [Array.toList_append, List.toList_toArray, Nat.mul_one, take_two _ _ _ hL]
theorem fr_grow (w : World) (v : Value) (c n : Nat) (o : Obj) : Fr1 v (.slice (some ⟨w.heap.size, 0, none⟩) n c) w (w.drew.alloc o) :=
  ⟨rfl, rfl, rfl, by have := World.size_alloc w.drew o; have e : w.drew.heap.size = w.heap.size := rfl; omega, fun b hb _ => (MapKept.heap_alloc w.drew o).2 b hb, fun b hb => by
    injection hb with hb
    right
    exact Nat.le_of_eq hb⟩
theorem fr_set {w w' : World} {g n n' c c' : Nat} (h : ∀ b, b ≠ g → w'.heap[b]? = w.heap[b]?) (hs : w'.heap.size = w.heap.size) (h1 : w'.os = w.os) (h2 : w'.tape = w.tape) (h3 : w'.output = w.output) : Fr1 (.slice (some ⟨g, 0, none⟩) n c) (.slice (some ⟨g, 0, none⟩) n' c') w w' :=
  ⟨h1, h2, h3, Nat.le_of_eq hs.symm, fun b _ hb => h b (fun e => hb (by rw [e]; rfl)), fun b hb => .inl hb⟩
/-- slices.Insert of one number. -/
theorem insert_any (w : World) (v : Value) (ids : List Int) (hr : w.ownsRow 0 3 1 v ids.length (ints ids)) (hf : ids.length ≤ 64) (i : Nat) (hi : i ≤ ids.length) (x : Int) (vb : Nat) (hvb : w.heap[vb]? = some (.cells #[.int .i64 x] 3 (0, 0))) (hne : v.ownBlock ≠ some vb) :
    Calls Tryz.prog 25 #[v, .int .i64 i, .slice (some ⟨vb, 0, none⟩) 1 1] w fun e w' => ∃ v', e = .returned v' ∧ w'.ownsRow 0 3 1 v' (ids.length + 1) (ints (ids.take i ++ x :: ids.drop i)) ∧ Fr1 v v' w w' := by
  have hvs : ∀ j u, ([.int .i64 x] : List Value)[j]? = some u → w.cell? ⟨vb, 0 + j, none⟩ = some u := fun j u hj => by
    unfold World.cell?
    rw [hvb, Nat.zero_add]
    simpa using hj
  have h1v : ∀ u ∈ ([.int .i64 x] : List Value), u.oneCell' = true := fun u hu => by simp at hu; subst hu; rfl
  have hil : (ints ids).length = ids.length := by simp [ints]
  have hT : ints (ids.take i ++ x :: ids.drop i) = (ints ids).take i ++ [.int .i64 x] ++ (ints ids).drop i := by simp [ints]
  have hTl : (ints (ids.take i ++ x :: ids.drop i)).length = (ids.length + 1) * 1 := by simp [ints]; omega
  obtain ⟨_, ⟨rfl, h0⟩ | ⟨g, cap, cur, rfl, _, hg, hnc, hcm, hcs, hct⟩⟩ := hr
  · have hids : ids = [] := List.eq_nil_of_length_eq_zero h0
    subst hids
    have hi0 : i = 0 := by simpa using hi
    subst hi0
    refine (Any2.slices_Insert_int_end_grow Tryz.laysNm221 none 0 0 vb 0 1 1 [] [.int .i64 x] w (by omega) (by omega) (by omega) (by omega) rfl rfl (fun _ => rfl) (fun a e => by cases e) hvs h1v).mono ?_
    rintro e w' ⟨rfl, rfl⟩
    exact ⟨_, rfl, grow_row w [.int .i64 x] 1 0 rfl (by omega), fr_grow w _ _ _ _⟩
  · have hcu : cur.size = cap := by omega
    rw [Nat.mul_one] at hct
    have hcl : cur.toList.length = cap := by simpa using hcu
    have hrow := row_cells hg hct
    have hvg : vb ≠ g := fun e => hne (by rw [e]; rfl)
    by_cases hroom : ids.length + 1 ≤ cap
    · by_cases hin : i < ids.length
      · refine (Any2.slices_Insert_int_shift Tryz.laysNm221 g 0 ids.length cap i vb 0 1 1 (ints ids) [.int .i64 x] w hin (by omega) hroom (by unfold maxLen at hcm; omega) hvg hil rfl hrow (fun j hj => by rw [Nat.zero_add]; exact (row_there hg j (by omega)).1) (fun j hj => by rw [Nat.zero_add]; exact (row_there hg j (by omega)).2) hvs (ints_one ids) h1v 3 3 1 cap (by unfold World.shape?; rw [hvb]; rfl) (by unfold World.shape?; rw [hg]; simp [hcu]) (by omega) (by unfold World.frozen?; rw [hvb]; rfl) (by unfold World.frozen?; rw [hvb]; rfl)).mono ?_
        rintro e w' ⟨rfl, rfl⟩
        have hg' : w.drew.heap[g]? = some (.cells cur 3 (0, 0)) := hg
        obtain ⟨r1, r2, r3, r4⟩ := setCells_rest g ((ints ids).drop i) w.drew (0 + (i + 1))
        obtain ⟨s1, s2, s3, s4⟩ := setCells_rest g [.int .i64 x] (w.drew.setCells g (0 + (i + 1)) ((ints ids).drop i)) (0 + i)
        have e1 := setCells_heap g 3 ((ints ids).drop i) w.drew cur (0 + (i + 1)) hg'
        have e2 := setCells_heap g 3 [.int .i64 x] _ _ (0 + i) e1
        simp only [Nat.zero_add] at e1 e2 r1 r2 r3 r4 s1 s2 s3 s4 ⊢
        refine ⟨_, rfl, ⟨hTl, .inr ⟨g, cap, _, rfl, Nat.zero_le _, e2, hroom, hcm, ?_, ?_⟩⟩, fr_set (fun b hb => ?_) ?_ (s1.trans r1) (s2.trans r2) (s3.trans r3)⟩
        · simp only [List.size_toArray, setL_len, Nat.mul_one]
          exact hcl
        · have hd : ((ints ids).drop i).length = ids.length - i := by rw [List.length_drop, hil]
          have := setA cur.toList ((ints ids).drop i) i (.int .i64 x) (by rw [hd, hcl]; omega)
          rw [hd, show i + 1 + (ids.length - i) = ids.length + 1 by omega] at this
          simp only [Nat.mul_one]
          rw [this, hT, ← hct, List.take_take, Nat.min_eq_left hi]
        · rw [setCells_other _ _ _ _ _ hb, setCells_other _ _ _ _ _ hb]
          rfl
        · rw [s4, r4]
          rfl
      · obtain rfl : i = ids.length := by omega
        refine (Any2.slices_Insert_int_end_room Tryz.laysNm221 g 0 ids.length cap vb 0 1 1 [.int .i64 x] w (by omega) hroom (by unfold maxLen at hcm; omega) rfl (fun j hj => by rw [Nat.zero_add]; exact (row_there hg _ (by omega)).1) (fun j hj => by rw [Nat.zero_add]; exact (row_there hg _ (by omega)).2) hvs h1v).mono ?_
        rintro e w' ⟨rfl, rfl⟩
        obtain ⟨s1, s2, s3, s4⟩ := setCells_rest g [.int .i64 x] w (0 + ids.length)
        have e2 := setCells_heap g 3 [.int .i64 x] _ _ (0 + ids.length) hg
        simp only [Nat.zero_add] at e2 s1 s2 s3 s4 ⊢
        refine ⟨_, rfl, ⟨hTl, .inr ⟨g, cap, _, rfl, Nat.zero_le _, e2, hroom, hcm, ?_, ?_⟩⟩, fr_set (fun b hb => setCells_other _ _ _ _ _ hb) s4 s1 s2 s3⟩
        · simp only [List.size_toArray, setL_len, Nat.mul_one]
          exact hcl
        · have := setA cur.toList [] ids.length (.int .i64 x) (by rw [hcl]; simp; omega)
          simp only [List.length_nil, Nat.add_zero, setL] at this
          simp only [Nat.mul_one, setL]
          rw [this, hT, ← hct]
          simp [List.take_take]
    · have hcn : cap = ids.length := by omega
      by_cases hin : i < ids.length
      · refine (Any2.slices_Insert_int_grow Tryz.laysNm221 g 0 ids.length cap i vb 0 1 1 (ints ids) [.int .i64 x] w hin (by omega) hnc (by omega) (by omega) hil rfl hrow hvs (ints_one ids) h1v).mono ?_
        rintro e w' ⟨rfl, rfl⟩
        have k1 := grownCap_ge w (ids.length + 1) cap 3
        have k2 := grownCap_le_maxLen w (ids.length + 1) cap 3 (by unfold maxLen; omega)
        obtain ⟨A, hA⟩ : ∃ A : Array Value, A = ((ints ids).take i).toArray ++ Builtin.zeroCells (Value.int .i64 0).cells (ids.length + 1 - i) ++ Builtin.zeroCells (Value.int .i64 0).cells (grownCap w (ids.length + 1) cap 3 - (ids.length + 1)) := ⟨_, rfl⟩
        have hAs : A.size = grownCap w (ids.length + 1) cap 3 := by
          rw [hA, Array.size_append, Array.size_append, zero_size, zero_size]
          simp only [List.size_toArray, List.length_take, hil]
          omega
        have hAt : A.toList.take i = (ints ids).take i := by
          rw [hA, Array.toList_append, Array.toList_append, List.append_assoc, List.toList_toArray, take_two _ _ _ (by rw [List.length_take, hil]; omega)]
        show ∃ v', _ ∧ World.ownsRow ((((w.alloc (.cells (((ints ids).take i).toArray ++ Builtin.zeroCells (Value.int .i64 0).cells (ids.length + 1 - i) ++ Builtin.zeroCells (Value.int .i64 0).cells (grownCap w (ids.length + 1) cap 3 - (ids.length + 1))) 3)).drew.setCells w.heap.size i [.int .i64 x]).drew).setCells w.heap.size (i + 1) ((ints ids).drop i)) 0 3 1 v' _ _ ∧ Fr1 _ v' w ((((w.alloc (.cells (((ints ids).take i).toArray ++ Builtin.zeroCells (Value.int .i64 0).cells (ids.length + 1 - i) ++ Builtin.zeroCells (Value.int .i64 0).cells (grownCap w (ids.length + 1) cap 3 - (ids.length + 1))) 3)).drew.setCells w.heap.size i [.int .i64 x]).drew).setCells w.heap.size (i + 1) ((ints ids).drop i))
        rw [← hA]
        clear hA
        obtain ⟨r1, r2, r3, r4⟩ := setCells_rest w.heap.size [.int .i64 x] (w.alloc (.cells A 3)).drew i
        obtain ⟨s1, s2, s3, s4⟩ := setCells_rest w.heap.size ((ints ids).drop i) ((w.alloc (.cells A 3)).drew.setCells w.heap.size i [.int .i64 x]).drew (i + 1)
        have e0 : (w.alloc (.cells A 3)).drew.heap[w.heap.size]? = some (.cells A 3 (0, 0)) := (MapKept.heap_alloc w _).1
        have e1 : ((w.alloc (.cells A 3)).drew.setCells w.heap.size i [.int .i64 x]).drew.heap[w.heap.size]? = _ := setCells_heap w.heap.size 3 [.int .i64 x] _ _ i e0
        have e2 := setCells_heap w.heap.size 3 ((ints ids).drop i) _ _ (i + 1) e1
        refine ⟨_, rfl, ⟨hTl, .inr ⟨w.heap.size, _, _, rfl, Nat.zero_le _, e2, k1, k2, ?_, ?_⟩⟩, ⟨s1.trans r1, s2.trans r2, s3.trans r3, ?_, fun b hb _ => ?_, fun b hb => ?_⟩⟩
        · simp only [List.size_toArray, setL_len, Nat.mul_one]
          exact (by simpa using hAs : A.toList.length = grownCap w (ids.length + 1) cap 3)
        · have hd : ((ints ids).drop i).length = ids.length - i := by rw [List.length_drop, hil]
          have hAl : A.toList.length = grownCap w (ids.length + 1) cap 3 := by simpa using hAs
          have := setB A.toList ((ints ids).drop i) i (.int .i64 x) (by rw [hd, hAl]; omega)
          rw [hd, show i + 1 + (ids.length - i) = ids.length + 1 by omega] at this
          simp only [Nat.mul_one]
          rw [this, hT, hAt]
        · rw [s4, show ((w.alloc (.cells A 3)).drew.setCells w.heap.size i [.int .i64 x]).drew.heap.size = _ from r4]
          have := World.size_alloc w (.cells A 3)
          show w.heap.size ≤ (w.alloc (.cells A 3)).heap.size
          omega
        · rw [setCells_other _ _ _ _ _ (by omega)]
          show ((w.alloc (.cells A 3)).drew.setCells w.heap.size i [.int .i64 x]).heap[b]? = _
          rw [setCells_other _ _ _ _ _ (by omega)]
          exact (MapKept.heap_alloc w _).2 b hb
        · injection hb with hb
          right
          exact Nat.le_of_eq hb
      · obtain rfl : i = ids.length := by omega
        refine (Any2.slices_Insert_int_end_grow Tryz.laysNm221 (some ⟨g, 0, none⟩) ids.length cap vb 0 1 1 (ints ids) [.int .i64 x] w (by omega) hnc (by omega) (by omega) hil rfl (fun e => by cases e) (fun a e j v hj => by injection e with e; subst e; rw [Addr.add_lit]; exact hrow j v hj) hvs h1v).mono ?_
        rintro e w' ⟨rfl, rfl⟩
        refine ⟨_, rfl, ?_, fr_grow w _ _ _ _⟩
        have := grow_row w (ints ids ++ [.int .i64 x]) (ids.length + 1) cap (by simp [ints]) (by omega)
        rw [hT, List.take_of_length_le (by omega), List.drop_of_length_le (by omega), List.append_nil]
        exact this
/-- slices.Delete of one number. -/
theorem delete_any (w : World) (v : Value) (ids : List Int) (hr : w.ownsRow 0 3 1 v ids.length (ints ids)) (i : Nat) (hi : i < ids.length) :
    Calls Tryz.prog 28 #[v, .int .i64 i, .int .i64 ((i : Int) + 1)] w fun e w' => ∃ v', e = .returned v' ∧ w'.ownsRow 0 3 1 v' (ids.length - 1) (ints (ids.take i ++ ids.drop (i + 1))) ∧ Fr1 v v' w w' := by
  obtain ⟨_, ⟨rfl, h0⟩ | ⟨g, cap, cur, rfl, _, hg, hnc, hcm, hcs, hct⟩⟩ := hr
  · omega
  · have hcu : cur.size = cap := by omega
    rw [Nat.mul_one] at hct
    have hH : Sort.Holds (Value.int .i64) w g 0 ids.toArray := fun j hj => by
      have hj' : j < ids.length := by simpa using hj
      refine ⟨?_, by rw [Nat.zero_add]; exact (row_there hg j (by omega)).2⟩
      have h9 : (ints ids)[j]? = some (.int .i64 ids[j]) := by simp [ints, hj']
      rw [row_cells hg hct j _ h9]
      simp [hj']
    have hd := Tryz.slices_Delete_int g 0 cap i (i + 1) ids w hH hnc (by unfold maxLen at hcm; omega) (by omega) (by omega)
    rw [show ((i + 1 : Nat) : Int) = (i : Int) + 1 by omega] at hd
    refine hd.mono ?_
    rintro e w' ⟨rfl, q, rfl⟩
    have hl : (ids.take i ++ ids.drop (i + 1) ++ List.replicate (i + 1 - i) (0 : Int)).length = ids.length := by
      simp only [List.length_append, List.length_take, List.length_drop, List.length_replicate]; omega
    obtain ⟨cur', h1, h2, h3, h4, h5, h6, h7, h8⟩ := put_row (Value.int .i64) w q g 3 cur hg (ids.take i ++ ids.drop (i + 1) ++ List.replicate (i + 1 - i) (0 : Int)) (by rw [hl]; omega)
    refine ⟨_, rfl, ⟨?_, .inr ⟨g, cap, cur', by rw [show i + 1 - i = 1 by omega], Nat.zero_le _, h1, by omega, hcm, by omega, ?_⟩⟩, fr_set h4 h5 h6 h7 h8⟩
    · simp only [ints, List.length_map, List.length_append, List.length_take, List.length_drop]; omega
    · rw [hl] at h3
      have e9 : cur'.toList.take ((ids.length - 1) * 1) = (cur'.toList.take ids.length).take (ids.length - 1) := by
        rw [List.take_take]; congr 1; omega
      rw [e9, h3, List.map_append, take_two _ _ _ (by simp only [List.length_map, List.length_append, List.length_take, List.length_drop]; omega)]
      rfl
end Go.Proofs.YtcicnbbnkeellaaGreatDoor
