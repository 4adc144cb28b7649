/- slices.Insert of one where there is no room: what its calls of append and copy make. Conditions: those that each row states. -/
import Derived.Test.YtnpikgakpmkipabGreatDoorY13
import Derived.Test.YtnpikgakpmkipabGreatDoorY04
import Derived.Test.YtnpikgakpmkipabGreatDoorY12
import Derived.Test.YtnpikgakpmkipabGreatDoorY03
namespace Go.Proofs.YtnpikgakpmkipabGreatDoor
open Go.RowKit Go.Lib
set_option maxRecDepth 100000
set_option maxHeartbeats 4000000 in
theorem insG_run {α : Type} {ty ts kk fi fo fd bb : Nat} {zv : Value} (hI : KI ty ts kk fi fo fd bb zv) (w : World) (B : Nat) (hB : B ≤ w.heap.size) (zs : Zs α) (R : List Value → α → Prop) (g cap n i j : Nat) (cur : Array Value) (kg : Blk w g cur ty) (ht : cur.toList.take (zs.length * kk) = cellsZ zs) (hR : ∀ z ∈ zs, (z.1.length = kk ∧ ∀ u ∈ z.1, u.oneCell' = true) ∧ R z.1 z.2)
  (hnn : zs.length = n) (hi : i < n) (hj : j = n + 1) (hroom : cap < j) (hcap : n ≤ cap) (hn : n ≤ 1000) (bv : Nat) (z : List Value × α) (hz : (z.1.length = kk ∧ ∀ u ∈ z.1, u.oneCell' = true) ∧ R z.1 z.2) (kv : Blk w bv z.1.toArray ty) (row : Option Nat) :
  ∃ (G : Nat) (W1 W2 W3 : World), ((Builtin.append_ #[ts, 3] ts #[.slice (some ⟨g, 0, none⟩) i cap, .int .i64 ((j - i : Nat) : Int)]).run Tryz.prog w = .ok (.slice (some ⟨w.heap.size, 0, none⟩) j G) W1) ∧ ((Builtin.copy_ #[ts, ts] 3 #[.slice (some ⟨w.heap.size, i * kk, none⟩) (j - i) (G - i), .slice (some ⟨bv, 0, none⟩) 1 1]).run Tryz.prog W1 = .ok (goInt 1) W2) ∧ ((Builtin.copy_ #[ts, ts] 3 #[.slice (some ⟨w.heap.size, (i + 1) * kk, none⟩) (j - (i + 1)) (G - (i + 1)), .slice (some ⟨g, i * kk, none⟩) (n - i) (cap - i)]).run Tryz.prog W2.drew = .ok (goInt ((n - i : Nat) : Int)) W3) ∧ OwnZ ty kk R W3 B (.slice (some ⟨w.heap.size, 0, none⟩) j G) (zs.take i ++ z :: zs.drop i) ∧ w.grownBy W3 row ∧ j ≤ G ∧ G ≤ maxLen := by
 have hk : ∀ y ∈ zs, y.1.length = kk := fun y hy => (hR y hy).1.1
 have hkd : ∀ y ∈ zs.drop i, y.1.length = kk := fun y hy => hk y (List.mem_of_mem_drop hy)
 have hkt : ∀ y ∈ zs.take i, y.1.length = kk := fun y hy => hk y (List.mem_of_mem_take hy)
 have hdl : (cellsZ (zs.drop i)).length = (n - i) * kk := by rw [cellsZ_len hkd, List.length_drop, hnn]
 have htl : (cellsZ (zs.take i)).length = i * kk := by rw [cellsZ_len hkt, List.length_take, hnn, Nat.min_eq_left (by rcases hI.k with rfl | rfl | rfl | rfl <;> omega)]
 have h1d : ∀ u ∈ cellsZ (zs.drop i), u.oneCell' = true := fun u hu => by
  obtain ⟨y, hy, hu⟩ := List.mem_flatMap.1 hu
  exact (hR y (List.mem_of_mem_drop hy)).1.2 u hu
 have hsd : ∀ t u, (cellsZ (zs.drop i))[t]? = some u → w.cell? ⟨g, i * kk + t, none⟩ = some u := fun t u hu => by
  rw [kg.cell, ← hu, ← cellsZ_drop hk, List.getElem?_drop, ← ht]
  have ht2 : i * kk + t < zs.length * kk := by
   have := (List.getElem?_eq_some_iff.1 hu).1
   rw [hdl] at this
   rcases hI.k with rfl | rfl | rfl | rfl <;> omega
  rw [List.getElem?_take_of_lt ht2]
  simp
 have hst : ∀ t u, (cellsZ (zs.take i))[t]? = some u → w.cell? ⟨g, t, none⟩ = some u := fun t u hu => by
  have ht1 : t < i * kk := by
   have := (List.getElem?_eq_some_iff.1 hu).1
   rwa [htl] at this
  rw [kg.cell, ← hu, ← cellsZ_take hk, List.getElem?_take_of_lt ht1, ← ht, List.getElem?_take_of_lt (by rcases hI.k with rfl | rfl | rfl | rfl <;> omega)]
  simp
 obtain ⟨i0, hi0, hz0, hz1, hz2⟩ := info_parts hI.inf
 have hszk : (Tryz.prog.info? ty).map (·.size) = some kk := hI.sz
 have hold : (Builtin.firstCells i0.size i (.slice (some ⟨g, 0, none⟩) i cap)).run Tryz.prog w.drew = .ok (cellsZ (zs.take i)).toArray w.drew := by
  rw [hz1]
  exact run_firstCells_some w.drew kk i ⟨g, 0, none⟩ i cap (cellsZ (zs.take i)) htl (fun t u hu => by
   rw [Addr.add_lit, Nat.zero_add]
   exact hst t u hu)
 have hkk : i + (j - i) = j := by rcases hI.k with rfl | rfl | rfl | rfl <;> omega
 have hrz := Lib.run_append_grow_zeros (P := Tryz.prog) w ts 3 ts ty i0 _ .i64 .i64 hI.us under3 hi0 hz0 (some ⟨g, 0, none⟩) i cap (cellsZ (zs.take i)) hold (j - i) (by rcases hI.kb with ⟨rfl, rfl⟩ | ⟨rfl, rfl⟩ | ⟨rfl, rfl⟩ | ⟨rfl, rfl⟩ | ⟨rfl, rfl⟩ | ⟨rfl, rfl⟩ <;> omega) (by rw [hz1]; (rcases hI.kb with ⟨rfl, rfl⟩ | ⟨rfl, rfl⟩ | ⟨rfl, rfl⟩ | ⟨rfl, rfl⟩ | ⟨rfl, rfl⟩ | ⟨rfl, rfl⟩ <;> omega)) (by rcases hI.kb with ⟨rfl, rfl⟩ | ⟨rfl, rfl⟩ | ⟨rfl, rfl⟩ | ⟨rfl, rfl⟩ | ⟨rfl, rfl⟩ | ⟨rfl, rfl⟩ <;> omega) (by rcases hI.kb with ⟨rfl, rfl⟩ | ⟨rfl, rfl⟩ | ⟨rfl, rfl⟩ | ⟨rfl, rfl⟩ | ⟨rfl, rfl⟩ | ⟨rfl, rfl⟩ <;> omega) (by rw [hz2]; (rcases hI.kb with ⟨rfl, rfl⟩ | ⟨rfl, rfl⟩ | ⟨rfl, rfl⟩ | ⟨rfl, rfl⟩ | ⟨rfl, rfl⟩ | ⟨rfl, rfl⟩ <;> omega)) (by rw [hz2, hkk]; exact growslice_fits hroom (by rcases hI.kb with ⟨rfl, rfl⟩ | ⟨rfl, rfl⟩ | ⟨rfl, rfl⟩ | ⟨rfl, rfl⟩ | ⟨rfl, rfl⟩ | ⟨rfl, rfl⟩ <;> omega))
 rw [hkk] at hrz
 obtain ⟨G, hG⟩ : ∃ G, grownCap w j cap ty = G := ⟨_, rfl⟩
 have hGn : j ≤ G := by rw [← hG]; exact grownCap_ge w _ _ _
 have hGm : G ≤ maxLen := by rw [← hG]; exact grownCap_le_maxLen w j cap ty (by unfold maxLen; (rcases hI.k with rfl | rfl | rfl | rfl <;> omega))
 rw [hG] at hrz
 have hzc : zv.cells.size = kk := hI.cs
 obtain ⟨ROW, hROW⟩ : ∃ ROW : Array Value, (cellsZ (zs.take i)).toArray ++ Builtin.zeroCells zv.cells (j - i) ++ Builtin.zeroCells zv.cells (G - j) = ROW := ⟨_, rfl⟩
 rw [hROW] at hrz
 have hRs : ROW.size = G * kk := by
  rw [← hROW]
  simp only [Array.size_append, Builtin.zeroCells, Array.size_map, Array.size_range, hzc, List.size_toArray, htl]
  rcases hI.k with rfl | rfl | rfl | rfl <;> omega
 have hRt : ROW.toList.take (i * kk) = cellsZ (zs.take i) := by
  rw [← hROW, Array.toList_append, Array.toList_append, List.toList_toArray, List.append_assoc, ← htl, List.take_left' rfl]
 have kN : Blk (w.drew.alloc (.cells ROW ty)) w.heap.size ROW ty := Blk.new w.drew ROW ty
 have bN : Below w.heap.size w (w.drew.alloc (.cells ROW ty)) := (Below.refl w.heap.size w).drew.alloc (Nat.le_refl _) _
 have hvlt := kv.lt
 have hglt := kg.lt
 have kvN := kv.on bN
 have kgN := kg.on bN
 have hsd2 : ∀ t u, (cellsZ (zs.drop i))[t]? = some u → (w.drew.alloc (.cells ROW ty)).cell? ⟨g, i * kk + t, none⟩ = some u := fun t u hu => by rw [kgN.cell, ← kg.cell]; exact hsd t u hu
 obtain ⟨W1, hW1⟩ : ∃ W1, w.drew.alloc (.cells ROW ty) = W1 := ⟨_, rfl⟩
 rw [hW1] at hrz kN bN kvN kgN hsd2
 have hcpA := run_copy_rowk W1 ts ts 3 ty kk w.heap.size (i * kk) (j - i) (G - i) ⟨bv, 0, none⟩ 1 1 1 ROW ty z.1 hI.us hszk kN (by simp only [Nat.min_def]; split <;> omega) (by rw [hz.1.1, Nat.one_mul]) (fun t u hu => by rw [Addr.add_lit, Nat.zero_add, kvN.cell]; simpa using hu) (by rw [hz.1.1, hRs]; (rcases hI.k with rfl | rfl | rfl | rfl <;> omega)) hz.1.2
 have kA := kN.row (ROW.toList.take (i * kk) ++ z.1 ++ ROW.toList.drop (i * kk + z.1.length)).toArray
 have kgA := kgN.rowO (g' := w.heap.size) (by rcases hI.k with rfl | rfl | rfl | rfl <;> omega) (ROW.toList.take (i * kk) ++ z.1 ++ ROW.toList.drop (i * kk + z.1.length)).toArray
 have bA := below_setRow bN (Nat.le_refl _) (ROW.toList.take (i * kk) ++ z.1 ++ ROW.toList.drop (i * kk + z.1.length)).toArray
 have hsA : (ROW.toList.take (i * kk) ++ z.1 ++ ROW.toList.drop (i * kk + z.1.length)).toArray.size = G * kk := by
  have := hz.1.1
  simp
  rcases hI.k with rfl | rfl | rfl | rfl <;> omega
 obtain ⟨W2, hW2⟩ : ∃ W2, W1.setRow w.heap.size (ROW.toList.take (i * kk) ++ z.1 ++ ROW.toList.drop (i * kk + z.1.length)).toArray = W2 := ⟨_, rfl⟩
 rw [hW2] at hcpA kA kgA bA
 obtain ⟨C1, hC1⟩ : ∃ C1, (ROW.toList.take (i * kk) ++ z.1 ++ ROW.toList.drop (i * kk + z.1.length)).toArray = C1 := ⟨_, rfl⟩
 rw [hC1] at kA hsA
 have kA' : Blk W2.drew w.heap.size C1 ty := ⟨kA.h⟩
 have kgA' : Blk W2.drew g cur ty := ⟨kgA.h⟩
 have hcpB := run_copy_rowk W2.drew ts ts 3 ty kk w.heap.size ((i + 1) * kk) (j - (i + 1)) (G - (i + 1)) ⟨g, i * kk, none⟩ (n - i) (cap - i) (n - i) C1 ty (cellsZ (zs.drop i)) hI.us hszk kA' (by simp only [Nat.min_def]; split <;> omega) hdl (fun t u hu => by rw [Addr.add_lit, kgA'.cell, ← kg.cell]; exact hsd t u hu) (by rw [hdl, hsA]; (rcases hI.k with rfl | rfl | rfl | rfl <;> omega)) h1d
 have kB := kA'.row (C1.toList.take ((i + 1) * kk) ++ cellsZ (zs.drop i) ++ C1.toList.drop ((i + 1) * kk + (cellsZ (zs.drop i)).length)).toArray
 have bB := below_setRow bA.drew (Nat.le_refl _) (C1.toList.take ((i + 1) * kk) ++ cellsZ (zs.drop i) ++ C1.toList.drop ((i + 1) * kk + (cellsZ (zs.drop i)).length)).toArray
 obtain ⟨W3, hW3⟩ : ∃ W3, W2.drew.setRow w.heap.size (C1.toList.take ((i + 1) * kk) ++ cellsZ (zs.drop i) ++ C1.toList.drop ((i + 1) * kk + (cellsZ (zs.drop i)).length)).toArray = W3 := ⟨_, rfl⟩
 rw [hW3] at hcpB kB bB
 have hfin : OwnZ ty kk R W3 B (.slice (some ⟨w.heap.size, 0, none⟩) j G) (zs.take i ++ z :: zs.drop i) := by
  have hlen : (zs.take i ++ z :: zs.drop i).length = j := by simp; (rcases hI.k with rfl | rfl | rfl | rfl <;> omega)
  have hks : ∀ y ∈ zs.take i ++ z :: zs.drop i, (y.1.length = kk ∧ ∀ u ∈ y.1, u.oneCell' = true) ∧ R y.1 y.2 := fun y hy => by
   rcases List.mem_append.1 hy with hy | hy
   ·exact hR y (List.mem_of_mem_take hy)
   ·rcases List.mem_cons.1 hy with rfl | hy
    ·exact hz
    ·exact hR y (List.mem_of_mem_drop hy)
  refine ⟨⟨by rw [cellsZ_len (fun y hy => (hks y hy).1.1), hlen], .inr ⟨w.heap.size, G, _, by rw [hlen], hB, kB.h, by rw [hlen]; exact hGn, hGm, ?_, ?_⟩⟩, hks⟩
  ·simp
   rcases hI.k with rfl | rfl | rfl | rfl <;> omega
  ·rw [hlen]
   have hzk := hz.1.1
   have e1 : C1.toList.take ((i + 1) * kk) = cellsZ (zs.take i) ++ z.1 := by
    have hl : (i + 1) * kk = (cellsZ (zs.take i) ++ z.1).length := by rw [List.length_append, htl, hzk]; (rcases hI.k with rfl | rfl | rfl | rfl <;> omega)
    rw [← hC1, List.toList_toArray, hRt, hl, List.take_left' rfl]
   have hl3 : j * kk = (cellsZ (zs.take i) ++ z.1 ++ cellsZ (zs.drop i)).length := by rw [List.length_append, List.length_append, htl, hzk, hdl]; (rcases hI.k with rfl | rfl | rfl | rfl <;> omega)
   rw [List.toList_toArray, e1, hl3, List.take_left' rfl, cellsZ_app, List.append_assoc]
   rfl
 have hgg : w.grownBy W3 row := gb_below bB row
 exact ⟨G, W1, W2, W3, hrz, hcpA, hcpB, hfin, hgg, hGn, hGm⟩
set_option linter.unusedVariables false
def Grow (ty ts kk fi fo fd bb : Nat) : Prop := ∀ {α : Type} {zv : Value} (hI : KI ty ts kk fi fo fd bb zv) (w : World) (B : Nat) (hB : B ≤ w.heap.size) (zs : Zs α) (R : List Value → α → Prop) (g cap n i j : Nat) (cur : Array Value) (kg : Blk w g cur ty) (ht : cur.toList.take (zs.length * kk) = cellsZ zs) (hR : ∀ z ∈ zs, (z.1.length = kk ∧ ∀ u ∈ z.1, u.oneCell' = true) ∧ R z.1 z.2)
  (hnn : zs.length = n) (hi : i < n) (hj : j = n + 1) (hroom : cap < j) (hcap : n ≤ cap) (hn : n ≤ 1000) (bv : Nat) (z : List Value × α) (hz : (z.1.length = kk ∧ ∀ u ∈ z.1, u.oneCell' = true) ∧ R z.1 z.2) (kv : Blk w bv z.1.toArray ty) (row : Option Nat),
  Calls Tryz.prog fi #[.slice (some ⟨g, 0, none⟩) n cap, .int .i64 i, .slice (some ⟨bv, 0, none⟩) 1 1] w fun e w' => ∃ v', e = .returned v' ∧ OwnZ ty kk R w' B v' (zs.take i ++ z :: zs.drop i) ∧ w.grownBy w' row
theorem growF (n i j cap G : Nat) (hi : i < n) (hj : j = n + 1) (hroom : cap < j) (hcap : n ≤ cap) (hn : n ≤ 1000) (hGn : j ≤ G) : (((n : Int) + 1) = (j : Int)) ∧ (((j : Int) - (i : Int)) = ((j - i : Nat) : Int)) ∧ (¬ ((i : Int) = (n : Int))) ∧ (((cap : Int) < (j : Int))) ∧ (i ≤ n) ∧ (i + 1 ≤ j) ∧ (¬ (G = i + 1)) ∧ (¬ (G = i)) ∧ (i ≤ j) ∧ (¬ (cap = i)) ∧ (i ≤ cap) ∧ (IntKind.i64.wrap ((i : Int) + 1) = (i : Int) + 1) ∧ (((i : Int) + 1).toNat = i + 1) ∧ ((0 : Int) ≤ (i : Int) + 1) ∧ ((i : Int) + 1 ≤ (j : Int)) ∧ ((i : Int) ≤ (j : Int)) := by
 refine ⟨?_, ?_, ?_, ?_, ?_, ?_, ?_, ?_, ?_, ?_, ?_, ?_, ?_, ?_, ?_, ?_⟩
 all_goals first | omega | (rw [IntKind.wrap_i64]; omega)
set_option maxHeartbeats 4000000 in
theorem growQ : Grow 82 24 7 184 243 185 96 := by
 intro α zv hI w B hB zs R g cap n i j cur kg ht hR hnn hi hj hroom hcap hn bv z hz kv row
 obtain ⟨G, W1, W2, W3, hrz, hcpA, hcpB, hfin, hgg, hGn, hGm⟩ := insG_run hI w B hB zs R g cap n i j cur kg ht hR hnn hi hj hroom hcap hn bv z hz kv row
 obtain ⟨e1, e3, hz2', hz3, hi1, hi2, hi3, hi4, hi5, hi6, hi7, hw1, htn, hb1, hb5, hb6⟩ := growF n i j cap G hi hj hroom hcap hn hGn
 have HC1 : Hid _ := hrz
 have HC2 : Hid _ := hcpA
 have HC3 : Hid _ := hcpB
 have mixed := hmix
 obtain ⟨i0, hi0, hz0, hz1, hz2⟩ := info_parts hI.inf
 clear hrz hcpA hcpB hR ht kg kv hz hj hI
 go_enter Tryz.func184, Tryz.ntmps184
 go_wp2_with (first | (refine Lib.wpList_append_run _ rfl (.tmp 34) (.tmp 39) 24 3 rfl _ _ rfl rfl _ _ HC1.out ?_) | (refine wpList_copy_runI _ rfl (.tmp 43) (.tmp 44) 24 24 rfl _ _ rfl rfl HC2.out ?_))
 go_region_law_o (refine step_copy_runI rfl (.tmp 50) (.tmp 53) 24 24 rfl _ _ (by simp [Act.eval, Act.put]) (by simp [Act.eval, Act.put]) HC3.out ?_)
 go_wp2
 go_ret
 exact ⟨_, rfl, hfin, hgg⟩
set_option maxHeartbeats 4000000 in
theorem growB : Grow 43 25 2 188 246 190 32 := by
 intro α zv hI w B hB zs R g cap n i j cur kg ht hR hnn hi hj hroom hcap hn bv z hz kv row
 obtain ⟨G, W1, W2, W3, hrz, hcpA, hcpB, hfin, hgg, hGn, hGm⟩ := insG_run hI w B hB zs R g cap n i j cur kg ht hR hnn hi hj hroom hcap hn bv z hz kv row
 obtain ⟨e1, e3, hz2', hz3, hi1, hi2, hi3, hi4, hi5, hi6, hi7, hw1, htn, hb1, hb5, hb6⟩ := growF n i j cap G hi hj hroom hcap hn hGn
 have HC1 : Hid _ := hrz
 have HC2 : Hid _ := hcpA
 have HC3 : Hid _ := hcpB
 have mixed := hmix
 obtain ⟨i0, hi0, hz0, hz1, hz2⟩ := info_parts hI.inf
 clear hrz hcpA hcpB hR ht kg kv hz hj hI
 go_enter Tryz.func188, Tryz.ntmps188
 go_wp2_with (first | (refine Lib.wpList_append_run _ rfl (.tmp 34) (.tmp 39) 25 3 rfl _ _ rfl rfl _ _ HC1.out ?_) | (refine wpList_copy_runI _ rfl (.tmp 43) (.tmp 44) 25 25 rfl _ _ rfl rfl HC2.out ?_))
 go_region_law_o (refine step_copy_runI rfl (.tmp 50) (.tmp 53) 25 25 rfl _ _ (by simp [Act.eval, Act.put]) (by simp [Act.eval, Act.put]) HC3.out ?_)
 go_wp2
 go_ret
 exact ⟨_, rfl, hfin, hgg⟩
set_option maxHeartbeats 4000000 in
theorem growS : Grow 85 26 5 207 255 138 48 := by
 intro α zv hI w B hB zs R g cap n i j cur kg ht hR hnn hi hj hroom hcap hn bv z hz kv row
 obtain ⟨G, W1, W2, W3, hrz, hcpA, hcpB, hfin, hgg, hGn, hGm⟩ := insG_run hI w B hB zs R g cap n i j cur kg ht hR hnn hi hj hroom hcap hn bv z hz kv row
 obtain ⟨e1, e3, hz2', hz3, hi1, hi2, hi3, hi4, hi5, hi6, hi7, hw1, htn, hb1, hb5, hb6⟩ := growF n i j cap G hi hj hroom hcap hn hGn
 have HC1 : Hid _ := hrz
 have HC2 : Hid _ := hcpA
 have HC3 : Hid _ := hcpB
 have mixed := hmix
 obtain ⟨i0, hi0, hz0, hz1, hz2⟩ := info_parts hI.inf
 clear hrz hcpA hcpB hR ht kg kv hz hj hI
 go_enter Tryz.func207, Tryz.ntmps207
 go_wp2_with (first | (refine Lib.wpList_append_run _ rfl (.tmp 34) (.tmp 39) 26 3 rfl _ _ rfl rfl _ _ HC1.out ?_) | (refine wpList_copy_runI _ rfl (.tmp 43) (.tmp 44) 26 26 rfl _ _ rfl rfl HC2.out ?_))
 go_region_law_o (refine step_copy_runI rfl (.tmp 50) (.tmp 53) 26 26 rfl _ _ (by simp [Act.eval, Act.put]) (by simp [Act.eval, Act.put]) HC3.out ?_)
 go_wp2
 go_ret
 exact ⟨_, rfl, hfin, hgg⟩
set_option maxHeartbeats 4000000 in
theorem growM : Grow 33 27 5 253 278 252 72 := by
 intro α zv hI w B hB zs R g cap n i j cur kg ht hR hnn hi hj hroom hcap hn bv z hz kv row
 obtain ⟨G, W1, W2, W3, hrz, hcpA, hcpB, hfin, hgg, hGn, hGm⟩ := insG_run hI w B hB zs R g cap n i j cur kg ht hR hnn hi hj hroom hcap hn bv z hz kv row
 obtain ⟨e1, e3, hz2', hz3, hi1, hi2, hi3, hi4, hi5, hi6, hi7, hw1, htn, hb1, hb5, hb6⟩ := growF n i j cap G hi hj hroom hcap hn hGn
 have HC1 : Hid _ := hrz
 have HC2 : Hid _ := hcpA
 have HC3 : Hid _ := hcpB
 have mixed := hmix
 obtain ⟨i0, hi0, hz0, hz1, hz2⟩ := info_parts hI.inf
 clear hrz hcpA hcpB hR ht kg kv hz hj hI
 go_enter Tryz.func253, Tryz.ntmps253
 go_wp2_with (first | (refine Lib.wpList_append_run _ rfl (.tmp 34) (.tmp 39) 27 3 rfl _ _ rfl rfl _ _ HC1.out ?_) | (refine wpList_copy_runI _ rfl (.tmp 43) (.tmp 44) 27 27 rfl _ _ rfl rfl HC2.out ?_))
 go_region_law_o (refine step_copy_runI rfl (.tmp 50) (.tmp 53) 27 27 rfl _ _ (by simp [Act.eval, Act.put]) (by simp [Act.eval, Act.put]) HC3.out ?_)
 go_wp2
 go_ret
 exact ⟨_, rfl, hfin, hgg⟩
set_option maxHeartbeats 4000000 in
theorem growC : Grow 88 28 2 250 275 206 40 := by
 intro α zv hI w B hB zs R g cap n i j cur kg ht hR hnn hi hj hroom hcap hn bv z hz kv row
 obtain ⟨G, W1, W2, W3, hrz, hcpA, hcpB, hfin, hgg, hGn, hGm⟩ := insG_run hI w B hB zs R g cap n i j cur kg ht hR hnn hi hj hroom hcap hn bv z hz kv row
 obtain ⟨e1, e3, hz2', hz3, hi1, hi2, hi3, hi4, hi5, hi6, hi7, hw1, htn, hb1, hb5, hb6⟩ := growF n i j cap G hi hj hroom hcap hn hGn
 have HC1 : Hid _ := hrz
 have HC2 : Hid _ := hcpA
 have HC3 : Hid _ := hcpB
 have mixed := hmix
 obtain ⟨i0, hi0, hz0, hz1, hz2⟩ := info_parts hI.inf
 clear hrz hcpA hcpB hR ht kg kv hz hj hI
 go_enter Tryz.func250, Tryz.ntmps250
 go_wp2_with (first | (refine Lib.wpList_append_run _ rfl (.tmp 34) (.tmp 39) 28 3 rfl _ _ rfl rfl _ _ HC1.out ?_) | (refine wpList_copy_runI _ rfl (.tmp 43) (.tmp 44) 28 28 rfl _ _ rfl rfl HC2.out ?_))
 go_region_law_o (refine step_copy_runI rfl (.tmp 50) (.tmp 53) 28 28 rfl _ _ (by simp [Act.eval, Act.put]) (by simp [Act.eval, Act.put]) HC3.out ?_)
 go_wp2
 go_ret
 exact ⟨_, rfl, hfin, hgg⟩
set_option maxHeartbeats 4000000 in
theorem growN : Grow 3 86 1 249 273 204 8 := by
 intro α zv hI w B hB zs R g cap n i j cur kg ht hR hnn hi hj hroom hcap hn bv z hz kv row
 obtain ⟨G, W1, W2, W3, hrz, hcpA, hcpB, hfin, hgg, hGn, hGm⟩ := insG_run hI w B hB zs R g cap n i j cur kg ht hR hnn hi hj hroom hcap hn bv z hz kv row
 obtain ⟨e1, e3, hz2', hz3, hi1, hi2, hi3, hi4, hi5, hi6, hi7, hw1, htn, hb1, hb5, hb6⟩ := growF n i j cap G hi hj hroom hcap hn hGn
 simp only [Nat.mul_one] at hcpA hcpB
 have HC1 : Hid _ := hrz
 have HC2 : Hid _ := hcpA
 have HC3 : Hid _ := hcpB
 have mixed := hmix
 obtain ⟨i0, hi0, hz0, hz1, hz2⟩ := info_parts hI.inf
 clear hrz hcpA hcpB hR ht kg kv hz hj hI
 go_enter Tryz.func249, Tryz.ntmps249
 go_wp2_with (first | (refine Lib.wpList_append_run _ rfl (.tmp 34) (.tmp 39) 86 3 rfl _ _ rfl rfl _ _ HC1.out ?_) | (refine wpList_copy_runI _ rfl (.tmp 43) (.tmp 44) 86 86 rfl _ _ rfl rfl HC2.out ?_))
 go_region_law_o (refine step_copy_runI rfl (.tmp 50) (.tmp 53) 86 86 rfl _ _ (by simp [Act.eval, Act.put]) (by simp [Act.eval, Act.put]) HC3.out ?_)
 go_wp2
 go_ret
 exact ⟨_, rfl, hfin, hgg⟩
theorem insG_grow {α : Type} {ty ts kk fi fo fd bb : Nat} {zv : Value} (hI : KI ty ts kk fi fo fd bb zv) (w : World) (B : Nat) (hB : B ≤ w.heap.size) (zs : Zs α) (R : List Value → α → Prop) (g cap n i j : Nat) (cur : Array Value) (kg : Blk w g cur ty) (ht : cur.toList.take (zs.length * kk) = cellsZ zs) (hR : ∀ z ∈ zs, (z.1.length = kk ∧ ∀ u ∈ z.1, u.oneCell' = true) ∧ R z.1 z.2)
  (hnn : zs.length = n) (hi : i < n) (hj : j = n + 1) (hroom : cap < j) (hcap : n ≤ cap) (hn : n ≤ 1000) (bv : Nat) (z : List Value × α) (hz : (z.1.length = kk ∧ ∀ u ∈ z.1, u.oneCell' = true) ∧ R z.1 z.2) (kv : Blk w bv z.1.toArray ty) (row : Option Nat) :
  Calls Tryz.prog fi #[.slice (some ⟨g, 0, none⟩) n cap, .int .i64 i, .slice (some ⟨bv, 0, none⟩) 1 1] w fun e w' => ∃ v', e = .returned v' ∧ OwnZ ty kk R w' B v' (zs.take i ++ z :: zs.drop i) ∧ w.grownBy w' row := by
 have hI' := hI
 rcases hI with ⟨rfl, rfl, rfl, rfl, rfl, rfl, rfl, rfl⟩ | ⟨rfl, rfl, rfl, rfl, rfl, rfl, rfl, rfl⟩ | ⟨rfl, rfl, rfl, rfl, rfl, rfl, rfl, rfl⟩ | ⟨rfl, rfl, rfl, rfl, rfl, rfl, rfl, rfl⟩ | ⟨rfl, rfl, rfl, rfl, rfl, rfl, rfl, rfl⟩ | ⟨rfl, rfl, rfl, rfl, rfl, rfl, rfl, rfl⟩
 ·exact growQ hI' w B hB zs R g cap n i j cur kg ht hR hnn hi hj hroom hcap hn bv z hz kv row
 ·exact growB hI' w B hB zs R g cap n i j cur kg ht hR hnn hi hj hroom hcap hn bv z hz kv row
 ·exact growS hI' w B hB zs R g cap n i j cur kg ht hR hnn hi hj hroom hcap hn bv z hz kv row
 ·exact growM hI' w B hB zs R g cap n i j cur kg ht hR hnn hi hj hroom hcap hn bv z hz kv row
 ·exact growC hI' w B hB zs R g cap n i j cur kg ht hR hnn hi hj hroom hcap hn bv z hz kv row
 ·exact growN hI' w B hB zs R g cap n i j cur kg ht hR hnn hi hj hroom hcap hn bv z hz kv row
theorem insG_any {α : Type} {ty ts kk fi fo fd bb : Nat} {zv : Value} (hI : KI ty ts kk fi fo fd bb zv) (w : World) (B : Nat) (hB : B ≤ w.heap.size) (v : Value) (zs : Zs α) (R : List Value → α → Prop) (h : OwnZ ty kk R w B v zs) (i : Nat) (hi : i ≤ zs.length) (hn : zs.length ≤ 1000) (bv : Nat) (z : List Value × α) (hz : (z.1.length = kk ∧ ∀ u ∈ z.1, u.oneCell' = true) ∧ R z.1 z.2) (kv : Blk w bv z.1.toArray ty) (hne : v.ownBlock ≠ some bv) :
  Calls Tryz.prog fi #[v, .int .i64 i, .slice (some ⟨bv, 0, none⟩) 1 1] w fun e w' => ∃ v', e = .returned v' ∧ OwnZ ty kk R w' B v' (zs.take i ++ z :: zs.drop i) ∧ w.grownBy w' v.ownBlock := by
 by_cases he : i = zs.length
 ·subst he
  refine (insG_end hI w B v zs R h hn hB bv z hz kv).mono ?_
  rintro e w' ⟨v', rfl, h1, h2⟩
  refine ⟨v', rfl, ?_, h2⟩
  rw [List.take_length, List.drop_length]
  exact h1
 ·obtain ⟨g, cap, cur, rfl, hBg, kg, hc, hm, hs, ht⟩ := ownG_some hI h (by rcases hI.k with rfl | rfl | rfl | rfl <;> omega)
  have hne' : bv ≠ g := fun e => hne (by rw [e]; rfl)
  by_cases hr : zs.length + 1 ≤ cap
  ·exact insG_room hI w B zs R g cap zs.length i (zs.length + 1) cur hBg kg hm hs ht h.2 rfl (by rcases hI.k with rfl | rfl | rfl | rfl <;> omega) rfl hr hn bv z hz kv hne'
  ·exact insG_grow hI w B hB zs R g cap zs.length i (zs.length + 1) cur kg ht h.2 rfl (by rcases hI.k with rfl | rfl | rfl | rfl <;> omega) rfl (by rcases hI.k with rfl | rfl | rfl | rfl <;> omega) hc hn bv z hz kv (some g)
theorem kiQ : KI 82 24 7 184 243 185 96 (.agg #[.string ⟨#[]⟩, .bool false, .int .i64 0, .int .i64 0, .int .i64 0, .slice none 0 0, .slice none 0 0]) := .inl ⟨rfl, rfl, rfl, rfl, rfl, rfl, rfl, rfl⟩
theorem kiB : KI 43 25 2 188 246 190 32 (.agg #[.string ⟨#[]⟩, .string ⟨#[]⟩]) := .inr <| .inl ⟨rfl, rfl, rfl, rfl, rfl, rfl, rfl, rfl⟩
theorem kiS : KI 85 26 5 207 255 138 48 (.agg #[.int .i64 0, .int .i64 0, .string ⟨#[]⟩, .int .i64 0, .bool false]) := .inr <| .inr <| .inl ⟨rfl, rfl, rfl, rfl, rfl, rfl, rfl, rfl⟩
theorem kiM : KI 33 27 5 253 278 252 72 (.agg #[.string ⟨#[]⟩, .string ⟨#[]⟩, .slice none 0 0, .bool false, .int .i64 0]) := .inr <| .inr <| .inr <| .inl ⟨rfl, rfl, rfl, rfl, rfl, rfl, rfl, rfl⟩
theorem kiC : KI 88 28 2 250 275 206 40 (.agg #[.string ⟨#[]⟩, .slice none 0 0]) := .inr <| .inr <| .inr <| .inr <| .inl ⟨rfl, rfl, rfl, rfl, rfl, rfl, rfl, rfl⟩
theorem kiN : KI 3 86 1 249 273 204 8 (.int .i64 0) := .inr <| .inr <| .inr <| .inr <| .inr <| ⟨rfl, rfl, rfl, rfl, rfl, rfl, rfl, rfl⟩
theorem cellsZ_set {α : Type} {k : Nat} {zs : Zs α} (hk : ∀ z ∈ zs, z.1.length = k) {p : Nat} (hp : p < zs.length) (y : List Value × α) : cellsZ (zs.set p y) = (cellsZ zs).take (p * k) ++ y.1 ++ (cellsZ zs).drop (p * k + k) := by
 rw [List.set_eq_take_append_cons_drop, if_pos hp, cellsZ_app, cellsZ_take hk]
 have e : p * k + k = (p + 1) * k := by rw [Nat.succ_mul]
 rw [e, cellsZ_drop hk]
 simp [cellsZ]
theorem own_set {α : Type} {e k : Nat} {R : List Value → α → Prop} {w w' : World} {B g n cap : Nat} {zs : Zs α} (h : OwnZ e k R w B (.slice (some ⟨g, 0, none⟩) n cap) zs) (hn : zs.length = n) {cur : Array Value} (kb : Blk w g cur e) {p : Nat} (hp : p < zs.length) (y : List Value × α) (hy : (y.1.length = k ∧ ∀ u ∈ y.1, u.oneCell' = true) ∧ R y.1 y.2)
  (k' : Blk w' g (cur.toList.take (p * k) ++ y.1 ++ cur.toList.drop (p * k + k)).toArray e) : OwnZ e k R w' B (.slice (some ⟨g, 0, none⟩) n cap) (zs.set p y) := by
 subst hn
 have hk : ∀ z ∈ zs, z.1.length = k := fun z hz => (h.2 z hz).1.1
 have hk2 : ∀ z ∈ zs.set p y, (z.1.length = k ∧ ∀ u ∈ z.1, u.oneCell' = true) ∧ R z.1 z.2 := fun z hz => by
  rcases List.mem_or_eq_of_mem_set hz with hz | rfl
  ·exact h.2 z hz
  ·exact hy
 refine ⟨?_, hk2⟩
 obtain ⟨hl, ⟨e1, _⟩ | ⟨g', cap', cur', e1, hb, hg, hc, hm, hs, ht⟩⟩ := h.1
 ·cases e1
 ·injection e1 with e1 e2 e3
  injection e1 with e1
  injection e1 with e1
  subst e1 e3
  have e4 := kb.h
  rw [hg] at e4
  injection e4 with e4
  injection e4 with e4
  subst e4
  have hle : p * k + k ≤ zs.length * k := by rw [← Nat.succ_mul]; exact Nat.mul_le_mul_right k hp
  have hle2 : zs.length * k ≤ cap * k := Nat.mul_le_mul_right k hc
  refine ⟨by rw [cellsZ_len (fun z hz => (hk2 z hz).1.1), List.length_set], .inr ⟨g, cap, _, by rw [List.length_set], hb, k'.h, by rw [List.length_set]; exact hc, hm, ?_, ?_⟩⟩
  ·rw [List.size_toArray, List.length_append, List.length_append, List.length_take, List.length_drop, Array.length_toList, hs, hy.1.1, Nat.min_eq_left (by omega)]
   omega
  ·rw [List.length_set, cellsZ_set hk hp y, ← ht]
   have h1 : (cur'.toList.take (p * k)).length = p * k := by rw [List.length_take, Array.length_toList, hs]; omega
   rw [List.toList_toArray, List.take_take, Nat.min_eq_left (by omega), List.append_assoc, List.append_assoc, List.take_append, h1, List.take_of_length_le (by omega)]
   congr 1
   rw [List.take_append, hy.1.1, List.take_of_length_le (by rw [hy.1.1]; omega)]
   congr 1
   rw [List.drop_take]
   congr 1
   omega
def There {α : Type} (p : Nat) (zs : Zs α) (cmp : α → Int) : Prop := ∃ hi : p < zs.length, cmp (zs[p]).2 = 0
def EnR {α : Type} (e k : Nat) (R : List Value → α → Prop) (w : World) (B : Nat) (v : Value) (zs : Zs α) (p : Nat) (cmp : α → Int) (most : Int) (y : List Value × α) (r : Ending) (w' : World) : Prop :=
 (There p zs cmp ∧ r = .returned v ∧ OwnZ e k R w' B v (zs.set p y) ∧ w.grownBy w' v.ownBlock) ∨
 (¬ There p zs cmp ∧ (zs.length : Int) < most ∧ ∃ v', r = .returned v' ∧ OwnZ e k R w' B v' (zs.take p ++ y :: zs.drop p) ∧ w.grownBy w' v.ownBlock) ∨
 (¬ There p zs cmp ∧ ¬ (zs.length : Int) < most ∧ r = .panicked (gup 34) ∧ Bw w w')
def LeR {α : Type} (e k : Nat) (R : List Value → α → Prop) (w : World) (B : Nat) (v : Value) (zs : Zs α) (p : Nat) (cmp : α → Int) (r : Ending) (w' : World) : Prop :=
 (There p zs cmp ∧ ∃ v', r = .returned v' ∧ OwnZ e k R w' B v' (zs.take p ++ zs.drop (p + 1)) ∧ w.grownBy w' v.ownBlock) ∨
 (¬ There p zs cmp ∧ r = .returned v ∧ Bw w w')
set_option linter.unusedSimpArgs false
theorem cells_one {v : Value} (h : v.oneCell' = true) : v.cells = #[v] := by
 cases v <;> simp_all [Value.cells, Value.oneCell']
theorem wpl_putAt1 {ty : TypeId} {ops : Array Oper} {rest : List Oper} {o : Oper} {a : Act} {w : World} {Q : Exit → Act → World → Prop} (hgd : o.guard = none) (x y : Operand) (ho : o.op = .store ty x y)
  (g off : Nat) (v : Value) (hx : a.eval x = .pointer (some ⟨g, off, none⟩)) (hy : a.eval y = v) (hi : (Tryz.prog.info? ty).map (·.size) = some 1)
  {t : TypeId} {old : Array Value} (hg : Blk w g old t) (hfit : off < old.size) (h1 : v.oneCell' = true)
  (h : ∀ W', Blk W' g (old.toList.take off ++ [v] ++ old.toList.drop (off + 1)).toArray t → w.grownBy W' (some g) → W'.heap.size = w.heap.size → wpList Tryz.prog ops Q rest (a.put o.dst undef) W') : wpList Tryz.prog ops Q (o :: rest) a w := by
 refine wpList_plain hgd fun K hK => ?_
 have hst := run_storeCells_at Tryz.prog g off t [v] 0 old w hg.h (by simp; omega) (fun u hu => by rw [List.mem_singleton.1 hu]; exact h1)
 simp only [Nat.add_zero, List.length_singleton] at hst
 have hrun : (storeVar ty ⟨g, off, none⟩ v).run Tryz.prog w = .ok () (w.setRow g (old.toList.take off ++ [v] ++ old.toList.drop (off + 1)).toArray) := by
  cases hq : Tryz.prog.info? ty with
  | none => simp [hq] at hi
  | some i =>
   have hs : 1 = i.size := by simp [hq] at hi; omega
   simp [storeVar, sizeOf, typeInfo, hq, cells_one h1, ← hs] at hst ⊢
   exact hst
 unfold Oper.wp execOp
 simp only [ho, hx, hy, Instr.storeAt, Instr.sureAddr, Sem.run_bind, Sem.run_pure, Result.andThen_ok, hrun]
 exact hK _ _ (h _ (hg.row _) (grown_setRow w g _) (by simp [World.setRow]))
theorem leN {α : Type} (w : World) (B : Nat) (hB : B ≤ w.heap.size) (a : Option Addr) (n c : Nat) (zs : Zs α) (R : List Value → α → Prop) (h : OwnZ 3 1 R w B (.slice a n c) zs) (hn : zs.length = n) (hbig : n ≤ 1000) (t0 : Value) (ht : t0.oneCell' = true) (f : FuncId) (ef : ∀ args w, (callFunc f args).run Tryz.prog w = .ok (.enter f args) w)
  (cmp : α → Int) (hC : ∀ W z v0, z ∈ zs → z.1 = [v0] → Calls Tryz.prog f #[v0, t0] W fun e w' => e = .returned (.int .i64 (cmp z.2)) ∧ Bw W w') (p : Nat) (hp : p ≤ n) (hlo : ∀ i (hi : i < zs.length), i < p → cmp (zs[i]).2 < 0) (hhi : ∀ i (hi : i < zs.length), p ≤ i → ¬ cmp (zs[i]).2 < 0) :
  Calls Tryz.prog 130 #[.slice a n c, t0, .func (.func f) #[] #[]] w fun e w' => LeR 3 1 R w B (.slice a n c) zs p cmp e w' := by
 have HB := findN w a n c zs R h.rd hn (by omega) t0 f ef cmp hC p hp hlo hhi
 go_enter Tryz.func130, Tryz.ntmps130
 go_wp2_with fail
 refine HB.mono ?_
 rintro e w2 ⟨⟨b, rfl, hb⟩, b2⟩
 have HR : Hid (b = true ↔ There p zs cmp) := hb
 have h2 := h.keep (Kt.of_below b2)
 have HO : Hid (OwnZ 3 1 R w2 B (.slice a n c) zs ∧ zs.length = n) := ⟨h2, hn⟩
 clear hb HB h hC hlo hhi h2 hn
 cases b with
 | true =>
  have HT : Hid (There p zs cmp) := HR.out.1 rfl
  have hpl : p < zs.length := HT.out.1
  have HD := delG_any kiN w2 B (.slice a n c) zs R HO.out.1 p (p + 1) rfl hpl (by rw [HO.out.2]; omega)
  have hp1 : ((p + 1 : Nat) : Int) = (p : Int) + 1 := by omega
  rw [hp1] at HD
  clear HR
  go_wp2_with fail
  refine HD.mono ?_
  rintro e w3 ⟨v3, rfl, o3, g3, _⟩
  have hgg : w.grownBy w3 (Value.slice a n c).ownBlock := gb_trans (gb_below b2 _) g3
  clear HD g3
  go_wp2_with fail
  go_ret
  exact .inl ⟨HT.out, _, rfl, o3, hgg⟩
 | false =>
  have HT : Hid (¬ There p zs cmp) := fun h => by have := HR.out.2 h; cases this
  clear HR
  go_wp2_with fail
  go_ret
  exact .inr ⟨HT.out, rfl, b2⟩
set_option maxHeartbeats 2000000 in
theorem enN {α : Type} (w : World) (B : Nat) (hB : B ≤ w.heap.size) (a : Option Addr) (n c : Nat) (zs : Zs α) (R : List Value → α → Prop) (h : OwnZ 3 1 R w B (.slice a n c) zs) (hn : zs.length = n) (hbig : n ≤ 1000) (t : Int) (f : FuncId) (ef : ∀ args w, (callFunc f args).run Tryz.prog w = .ok (.enter f args) w)
  (cmp : α → Int) (hC : ∀ W z v0, z ∈ zs → z.1 = [v0] → Calls Tryz.prog f #[v0, (Value.int .i64 t)] W fun e w' => e = .returned (.int .i64 (cmp z.2)) ∧ Bw W w') (p : Nat) (hp : p ≤ n) (hlo : ∀ i (hi : i < zs.length), i < p → cmp (zs[i]).2 < 0) (hhi : ∀ i (hi : i < zs.length), p ≤ i → ¬ cmp (zs[i]).2 < 0) (x : α) (hx : R [(Value.int .i64 t)] x) (most : Int) :
  Calls Tryz.prog 192 #[.slice a n c, (Value.int .i64 t), .func (.func f) #[] #[], .int .i64 most] w fun e w' => EnR 3 1 R w B (.slice a n c) zs p cmp most ([(Value.int .i64 t)], x) e w' := by
 have hlt := World.ownsRow.lt h.1
 have HB := findN w a n c zs R h.rd hn (by omega) (Value.int .i64 t) f ef cmp hC p hp hlo hhi
 go_enter Tryz.func192, Tryz.ntmps192
 go_wp2_with fail
 refine HB.mono ?_
 rintro e w2 ⟨⟨b, rfl, hb⟩, b2⟩
 have HR : Hid (b = true ↔ There p zs cmp) := hb
 have h2 := h.keep (Kt.of_below b2)
 have HO : Hid (OwnZ 3 1 R w2 B (.slice a n c) zs ∧ R [(Value.int .i64 t)] x ∧ zs.length = n) := ⟨h2, hx, hn⟩
 have HLT : Hid (∀ g, (Value.slice a n c).ownBlock = some g → B ≤ g ∧ g < w.heap.size) := hlt
 clear hb HB h hC hlo hhi h2 hx hn hlt
 cases b with
 | true =>
  have HT : Hid (There p zs cmp) := HR.out.1 rfl
  have hpl : p < zs.length := HT.out.1
  obtain ⟨g, cap, cur, ev, hBg, kg, hc1, hc2, hcs, _⟩ := ownG_some kiN HO.out.1 (by omega)
  injection ev with e1 e2 e3
  subst e1 e3
  clear e2
  have hpn : (p : Int) < (n : Int) := by have := HO.out.2.2; omega
  have hgw : g < w.heap.size := (HLT.out g rfl).2
  have hfit : p < cur.size := by rw [hcs]; omega
  clear HR
  go_wp2_with (refine wpl_putAt1 rfl (.tmp 22) (.tmp 21) rfl g p (Value.int .i64 t) rfl rfl (by kernel_rfl) kg hfit rfl ?_)
  intro w3 k3 g3 s3
  have k3' : Blk w3 g (cur.toList.take (p * 1) ++ [(Value.int .i64 t)] ++ cur.toList.drop (p * 1 + 1)).toArray 3 := by simpa using k3
  have OS := own_set HO.out.1 HO.out.2.2 kg hpl ([(Value.int .i64 t)], x) ⟨⟨rfl, by simp [Value.oneCell']⟩, HO.out.2.1⟩ k3'
  have hgg : w.grownBy w3 (some g) := gb_trans (gb_below b2 _) g3
  clear k3 k3' g3 s3 kg
  go_wp2_with fail
  go_ret
  exact .inl ⟨HT.out, rfl, OS, hgg⟩
 | false =>
  have HT : Hid (¬ There p zs cmp) := fun h => by have := HR.out.2 h; cases this
  clear HR
  by_cases hm : (n : Int) < most
  ·have HM : Hid ((zs.length : Int) < most) := by show (zs.length : Int) < most; rw [HO.out.2.2]; exact hm
   have hmd : decide ((n : Int) < most) = true := by simp [hm]
   have HI1 := insist_ok w2 34
   go_wp2_with fail
   refine HI1.mono ?_
   rintro e w3 ⟨rfl, h3⟩
   rw [h3]
   clear h3 w3
   have b3 := (Below.refl w2.heap.size w2).alloc (Nat.le_refl _) (.cells #[(Value.int .i64 t)] 3)
   have kN := Blk.new w2 #[(Value.int .i64 t)] 3
   have oN := HO.out.1.keep (Kt.of_below b3)
   have hne : (Value.slice a n c).ownBlock ≠ some w2.heap.size := fun e => by have := (HLT.out _ e).2; have := b2.size; omega
   have HIN := insG_any kiN (w2.alloc (.cells #[(Value.int .i64 t)] 3)) B (Nat.le_trans hB (Nat.le_trans b2.size b3.size)) (.slice a n c) zs R oN p (by rw [HO.out.2.2]; exact hp) (by rw [HO.out.2.2]; exact hbig) w2.heap.size ([(Value.int .i64 t)], x) ⟨⟨rfl, by simp [Value.oneCell']⟩, HO.out.2.1⟩ kN hne
   have hgb : w.grownBy (w2.alloc (.cells #[(Value.int .i64 t)] 3)) (Value.slice a n c).ownBlock := gb_trans (gb_below b2 _) (gb_below b3 _)
   clear HI1 b3 kN oN hne
   go_wp2_with fail
   refine HIN.mono ?_
   rintro e w4 ⟨v4, rfl, o4, g4⟩
   have hgg := gb_trans hgb g4
   clear HIN g4 hgb
   go_wp2_with fail
   go_ret
   exact .inr (.inl ⟨HT.out, HM.out, _, rfl, o4, hgg⟩)
  ·have HM : Hid (¬ (zs.length : Int) < most) := by show ¬ (zs.length : Int) < most; rw [HO.out.2.2]; exact hm
   have hmd : decide ((n : Int) < most) = false := by simp; omega
   have HI1 := insist_no w2 34
   go_wp2_with fail
   refine HI1.mono ?_
   rintro e w3 ⟨rfl, h3⟩
   rw [h3]
   exact ⟨rfl, .inr (.inr ⟨HT.out, by have := HM.out; omega, rfl, b2⟩)⟩
def CaP {α : Type} (most : Int) (cmp : α → α → Int) (good : α → Bool) (zs : Zs α) : Prop := (zs.length : Int) ≤ most ∧ (∀ i (h : i < zs.length), good (zs[i]).2 = true) ∧ ∀ i (h : i + 1 < zs.length), cmp (zs[i]).2 (zs[i + 1]).2 < 0
def CaK {α : Type} (cmp : α → α → Int) (good : α → Bool) (zs : Zs α) (k : Nat) : Prop := (∀ i (h : i < zs.length), i < k → good (zs[i]).2 = true) ∧ ∀ i (h : i + 1 < zs.length), i + 1 < k → cmp (zs[i]).2 (zs[i + 1]).2 < 0
theorem CaK.next {α : Type} {cmp : α → α → Int} {good : α → Bool} {zs : Zs α} {k : Nat} (h : CaK cmp good zs k) (hk : k < zs.length) (hg : good (zs[k]).2 = true) (hc : 0 < k → ∃ j, ∃ e : k = j + 1, cmp (zs[j]'(by omega)).2 (zs[k]).2 < 0) : CaK cmp good zs (k + 1) := by
 refine ⟨fun i hi hlt => ?_, fun i hi hlt => ?_⟩
 ·by_cases e : i = k
  ·subst e
   exact hg
  ·exact h.1 i hi (by omega)
 ·by_cases e : i + 1 = k
  ·obtain ⟨j, e2, h3⟩ := hc (by omega)
   obtain rfl : i = j := by omega
   subst e2
   exact h3
  ·exact h.2 i hi (by omega)
def CaR {α : Type} (most : Int) (cmp : α → α → Int) (good : α → Bool) (zs : Zs α) (e : Ending) : Prop := ∃ b : Bool, e = .returned (.bool b) ∧ (b = true ↔ CaP most cmp good zs)
theorem car_mk {α : Type} {most : Int} {cmp : α → α → Int} {good : α → Bool} {zs : Zs α} {b : Bool} (h : b = true ↔ CaP most cmp good zs) : CaR most cmp good zs (.returned (.bool b)) := ⟨b, rfl, h⟩
set_option maxHeartbeats 4000000 in
theorem canN {α : Type} (w : World) (a : Option Addr) (n c : Nat) (zs : Zs α) (R : List Value → α → Prop) (h : RdZ 1 R w (.slice a n c) zs) (hn : zs.length = n) (hbig : n ≤ 9223372036854775806) (most : Int) (f : FuncId) (ef : ∀ args w, (callFunc f args).run Tryz.prog w = .ok (.enter f args) w) (gg : FuncId) (lb : Array Value) (eg : ∀ args w, (callFunc gg args).run Tryz.prog w = .ok (.enter gg args) w)
  (cmp : α → α → Int) (hC : ∀ W z z' v0 v1, z ∈ zs → z' ∈ zs → z.1 = [v0] → z'.1 = [v1] → Calls Tryz.prog f #[v0, v1] W fun e w' => e = .returned (.int .i64 (cmp z.2 z'.2)) ∧ Bw W w')
  (good : α → Bool) (hG : ∀ W z v0, Bw w W → z ∈ zs → z.1 = [v0] → Calls Tryz.prog gg (#[v0] ++ lb) W fun e w' => e = .returned (.bool (good z.2)) ∧ Bw W w') :
  Calls Tryz.prog 153 #[.slice a n c, .int .i64 most, .func (.func f) #[] #[], .func (.func gg) #[] lb] w fun e w' => CaR most cmp good zs e ∧ Bw w w' := by
 have HI : Hid (RdZ 1 R w (.slice a n c) zs) := h
 have NI : Hid (zs.length = n) := hn
 clear h hn
 go_enter Tryz.func153, Tryz.ntmps153
 by_cases hm : (n : Int) > most
 ·have HK1 : Hid (false = true ↔ CaP most cmp good zs) := by
   show _ ↔ _
   constructor
   ·intro h
    cases h
   ·rintro ⟨h, _⟩
    rw [NI.out] at h
    omega
  go_wp2_with fail
  go_ret
  exact ⟨car_mk HK1.out, Below.refl _ _⟩
 ·have HM : Hid ((zs.length : Int) ≤ most) := by show (zs.length : Int) ≤ most; rw [NI.out]; omega
  go_wp2_with fail
  go_loopg [17] n (fun gq s17 wr => ∃ i : Nat, i ≤ n ∧ n - i ≤ gq ∧ s17 = .int .i64 i ∧ Hid (CaK cmp good zs i) ∧ Hid (Bw w wr))
  case atStart => exact ⟨0, Nat.zero_le _, by omega, rfl, ⟨fun j hj h => absurd h (by omega), fun j hj h => absurd h (by omega)⟩, Below.refl _ _⟩
  case round =>
   obtain ⟨i, hi, hgq, rfl, HK, HS⟩ := hrel
   obtain ⟨wt, hwt⟩ : ∃ W, W = wr := ⟨_, rfl⟩
   subst hwt
   by_cases hlt : i < n
   ·have hltz : (i : Int) < (n : Int) := by omega
    have hmz : i < zs.length := by rw [NI.out]; exact hlt
    obtain ⟨b, o, v0, rfl, hz1, _, hone, hcl⟩ := el1_at HI.out (i := i) hmz
    have hGm := fun W hb => hG W (zs[i]) v0 hb (List.getElem_mem hmz) hz1
    have c0 := hcl wt HS.out
    have HGB : Hid (∀ gb, gb = good (zs[i]).2 → (gb = false → (false = true ↔ CaP most cmp good zs))) := fun gb e e2 => by
     constructor
     ·intro h
      cases h
     ·rintro ⟨_, h, _⟩
      have := h i hmz
      rw [← e, e2] at this
      cases this
    obtain ⟨gb, hgb⟩ : ∃ gb, gb = good (zs[i]).2 := ⟨_, rfl⟩
    have HGB2 : Hid (gb = false → (false = true ↔ CaP most cmp good zs)) := HGB.out gb hgb
    have HEB : Hid (gb = good (zs[i]).2) := hgb
    rw [← hgb] at hGm
    clear HGB hgb
    clear hcl
    go_upto_region 6 with fail
    clear c0
    by_cases hi0 : i = 0
    ·have hz0 : ¬ (i : Int) > 0 := by omega
     have hz1' : decide ((0 : Int) < (i : Int)) = false := by simp; omega
     have HI0 : Hid (i = 0) := hi0
     clear hi0 hz1
     go_wp2_with fail
     refine (hGm _ HS.out).mono ?_
     rintro e w5 ⟨rfl, b5⟩
     have HS5 : Hid (Bw w w5) := nxt HS.out b5
     clear b5 HS hGm
     cases gb with
     | true =>
      have HK1 : Hid (CaK cmp good zs (i + 1)) := HK.out.next hmz (by rw [← HEB.out]) (fun h0 => absurd HI0.out (by omega))
      go_wp2_with fail
      go_roundg (n - (i + 1))
      case measure => omega
      case rel => exact ⟨i + 1, by omega, by omega, by go_num, HK1.out, HS5.out⟩
     | false =>
      have HK1 : Hid (false = true ↔ CaP most cmp good zs) := HGB2.out rfl
      go_wp2_with fail
      go_ret
      exact ⟨car_mk HK1.out, HS5.out⟩
    ·obtain ⟨j, hj⟩ : ∃ j, i = j + 1 := ⟨i - 1, by omega⟩
     have hz0 : (i : Int) > 0 := by omega
     have hz1' : decide ((0 : Int) < (i : Int)) = true := by simp; omega
     have hjI : (i : Int) - 1 = (j : Int) := by omega
     have hjn : (j : Int) < (n : Int) := by omega
     have hjz : j < zs.length := by omega
     obtain ⟨b2, o2, u0, e2, hz2, _, hone2, hcl2⟩ := el1_at HI.out (i := j) hjz
     injection e2 with e2
     injection e2 with e2 e3
     subst e2 e3
     have hCm := fun W => hC W (zs[j]) (zs[i]) u0 v0 (List.getElem_mem hjz) (List.getElem_mem hmz) hz2 hz1
     have c2 := hcl2 wt HS.out
     have HCZ : Hid (∀ cz, cz = cmp (zs[j]).2 (zs[i]).2 → (¬ cz < 0 → (false = true ↔ CaP most cmp good zs))) := fun cz e e2 => by
      constructor
      ·intro h
       cases h
      ·rintro ⟨_, _, h⟩
       have h3 := h j (by omega)
       simp only [← hj] at h3
       rw [← e] at h3
       exact absurd h3 e2
     obtain ⟨cz, hcz⟩ : ∃ cz, cz = cmp (zs[j]).2 (zs[i]).2 := ⟨_, rfl⟩
     have HCZ2 : Hid (¬ cz < 0 → (false = true ↔ CaP most cmp good zs)) := HCZ.out cz hcz
     have HEC : Hid (cz = cmp (zs[j]).2 (zs[i]).2) := hcz
     rw [← hcz] at hCm
     have HJ : Hid (i = j + 1) := hj
     have HCX : Hid (∀ W, Bw w W → _) := hcl2
     clear HCZ hcz hcl2 hz2 hj hi0 hz1
     go_wp2_with fail
     refine (hCm _).mono ?_
     rintro e w4 ⟨rfl, b4⟩
     have HS4 : Hid (Bw w w4) := nxt HS.out b4
     clear b4 HS hCm c2
     by_cases hcz : cz < 0
     ·have hcf : decide (0 ≤ cz) = false := by simp; omega
      have hcf2 : ¬ cz ≥ 0 := by omega
      go_wp2_with fail
      refine (hGm _ HS4.out).mono ?_
      rintro e w5 ⟨rfl, b5⟩
      have HS5 : Hid (Bw w w5) := nxt HS4.out b5
      clear b5 HS4 hGm
      cases gb with
      | true =>
       have HK1 : Hid (CaK cmp good zs (i + 1)) := HK.out.next hmz (by rw [← HEB.out]) (fun h0 => ⟨j, HJ.out, by rw [← HEC.out]; exact hcz⟩)
       go_wp2_with fail
       go_roundg (n - (i + 1))
       case measure => omega
       case rel => exact ⟨i + 1, by omega, by omega, by go_num, HK1.out, HS5.out⟩
      | false =>
       have HK1 : Hid (false = true ↔ CaP most cmp good zs) := HGB2.out rfl
       go_wp2_with fail
       go_ret
       exact ⟨car_mk HK1.out, HS5.out⟩
     ·have hcf : decide (0 ≤ cz) = true := by simp; omega
      have hcf2 : cz ≥ 0 := by omega
      have HK1 : Hid (false = true ↔ CaP most cmp good zs) := HCZ2.out (by omega)
      go_wp2_with fail
      go_ret
      exact ⟨car_mk HK1.out, HS4.out⟩
   ·have hltz : ¬ (i : Int) < (n : Int) := by omega
    have HK1 : Hid (CaP most cmp good zs) := by
     refine ⟨HM.out, fun j hj => HK.out.1 j hj (by rw [NI.out] at hj; omega), fun j hj => ?_⟩
     exact HK.out.2 j hj (by rw [NI.out] at hj; omega)
    go_wp2_with fail
    go_ret
    exact ⟨car_mk ⟨fun _ => HK1.out, fun _ => rfl⟩, HS.out⟩
theorem isnanS (w : World) (a : ByteArray) : Calls Tryz.prog 215 #[.string a] w fun e w' => e = .returned (.bool false) ∧ w' = w := by
 go_enter Tryz.func215, Tryz.ntmps215
 go_wp2
 go_ret
 exact ⟨ret_b (by simp), rfl⟩
theorem cmpS_any (w : World) (a b : ByteArray) :
  Calls Tryz.prog 143 #[.string a, .string b] w fun e w' => e = .returned (.int .i64 (cmpL a.toList b.toList)) ∧ w' = w := by
 have h1 := isnanS w a
 have h2 := isnanS w b
 go_enter Tryz.func143, Tryz.ntmps143
 go_wp2_with fail
 refine h1.mono ?_
 rintro e w1 ⟨rfl, rfl⟩
 go_wp2_with fail
 refine h2.mono ?_
 rintro e w2 ⟨rfl, rfl⟩
 clear h1 h2
 go_wp2
 all_goals go_ret
 ·rename_i h
  exact ⟨ret_i (cmpL_lt h).symm, rfl⟩
 ·rename_i h _ _ h'
  exact ⟨ret_i (cmpL_gt h (by simp_all)).symm, rfl⟩
 ·have e : a.toList = b.toList := by simp_all
  exact ⟨ret_i (by rw [e, cmpL_self]), rfl⟩
def or2 (a b : Int) : Int := if a ≠ 0 then a else b
theorem or2_hit (a b : Int) : ∀ k, k < 2 → (∀ j, j < k → [a, b].getD j 0 = 0) → [a, b].getD k 0 ≠ 0 → or2 a b = [a, b].getD k 0
 | 0, _, _, h => by simp at h; simp [or2, h]
 | 1, _, z, h => by have := z 0 (by omega); simp at this h; simp [or2, this]
 | k + 2, h, _, _ => by omega
theorem or2_none (a b : Int) (z : ∀ j, j < 2 → [a, b].getD j 0 = 0) : or2 a b = 0 := by
 have := z 0 (by omega); have := z 1 (by omega); simp at *; simp [or2, *]
theorem or2_any (w : World) (q : Nat) (a b : Int) (m : Nat × Nat) (h : w.heap[q]? = some (.cells #[.int .i64 a, .int .i64 b] 3 m)) :
  Calls Tryz.prog 150 #[.slice (some ⟨q, 0, none⟩) 2 2] w fun e w' => e = .returned (.int .i64 (or2 a b)) ∧ w' = w := by
 have hc : Hid (∀ k, k < 2 → w.cell? ⟨q, k, none⟩ = some (.int .i64 ([a, b].getD k 0))) := fun k hk => by
  match k, hk with
  | 0, _ => simp [World.cell?, h]
  | 1, _ => simp [World.cell?, h]
 have H1 : Hid (∀ k, k < 2 → (∀ j, j < k → [a, b].getD j 0 = 0) → [a, b].getD k 0 ≠ 0 → or2 a b = [a, b].getD k 0) := or2_hit a b
 have H2 : Hid ((∀ j, j < 2 → [a, b].getD j 0 = 0) → or2 a b = 0) := or2_none a b
 clear h
 generalize or2 a b = r at *
 generalize [a, b] = l at *
 go_enter Tryz.func150, Tryz.ntmps150
 go_wp2_with fail
 go_loopw [8] (fun i wr => ∃ k : Nat, k ≤ 2 ∧ i = .int .i64 k ∧ wr = w ∧ Hid (∀ j, j < k → l.getD j 0 = 0)) (fun i _ => 2 - (RowKit.intOf i).toNat)
 case atStart => exact ⟨0, by omega, rfl, rfl, fun j hj => by omega⟩
 case round =>
  obtain ⟨k, hk, rfl, rfl, hz⟩ := hrel
  by_cases hlt : k < 2
  ·have hcx := hc.out k hlt
   have h1 := H1.out k hlt hz.out
   have hS : Hid (l.getD k 0 = 0 → ∀ j, j < k + 1 → l.getD j 0 = 0) := fun h j hj => by
    by_cases e : j = k
    ·rw [e]; exact h
    ·exact hz.out j (by omega)
   generalize l.getD k 0 = z at *
   by_cases hz0 : z = 0
   ·subst hz0
    have hz2 := hS.out rfl
    have hz3 : Hid (∀ j, j < k + 1 → l.getD j 0 = 0) := hz2
    clear hz2 h1 hS
    go_wp2
    go_roundw
    case rel => exact ⟨k + 1, by omega, by go_num, trivial, hz3⟩
    case measure => simp [RowKit.intOf]; omega
   ·have h2 := h1 hz0
    clear h1 hS
    go_wp2
    go_ret
    exact ⟨ret_i h2.symm, rfl⟩
  ·have hk4 : k = 2 := by omega
   subst hk4
   have h2 := H2.out hz.out
   go_wp2
   go_ret
   exact ⟨ret_i h2.symm, rfl⟩
theorem byQ (w : World) (a b : ByteArray) (t1 t2 t3 t4 t5 t6 u1 u2 u3 u4 u5 u6 : Value) : Calls Tryz.prog 63 #[.agg #[.string a, t1, t2, t3, t4, t5, t6], .agg #[.string b, u1, u2, u3, u4, u5, u6]] w fun e w' => e = .returned (.int .i64 (cmpL a.toList b.toList)) ∧ Bw w w' := by
 have b0 := ((Below.refl w.heap.size w).alloc (Nat.le_refl _) (.cells #[.string a, t1, t2, t3, t4, t5, t6] 82)).alloc (by simp) (.cells #[.string b, u1, u2, u3, u4, u5, u6] 82)
 have HC := cmpS_any ((w.alloc (.cells #[.string a, t1, t2, t3, t4, t5, t6] 82)).alloc (.cells #[.string b, u1, u2, u3, u4, u5, u6] 82)) a b
 go_enter Tryz.func63, Tryz.ntmps63
 go_wp2_with fail
 refine HC.mono ?_
 rintro e w1 ⟨rfl, h1⟩
 rw [h1]
 clear HC h1 w1
 go_wp2_with fail
 go_ret
 exact ⟨rfl, b0⟩
theorem byM (w : World) (a b : ByteArray) (t1 t2 t3 t4 u1 u2 u3 u4 : Value) : Calls Tryz.prog 75 #[.agg #[.string a, t1, t2, t3, t4], .agg #[.string b, u1, u2, u3, u4]] w fun e w' => e = .returned (.int .i64 (cmpL a.toList b.toList)) ∧ Bw w w' := by
 have b0 := ((Below.refl w.heap.size w).alloc (Nat.le_refl _) (.cells #[.string a, t1, t2, t3, t4] 33)).alloc (by simp) (.cells #[.string b, u1, u2, u3, u4] 33)
 have HC := cmpS_any ((w.alloc (.cells #[.string a, t1, t2, t3, t4] 33)).alloc (.cells #[.string b, u1, u2, u3, u4] 33)) a b
 go_enter Tryz.func75, Tryz.ntmps75
 go_wp2_with fail
 refine HC.mono ?_
 rintro e w1 ⟨rfl, h1⟩
 rw [h1]
 clear HC h1 w1
 go_wp2_with fail
 go_ret
 exact ⟨rfl, b0⟩
theorem byC (w : World) (a b : ByteArray) (t1 u1 : Value) : Calls Tryz.prog 79 #[.agg #[.string a, t1], .agg #[.string b, u1]] w fun e w' => e = .returned (.int .i64 (cmpL a.toList b.toList)) ∧ Bw w w' := by
 have b0 := ((Below.refl w.heap.size w).alloc (Nat.le_refl _) (.cells #[.string a, t1] 88)).alloc (by simp) (.cells #[.string b, u1] 88)
 have HC := cmpS_any ((w.alloc (.cells #[.string a, t1] 88)).alloc (.cells #[.string b, u1] 88)) a b
 go_enter Tryz.func79, Tryz.ntmps79
 go_wp2_with fail
 refine HC.mono ?_
 rintro e w1 ⟨rfl, h1⟩
 rw [h1]
 clear HC h1 w1
 go_wp2_with fail
 go_ret
 exact ⟨rfl, b0⟩
theorem byB (w : World) (a0 a1 b0 b1 : ByteArray) : Calls Tryz.prog 66 #[.agg #[.string a0, .string a1], .agg #[.string b0, .string b1]] w fun e w' => e = .returned (.int .i64 (or2 (cmpL a0.toList b0.toList) (cmpL a1.toList b1.toList))) ∧ Bw w w' := by
 have b0' := ((Below.refl w.heap.size w).alloc (Nat.le_refl _) (.cells #[.string a0, .string a1] 43)).alloc (by simp) (.cells #[.string b0, .string b1] 43)
 have kA := (Blk.new w #[.string a0, .string a1] 43).alloc (.cells #[.string b0, .string b1] 43)
 have kB := Blk.new (w.alloc (.cells #[.string a0, .string a1] 43)) #[.string b0, .string b1] 43
 rw [World.size_alloc] at kB
 go_enter Tryz.func66, Tryz.ntmps66
 go_upto_region 1 with fail
 generalize (w.alloc (.cells #[.string a0, .string a1] 43)).alloc (.cells #[.string b0, .string b1] 43) = w1 at *
 obtain ⟨gA, egA⟩ : ∃ g, w.heap.size = g := ⟨_, rfl⟩
 obtain ⟨gB, egB⟩ : ∃ g, w.heap.size + 1 = g := ⟨_, rfl⟩
 rw [egB] at kB ⊢
 have HB0 : Hid (Bw w w1) := b0'
 clear b0'
 rw [egA] at kA ⊢
 clear egA egB
 refine rh (fun W => Bw w W ∧ Blk W gA #[.string a0, .string a1] 43 ∧ Blk W gB #[.string b0, .string b1] 43) ?_
 have hS : Bw w w1.drew ∧ Blk w1.drew gA #[.string a0, .string a1] 43 ∧ Blk w1.drew gB #[.string b0, .string b1] 43 := ⟨HB0.out.drew, ⟨kA.h⟩, ⟨kB.h⟩⟩
 clear HB0 kA kB
 generalize w1.drew = wv at *
 refine tks [0, 1, 2, 3] [.pointer (some ⟨gA, 0, none⟩), .string a0, .pointer (some ⟨gB, 0, none⟩), .string b0] 9 ?_ hS ?_
 ·simp only [tkY, tkf]
  refine ⟨.yes ?_, .yes ?_, .yes ?_, .yes ?_, trivial⟩
  all_goals
   intro W' hW'
   have := hW'.2.1.ce 0
   have := hW'.2.2.ce 0
   go_simp
 simp only [tkA, tkf]
 refine wpAnyH_call (i := 4) (v := .int .i64 (cmpL a0.toList b0.toList)) rfl (by kernel_rfl) (by kernel_rfl) (by kernel_rfl) (fun _ _ _ h => h) ⟨by rfl, fun W' hW' => ⟨143, #[.string a0, .string b0], by go_simp, cmpS_any W' a0 b0⟩⟩ hS ?_
 try simp only [tkf]
 refine tks [5, 6, 7, 8] [.pointer (some ⟨gA, 1, none⟩), .string a1, .pointer (some ⟨gB, 1, none⟩), .string b1] 4 ?_ hS ?_
 ·simp only [tkY, tkf]
  refine ⟨.yes ?_, .yes ?_, .yes ?_, .yes ?_, trivial⟩
  all_goals
   intro W' hW'
   have := hW'.2.1.ce 1
   have := hW'.2.2.ce 1
   go_simp
 simp only [tkA, tkf]
 refine wpAnyH_call (i := 9) (v := .int .i64 (cmpL a1.toList b1.toList)) rfl (by kernel_rfl) (by kernel_rfl) (by kernel_rfl) (fun _ _ _ h => h) ⟨by rfl, fun W' hW' => ⟨143, #[.string a1, .string b1], by go_simp, cmpS_any W' a1 b1⟩⟩ hS ?_
 try simp only [tkf]
 generalize e0 : cmpL a0.toList b0.toList = z0 at *
 generalize e1 : cmpL a1.toList b1.toList = z1 at *
 have HE : Hid (cmpL a0.toList b0.toList = z0 ∧ cmpL a1.toList b1.toList = z1) := ⟨e0, e1⟩
 clear e0 e1
 refine ak 10 fun K hK => ?_
 go_simp
 have hN := Blk.new wv #[.int .i64 z0, .int .i64 z1] 3
 have bN := (Below.refl wv.heap.size wv).alloc (Nat.le_refl _) (.cells #[.int .i64 z0, .int .i64 z1] 3)
 have hS2 : Bw w (wv.alloc (.cells #[.int .i64 z0, .int .i64 z1] 3)) ∧ Blk (wv.alloc (.cells #[.int .i64 z0, .int .i64 z1] 3)) gA #[.string a0, .string a1] 43 ∧ Blk (wv.alloc (.cells #[.int .i64 z0, .int .i64 z1] 3)) gB #[.string b0, .string b1] 43 := ⟨nxt hS.1 bN, hS.2.1.on bN, hS.2.2.on bN⟩
 refine hK _ _ hS2 ?_
 have HO := or2_any (wv.alloc (.cells #[.int .i64 z0, .int .i64 z1] 3)) wv.heap.size z0 z1 _ hN.h
 clear hK K hS bN hN
 try simp only [tkf]
 refine ak 11 fun K hK => ?_
 go_simp
 refine HO.mono ?_
 rintro e w2 ⟨rfl, h2⟩
 show K _ _
 rw [h2]
 refine hK _ _ hS2 ?_
 clear hK K HO h2 w2
 try simp only [tkf]
 refine tks [12] [.int .i64 (or2 z0 z1)] 0 ?_ hS2 ?_
 ·simp only [tkY, tkf]
  refine ⟨.yes ?_, trivial⟩
  all_goals
   intro W' hW'
   go_simp
 simp only [tkA, tkf]
 refine ad ?_
 go_wp2_with fail
 go_ret
 exact ⟨by rw [HE.out.1, HE.out.2]; rfl, hS2.1⟩
theorem byS (w : World) (a0 a1 b0 b1 : Int) (x2 x3 x4 y2 y3 y4 : Value) : Calls Tryz.prog 70 #[.agg #[.int .i64 a0, .int .i64 a1, x2, x3, x4], .agg #[.int .i64 b0, .int .i64 b1, y2, y3, y4]] w fun e w' => e = .returned (.int .i64 (or2 (cmpZ a0 b0) (cmpZ a1 b1))) ∧ Bw w w' := by
 have b0' := ((Below.refl w.heap.size w).alloc (Nat.le_refl _) (.cells #[.int .i64 a0, .int .i64 a1, x2, x3, x4] 85)).alloc (by simp) (.cells #[.int .i64 b0, .int .i64 b1, y2, y3, y4] 85)
 have kA := (Blk.new w #[.int .i64 a0, .int .i64 a1, x2, x3, x4] 85).alloc (.cells #[.int .i64 b0, .int .i64 b1, y2, y3, y4] 85)
 have kB := Blk.new (w.alloc (.cells #[.int .i64 a0, .int .i64 a1, x2, x3, x4] 85)) #[.int .i64 b0, .int .i64 b1, y2, y3, y4] 85
 rw [World.size_alloc] at kB
 go_enter Tryz.func70, Tryz.ntmps70
 go_upto_region 1 with fail
 generalize (w.alloc (.cells #[.int .i64 a0, .int .i64 a1, x2, x3, x4] 85)).alloc (.cells #[.int .i64 b0, .int .i64 b1, y2, y3, y4] 85) = w1 at *
 obtain ⟨gA, egA⟩ : ∃ g, w.heap.size = g := ⟨_, rfl⟩
 obtain ⟨gB, egB⟩ : ∃ g, w.heap.size + 1 = g := ⟨_, rfl⟩
 rw [egB] at kB ⊢
 have HB0 : Hid (Bw w w1) := b0'
 clear b0'
 rw [egA] at kA ⊢
 clear egA egB
 refine rh (fun W => Bw w W ∧ Blk W gA #[.int .i64 a0, .int .i64 a1, x2, x3, x4] 85 ∧ Blk W gB #[.int .i64 b0, .int .i64 b1, y2, y3, y4] 85) ?_
 have hS : Bw w w1.drew ∧ Blk w1.drew gA #[.int .i64 a0, .int .i64 a1, x2, x3, x4] 85 ∧ Blk w1.drew gB #[.int .i64 b0, .int .i64 b1, y2, y3, y4] 85 := ⟨HB0.out.drew, ⟨kA.h⟩, ⟨kB.h⟩⟩
 clear HB0 kA kB
 generalize w1.drew = wv at *
 refine tks [0, 1, 2, 3] [.pointer (some ⟨gA, 0, none⟩), .int .i64 a0, .pointer (some ⟨gB, 0, none⟩), .int .i64 b0] 9 ?_ hS ?_
 ·simp only [tkY, tkf]
  refine ⟨.yes ?_, .yes ?_, .yes ?_, .yes ?_, trivial⟩
  all_goals
   intro W' hW'
   have := hW'.2.1.ce 0
   have := hW'.2.2.ce 0
   go_simp
 simp only [tkA, tkf]
 refine wpAnyH_call (i := 4) (v := .int .i64 (cmpZ a0 b0)) rfl (by kernel_rfl) (by kernel_rfl) (by kernel_rfl) (fun _ _ _ h => h) ⟨by rfl, fun W' hW' => ⟨131, #[.int .i64 a0, .int .i64 b0], by go_simp, cmpI_any W' a0 b0⟩⟩ hS ?_
 try simp only [tkf]
 refine tks [5, 6, 7, 8] [.pointer (some ⟨gA, 1, none⟩), .int .i64 a1, .pointer (some ⟨gB, 1, none⟩), .int .i64 b1] 4 ?_ hS ?_
 ·simp only [tkY, tkf]
  refine ⟨.yes ?_, .yes ?_, .yes ?_, .yes ?_, trivial⟩
  all_goals
   intro W' hW'
   have := hW'.2.1.ce 1
   have := hW'.2.2.ce 1
   go_simp
 simp only [tkA, tkf]
 refine wpAnyH_call (i := 9) (v := .int .i64 (cmpZ a1 b1)) rfl (by kernel_rfl) (by kernel_rfl) (by kernel_rfl) (fun _ _ _ h => h) ⟨by rfl, fun W' hW' => ⟨131, #[.int .i64 a1, .int .i64 b1], by go_simp, cmpI_any W' a1 b1⟩⟩ hS ?_
 try simp only [tkf]
 generalize e0 : cmpZ a0 b0 = z0 at *
 generalize e1 : cmpZ a1 b1 = z1 at *
 have HE : Hid (cmpZ a0 b0 = z0 ∧ cmpZ a1 b1 = z1) := ⟨e0, e1⟩
 clear e0 e1
 refine ak 10 fun K hK => ?_
 go_simp
 have hN := Blk.new wv #[.int .i64 z0, .int .i64 z1] 3
 have bN := (Below.refl wv.heap.size wv).alloc (Nat.le_refl _) (.cells #[.int .i64 z0, .int .i64 z1] 3)
 have hS2 : Bw w (wv.alloc (.cells #[.int .i64 z0, .int .i64 z1] 3)) ∧ Blk (wv.alloc (.cells #[.int .i64 z0, .int .i64 z1] 3)) gA #[.int .i64 a0, .int .i64 a1, x2, x3, x4] 85 ∧ Blk (wv.alloc (.cells #[.int .i64 z0, .int .i64 z1] 3)) gB #[.int .i64 b0, .int .i64 b1, y2, y3, y4] 85 := ⟨nxt hS.1 bN, hS.2.1.on bN, hS.2.2.on bN⟩
 refine hK _ _ hS2 ?_
 have HO := or2_any (wv.alloc (.cells #[.int .i64 z0, .int .i64 z1] 3)) wv.heap.size z0 z1 _ hN.h
 clear hK K hS bN hN
 try simp only [tkf]
 refine ak 11 fun K hK => ?_
 go_simp
 refine HO.mono ?_
 rintro e w2 ⟨rfl, h2⟩
 show K _ _
 rw [h2]
 refine hK _ _ hS2 ?_
 clear hK K HO h2 w2
 try simp only [tkf]
 refine tks [12] [.int .i64 (or2 z0 z1)] 0 ?_ hS2 ?_
 ·simp only [tkY, tkf]
  refine ⟨.yes ?_, trivial⟩
  all_goals
   intro W' hW'
   go_simp
 simp only [tkA, tkf]
 refine ad ?_
 go_wp2_with fail
 go_ret
 exact ⟨by rw [HE.out.1, HE.out.2]; rfl, hS2.1⟩
end Go.Proofs.YtnpikgakpmkipabGreatDoor
