/- What slices.Insert of one item leaves of a row of the call's own. Conditions: those that each row states. -/
import Derived.Test.YtnpikgakpmkipabGreatDoorZ04
import Derived.Test.YtnpikgakpmkipabGreatDoorZ07
import Derived.Test.YtnpikgakpmkipabGreatDoorZ06
import Derived.Lib.AppendZerosOnto
import Derived.Lib.AppendZeros
import Derived.Lib.Overlaps
import Derived.Shelf.Spec.SlicesInsert
import Derived.Test.YtnpikgakpmkipabGreatDoorZ09
namespace Go.Proofs.YtnpikgakpmkipabGreatDoor
open Go.RowKit Go.Lib
set_option maxRecDepth 100000
theorem run_copy_rowk (w : World) (dT sT ty elem : TypeId) (k : Nat) (g o dLen dCap : Nat) (a : Addr) (sLen sCap n : Nat) (cur : Array Value) (t : TypeId) (cs : List Value)
  (hu : Tryz.prog.underlying dT = some (.slice elem)) (hs : (Tryz.prog.info? elem).map (·.size) = some k)
  (hg : Blk w g cur t) (hn : Nat.min sLen dLen = n) (hl : cs.length = n * k)
  (hsrc : ∀ j v, cs[j]? = some v → w.cell? (a.add j) = some v) (hfit : o + cs.length ≤ cur.size) (h1 : ∀ v ∈ cs, v.oneCell' = true) :
  (Builtin.copy_ #[dT, sT] ty #[.slice (some ⟨g, o, none⟩) dLen dCap, .slice (some a) sLen sCap]).run Tryz.prog w =
   .ok (goInt n) (w.setRow g (cur.toList.take o ++ cs ++ cur.toList.drop (o + cs.length)).toArray) := by
 have hst := run_storeCells_at Tryz.prog g o t cs 0 cur w hg.h (by simpa using hfit) h1
 cases hq : Tryz.prog.info? elem with
 | none => simp [hq] at hs
 | some i =>
  have hi : i.size = k := by simpa [hq] using hs
  have hf := run_firstCells_some (P := Tryz.prog) w i.size n a sLen sCap cs (by rw [hi]; exact hl) hsrc
  simp only [Nat.add_zero] at hst
  simp [Builtin.copy_, run_underlying hu, Builtin.lenOf, sizeOf, typeInfo, hq, hn, hf, hst]
theorem Blk.shape {w : World} {g : Nat} {cs : Array Value} {t : TypeId} (h : Blk w g cs t) : w.shape? g = some (t, cs.size) := by
 unfold World.shape?
 rw [h.h]
theorem insert_end (w : World) (B : Nat) (v : Value) (zs : Zs Itm) (R : List Value → Itm → Prop) (h : OwnZ 131 7 R w B v zs) (hn : zs.length ≤ 1000) (hB : B ≤ w.heap.size) (bv : Nat) (z : List Value × Itm) (hz : (z.1.length = 7 ∧ ∀ u ∈ z.1, u.oneCell' = true) ∧ R z.1 z.2) (kv : Blk w bv z.1.toArray 131) :
  Calls Tryz.prog 259 #[v, .int .i64 zs.length, .slice (some ⟨bv, 0, none⟩) 1 1] w fun e w' => ∃ v', e = .returned v' ∧ OwnZ 131 7 R w' B v' (zs ++ [z]) ∧ w.grownBy w' v.ownBlock := by
 obtain ⟨a, c, hv⟩ := h.rd.len
 have hc : zs.length ≤ c := by
  obtain ⟨_, ⟨e, h0⟩ | ⟨g, cap, cur, e, _, _, h2, _⟩⟩ := h.1
  ·omega
  ·rw [hv] at e
   injection e with _ _ e3
   omega
 have HR : Hid (OwnZ 131 7 R w B v zs) := h
 have HS : Hid (∀ j u, z.1[j]? = some u → w.cell? ⟨bv, j, none⟩ = some u) := fun j u hu => by rw [kv.cell j]; simpa using hu
 have HV : Hid (v = .slice a zs.length c) := hv
 obtain ⟨n, hnn⟩ : ∃ n, zs.length = n := ⟨_, rfl⟩
 rw [hv]
 rw [hnn] at hn hc ⊢
 have HN : Hid (zs.length = n) := hnn
 clear h hv hnn kv
 go_enter Tryz.func259, Tryz.ntmps259
 go_wp2_with (at_builtin; refine wpl_appI rfl (.tmp 23) (.tmp 24) rfl B (.slice a n c) zs R w rfl (by have := HR.out; rw [HV.out, HN.out] at this; exact this) bv 1 z rfl hz HS.out (by rw [HN.out]; omega) hB ?_)
 all_goals
  intro v' w' h1 h2
  go_wp2_with fail
  go_ret
  refine ⟨_, rfl, h1, ?_⟩
  cases a <;> exact h2
set_option maxHeartbeats 4000000 in
theorem insert_room (w : World) (B : Nat) (zs : Zs Itm) (R : List Value → Itm → Prop) (g cap n i j : Nat) (cur : Array Value) (hBg : B ≤ g) (kg : Blk w g cur 131) (hm : cap ≤ maxLen) (hs : cur.size = cap * 7) (ht : cur.toList.take (zs.length * 7) = cellsZ zs) (hR : ∀ z ∈ zs, (z.1.length = 7 ∧ ∀ u ∈ z.1, u.oneCell' = true) ∧ R z.1 z.2)
  (hnn : zs.length = n) (hi : i < n) (hj : j = n + 1) (hroom : j ≤ cap) (hn : n ≤ 1000) (bv : Nat) (z : List Value × Itm) (hz : (z.1.length = 7 ∧ ∀ u ∈ z.1, u.oneCell' = true) ∧ R z.1 z.2) (kv : Blk w bv z.1.toArray 131) (hne : bv ≠ g) :
  Calls Tryz.prog 259 #[.slice (some ⟨g, 0, none⟩) n cap, .int .i64 i, .slice (some ⟨bv, 0, none⟩) 1 1] w fun e w' => ∃ v', e = .returned v' ∧ OwnZ 131 7 R w' B v' (zs.take i ++ z :: zs.drop i) ∧ w.grownBy w' (some g) := by
 have hk : ∀ y ∈ zs, y.1.length = 7 := fun y hy => (hR y hy).1.1
 have hkd : ∀ y ∈ zs.drop i, y.1.length = 7 := fun y hy => hk y (List.mem_of_mem_drop hy)
 have hdl : (cellsZ (zs.drop i)).length = (n - i) * 7 := by rw [cellsZ_len hkd, List.length_drop, hnn]
 have h1d : ∀ u ∈ cellsZ (zs.drop i), u.oneCell' = true := fun u hu => by
  obtain ⟨y, hy, hu⟩ := List.mem_flatMap.1 hu
  exact (hR y (List.mem_of_mem_drop hy)).1.2 u hu
 have hsd : ∀ t u, (cellsZ (zs.drop i))[t]? = some u → w.cell? ⟨g, i * 7 + t, none⟩ = some u := fun t u hu => by
  rw [kg.cell, ← hu, ← cellsZ_drop hk, List.getElem?_drop, ← ht]
  have ht2 : i * 7 + t < zs.length * 7 := by
   have := (List.getElem?_eq_some_iff.1 hu).1
   rw [hdl] at this
   omega
  rw [List.getElem?_take_of_lt ht2]
  simp
 have kd : Blk w.drew g cur 131 := ⟨kg.h⟩
 have kvd : Blk w.drew bv z.1.toArray 131 := ⟨kv.h⟩
 have hsz7 : (Tryz.prog.info? 131).map (·.size) = some 7 := by kernel_rfl
 have hcp1 := run_copy_rowk w.drew 79 79 3 131 7 g ((i + 1) * 7) (j - (i + 1)) (cap - (i + 1)) ⟨g, i * 7, none⟩ (j - i) (cap - i) (n - i) cur 131 (cellsZ (zs.drop i)) Tryz.underlying79 hsz7 kd (by simp only [Nat.min_def]; split <;> omega) hdl (fun t u hu => by rw [Addr.add_lit]; exact hsd t u hu) (by rw [hdl, hs]; omega) h1d
 have k1 := kd.row (cur.toList.take ((i + 1) * 7) ++ cellsZ (zs.drop i) ++ cur.toList.drop ((i + 1) * 7 + (cellsZ (zs.drop i)).length)).toArray
 have kv1 := kvd.rowO (g' := g) hne (cur.toList.take ((i + 1) * 7) ++ cellsZ (zs.drop i) ++ cur.toList.drop ((i + 1) * 7 + (cellsZ (zs.drop i)).length)).toArray
 have hsz1 : (cur.toList.take ((i + 1) * 7) ++ cellsZ (zs.drop i) ++ cur.toList.drop ((i + 1) * 7 + (cellsZ (zs.drop i)).length)).toArray.size = cap * 7 := by
  simp
  omega
 obtain ⟨W1, hW1⟩ : ∃ W1, w.drew.setRow g (cur.toList.take ((i + 1) * 7) ++ cellsZ (zs.drop i) ++ cur.toList.drop ((i + 1) * 7 + (cellsZ (zs.drop i)).length)).toArray = W1 := ⟨_, rfl⟩
 have g1 : w.grownBy W1 (some g) := by
  rw [← hW1]
  exact ⟨rfl, rfl, rfl, (grown_setRow w.drew g _).size, fun k hk hne => (grown_setRow w.drew g _).block k hk hne⟩
 rw [hW1] at k1 kv1 hcp1
 obtain ⟨C1, hC1⟩ : ∃ C1, (cur.toList.take ((i + 1) * 7) ++ cellsZ (zs.drop i) ++ cur.toList.drop ((i + 1) * 7 + (cellsZ (zs.drop i)).length)).toArray = C1 := ⟨_, rfl⟩
 rw [hC1] at k1 hsz1
 have hcp2 := run_copy_rowk W1 79 79 3 131 7 g (i * 7) (j - i) (cap - i) ⟨bv, 0, none⟩ 1 1 1 C1 131 z.1 Tryz.underlying79 hsz7 k1 (by simp only [Nat.min_def]; split <;> omega) (by rw [hz.1.1]) (fun t u hu => by rw [Addr.add_lit, Nat.zero_add, kv1.cell]; simpa using hu) (by rw [hz.1.1, hsz1]; omega) hz.1.2
 have k2 := k1.row (C1.toList.take (i * 7) ++ z.1 ++ C1.toList.drop (i * 7 + z.1.length)).toArray
 obtain ⟨W2, hW2⟩ : ∃ W2, W1.setRow g (C1.toList.take (i * 7) ++ z.1 ++ C1.toList.drop (i * 7 + z.1.length)).toArray = W2 := ⟨_, rfl⟩
 have g2 : W1.grownBy W2 (some g) := by rw [← hW2]; exact grown_setRow W1 g _
 rw [hW2] at k2 hcp2
 have hfin : OwnZ 131 7 R W2 B (.slice (some ⟨g, 0, none⟩) j cap) (zs.take i ++ z :: zs.drop i) := by
  have hlen : (zs.take i ++ z :: zs.drop i).length = j := by simp; omega
  have hks : ∀ y ∈ zs.take i ++ z :: zs.drop i, (y.1.length = 7 ∧ ∀ u ∈ y.1, u.oneCell' = true) ∧ R y.1 y.2 := fun y hy => by
   rcases List.mem_append.1 hy with hy | hy
   ·exact hR y (List.mem_of_mem_take hy)
   ·rcases List.mem_cons.1 hy with rfl | hy
    ·exact hz
    ·exact hR y (List.mem_of_mem_drop hy)
  refine ⟨⟨by rw [cellsZ_len (fun y hy => (hks y hy).1.1), hlen], .inr ⟨g, cap, _, by rw [hlen], hBg, k2.h, by omega, hm, ?_, ?_⟩⟩, hks⟩
  ·have := hz.1.1
   simp
   omega
  ·rw [hlen]
   have hz7 := hz.1.1
   have hci : (cur.toList.take (i * 7)).length = i * 7 := by rw [List.length_take, Array.length_toList, hs]; omega
   have e1 : C1.toList.take (i * 7) = cur.toList.take (i * 7) := by
    rw [← hC1, List.toList_toArray, List.append_assoc, List.take_append_of_le_length (by rw [List.length_take, Array.length_toList, hs]; omega), List.take_take]
    congr 1
    omega
   have e2 : (C1.toList.drop (i * 7 + z.1.length)).take ((n - i) * 7) = cellsZ (zs.drop i) := by
    have hl1 : (cur.toList.take ((i + 1) * 7)).length = i * 7 + z.1.length := by rw [List.length_take, Array.length_toList, hs, hz7]; omega
    rw [← hC1, List.toList_toArray, List.append_assoc, ← hl1, List.drop_left' rfl, ← hdl, List.take_left' rfl]
   have hl3 : j * 7 = (C1.toList.take (i * 7) ++ z.1).length + (n - i) * 7 := by rw [List.length_append, e1, hci, hz7]; omega
   rw [List.toList_toArray, hl3, List.take_append, List.take_of_length_le (by omega), show (C1.toList.take (i * 7) ++ z.1).length + (n - i) * 7 - (C1.toList.take (i * 7) ++ z.1).length = (n - i) * 7 by omega, e2, e1, cellsZ_app]
   have e3 : cur.toList.take (i * 7) = cellsZ (zs.take i) := by
    rw [← cellsZ_take hk, ← ht, List.take_take]
    congr 1
    omega
   rw [e3, List.append_assoc]
   rfl
 have hgg := gb_trans g1 g2
 have hov : ∀ lb cb, (callFunc 281 #[.slice (some ⟨bv, 0, none⟩) 1 1, .slice (some ⟨g, (i + 1) * 7, none⟩) lb cb]).run Tryz.prog w = .ok (.value (.bool false)) w := fun lb cb => by
  rw [run_callFunc_extern Tryz.func281 (by kernel_rfl) (by kernel_rfl) (by kernel_rfl) (e := Extern.SlicesOverlaps.overlaps #[79, 79] #[4]) (by kernel_rfl),
   Lib.run_overlaps_apart w 79 4 131 Tryz.underlying79 7 (fun w => by kernel_rfl) ⟨bv, 0, none⟩ ⟨g, (i + 1) * 7, none⟩ 1 1 lb cb hne 131 131 _ _ kv.shape kg.shape (by omega) (kv.frozen 0) (kv.frozen _)]
  rfl
 have HJ : Hid (j = n + 1) := hj
 have e1 : ((n : Int) + 1) = (j : Int) := by omega
 have e2 : (n : Nat) + 1 = j := hj.symm
 have hz2 : ¬ ((i : Int) = (n : Int)) := by omega
 have hz3 : ¬ ((cap : Int) < (j : Int)) := by omega
 have hi1 : i ≤ n := by omega
 have hi2 : i + 1 ≤ j := by omega
 have hi3 : ¬ (cap = i + 1) := by omega
 have hi4 : ¬ (cap = i) := by omega
 have hi5 : i ≤ j := by omega
 have hw1 : IntKind.i64.wrap ((i : Int) + 1) = (i : Int) + 1 := by rw [IntKind.wrap_i64]; omega
 have htn : ((i : Int) + 1).toNat = i + 1 := by omega
 have hb1 : (0 : Int) ≤ (i : Int) + 1 := by omega
 have hb5 : (i : Int) + 1 ≤ (j : Int) := by omega
 have hb6 : (i : Int) ≤ (j : Int) := by omega
 have HC1 : Hid ((Builtin.copy_ #[79, 79] 3 #[.slice (some ⟨g, (i + 1) * 7, none⟩) (j - (i + 1)) (cap - (i + 1)), .slice (some ⟨g, i * 7, none⟩) (j - i) (cap - i)]).run Tryz.prog w.drew = .ok (goInt ((n - i : Nat) : Int)) W1) := hcp1
 have HC2 : Hid ((Builtin.copy_ #[79, 79] 3 #[.slice (some ⟨g, i * 7, none⟩) (j - i) (cap - i), .slice (some ⟨bv, 0, none⟩) 1 1]).run Tryz.prog W1 = .ok (goInt 1) W2) := hcp2
 have mixed := hmix
 clear hcp1 hcp2 hk hkd hdl h1d hsd kd kvd k1 kv1 hsz1 hW1 hW2 hC1 k2 g1 g2 hsz7 hR ht kg kv hz hj
 go_enter Tryz.func259, Tryz.ntmps259
 go_wp2_with (simp only [hov])
 go_region_law_o (refine step_copy_runI rfl (.tmp 73) (.tmp 76) 79 79 rfl _ _ (by simp [Act.eval, Act.put]) (by simp [Act.eval, Act.put]) HC1.out ?_)
 go_wp2_with (refine wpList_copy_runI _ rfl (.tmp 80) (.tmp 81) 79 79 rfl _ _ rfl rfl HC2.out ?_)
 go_ret
 exact ⟨_, rfl, hfin, hgg⟩
set_option maxHeartbeats 4000000 in
theorem insert_grow (w : World) (B : Nat) (hB : B ≤ w.heap.size) (zs : Zs Itm) (R : List Value → Itm → Prop) (g cap n i j : Nat) (cur : Array Value) (kg : Blk w g cur 131) (ht : cur.toList.take (zs.length * 7) = cellsZ zs) (hR : ∀ z ∈ zs, (z.1.length = 7 ∧ ∀ u ∈ z.1, u.oneCell' = true) ∧ R z.1 z.2)
  (hnn : zs.length = n) (hi : i < n) (hj : j = n + 1) (hroom : cap < j) (hcap : n ≤ cap) (hn : n ≤ 1000) (bv : Nat) (z : List Value × Itm) (hz : (z.1.length = 7 ∧ ∀ u ∈ z.1, u.oneCell' = true) ∧ R z.1 z.2) (kv : Blk w bv z.1.toArray 131) (row : Option Nat) :
  Calls Tryz.prog 259 #[.slice (some ⟨g, 0, none⟩) n cap, .int .i64 i, .slice (some ⟨bv, 0, none⟩) 1 1] w fun e w' => ∃ v', e = .returned v' ∧ OwnZ 131 7 R w' B v' (zs.take i ++ z :: zs.drop i) ∧ w.grownBy w' row := by
 have hk : ∀ y ∈ zs, y.1.length = 7 := fun y hy => (hR y hy).1.1
 have hkd : ∀ y ∈ zs.drop i, y.1.length = 7 := fun y hy => hk y (List.mem_of_mem_drop hy)
 have hkt : ∀ y ∈ zs.take i, y.1.length = 7 := fun y hy => hk y (List.mem_of_mem_take hy)
 have hdl : (cellsZ (zs.drop i)).length = (n - i) * 7 := by rw [cellsZ_len hkd, List.length_drop, hnn]
 have htl : (cellsZ (zs.take i)).length = i * 7 := by rw [cellsZ_len hkt, List.length_take, hnn, Nat.min_eq_left (by omega)]
 have h1d : ∀ u ∈ cellsZ (zs.drop i), u.oneCell' = true := fun u hu => by
  obtain ⟨y, hy, hu⟩ := List.mem_flatMap.1 hu
  exact (hR y (List.mem_of_mem_drop hy)).1.2 u hu
 have hsd : ∀ t u, (cellsZ (zs.drop i))[t]? = some u → w.cell? ⟨g, i * 7 + t, none⟩ = some u := fun t u hu => by
  rw [kg.cell, ← hu, ← cellsZ_drop hk, List.getElem?_drop, ← ht]
  have ht2 : i * 7 + t < zs.length * 7 := by
   have := (List.getElem?_eq_some_iff.1 hu).1
   rw [hdl] at this
   omega
  rw [List.getElem?_take_of_lt ht2]
  simp
 have hst : ∀ t u, (cellsZ (zs.take i))[t]? = some u → w.cell? ⟨g, t, none⟩ = some u := fun t u hu => by
  have ht1 : t < i * 7 := by
   have := (List.getElem?_eq_some_iff.1 hu).1
   rwa [htl] at this
  rw [kg.cell, ← hu, ← cellsZ_take hk, List.getElem?_take_of_lt ht1, ← ht, List.getElem?_take_of_lt (by omega)]
  simp
 obtain ⟨i0, hi0, hz0, hz1, hz2⟩ := info_parts info43
 have hsz7 : (Tryz.prog.info? 131).map (·.size) = some 7 := by kernel_rfl
 have hold : (Builtin.firstCells i0.size i (.slice (some ⟨g, 0, none⟩) i cap)).run Tryz.prog w.drew = .ok (cellsZ (zs.take i)).toArray w.drew := by
  rw [hz1]
  exact run_firstCells_some w.drew 7 i ⟨g, 0, none⟩ i cap (cellsZ (zs.take i)) htl (fun t u hu => by
   rw [Addr.add_lit, Nat.zero_add]
   exact hst t u hu)
 have hkk : i + (j - i) = j := by omega
 have hrz := Lib.run_append_grow_zeros (P := Tryz.prog) w 79 3 79 131 i0 _ .i64 .i64 Tryz.underlying79 under3 hi0 hz0 (some ⟨g, 0, none⟩) i cap (cellsZ (zs.take i)) hold (j - i) (by omega) (by rw [hz1]; omega) (by omega) (by omega) (by rw [hz2]; omega) (by rw [hz2, hkk]; exact growslice_fits hroom (by omega))
 rw [hkk] at hrz
 obtain ⟨G, hG⟩ : ∃ G, grownCap w j cap 131 = G := ⟨_, rfl⟩
 have hGn : j ≤ G := by rw [← hG]; exact grownCap_ge w _ _ _
 have hGm : G ≤ maxLen := by rw [← hG]; exact grownCap_le_maxLen w j cap 131 (by unfold maxLen; omega)
 rw [hG] at hrz
 have hzc : (Value.agg #[.int .i64 0, .bool false, .string ⟨#[]⟩, .string ⟨#[]⟩, .slice none 0 0, .bool false, .int .i64 0]).cells.size = 7 := rfl
 obtain ⟨ROW, hROW⟩ : ∃ ROW : Array Value, (cellsZ (zs.take i)).toArray ++ Builtin.zeroCells (Value.agg #[.int .i64 0, .bool false, .string ⟨#[]⟩, .string ⟨#[]⟩, .slice none 0 0, .bool false, .int .i64 0]).cells (j - i) ++ Builtin.zeroCells (Value.agg #[.int .i64 0, .bool false, .string ⟨#[]⟩, .string ⟨#[]⟩, .slice none 0 0, .bool false, .int .i64 0]).cells (G - j) = ROW := ⟨_, rfl⟩
 rw [hROW] at hrz
 have hRs : ROW.size = G * 7 := by
  rw [← hROW]
  simp only [Array.size_append, Builtin.zeroCells, Array.size_map, Array.size_range, hzc, List.size_toArray, htl]
  omega
 have hRt : ROW.toList.take (i * 7) = cellsZ (zs.take i) := by
  rw [← hROW, Array.toList_append, Array.toList_append, List.toList_toArray, List.append_assoc, ← htl, List.take_left' rfl]
 have kN : Blk (w.drew.alloc (.cells ROW 131)) w.heap.size ROW 131 := Blk.new w.drew ROW 131
 have bN : Bw w (w.drew.alloc (.cells ROW 131)) := (Below.refl w.heap.size w).drew.alloc (Nat.le_refl _) _
 have hvlt := kv.lt
 have hglt := kg.lt
 have kvN := kv.on bN
 have kgN := kg.on bN
 have hsd2 : ∀ t u, (cellsZ (zs.drop i))[t]? = some u → (w.drew.alloc (.cells ROW 131)).cell? ⟨g, i * 7 + t, none⟩ = some u := fun t u hu => by rw [kgN.cell, ← kg.cell]; exact hsd t u hu
 obtain ⟨W1, hW1⟩ : ∃ W1, w.drew.alloc (.cells ROW 131) = W1 := ⟨_, rfl⟩
 rw [hW1] at hrz kN bN kvN kgN hsd2
 have hcpA := run_copy_rowk W1 79 79 3 131 7 w.heap.size (i * 7) (j - i) (G - i) ⟨bv, 0, none⟩ 1 1 1 ROW 131 z.1 Tryz.underlying79 hsz7 kN (by simp only [Nat.min_def]; split <;> omega) (by rw [hz.1.1]) (fun t u hu => by rw [Addr.add_lit, Nat.zero_add, kvN.cell]; simpa using hu) (by rw [hz.1.1, hRs]; omega) hz.1.2
 have kA := kN.row (ROW.toList.take (i * 7) ++ z.1 ++ ROW.toList.drop (i * 7 + z.1.length)).toArray
 have kgA := kgN.rowO (g' := w.heap.size) (by omega) (ROW.toList.take (i * 7) ++ z.1 ++ ROW.toList.drop (i * 7 + z.1.length)).toArray
 have bA := below_setRow bN (Nat.le_refl _) (ROW.toList.take (i * 7) ++ z.1 ++ ROW.toList.drop (i * 7 + z.1.length)).toArray
 have hsA : (ROW.toList.take (i * 7) ++ z.1 ++ ROW.toList.drop (i * 7 + z.1.length)).toArray.size = G * 7 := by
  have := hz.1.1
  simp
  omega
 obtain ⟨W2, hW2⟩ : ∃ W2, W1.setRow w.heap.size (ROW.toList.take (i * 7) ++ z.1 ++ ROW.toList.drop (i * 7 + z.1.length)).toArray = W2 := ⟨_, rfl⟩
 rw [hW2] at hcpA kA kgA bA
 obtain ⟨C1, hC1⟩ : ∃ C1, (ROW.toList.take (i * 7) ++ z.1 ++ ROW.toList.drop (i * 7 + z.1.length)).toArray = C1 := ⟨_, rfl⟩
 rw [hC1] at kA hsA
 have kA' : Blk W2.drew w.heap.size C1 131 := ⟨kA.h⟩
 have kgA' : Blk W2.drew g cur 131 := ⟨kgA.h⟩
 have hcpB := run_copy_rowk W2.drew 79 79 3 131 7 w.heap.size ((i + 1) * 7) (j - (i + 1)) (G - (i + 1)) ⟨g, i * 7, none⟩ (n - i) (cap - i) (n - i) C1 131 (cellsZ (zs.drop i)) Tryz.underlying79 hsz7 kA' (by simp only [Nat.min_def]; split <;> omega) hdl (fun t u hu => by rw [Addr.add_lit, kgA'.cell, ← kg.cell]; exact hsd t u hu) (by rw [hdl, hsA]; omega) h1d
 have kB := kA'.row (C1.toList.take ((i + 1) * 7) ++ cellsZ (zs.drop i) ++ C1.toList.drop ((i + 1) * 7 + (cellsZ (zs.drop i)).length)).toArray
 have bB := below_setRow bA.drew (Nat.le_refl _) (C1.toList.take ((i + 1) * 7) ++ cellsZ (zs.drop i) ++ C1.toList.drop ((i + 1) * 7 + (cellsZ (zs.drop i)).length)).toArray
 obtain ⟨W3, hW3⟩ : ∃ W3, W2.drew.setRow w.heap.size (C1.toList.take ((i + 1) * 7) ++ cellsZ (zs.drop i) ++ C1.toList.drop ((i + 1) * 7 + (cellsZ (zs.drop i)).length)).toArray = W3 := ⟨_, rfl⟩
 rw [hW3] at hcpB kB bB
 have hfin : OwnZ 131 7 R W3 B (.slice (some ⟨w.heap.size, 0, none⟩) j G) (zs.take i ++ z :: zs.drop i) := by
  have hlen : (zs.take i ++ z :: zs.drop i).length = j := by simp; omega
  have hks : ∀ y ∈ zs.take i ++ z :: zs.drop i, (y.1.length = 7 ∧ ∀ u ∈ y.1, u.oneCell' = true) ∧ R y.1 y.2 := fun y hy => by
   rcases List.mem_append.1 hy with hy | hy
   ·exact hR y (List.mem_of_mem_take hy)
   ·rcases List.mem_cons.1 hy with rfl | hy
    ·exact hz
    ·exact hR y (List.mem_of_mem_drop hy)
  refine ⟨⟨by rw [cellsZ_len (fun y hy => (hks y hy).1.1), hlen], .inr ⟨w.heap.size, G, _, by rw [hlen], hB, kB.h, by rw [hlen]; exact hGn, hGm, ?_, ?_⟩⟩, hks⟩
  ·simp
   omega
  ·rw [hlen]
   have hz7 := hz.1.1
   have e1 : C1.toList.take ((i + 1) * 7) = cellsZ (zs.take i) ++ z.1 := by
    have hl : (i + 1) * 7 = (cellsZ (zs.take i) ++ z.1).length := by rw [List.length_append, htl, hz7]; omega
    rw [← hC1, List.toList_toArray, hRt, hl, List.take_left' rfl]
   have hl3 : j * 7 = (cellsZ (zs.take i) ++ z.1 ++ cellsZ (zs.drop i)).length := by rw [List.length_append, List.length_append, htl, hz7, hdl]; omega
   rw [List.toList_toArray, e1, hl3, List.take_left' rfl, cellsZ_app, List.append_assoc]
   rfl
 have hgg : w.grownBy W3 row := gb_below bB row
 have e1 : ((n : Int) + 1) = (j : Int) := by omega
 have e3 : ((j : Int) - (i : Int)) = ((j - i : Nat) : Int) := by omega
 have hz2' : ¬ ((i : Int) = (n : Int)) := by omega
 have hz3 : ((cap : Int) < (j : Int)) := by omega
 have hi1 : i ≤ n := by omega
 have hi2 : i + 1 ≤ j := by omega
 have hi3 : ¬ (G = i + 1) := by omega
 have hi4 : ¬ (G = i) := by omega
 have hi5 : i ≤ j := by omega
 have hi6 : ¬ (cap = i) := by omega
 have hi7 : i ≤ cap := by omega
 have hw1 : IntKind.i64.wrap ((i : Int) + 1) = (i : Int) + 1 := by rw [IntKind.wrap_i64]; omega
 have htn : ((i : Int) + 1).toNat = i + 1 := by omega
 have hb1 : (0 : Int) ≤ (i : Int) + 1 := by omega
 have hb5 : (i : Int) + 1 ≤ (j : Int) := by omega
 have hb6 : (i : Int) ≤ (j : Int) := by omega
 have HC1 : Hid ((Builtin.append_ #[79, 3] 79 #[.slice (some ⟨g, 0, none⟩) i cap, .int .i64 ((j - i : Nat) : Int)]).run Tryz.prog w = .ok (.slice (some ⟨w.heap.size, 0, none⟩) j G) W1) := hrz
 have HC2 : Hid ((Builtin.copy_ #[79, 79] 3 #[.slice (some ⟨w.heap.size, i * 7, none⟩) (j - i) (G - i), .slice (some ⟨bv, 0, none⟩) 1 1]).run Tryz.prog W1 = .ok (goInt 1) W2) := hcpA
 have HC3 : Hid ((Builtin.copy_ #[79, 79] 3 #[.slice (some ⟨w.heap.size, (i + 1) * 7, none⟩) (j - (i + 1)) (G - (i + 1)), .slice (some ⟨g, i * 7, none⟩) (n - i) (cap - i)]).run Tryz.prog W2.drew = .ok (goInt ((n - i : Nat) : Int)) W3) := hcpB
 have mixed := hmix
 clear hrz hcpA hcpB hk hkd hkt hdl htl h1d hsd hst hold hkk hROW hRs hRt kN bN kvN kgN hsd2 kA kgA bA hsA hC1 kA' kgA' kB bB hW1 hW2 hW3 hsz7 hR ht kg kv hz hj hG hzc hvlt hglt
 go_enter Tryz.func259, Tryz.ntmps259
 go_wp2_with (first | (refine Lib.wpList_append_run _ rfl (.tmp 34) (.tmp 39) 79 3 rfl _ _ rfl rfl _ _ HC1.out ?_) | (refine wpList_copy_runI _ rfl (.tmp 43) (.tmp 44) 79 79 rfl _ _ rfl rfl HC2.out ?_))
 go_region_law_o (refine step_copy_runI rfl (.tmp 50) (.tmp 53) 79 79 rfl _ _ (by simp [Act.eval, Act.put]) (by simp [Act.eval, Act.put]) HC3.out ?_)
 go_wp2
 go_ret
 exact ⟨_, rfl, hfin, hgg⟩
theorem insert_any (w : World) (B : Nat) (hB : B ≤ w.heap.size) (v : Value) (zs : Zs Itm) (R : List Value → Itm → Prop) (h : OwnZ 131 7 R w B v zs) (i : Nat) (hi : i ≤ zs.length) (hn : zs.length ≤ 1000) (bv : Nat) (z : List Value × Itm) (hz : (z.1.length = 7 ∧ ∀ u ∈ z.1, u.oneCell' = true) ∧ R z.1 z.2) (kv : Blk w bv z.1.toArray 131) (hne : v.ownBlock ≠ some bv) :
  Calls Tryz.prog 259 #[v, .int .i64 i, .slice (some ⟨bv, 0, none⟩) 1 1] w fun e w' => ∃ v', e = .returned v' ∧ OwnZ 131 7 R w' B v' (zs.take i ++ z :: zs.drop i) ∧ w.grownBy w' v.ownBlock := by
 by_cases he : i = zs.length
 ·subst he
  refine (insert_end w B v zs R h hn hB bv z hz kv).mono ?_
  rintro e w' ⟨v', rfl, h1, h2⟩
  refine ⟨v', rfl, ?_, h2⟩
  rw [List.take_length, List.drop_length]
  exact h1
 ·obtain ⟨g, cap, cur, rfl, hBg, kg, hc, hm, hs, ht⟩ := ownI_some h (by omega)
  have hne' : bv ≠ g := fun e => hne (by rw [e]; rfl)
  by_cases hr : zs.length + 1 ≤ cap
  ·exact insert_room w B zs R g cap zs.length i (zs.length + 1) cur hBg kg hm hs ht h.2 rfl (by omega) rfl hr hn bv z hz kv hne'
  ·exact insert_grow w B hB zs R g cap zs.length i (zs.length + 1) cur kg ht h.2 rfl (by omega) rfl (by omega) hc hn bv z hz kv (some g)
theorem tw_take {α : Type} (p : α → Bool) : ∀ l : List α, l.take (l.takeWhile p).length = l.takeWhile p ∧ l.drop (l.takeWhile p).length = l.dropWhile p
 | [] => ⟨rfl, rfl⟩
 | x :: l => by
  cases e : p x with
  | true =>
   rw [List.takeWhile_cons_of_pos e, List.dropWhile_cons_of_pos e]
   simp [(tw_take p l).1, (tw_take p l).2]
  | false =>
   rw [List.takeWhile_cons_of_neg (by simp [e]), List.dropWhile_cons_of_neg (by simp [e])]
   simp
theorem putB_split (l : List Itm) (x : Itm) : putB l x = l.take (posB l x.seq) ++ { x with again := true } :: l.drop (posB l x.seq) := by
 unfold putB posB
 rw [(tw_take _ l).1, (tw_take _ l).2]
set_option maxHeartbeats 2000000 in
theorem putBack_any (w : World) (B : Nat) (hB : B ≤ w.heap.size) (v : Value) (zs : Zs Itm) (h : OwnZ 131 7 (ItR (OwnP w B)) w B v zs) (hr : Rises (zs.map (·.2))) (hn : zs.length ≤ 1000) (x : Itm) (pv : Value) (hp : OwnP w B pv x.msg.props) :
  Calls Tryz.prog 210 #[v, .agg (itmV x pv).toArray] w fun e w' => ∃ v', e = .returned v' ∧ OwnI w' B v' (putB (zs.map (·.2)) x) ∧ w.grownBy w' v.ownBlock := by
 obtain ⟨a, c, hv⟩ := h.rd.len
 obtain ⟨pa, pc, rfl⟩ := hp.shape
 obtain ⟨pn, hpn⟩ : ∃ pn, x.msg.props.length = pn := ⟨_, rfl⟩
 have HX : Hid (x.msg.props.length = pn) := hpn
 rw [hpn] at hp ⊢
 clear hpn
 obtain ⟨n, hnn⟩ : ∃ n, zs.length = n := ⟨_, rfl⟩
 rw [hnn] at hv hn
 have HN : Hid (zs.length = n) := hnn
 subst hv
 have b1 := (Below.refl w.heap.size w).alloc (Nat.le_refl _) (.cells #[.int .i64 x.seq, .bool true, tx x.msg.topic, tx x.msg.body, .slice pa pn pc, .bool x.msg.dur, .int .i64 x.msg.til] 131)
 have k1 := Blk.new w #[.int .i64 x.seq, .bool true, tx x.msg.topic, tx x.msg.body, .slice pa pn pc, .bool x.msg.dur, .int .i64 x.msg.til] 131
 have h1 : OwnZ 131 7 (ItR (OwnP (w.alloc (.cells #[.int .i64 x.seq, .bool true, tx x.msg.topic, tx x.msg.body, .slice pa pn pc, .bool x.msg.dur, .int .i64 x.msg.til] 131)) B)) (w.alloc (.cells #[.int .i64 x.seq, .bool true, tx x.msg.topic, tx x.msg.body, .slice pa pn pc, .bool x.msg.dur, .int .i64 x.msg.til] 131)) B (.slice a n c) zs := (h.keep (.of_below b1)).imp fun _ _ h => h.keep (.of_below b1)
 have hp1 := hp.keep (.of_below b1)
 have hbl : (Value.slice a n c).ownBlock ≠ some w.heap.size := fun e => by
  have := (World.ownsRow.lt h.1 _ e).2
  omega
 unfold itmV
 go_enter Tryz.func210, Tryz.ntmps210
 go_upto_region 2 with fail
 generalize w.alloc (.cells #[.int .i64 x.seq, .bool true, tx x.msg.topic, tx x.msg.body, .slice pa pn pc, .bool x.msg.dur, .int .i64 x.msg.til] 131) = w1 at *
 have hsr := search_any w1 a n c zs (h1.rd.imp fun _ _ h => h.rd) hnn (by omega) hr x.seq
 obtain ⟨wz, hwz⟩ : ∃ z, w.heap.size = z := ⟨_, rfl⟩
 have HWZ : Hid (w.heap.size = wz) := hwz
 rw [hwz] at k1 hbl ⊢
 have hpos := posB_le (zs.map (·.2)) x.seq
 rw [List.length_map, hnn] at hpos
 have EP := putB_split (zs.map (·.2)) x
 generalize posB (zs.map (·.2)) x.seq = ps at *
 have EP2 : Hid (putB (zs.map (·.2)) x = (zs.map (·.2)).take ps ++ { x with again := true } :: (zs.map (·.2)).drop ps) := EP
 obtain ⟨c0, c1, c2, c3, c4, c5, c6⟩ := k1.c7
 clear h hnn hwz EP hr
 go_wp2_with fail
 refine hsr.mono ?_
 rintro e w2 ⟨⟨bb, rfl⟩, b2⟩
 have k2 := k1.on b2
 have h2 : OwnZ 131 7 (ItR (OwnP w2 B)) w2 B (.slice a n c) zs := (h1.keep (.of_below b2)).imp fun _ _ h => h.keep (.of_below b2)
 have hp2 := hp1.keep (.of_below b2)
 have b02 : w.grownBy w2 (Value.slice a n c).ownBlock := gb_trans (gb_below b1 _) (gb_below b2 _)
 have b3 := (Below.refl w2.heap.size w2).alloc (Nat.le_refl _) (.cells #[.int .i64 x.seq, .bool true, tx x.msg.topic, tx x.msg.body, .slice pa pn pc, .bool x.msg.dur, .int .i64 x.msg.til] 131)
 have kv := Blk.new w2 #[.int .i64 x.seq, .bool true, tx x.msg.topic, tx x.msg.body, .slice pa pn pc, .bool x.msg.dur, .int .i64 x.msg.til] 131
 have h3 : OwnZ 131 7 (ItR (OwnP (w2.alloc (.cells #[.int .i64 x.seq, .bool true, tx x.msg.topic, tx x.msg.body, .slice pa pn pc, .bool x.msg.dur, .int .i64 x.msg.til] 131)) B)) (w2.alloc (.cells #[.int .i64 x.seq, .bool true, tx x.msg.topic, tx x.msg.body, .slice pa pn pc, .bool x.msg.dur, .int .i64 x.msg.til] 131)) B (.slice a n c) zs := (h2.keep (.of_below b3)).imp fun _ _ h => h.keep (.of_below b3)
 have hp3 := hp2.keep (.of_below b3)
 have hsz : B ≤ (w2.alloc (.cells #[.int .i64 x.seq, .bool true, tx x.msg.topic, tx x.msg.body, .slice pa pn pc, .bool x.msg.dur, .int .i64 x.msg.til] 131)).heap.size := Nat.le_trans hB (Nat.le_trans b02.size b3.size)
 have hin := insert_any _ B hsz _ zs _ h3 ps (by rw [HN.out]; exact hpos) (by rw [HN.out]; exact hn) w2.heap.size (itmV { x with again := true } (.slice pa pn pc), { x with again := true }) ⟨itmV_one _ rfl, .slice pa pn pc, rfl, hp3⟩ kv (fun e => by have := (World.ownsRow.lt h2.1 _ e).2; omega)
 have b03 := gb_trans b02 (gb_below b3 _)
 have ho3 : OwnZ 131 7 (ItR (OwnP (w2.alloc (.cells #[.int .i64 x.seq, .bool true, tx x.msg.topic, tx x.msg.body, .slice pa pn pc, .bool x.msg.dur, .int .i64 x.msg.til] 131)) B)) (w2.alloc (.cells #[.int .i64 x.seq, .bool true, tx x.msg.topic, tx x.msg.body, .slice pa pn pc, .bool x.msg.dur, .int .i64 x.msg.til] 131)) B (.slice a n c) zs := h3
 clear hsr h1 hp1 b1 k1 c0 c1 c2 c3 c4 c5 c6 h2 hp2 b2 b02 hp3 hsz kv b3
 go_wp2_with (refine wpl_load43 rfl (.tmp 3) rfl _ _ rfl k2 rfl ?_)
 refine hin.mono ?_
 rintro e w4 ⟨v4, rfl, o4, g4⟩
 have t54 : Kt 66 _ w4 := Kt.of_grown ho3.1 g4 (by decide)
 go_wp2
 go_ret
 refine ⟨_, rfl, ⟨_, ?_, o4.imp fun _ _ h => h.keep t54⟩, gb_trans b03 g4⟩
 rw [EP2.out, List.map_append, List.map_cons, List.map_take, List.map_drop]
theorem itmsB_parts (s : Int) : ∀ (l : List Itm) (a : Int), itmsB s a l = true ↔ Rises l ∧ ∀ x ∈ l, a < x.seq ∧ itmB s x = true
 | [], a => by simp [itmsB, Rises]
 | x :: l, a => by
  simp only [itmsB, Bool.and_eq_true, decide_eq_true_eq, itmsB_parts s l x.seq, Rises, List.pairwise_cons, List.mem_cons]
  constructor
  ·rintro ⟨⟨h1, h2⟩, h3, h4⟩
   refine ⟨⟨fun y hy => (h4 y hy).1, h3⟩, ?_⟩
   rintro y (rfl | hy)
   ·exact ⟨h1, h2⟩
   ·have := h4 y hy
    exact ⟨by omega, this.2⟩
  ·rintro ⟨⟨h1, h2⟩, h3⟩
   exact ⟨h3 x (.inl rfl), h2, fun y hy => ⟨h1 y hy, (h3 y (.inr hy)).2⟩⟩
def RisesT (l : List Hld) : Prop := l.Pairwise (fun a b => a.tag < b.tag)
theorem hldsB_parts (s t : Int) : ∀ (l : List Hld) (a : Int), hldsB s t a l = true ↔ RisesT l ∧ ∀ x ∈ l, a < x.tag ∧ hldB s t x = true
 | [], a => by simp [hldsB, RisesT]
 | x :: l, a => by
  simp only [hldsB, Bool.and_eq_true, decide_eq_true_eq, hldsB_parts s t l x.tag, RisesT, List.pairwise_cons, List.mem_cons]
  constructor
  ·rintro ⟨⟨h1, h2⟩, h3, h4⟩
   refine ⟨⟨fun y hy => (h4 y hy).1, h3⟩, ?_⟩
   rintro y (rfl | hy)
   ·exact ⟨h1, h2⟩
   ·have := h4 y hy
    exact ⟨by omega, this.2⟩
  ·rintro ⟨⟨h1, h2⟩, h3⟩
   exact ⟨h3 x (.inl rfl), h2, fun y hy => ⟨h1 y hy, (h3 y (.inr hy)).2⟩⟩
theorem itmB_one {s : Int} {x : Itm} (h : itmB s x = true) : 0 < x.seq := by
 simp only [itmB, givB, Bool.and_eq_true, decide_eq_true_eq] at h
 omega
theorem hldB_one {s t : Int} {x : Hld} (h : hldB s t x = true) : 0 < x.tag := by
 simp only [hldB, givB, Bool.and_eq_true, decide_eq_true_eq] at h
 omega
structure GoodP (q : Que) : Prop where
 name : nameL q.name = true
 dep : depB q.depth = true
 seq : numB q.seq = true
 tag : numB q.tag = true
 len : (lenQ q : Int) ≤ q.depth
 ri : Rises q.items
 it : ∀ x ∈ q.items, itmB q.seq x = true
 rt : RisesT q.held
 ht : ∀ h ∈ q.held, hldB q.seq q.tag h = true
 nd : (seqs q).Nodup
theorem goodQ_iff (q : Que) : goodQ q = true ↔ GoodP q := by
 simp only [goodQ, Bool.and_eq_true, decide_eq_true_eq, itmsB_parts, hldsB_parts]
 constructor
 ·rintro ⟨⟨⟨⟨⟨⟨⟨h1, h2⟩, h3⟩, h4⟩, h5⟩, h6⟩, h7⟩, h8⟩
  exact ⟨h1, h2, h3, h4, h5, h6.1, fun x hx => (h6.2 x hx).2, h7.1, fun x hx => (h7.2 x hx).2, h8⟩
 ·rintro ⟨h1, h2, h3, h4, h5, h6, h7, h8, h9, h10⟩
  exact ⟨⟨⟨⟨⟨⟨⟨h1, h2⟩, h3⟩, h4⟩, h5⟩, h6, fun x hx => ⟨itmB_one (h7 x hx), h7 x hx⟩⟩, h8, fun x hx => ⟨hldB_one (h9 x hx), h9 x hx⟩⟩, h10⟩
theorem putB_perm (l : List Itm) (x : Itm) : (putB l x).Perm ({ x with again := true } :: l) := by
 unfold putB
 refine List.perm_middle.trans ?_
 rw [List.takeWhile_append_dropWhile]
theorem putB_mem {l : List Itm} {x y : Itm} : y ∈ putB l x ↔ y = { x with again := true } ∨ y ∈ l := by
 rw [(putB_perm l x).mem_iff, List.mem_cons]
theorem tw_all {α : Type} (p : α → Bool) : ∀ (l : List α) (y : α), y ∈ l.takeWhile p → p y = true
 | [], _, h => by simp at h
 | x :: l, y, h => by
  cases e : p x with
  | true =>
   rw [List.takeWhile_cons_of_pos e] at h
   rcases List.mem_cons.1 h with rfl | h
   ·exact e
   ·exact tw_all p l y h
  | false =>
   rw [List.takeWhile_cons_of_neg (by simp [e])] at h
   cases h
theorem putB_rises {l : List Itm} {x : Itm} (h : Rises l) (hx : x.seq ∉ l.map (·.seq)) : Rises (putB l x) := by
 unfold putB Rises
 have e := List.takeWhile_append_dropWhile (p := fun y : Itm => decide (y.seq < x.seq)) (l := l)
 have h2 : Rises (l.takeWhile (fun y => decide (y.seq < x.seq)) ++ l.dropWhile (fun y => decide (y.seq < x.seq))) := by rw [e]; exact h
 have ha : ∀ y ∈ l.takeWhile (fun y => decide (y.seq < x.seq)), y.seq < x.seq := fun y hy => by
  have := tw_all _ l y hy
  simpa using this
 have hb : ∀ y ∈ l.dropWhile (fun y => decide (y.seq < x.seq)), x.seq < y.seq := by
  have hr := (List.pairwise_append.1 h2).2.1
  have hm : ∀ y ∈ l.dropWhile (fun y => decide (y.seq < x.seq)), y.seq ≠ x.seq := fun y hy e' => hx (by
   rw [← e']
   exact List.mem_map_of_mem ((List.dropWhile_sublist _).mem hy))
  have hd : ∀ y, (l.dropWhile (fun y => decide (y.seq < x.seq))).head? = some y → ¬ y.seq < x.seq := fun y hy => by
   have := List.head?_dropWhile_not (fun y : Itm => decide (y.seq < x.seq)) l
   rw [hy] at this
   simpa using this
  cases hdw : l.dropWhile (fun y => decide (y.seq < x.seq)) with
  | nil => intro y hy; cases hy
  | cons z r =>
   rw [hdw] at hr hm hd
   have hz1 := hd z rfl
   have hz2 := hm z (List.mem_cons_self ..)
   intro y hy
   rcases List.mem_cons.1 hy with rfl | hy
   ·omega
   ·have := (List.pairwise_cons.1 hr).1 y hy
    omega
 refine List.pairwise_append.2 ⟨(List.pairwise_append.1 h2).1, List.pairwise_cons.2 ⟨fun y hy => hb y hy, (List.pairwise_append.1 h2).2.1⟩, ?_⟩
 intro y hy z hz
 rcases List.mem_cons.1 hz with rfl | hz
 ·exact ha y hy
 ·have := ha y hy
  have := hb z hz
  omega
theorem putB_seqs (l : List Itm) (x : Itm) : ((putB l x).map (·.seq)).Perm (x.seq :: l.map (·.seq)) := (putB_perm l x).map _
theorem backs_facts : ∀ (hs : List Hld) (l : List Itm), Rises l → (l.map (·.seq) ++ hs.map (·.itm.seq)).Nodup →
  Rises (backs l hs) ∧ ((backs l hs).map (·.seq)).Perm (l.map (·.seq) ++ hs.map (·.itm.seq)) ∧ ∀ y, y ∈ backs l hs → y ∈ l ∨ ∃ h ∈ hs, y = { h.itm with again := true }
 | [], l, h, _ => ⟨h, by simp [backs], fun y hy => .inl hy⟩
 | x :: hs, l, h, hn => by
  have hx : x.itm.seq ∉ l.map (·.seq) := fun hm => by
   rw [List.nodup_append] at hn
   exact hn.2.2 _ hm _ (by simp) rfl
  have hp := putB_seqs l x.itm
  have hn2 : ((putB l x.itm).map (·.seq) ++ hs.map (·.itm.seq)).Nodup := by
   refine (List.Perm.nodup_iff ?_).2 hn
   refine (hp.append_right _).trans ?_
   simp only [List.map_cons]
   exact List.perm_middle.symm
  obtain ⟨h1, h2, h3⟩ := backs_facts hs (putB l x.itm) (putB_rises h hx) hn2
  refine ⟨h1, ?_, fun y hy => ?_⟩
  ·refine h2.trans ((hp.append_right _).trans ?_)
   simp only [List.map_cons]
   exact List.perm_middle.symm
  ·rcases h3 y hy with h4 | ⟨z, hz, e⟩
   ·rcases putB_mem.1 h4 with rfl | h4
    ·exact .inr ⟨x, by simp, rfl⟩
    ·exact .inl h4
   ·exact .inr ⟨z, by simp [hz], e⟩
theorem itmB_again {s : Int} {x : Itm} (h : itmB s x = true) : itmB s { x with again := true } = true := h
theorem itmB_up {s s' : Int} {x : Itm} (h : itmB s x = true) (hs : s ≤ s') : itmB s' x = true := by
 simp only [itmB, givB, Bool.and_eq_true, decide_eq_true_eq] at h ⊢
 exact ⟨⟨h.1.1, by omega⟩, h.2⟩
theorem hldB_itm {s t : Int} {x : Hld} (h : hldB s t x = true) : itmB s x.itm = true := by
 simp only [hldB, Bool.and_eq_true] at h
 exact h.2
theorem hldB_up {s t s' t' : Int} {x : Hld} (h : hldB s t x = true) (hs : s ≤ s') (ht : t ≤ t') : hldB s' t' x = true := by
 simp only [hldB, givB, Bool.and_eq_true, decide_eq_true_eq] at h ⊢
 exact ⟨⟨⟨⟨h.1.1.1.1, by omega⟩, h.1.1.2⟩, h.1.2⟩, itmB_up h.2 hs⟩
theorem good_push {q : Que} {m : Msg} (h : GoodP q) (hc : pushC q m = 0) : GoodP (pushQ q m) := by
 have hg := (goodQ_iff q).2 h
 have hd := h.len
 have hs := h.seq
 simp only [numB, Bool.and_eq_true, decide_eq_true_eq] at hs
 simp only [pushC, hg, Bool.not_true, Bool.false_or, decide_eq_true_eq] at hc
 split at hc
 ·cases hc
 ·rename_i h1
  split at hc
  ·cases hc
  ·rename_i h2
   split at hc
   ·cases hc
   ·rename_i h3
    have hm : msgB m = true := by simpa using h2
    have hlow : ∀ x ∈ q.items, x.seq ≤ q.seq := fun x hx => by have := h.it x hx; simp only [itmB, givB, Bool.and_eq_true, decide_eq_true_eq] at this; exact this.1.2
    have hlow2 : ∀ x ∈ q.held, x.itm.seq ≤ q.seq := fun x hx => by have := hldB_itm (h.ht x hx); simp only [itmB, givB, Bool.and_eq_true, decide_eq_true_eq] at this; exact this.1.2
    refine ⟨h.name, h.dep, ?_, h.tag, ?_, ?_, ?_, h.rt, ?_, ?_⟩
    ·show numB (q.seq + 1) = true
     simp only [numB, Bool.and_eq_true, decide_eq_true_eq]
     omega
    ·show ((lenQ (pushQ q m) : Nat) : Int) ≤ q.depth
     have : lenQ (pushQ q m) = lenQ q + 1 := by simp [lenQ, pushQ]; omega
     omega
    ·refine List.pairwise_append.2 ⟨h.ri, by simp, fun a ha b hb => ?_⟩
     simp at hb
     subst hb
     have := hlow a ha
     show a.seq < q.seq + 1
     omega
    ·intro x hx
     rcases List.mem_append.1 hx with hx | hx
     ·exact itmB_up (h.it x hx) (by show q.seq ≤ q.seq + 1; omega)
     ·simp at hx
      subst hx
      show itmB (q.seq + 1) ⟨q.seq + 1, false, m⟩ = true
      simp only [itmB, givB, Bool.and_eq_true, decide_eq_true_eq]
      exact ⟨by omega, hm⟩
    ·intro x hx
     exact hldB_up (h.ht x hx) (by show q.seq ≤ q.seq + 1; omega) (Int.le_refl _)
    ·have hp : (seqs (pushQ q m)).Perm ((q.seq + 1) :: seqs q) := by
      show ((q.items ++ [(⟨q.seq + 1, false, m⟩ : Itm)]).map (·.seq) ++ q.held.map (·.itm.seq)).Perm _
      rw [List.map_append, List.append_assoc]
      exact List.perm_middle
     refine hp.nodup_iff.2 (List.nodup_cons.2 ⟨fun hm' => ?_, h.nd⟩)
     rcases List.mem_append.1 hm' with hm' | hm'
     ·obtain ⟨x, hx, e⟩ := List.mem_map.1 hm'
      have := hlow x hx
      omega
     ·obtain ⟨x, hx, e⟩ := List.mem_map.1 hm'
      have := hlow2 x hx
      omega
theorem good_expire {q : Que} (h : GoodP q) (now : Int) : GoodP (expireQ q now) := by
 have hsub : (expireQ q now).items.Sublist q.items := List.filter_sublist
 refine ⟨h.name, h.dep, h.seq, h.tag, ?_, h.ri.sublist hsub, fun x hx => h.it x (hsub.mem hx), h.rt, h.ht, ?_⟩
 ·have h1 := hsub.length_le
  have h2 := h.len
  show ((lenQ (expireQ q now) : Nat) : Int) ≤ q.depth
  have : lenQ (expireQ q now) ≤ lenQ q := by unfold lenQ; exact Nat.add_le_add_right h1 _
  omega
 ·exact h.nd.sublist ((hsub.map _).append (List.Sublist.refl _))
theorem good_release {q : Que} (h : GoodP q) (conn sub : Int) : GoodP (releaseQ q conn sub) := by
 have hnd := h.nd
 have hpf : (q.held.filter (isR conn sub) ++ q.held.filter (fun h => !isR conn sub h)).Perm q.held := List.filter_append_perm (isR conn sub) q.held
 have hsp : (q.items.map (·.seq) ++ (q.held.filter (isR conn sub)).map (·.itm.seq) ++ (q.held.filter (fun h => !isR conn sub h)).map (·.itm.seq)).Perm (seqs q) := by
  rw [List.append_assoc, ← List.map_append]
  exact (hpf.map _).append_left _
 have hn1 : (q.items.map (·.seq) ++ (q.held.filter (isR conn sub)).map (·.itm.seq)).Nodup := (List.nodup_append.1 (hsp.nodup_iff.2 hnd)).1
 obtain ⟨h1, h2, h3⟩ := backs_facts (q.held.filter (isR conn sub)) q.items h.ri hn1
 have hsq : (seqs (releaseQ q conn sub)).Perm (seqs q) := by
  show ((backs q.items (q.held.filter (isR conn sub))).map (·.seq) ++ (q.held.filter (fun h => !isR conn sub h)).map (·.itm.seq)).Perm _
  exact (h2.append_right _).trans hsp
 refine ⟨h.name, h.dep, h.seq, h.tag, ?_, h1, fun y hy => ?_, h.rt.sublist List.filter_sublist, fun x hx => h.ht x (List.mem_filter.1 hx).1, hsq.nodup_iff.2 hnd⟩
 ·have e1 : lenQ (releaseQ q conn sub) = (seqs (releaseQ q conn sub)).length := by simp [lenQ, seqs]
  have e2 : lenQ q = (seqs q).length := by simp [lenQ, seqs]
  show ((lenQ (releaseQ q conn sub) : Nat) : Int) ≤ q.depth
  rw [e1, hsq.length_eq, ← e2]
  exact h.len
 ·rcases h3 y hy with hy | ⟨x, hx, rfl⟩
  ·exact h.it y hy
  ·exact itmB_again (hldB_itm (h.ht x (List.mem_filter.1 hx).1))
theorem takeC_zero {q : Que} {conn sub : Int} (hc : takeC q conn sub = 0) : goodQ q = true ∧ conB conn = true ∧ numB sub = true ∧ q.tag ≠ 1099511627776 ∧ q.items.length ≠ 0 := by
 unfold takeC at hc
 split at hc
 ·cases hc
 ·rename_i h1
  split at hc
  ·cases hc
  ·rename_i h2
   simp only [Bool.or_eq_true, Bool.not_eq_true', decide_eq_true_eq, not_or, Bool.not_eq_false] at h1
   exact ⟨h1.1, h1.2.1, h1.2.2.1, h1.2.2.2, h2⟩
theorem good_take {q : Que} {conn sub : Int} (h : GoodP q) (hc : takeC q conn sub = 0) (hold : Bool) : GoodP (takeQ q conn sub hold) := by
 obtain ⟨_, h1, h2, h3, h4⟩ := takeC_zero hc
 have htg := h.tag
 simp only [numB, Bool.and_eq_true, decide_eq_true_eq] at htg
 obtain ⟨x, r, hxr⟩ : ∃ x r, q.items = x :: r := by
  cases e : q.items with
  | nil => rw [e] at h4; exact absurd rfl h4
  | cons x r => exact ⟨x, r, rfl⟩
 have hri := h.ri
 have hit := h.it
 have hlen := h.len
 have hnd := h.nd
 unfold seqs at hnd
 unfold lenQ at hlen
 rw [hxr] at hri hit hlen hnd
 simp only [List.map_cons, List.cons_append, List.length_cons] at hnd hlen
 cases hold with
 | false =>
  have e : takeQ q conn sub false = { q with items := r } := by simp [takeQ, hxr]
  rw [e]
  refine ⟨h.name, h.dep, h.seq, h.tag, ?_, (List.pairwise_cons.1 hri).2, fun y hy => hit y (List.mem_cons_of_mem _ hy), h.rt, h.ht, (List.nodup_cons.1 hnd).2⟩
  show ((r.length + q.held.length : Nat) : Int) ≤ q.depth
  omega
 | true =>
  have e : takeQ q conn sub true = { q with tag := q.tag + 1, items := r, held := q.held ++ [⟨q.tag + 1, conn, sub, x⟩] } := by simp [takeQ, hxr]
  rw [e]
  have hlow : ∀ y ∈ q.held, y.tag ≤ q.tag := fun y hy => by have := h.ht y hy; simp only [hldB, givB, Bool.and_eq_true, decide_eq_true_eq] at this; exact this.1.1.1.2
  refine ⟨h.name, h.dep, h.seq, ?_, ?_, (List.pairwise_cons.1 hri).2, fun y hy => hit y (List.mem_cons_of_mem _ hy), ?_, ?_, ?_⟩
  ·show numB (q.tag + 1) = true
   simp only [numB, Bool.and_eq_true, decide_eq_true_eq]
   omega
  ·show ((r.length + (q.held ++ [(⟨q.tag + 1, conn, sub, x⟩ : Hld)]).length : Nat) : Int) ≤ q.depth
   simp
   omega
  ·refine List.pairwise_append.2 ⟨h.rt, by simp, fun a ha b hb => ?_⟩
   simp at hb
   subst hb
   have := hlow a ha
   show a.tag < q.tag + 1
   omega
  ·intro y hy
   rcases List.mem_append.1 hy with hy | hy
   ·exact hldB_up (h.ht y hy) (Int.le_refl _) (by show q.tag ≤ q.tag + 1; omega)
   ·simp at hy
    subst hy
    show hldB q.seq (q.tag + 1) ⟨q.tag + 1, conn, sub, x⟩ = true
    simp only [hldB, givB, Bool.and_eq_true, decide_eq_true_eq]
    exact ⟨⟨⟨by omega, h1⟩, h2⟩, hit x (by simp)⟩
  ·show (r.map (·.seq) ++ (q.held ++ [(⟨q.tag + 1, conn, sub, x⟩ : Hld)]).map (·.itm.seq)).Nodup
   refine (List.Perm.nodup_iff ?_).2 hnd
   rw [List.map_append, ← List.append_assoc]
   exact List.perm_append_singleton _ _
theorem erase_perm {α : Type} : ∀ (l : List α) (K : Nat) (h : K < l.length), (l[K] :: l.eraseIdx K).Perm l
 | x :: l, 0, _ => by simp
 | x :: l, K + 1, h => by
  simp only [List.getElem_cons_succ, List.eraseIdx_cons_succ]
  exact (List.Perm.swap _ _ _).trans ((erase_perm l K (by simpa using h)).cons x)
theorem settleC_zero {q : Que} {conn tag : Int} (hc : settleC q conn tag = 0) : goodQ q = true ∧ q.held.findIdx (isH conn tag) < q.held.length := by
 unfold settleC at hc
 split at hc
 ·cases hc
 ·rename_i h1
  split at hc
  ·rename_i h2
   exact ⟨by simpa using h1, h2⟩
  ·cases hc
theorem good_settle {q : Que} {conn tag : Int} (h : GoodP q) (hc : settleC q conn tag = 0) (again : Bool) : GoodP (settleQ q conn tag again) := by
 obtain ⟨_, hK⟩ := settleC_zero hc
 unfold settleQ
 generalize q.held.findIdx (isH conn tag) = K at *
 have eg : q.held.getD K zeroH = q.held[K] := by simp [List.getD, hK]
 rw [eg]
 have hsub := List.eraseIdx_sublist q.held K
 have hpm : (q.held[K] :: q.held.eraseIdx K).Perm q.held := erase_perm q.held K hK
 have hmem : q.held[K] ∈ q.held := List.getElem_mem hK
 have hlenE : (q.held.eraseIdx K).length + 1 = q.held.length := by have := hpm.length_eq; simpa using this
 have hnd : ((q.items.map (·.seq) ++ [q.held[K].itm.seq]) ++ (q.held.eraseIdx K).map (·.itm.seq)).Nodup := by
  refine (List.Perm.nodup_iff ?_).2 h.nd
  rw [List.append_assoc]
  exact ((hpm.map (fun h : Hld => h.itm.seq)).append_left (q.items.map (·.seq)))
 have hlen := h.len
 unfold lenQ at hlen
 cases again with
 | false =>
  refine ⟨h.name, h.dep, h.seq, h.tag, ?_, h.ri, h.it, h.rt.sublist hsub, fun x hx => h.ht x (hsub.mem hx), ?_⟩
  ·show ((q.items.length + (q.held.eraseIdx K).length : Nat) : Int) ≤ q.depth
   omega
  ·exact h.nd.sublist ((List.Sublist.refl _).append (hsub.map _))
 | true =>
  have hx : q.held[K].itm.seq ∉ q.items.map (·.seq) := fun hm => by
   have := (List.nodup_append.1 (List.nodup_append.1 hnd).1).2.2
   exact this _ hm _ (by simp) rfl
  refine ⟨h.name, h.dep, h.seq, h.tag, ?_, putB_rises h.ri hx, fun y hy => ?_, h.rt.sublist hsub, fun x hx => h.ht x (hsub.mem hx), ?_⟩
  ·show (((putB q.items q.held[K].itm).length + (q.held.eraseIdx K).length : Nat) : Int) ≤ q.depth
   have := (putB_perm q.items q.held[K].itm).length_eq
   simp at this
   omega
  ·rcases putB_mem.1 hy with rfl | hy
   ·exact itmB_again (hldB_itm (h.ht _ hmem))
   ·exact h.it y hy
  ·show ((putB q.items q.held[K].itm).map (·.seq) ++ (q.held.eraseIdx K).map (·.itm.seq)).Nodup
   refine (List.Perm.nodup_iff ?_).2 hnd
   exact ((putB_seqs _ _).trans (List.perm_append_singleton _ _).symm).append_right _
end Go.Proofs.YtnpikgakpmkipabGreatDoor
