
/- What slices.Insert of one item leaves of a row of the call's own. Conditions: those that each row states. -/
import Derived.Test.YtlbcefocmdnlgabDoorDl
import Derived.Test.YtlbcefocmdnlgabDoorAq
import Derived.Test.YtlbcefocmdnlgabDoorEo
import Derived.Lib.AppendZerosOnto
import Derived.Lib.AppendZeros
import Derived.Lib.Overlaps
import Derived.Shelf.Spec.SlicesInsert
namespace Go.Proofs.YtlbcefocmdnlgabDoor
open Go.RowKit Go.Lib
set_option maxRecDepth 100000

/-- copy into a row whose elements have several cells. -/
theorem run_copy_rowk (w : World) (dT sT ty elem : TypeId) (k : Nat) (g o dLen dCap : Nat) (a : Addr) (sLen sCap n : Nat) (cur : Array Value) (t : TypeId) (cs : List Value)
    (hu : Tryd.prog.underlying dT = some (.slice elem)) (hs : (Tryd.prog.info? elem).map (·.size) = some k)
    (hg : Blk w g cur t) (hn : Nat.min sLen dLen = n) (hl : cs.length = n * k)
    (hsrc : ∀ j v, cs[j]? = some v → w.cell? (a.add j) = some v) (hfit : o + cs.length ≤ cur.size) (h1 : ∀ v ∈ cs, v.oneCell' = true) :
    (Builtin.copy_ #[dT, sT] ty #[.slice (some ⟨g, o, none⟩) dLen dCap, .slice (some a) sLen sCap]).run Tryd.prog w =
      .ok (goInt n) (w.setRow g (cur.toList.take o ++ cs ++ cur.toList.drop (o + cs.length)).toArray) := by
  have hst := run_storeCells_at Tryd.prog g o t cs 0 cur w hg.h (by simpa using hfit) h1
  cases hq : Tryd.prog.info? elem with
  | none => simp [hq] at hs
  | some i =>
    have hi : i.size = k := by simpa [hq] using hs
    have hf := run_firstCells_some (P := Tryd.prog) w i.size n a sLen sCap cs (by rw [hi]; exact hl) hsrc
    simp only [Nat.add_zero] at hst
    simp [Builtin.copy_, run_underlying hu, Builtin.lenOf, sizeOf, typeInfo, hq, hn, hf, hst]

theorem Blk.shape {w : World} {g : Nat} {cs : Array Value} {t : TypeId} (h : Blk w g cs t) : w.shape? g = some (t, cs.size) := by
  unfold World.shape?
  rw [h.h]

/-- At the end: an append. -/
theorem insert_end (w : World) (B : Nat) (v : Value) (zs : Zs Itm) (R : List Value → Itm → Prop) (h : OwnZ 36 7 R w B v zs) (hn : zs.length ≤ 1000) (hB : B ≤ w.heap.size) (bv : Nat) (z : List Value × Itm) (hz : (z.1.length = 7 ∧ ∀ u ∈ z.1, u.oneCell' = true) ∧ R z.1 z.2) (kv : Blk w bv z.1.toArray 36) :
    Calls Tryd.prog 46 #[v, .int .i64 zs.length, .slice (some ⟨bv, 0, none⟩) 1 1] w fun e w' => ∃ v', e = .returned v' ∧ OwnZ 36 7 R w' B v' (zs ++ [z]) ∧ w.grownBy w' v.ownBlock := by
  obtain ⟨a, c, hv⟩ := h.rd.len
  have hc : zs.length ≤ c := by
    obtain ⟨_, ⟨e, h0⟩ | ⟨g, cap, cur, e, _, _, h2, _⟩⟩ := h.1
    · omega
    · rw [hv] at e
      injection e with _ _ e3
      omega
  have HR : Hid (OwnZ 36 7 R w B v zs) := h
  have HS : Hid (∀ j u, z.1[j]? = some u → w.cell? ⟨bv, j, none⟩ = some u) := fun j u hu => by rw [kv.cell j]; simpa using hu
  have HV : Hid (v = .slice a zs.length c) := hv
  obtain ⟨n, hnn⟩ : ∃ n, zs.length = n := ⟨_, rfl⟩
  rw [hv]
  rw [hnn] at hn hc ⊢
  have HN : Hid (zs.length = n) := hnn
  clear h hv hnn kv
  go_enter Tryd.func46, Tryd.ntmps46
  go_wp2_with (at_builtin; refine wpl_appI rfl (.tmp 23) (.tmp 24) rfl B (.slice a n c) zs R w rfl (by have := HR.out; rw [HV.out, HN.out] at this; exact this) bv 1 z rfl hz HS.out (by rw [HN.out]; omega) hB ?_)
  all_goals
    intro v' w' h1 h2
    go_wp2_with fail
    go_ret
    refine ⟨_, rfl, h1, ?_⟩
    cases a <;> exact h2

set_option maxHeartbeats 4000000 in
/-- There is room: in place. -/
theorem insert_room (w : World) (B : Nat) (zs : Zs Itm) (R : List Value → Itm → Prop) (g cap n i j : Nat) (cur : Array Value) (hBg : B ≤ g) (kg : Blk w g cur 36) (hm : cap ≤ maxLen) (hs : cur.size = cap * 7) (ht : cur.toList.take (zs.length * 7) = cellsZ zs) (hR : ∀ z ∈ zs, (z.1.length = 7 ∧ ∀ u ∈ z.1, u.oneCell' = true) ∧ R z.1 z.2)
    (hnn : zs.length = n) (hi : i < n) (hj : j = n + 1) (hroom : j ≤ cap) (hn : n ≤ 1000) (bv : Nat) (z : List Value × Itm) (hz : (z.1.length = 7 ∧ ∀ u ∈ z.1, u.oneCell' = true) ∧ R z.1 z.2) (kv : Blk w bv z.1.toArray 36) (hne : bv ≠ g) :
    Calls Tryd.prog 46 #[.slice (some ⟨g, 0, none⟩) n cap, .int .i64 i, .slice (some ⟨bv, 0, none⟩) 1 1] w fun e w' => ∃ v', e = .returned v' ∧ OwnZ 36 7 R w' B v' (zs.take i ++ z :: zs.drop i) ∧ w.grownBy w' (some g) := by
  have hk : ∀ y ∈ zs, y.1.length = 7 := fun y hy => (hR y hy).1.1
  have hkd : ∀ y ∈ zs.drop i, y.1.length = 7 := fun y hy => hk y (List.mem_of_mem_drop hy)
  have hdl : (cellsZ (zs.drop i)).length = (n - i) * 7 := by rw [cellsZ_len hkd, List.length_drop, hnn]
  have h1d : ∀ u ∈ cellsZ (zs.drop i), u.oneCell' = true := fun u hu => by
    obtain ⟨y, hy, hu⟩ := List.mem_flatMap.1 hu
    exact (hR y (List.mem_of_mem_drop hy)).1.2 u hu
  have hsd : ∀ t u, (cellsZ (zs.drop i))[t]? = some u → w.cell? ⟨g, i * 7 + t, none⟩ = some u := fun t u hu => by
    rw [kg.cell, ← hu, ← cellsZ_drop hk, List.getElem?_drop, ← ht]
    have ht2 : i * 7 + t < zs.length * 7 := by
      have := (List.getElem?_eq_some_iff.1 hu).1
      rw [hdl] at this
      omega
    rw [List.getElem?_take_of_lt ht2]
    simp
  have kd : Blk w.drew g cur 36 := ⟨kg.h⟩
  have kvd : Blk w.drew bv z.1.toArray 36 := ⟨kv.h⟩
  have hsz7 : (Tryd.prog.info? 36).map (·.size) = some 7 := by kernel_rfl
  have hcp1 := run_copy_rowk w.drew 22 22 3 36 7 g ((i + 1) * 7) (j - (i + 1)) (cap - (i + 1)) ⟨g, i * 7, none⟩ (j - i) (cap - i) (n - i) cur 36 (cellsZ (zs.drop i)) Tryd.underlying22 hsz7 kd (by simp only [Nat.min_def]; split <;> omega) hdl (fun t u hu => by rw [Addr.add_lit]; exact hsd t u hu) (by rw [hdl, hs]; omega) h1d
  have k1 := kd.row (cur.toList.take ((i + 1) * 7) ++ cellsZ (zs.drop i) ++ cur.toList.drop ((i + 1) * 7 + (cellsZ (zs.drop i)).length)).toArray
  have kv1 := kvd.rowO (g' := g) hne (cur.toList.take ((i + 1) * 7) ++ cellsZ (zs.drop i) ++ cur.toList.drop ((i + 1) * 7 + (cellsZ (zs.drop i)).length)).toArray
  have hsz1 : (cur.toList.take ((i + 1) * 7) ++ cellsZ (zs.drop i) ++ cur.toList.drop ((i + 1) * 7 + (cellsZ (zs.drop i)).length)).toArray.size = cap * 7 := by
    simp
    omega
  obtain ⟨W1, hW1⟩ : ∃ W1, w.drew.setRow g (cur.toList.take ((i + 1) * 7) ++ cellsZ (zs.drop i) ++ cur.toList.drop ((i + 1) * 7 + (cellsZ (zs.drop i)).length)).toArray = W1 := ⟨_, rfl⟩
  have g1 : w.grownBy W1 (some g) := by
    rw [← hW1]
    exact ⟨rfl, rfl, rfl, (grown_setRow w.drew g _).size, fun k hk hne => (grown_setRow w.drew g _).block k hk hne⟩
  rw [hW1] at k1 kv1 hcp1
  obtain ⟨C1, hC1⟩ : ∃ C1, (cur.toList.take ((i + 1) * 7) ++ cellsZ (zs.drop i) ++ cur.toList.drop ((i + 1) * 7 + (cellsZ (zs.drop i)).length)).toArray = C1 := ⟨_, rfl⟩
  rw [hC1] at k1 hsz1
  have hcp2 := run_copy_rowk W1 22 22 3 36 7 g (i * 7) (j - i) (cap - i) ⟨bv, 0, none⟩ 1 1 1 C1 36 z.1 Tryd.underlying22 hsz7 k1 (by simp only [Nat.min_def]; split <;> omega) (by rw [hz.1.1]) (fun t u hu => by rw [Addr.add_lit, Nat.zero_add, kv1.cell]; simpa using hu) (by rw [hz.1.1, hsz1]; omega) hz.1.2
  have k2 := k1.row (C1.toList.take (i * 7) ++ z.1 ++ C1.toList.drop (i * 7 + z.1.length)).toArray
  obtain ⟨W2, hW2⟩ : ∃ W2, W1.setRow g (C1.toList.take (i * 7) ++ z.1 ++ C1.toList.drop (i * 7 + z.1.length)).toArray = W2 := ⟨_, rfl⟩
  have g2 : W1.grownBy W2 (some g) := by rw [← hW2]; exact grown_setRow W1 g _
  rw [hW2] at k2 hcp2
  have hfin : OwnZ 36 7 R W2 B (.slice (some ⟨g, 0, none⟩) j cap) (zs.take i ++ z :: zs.drop i) := by
    have hlen : (zs.take i ++ z :: zs.drop i).length = j := by simp; omega
    have hks : ∀ y ∈ zs.take i ++ z :: zs.drop i, (y.1.length = 7 ∧ ∀ u ∈ y.1, u.oneCell' = true) ∧ R y.1 y.2 := fun y hy => by
      rcases List.mem_append.1 hy with hy | hy
      · exact hR y (List.mem_of_mem_take hy)
      · rcases List.mem_cons.1 hy with rfl | hy
        · exact hz
        · exact hR y (List.mem_of_mem_drop hy)
    refine ⟨⟨by rw [cellsZ_len (fun y hy => (hks y hy).1.1), hlen], .inr ⟨g, cap, _, by rw [hlen], hBg, k2.h, by omega, hm, ?_, ?_⟩⟩, hks⟩
    · have := hz.1.1
      simp
      omega
    · rw [hlen]
      have hz7 := hz.1.1
      have hci : (cur.toList.take (i * 7)).length = i * 7 := by rw [List.length_take, Array.length_toList, hs]; omega
      have e1 : C1.toList.take (i * 7) = cur.toList.take (i * 7) := by
        rw [← hC1, List.toList_toArray, List.append_assoc, List.take_append_of_le_length (by rw [List.length_take, Array.length_toList, hs]; omega), List.take_take]
        congr 1
        omega
      have e2 : (C1.toList.drop (i * 7 + z.1.length)).take ((n - i) * 7) = cellsZ (zs.drop i) := by
        have hl1 : (cur.toList.take ((i + 1) * 7)).length = i * 7 + z.1.length := by rw [List.length_take, Array.length_toList, hs, hz7]; omega
        rw [← hC1, List.toList_toArray, List.append_assoc, ← hl1, List.drop_left' rfl, ← hdl, List.take_left' rfl]
      have hl3 : j * 7 = (C1.toList.take (i * 7) ++ z.1).length + (n - i) * 7 := by rw [List.length_append, e1, hci, hz7]; omega
      rw [List.toList_toArray, hl3, List.take_append, List.take_of_length_le (by omega), show (C1.toList.take (i * 7) ++ z.1).length + (n - i) * 7 - (C1.toList.take (i * 7) ++ z.1).length = (n - i) * 7 by omega, e2, e1, cellsZ_app]
      have e3 : cur.toList.take (i * 7) = cellsZ (zs.take i) := by
        rw [← cellsZ_take hk, ← ht, List.take_take]
        congr 1
        omega
      rw [e3, List.append_assoc]
      rfl
  have hgg := gb_trans g1 g2
  have hov : ∀ lb cb, (callFunc 52 #[.slice (some ⟨bv, 0, none⟩) 1 1, .slice (some ⟨g, (i + 1) * 7, none⟩) lb cb]).run Tryd.prog w = .ok (.value (.bool false)) w := fun lb cb => by
    rw [run_callFunc_extern Tryd.func52 (by kernel_rfl) (by kernel_rfl) (by kernel_rfl) (e := Extern.SlicesOverlaps.overlaps #[22, 22] #[4]) (by kernel_rfl),
      Lib.run_overlaps_apart w 22 4 36 Tryd.underlying22 7 (fun w => by kernel_rfl) ⟨bv, 0, none⟩ ⟨g, (i + 1) * 7, none⟩ 1 1 lb cb hne 36 36 _ _ kv.shape kg.shape (by omega) (kv.frozen 0) (kv.frozen _)]
    rfl
  have HJ : Hid (j = n + 1) := hj
  have e1 : ((n : Int) + 1) = (j : Int) := by omega
  have e2 : (n : Nat) + 1 = j := hj.symm
  have hz2 : ¬ ((i : Int) = (n : Int)) := by omega
  have hz3 : ¬ ((cap : Int) < (j : Int)) := by omega
  have hi1 : i ≤ n := by omega
  have hi2 : i + 1 ≤ j := by omega
  have hi3 : ¬ (cap = i + 1) := by omega
  have hi4 : ¬ (cap = i) := by omega
  have hi5 : i ≤ j := by omega
  have hw1 : IntKind.i64.wrap ((i : Int) + 1) = (i : Int) + 1 := by rw [IntKind.wrap_i64]; omega
  have htn : ((i : Int) + 1).toNat = i + 1 := by omega
  have hb1 : (0 : Int) ≤ (i : Int) + 1 := by omega
  have hb5 : (i : Int) + 1 ≤ (j : Int) := by omega
  have hb6 : (i : Int) ≤ (j : Int) := by omega
  have HC1 : Hid ((Builtin.copy_ #[22, 22] 3 #[.slice (some ⟨g, (i + 1) * 7, none⟩) (j - (i + 1)) (cap - (i + 1)), .slice (some ⟨g, i * 7, none⟩) (j - i) (cap - i)]).run Tryd.prog w.drew = .ok (goInt ((n - i : Nat) : Int)) W1) := hcp1
  have HC2 : Hid ((Builtin.copy_ #[22, 22] 3 #[.slice (some ⟨g, i * 7, none⟩) (j - i) (cap - i), .slice (some ⟨bv, 0, none⟩) 1 1]).run Tryd.prog W1 = .ok (goInt 1) W2) := hcp2
  have mixed := hmix
  clear hcp1 hcp2 hk hkd hdl h1d hsd kd kvd k1 kv1 hsz1 hW1 hW2 hC1 k2 g1 g2 hsz7 hR ht kg kv hz hj
  go_enter Tryd.func46, Tryd.ntmps46
  go_wp2_with (simp only [hov])
  go_region_law_o (refine step_copy_runI rfl (.tmp 73) (.tmp 76) 22 22 rfl _ _ (by simp [Act.eval, Act.put]) (by simp [Act.eval, Act.put]) HC1.out ?_)
  go_wp2_with (refine wpList_copy_runI _ rfl (.tmp 80) (.tmp 81) 22 22 rfl _ _ rfl rfl HC2.out ?_)
  go_ret
  exact ⟨_, rfl, hfin, hgg⟩

set_option maxHeartbeats 4000000 in
/-- There is no room: a new row. -/
theorem insert_grow (w : World) (B : Nat) (hB : B ≤ w.heap.size) (zs : Zs Itm) (R : List Value → Itm → Prop) (g cap n i j : Nat) (cur : Array Value) (kg : Blk w g cur 36) (ht : cur.toList.take (zs.length * 7) = cellsZ zs) (hR : ∀ z ∈ zs, (z.1.length = 7 ∧ ∀ u ∈ z.1, u.oneCell' = true) ∧ R z.1 z.2)
    (hnn : zs.length = n) (hi : i < n) (hj : j = n + 1) (hroom : cap < j) (hcap : n ≤ cap) (hn : n ≤ 1000) (bv : Nat) (z : List Value × Itm) (hz : (z.1.length = 7 ∧ ∀ u ∈ z.1, u.oneCell' = true) ∧ R z.1 z.2) (kv : Blk w bv z.1.toArray 36) (row : Option Nat) :
    Calls Tryd.prog 46 #[.slice (some ⟨g, 0, none⟩) n cap, .int .i64 i, .slice (some ⟨bv, 0, none⟩) 1 1] w fun e w' => ∃ v', e = .returned v' ∧ OwnZ 36 7 R w' B v' (zs.take i ++ z :: zs.drop i) ∧ w.grownBy w' row := by
  have hk : ∀ y ∈ zs, y.1.length = 7 := fun y hy => (hR y hy).1.1
  have hkd : ∀ y ∈ zs.drop i, y.1.length = 7 := fun y hy => hk y (List.mem_of_mem_drop hy)
  have hkt : ∀ y ∈ zs.take i, y.1.length = 7 := fun y hy => hk y (List.mem_of_mem_take hy)
  have hdl : (cellsZ (zs.drop i)).length = (n - i) * 7 := by rw [cellsZ_len hkd, List.length_drop, hnn]
  have htl : (cellsZ (zs.take i)).length = i * 7 := by rw [cellsZ_len hkt, List.length_take, hnn, Nat.min_eq_left (by omega)]
  have h1d : ∀ u ∈ cellsZ (zs.drop i), u.oneCell' = true := fun u hu => by
    obtain ⟨y, hy, hu⟩ := List.mem_flatMap.1 hu
    exact (hR y (List.mem_of_mem_drop hy)).1.2 u hu
  have hsd : ∀ t u, (cellsZ (zs.drop i))[t]? = some u → w.cell? ⟨g, i * 7 + t, none⟩ = some u := fun t u hu => by
    rw [kg.cell, ← hu, ← cellsZ_drop hk, List.getElem?_drop, ← ht]
    have ht2 : i * 7 + t < zs.length * 7 := by
      have := (List.getElem?_eq_some_iff.1 hu).1
      rw [hdl] at this
      omega
    rw [List.getElem?_take_of_lt ht2]
    simp
  have hst : ∀ t u, (cellsZ (zs.take i))[t]? = some u → w.cell? ⟨g, t, none⟩ = some u := fun t u hu => by
    have ht1 : t < i * 7 := by
      have := (List.getElem?_eq_some_iff.1 hu).1
      rwa [htl] at this
    rw [kg.cell, ← hu, ← cellsZ_take hk, List.getElem?_take_of_lt ht1, ← ht, List.getElem?_take_of_lt (by omega)]
    simp
  obtain ⟨i0, hi0, hz0, hz1, hz2⟩ := info_parts info43
  have hsz7 : (Tryd.prog.info? 36).map (·.size) = some 7 := by kernel_rfl
  have hold : (Builtin.firstCells i0.size i (.slice (some ⟨g, 0, none⟩) i cap)).run Tryd.prog w.drew = .ok (cellsZ (zs.take i)).toArray w.drew := by
    rw [hz1]
    exact run_firstCells_some w.drew 7 i ⟨g, 0, none⟩ i cap (cellsZ (zs.take i)) htl (fun t u hu => by
      rw [Addr.add_lit, Nat.zero_add]
      exact hst t u hu)
  have hkk : i + (j - i) = j := by omega
  have hrz := Lib.run_append_grow_zeros (P := Tryd.prog) w 22 3 22 36 i0 _ .i64 .i64 Tryd.underlying22 under3 hi0 hz0 (some ⟨g, 0, none⟩) i cap (cellsZ (zs.take i)) hold (j - i) (by omega) (by rw [hz1]; omega) (by omega) (by omega) (by rw [hz2]; omega) (by rw [hz2, hkk]; exact growslice_fits hroom (by omega))
  rw [hkk] at hrz
  obtain ⟨G, hG⟩ : ∃ G, grownCap w j cap 36 = G := ⟨_, rfl⟩
  have hGn : j ≤ G := by rw [← hG]; exact grownCap_ge w _ _ _
  have hGm : G ≤ maxLen := by rw [← hG]; exact grownCap_le_maxLen w j cap 36 (by unfold maxLen; omega)
  rw [hG] at hrz
  have hzc : (Value.agg #[.int .i64 0, .bool false, .string ⟨#[]⟩, .string ⟨#[]⟩, .slice none 0 0, .bool false, .int .i64 0]).cells.size = 7 := rfl
  obtain ⟨ROW, hROW⟩ : ∃ ROW : Array Value, (cellsZ (zs.take i)).toArray ++ Builtin.zeroCells (Value.agg #[.int .i64 0, .bool false, .string ⟨#[]⟩, .string ⟨#[]⟩, .slice none 0 0, .bool false, .int .i64 0]).cells (j - i) ++ Builtin.zeroCells (Value.agg #[.int .i64 0, .bool false, .string ⟨#[]⟩, .string ⟨#[]⟩, .slice none 0 0, .bool false, .int .i64 0]).cells (G - j) = ROW := ⟨_, rfl⟩
  rw [hROW] at hrz
  have hRs : ROW.size = G * 7 := by
    rw [← hROW]
    simp only [Array.size_append, Builtin.zeroCells, Array.size_map, Array.size_range, hzc, List.size_toArray, htl]
    omega
  have hRt : ROW.toList.take (i * 7) = cellsZ (zs.take i) := by
    rw [← hROW, Array.toList_append, Array.toList_append, List.toList_toArray, List.append_assoc, ← htl, List.take_left' rfl]
  have kN : Blk (w.drew.alloc (.cells ROW 36)) w.heap.size ROW 36 := Blk.new w.drew ROW 36
  have bN : Below w.heap.size w (w.drew.alloc (.cells ROW 36)) := (Below.refl w.heap.size w).drew.alloc (Nat.le_refl _) _
  have hvlt := kv.lt
  have hglt := kg.lt
  have kvN := kv.on bN
  have kgN := kg.on bN
  have hsd2 : ∀ t u, (cellsZ (zs.drop i))[t]? = some u → (w.drew.alloc (.cells ROW 36)).cell? ⟨g, i * 7 + t, none⟩ = some u := fun t u hu => by rw [kgN.cell, ← kg.cell]; exact hsd t u hu
  obtain ⟨W1, hW1⟩ : ∃ W1, w.drew.alloc (.cells ROW 36) = W1 := ⟨_, rfl⟩
  rw [hW1] at hrz kN bN kvN kgN hsd2
  have hcpA := run_copy_rowk W1 22 22 3 36 7 w.heap.size (i * 7) (j - i) (G - i) ⟨bv, 0, none⟩ 1 1 1 ROW 36 z.1 Tryd.underlying22 hsz7 kN (by simp only [Nat.min_def]; split <;> omega) (by rw [hz.1.1]) (fun t u hu => by rw [Addr.add_lit, Nat.zero_add, kvN.cell]; simpa using hu) (by rw [hz.1.1, hRs]; omega) hz.1.2
  have kA := kN.row (ROW.toList.take (i * 7) ++ z.1 ++ ROW.toList.drop (i * 7 + z.1.length)).toArray
  have kgA := kgN.rowO (g' := w.heap.size) (by omega) (ROW.toList.take (i * 7) ++ z.1 ++ ROW.toList.drop (i * 7 + z.1.length)).toArray
  have bA := below_setRow bN (Nat.le_refl _) (ROW.toList.take (i * 7) ++ z.1 ++ ROW.toList.drop (i * 7 + z.1.length)).toArray
  have hsA : (ROW.toList.take (i * 7) ++ z.1 ++ ROW.toList.drop (i * 7 + z.1.length)).toArray.size = G * 7 := by
    have := hz.1.1
    simp
    omega
  obtain ⟨W2, hW2⟩ : ∃ W2, W1.setRow w.heap.size (ROW.toList.take (i * 7) ++ z.1 ++ ROW.toList.drop (i * 7 + z.1.length)).toArray = W2 := ⟨_, rfl⟩
  rw [hW2] at hcpA kA kgA bA
  obtain ⟨C1, hC1⟩ : ∃ C1, (ROW.toList.take (i * 7) ++ z.1 ++ ROW.toList.drop (i * 7 + z.1.length)).toArray = C1 := ⟨_, rfl⟩
  rw [hC1] at kA hsA
  have kA' : Blk W2.drew w.heap.size C1 36 := ⟨kA.h⟩
  have kgA' : Blk W2.drew g cur 36 := ⟨kgA.h⟩
  have hcpB := run_copy_rowk W2.drew 22 22 3 36 7 w.heap.size ((i + 1) * 7) (j - (i + 1)) (G - (i + 1)) ⟨g, i * 7, none⟩ (n - i) (cap - i) (n - i) C1 36 (cellsZ (zs.drop i)) Tryd.underlying22 hsz7 kA' (by simp only [Nat.min_def]; split <;> omega) hdl (fun t u hu => by rw [Addr.add_lit, kgA'.cell, ← kg.cell]; exact hsd t u hu) (by rw [hdl, hsA]; omega) h1d
  have kB := kA'.row (C1.toList.take ((i + 1) * 7) ++ cellsZ (zs.drop i) ++ C1.toList.drop ((i + 1) * 7 + (cellsZ (zs.drop i)).length)).toArray
  have bB := below_setRow bA.drew (Nat.le_refl _) (C1.toList.take ((i + 1) * 7) ++ cellsZ (zs.drop i) ++ C1.toList.drop ((i + 1) * 7 + (cellsZ (zs.drop i)).length)).toArray
  obtain ⟨W3, hW3⟩ : ∃ W3, W2.drew.setRow w.heap.size (C1.toList.take ((i + 1) * 7) ++ cellsZ (zs.drop i) ++ C1.toList.drop ((i + 1) * 7 + (cellsZ (zs.drop i)).length)).toArray = W3 := ⟨_, rfl⟩
  rw [hW3] at hcpB kB bB
  have hfin : OwnZ 36 7 R W3 B (.slice (some ⟨w.heap.size, 0, none⟩) j G) (zs.take i ++ z :: zs.drop i) := by
    have hlen : (zs.take i ++ z :: zs.drop i).length = j := by simp; omega
    have hks : ∀ y ∈ zs.take i ++ z :: zs.drop i, (y.1.length = 7 ∧ ∀ u ∈ y.1, u.oneCell' = true) ∧ R y.1 y.2 := fun y hy => by
      rcases List.mem_append.1 hy with hy | hy
      · exact hR y (List.mem_of_mem_take hy)
      · rcases List.mem_cons.1 hy with rfl | hy
        · exact hz
        · exact hR y (List.mem_of_mem_drop hy)
    refine ⟨⟨by rw [cellsZ_len (fun y hy => (hks y hy).1.1), hlen], .inr ⟨w.heap.size, G, _, by rw [hlen], hB, kB.h, by rw [hlen]; exact hGn, hGm, ?_, ?_⟩⟩, hks⟩
    · simp
      omega
    · rw [hlen]
      have hz7 := hz.1.1
      have e1 : C1.toList.take ((i + 1) * 7) = cellsZ (zs.take i) ++ z.1 := by
        have hl : (i + 1) * 7 = (cellsZ (zs.take i) ++ z.1).length := by rw [List.length_append, htl, hz7]; omega
        rw [← hC1, List.toList_toArray, hRt, hl, List.take_left' rfl]
      have hl3 : j * 7 = (cellsZ (zs.take i) ++ z.1 ++ cellsZ (zs.drop i)).length := by rw [List.length_append, List.length_append, htl, hz7, hdl]; omega
      rw [List.toList_toArray, e1, hl3, List.take_left' rfl, cellsZ_app, List.append_assoc]
      rfl
  have hgg : w.grownBy W3 row := gb_below bB row
  have e1 : ((n : Int) + 1) = (j : Int) := by omega
  have e3 : ((j : Int) - (i : Int)) = ((j - i : Nat) : Int) := by omega
  have hz2' : ¬ ((i : Int) = (n : Int)) := by omega
  have hz3 : ((cap : Int) < (j : Int)) := by omega
  have hi1 : i ≤ n := by omega
  have hi2 : i + 1 ≤ j := by omega
  have hi3 : ¬ (G = i + 1) := by omega
  have hi4 : ¬ (G = i) := by omega
  have hi5 : i ≤ j := by omega
  have hi6 : ¬ (cap = i) := by omega
  have hi7 : i ≤ cap := by omega
  have hw1 : IntKind.i64.wrap ((i : Int) + 1) = (i : Int) + 1 := by rw [IntKind.wrap_i64]; omega
  have htn : ((i : Int) + 1).toNat = i + 1 := by omega
  have hb1 : (0 : Int) ≤ (i : Int) + 1 := by omega
  have hb5 : (i : Int) + 1 ≤ (j : Int) := by omega
  have hb6 : (i : Int) ≤ (j : Int) := by omega
  have HC1 : Hid ((Builtin.append_ #[22, 3] 22 #[.slice (some ⟨g, 0, none⟩) i cap, .int .i64 ((j - i : Nat) : Int)]).run Tryd.prog w = .ok (.slice (some ⟨w.heap.size, 0, none⟩) j G) W1) := hrz
  have HC2 : Hid ((Builtin.copy_ #[22, 22] 3 #[.slice (some ⟨w.heap.size, i * 7, none⟩) (j - i) (G - i), .slice (some ⟨bv, 0, none⟩) 1 1]).run Tryd.prog W1 = .ok (goInt 1) W2) := hcpA
  have HC3 : Hid ((Builtin.copy_ #[22, 22] 3 #[.slice (some ⟨w.heap.size, (i + 1) * 7, none⟩) (j - (i + 1)) (G - (i + 1)), .slice (some ⟨g, i * 7, none⟩) (n - i) (cap - i)]).run Tryd.prog W2.drew = .ok (goInt ((n - i : Nat) : Int)) W3) := hcpB
  have mixed := hmix
  clear hrz hcpA hcpB hk hkd hkt hdl htl h1d hsd hst hold hkk hROW hRs hRt kN bN kvN kgN hsd2 kA kgA bA hsA hC1 kA' kgA' kB bB hW1 hW2 hW3 hsz7 hR ht kg kv hz hj hG hzc hvlt hglt
  go_enter Tryd.func46, Tryd.ntmps46
  go_wp2_with (first | (refine Lib.wpList_append_run _ rfl (.tmp 34) (.tmp 39) 22 3 rfl _ _ rfl rfl _ _ HC1.out ?_) | (refine wpList_copy_runI _ rfl (.tmp 43) (.tmp 44) 22 22 rfl _ _ rfl rfl HC2.out ?_))
  go_region_law_o (refine step_copy_runI rfl (.tmp 50) (.tmp 53) 22 22 rfl _ _ (by simp [Act.eval, Act.put]) (by simp [Act.eval, Act.put]) HC3.out ?_)
  go_wp2
  go_ret
  exact ⟨_, rfl, hfin, hgg⟩

theorem insert_any (w : World) (B : Nat) (hB : B ≤ w.heap.size) (v : Value) (zs : Zs Itm) (R : List Value → Itm → Prop) (h : OwnZ 36 7 R w B v zs) (i : Nat) (hi : i ≤ zs.length) (hn : zs.length ≤ 1000) (bv : Nat) (z : List Value × Itm) (hz : (z.1.length = 7 ∧ ∀ u ∈ z.1, u.oneCell' = true) ∧ R z.1 z.2) (kv : Blk w bv z.1.toArray 36) (hne : v.ownBlock ≠ some bv) :
    Calls Tryd.prog 46 #[v, .int .i64 i, .slice (some ⟨bv, 0, none⟩) 1 1] w fun e w' => ∃ v', e = .returned v' ∧ OwnZ 36 7 R w' B v' (zs.take i ++ z :: zs.drop i) ∧ w.grownBy w' v.ownBlock := by
  by_cases he : i = zs.length
  · subst he
    refine (insert_end w B v zs R h hn hB bv z hz kv).mono ?_
    rintro e w' ⟨v', rfl, h1, h2⟩
    refine ⟨v', rfl, ?_, h2⟩
    rw [List.take_length, List.drop_length]
    exact h1
  · obtain ⟨g, cap, cur, rfl, hBg, kg, hc, hm, hs, ht⟩ := ownI_some h (by omega)
    have hne' : bv ≠ g := fun e => hne (by rw [e]; rfl)
    by_cases hr : zs.length + 1 ≤ cap
    · exact insert_room w B zs R g cap zs.length i (zs.length + 1) cur hBg kg hm hs ht h.2 rfl (by omega) rfl hr hn bv z hz kv hne'
    · exact insert_grow w B hB zs R g cap zs.length i (zs.length + 1) cur kg ht h.2 rfl (by omega) rfl (by omega) hc hn bv z hz kv (some g)
end Go.Proofs.YtlbcefocmdnlgabDoor
