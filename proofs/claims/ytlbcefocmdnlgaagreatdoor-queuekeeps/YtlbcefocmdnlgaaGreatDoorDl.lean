/- What slices.Delete leaves of a row of the call's own. Conditions: those that each row states. -/
import Derived.Test.YtlbcefocmdnlgaaGreatDoorGi
import Derived.Deep.RegionLaw
namespace Go.Proofs.YtlbcefocmdnlgaaGreatDoor
open Go.RowKit Go.Lib
set_option maxRecDepth 100000

theorem step_app_row {ops : Array Oper} {o : Oper} {a : Act} {w : World} {K : Act → World → Prop} {Q : Exit → Act → World → Prop} {E : Prop}
    (hg : o.guard = none) (s x : Operand) (t : TypeId) (hop : o.op = Op.call { callee := Callee.builtin Builtin.append, args := #[s, x], argTypes := #[t, t] })
    (e : TypeId) (i : TypeInfo) (size : Nat) (h1 : Tryz.prog.underlying t = some (.slice e)) (h2 : Tryz.prog.info? e = some i) (h4 : i.size = size)
    (g n cap : Nat) (cur : Array Value) (hb : Blk w g cur e) (hs : a.eval s = .slice (some ⟨g, 0, none⟩) n cap)
    (ad : Addr) (m c : Nat) (news : List Value) (hx : a.eval x = .slice (some ad) m c) (hn : news.length = m * size) (hc : ∀ j u, news[j]? = some u → w.cell? (ad.add j) = some u) (h1c : ∀ u ∈ news, u.oneCell' = true)
    (hroom : n + m ≤ cap) (hfit : n * size + news.length ≤ cur.size)
    (hK : K (a.put o.dst (.slice (some ⟨g, 0, none⟩) (n + m) cap)) (w.setRow g (cur.toList.take (n * size) ++ news ++ cur.toList.drop (n * size + news.length)).toArray)) :
    if Region.wanted o (yielded ops a.tmps) = true then Oper.wp Tryz.prog o a w K Q else E := by
  have hw : Region.wanted o (yielded ops a.tmps) = true := by simp [Region.wanted, hg]
  rw [if_pos hw]
  subst h4
  have hrun := run_append_room (P := Tryz.prog) w t o.type e i h1 h2 g n cap cur hb.h ad m c news hn hc h1c hroom hfit
  unfold Oper.wp execOp
  simp only [hop, resolve, invoke, builtin, Sem.run_bind, Sem.run_pure, Result.andThen_ok, List.map_toArray, List.map_cons, List.map_nil, hs, hx, hrun]
  exact hK

theorem zero43 (w : World) : (zeroValue 43).run Tryz.prog w = .ok (.agg #[.int .i64 0, .bool false, .string ⟨#[]⟩, .string ⟨#[]⟩, .slice none 0 0, .bool false, .int .i64 0]) w := by kernel_rfl
theorem ownI_some {w : World} {B : Nat} {v : Value} {zs : Zs Itm} {R : List Value → Itm → Prop} (h : OwnZ 43 7 R w B v zs) (h0 : 0 < zs.length) :
    ∃ g cap cur, v = .slice (some ⟨g, 0, none⟩) zs.length cap ∧ B ≤ g ∧ Blk w g cur 43 ∧ zs.length ≤ cap ∧ cap ≤ maxLen ∧ cur.size = cap * 7 ∧ cur.toList.take (zs.length * 7) = cellsZ zs := by
  obtain ⟨_, h1 | ⟨g, cap, cur, hv, hb, hg, hc, hm, hs, ht⟩⟩ := h.1
  · omega
  · exact ⟨g, cap, cur, hv, hb, ⟨hg⟩, hc, hm, hs, ht⟩
set_option maxHeartbeats 2000000 in
/-- slices.Delete of one of items, in a row of the call's own. -/
theorem deleteI_any (w : World) (B : Nat) (v : Value) (zs : Zs Itm) (R : List Value → Itm → Prop) (h : OwnZ 43 7 R w B v zs) (i j : Nat) (hij : j = i + 1) (hi : i < zs.length) (hn : zs.length ≤ 1000000) :
    Calls Tryz.prog 50 #[v, .int .i64 i, .int .i64 (j : Nat)] w fun e w' => ∃ v', e = .returned v' ∧ OwnZ 43 7 R w' B v' (zs.take i ++ zs.drop j) ∧ w.grownBy w' v.ownBlock ∧ v'.ownBlock = v.ownBlock := by
  obtain ⟨g, cap, cur, rfl, hBg, kg, hc, hm, hs, ht⟩ := ownI_some h (by omega)
  obtain ⟨i0, hi0, hz0, hz1, hz2⟩ := info_parts info43
  have hk : ∀ z ∈ zs, z.1.length = 7 := fun z hz => (h.2 z hz).1.1
  have hcl := cellsZ_len hk
  have hkd : ∀ z ∈ zs.drop j, z.1.length = 7 := fun z hz => hk z (List.mem_of_mem_drop hz)
  have hnl : (cellsZ (zs.drop j)).length = (zs.length - j) * 7 := by rw [cellsZ_len hkd, List.length_drop]
  have hcell : ∀ t u, (cellsZ (zs.drop j))[t]? = some u → w.drew.cell? ⟨g, j * 7 + t, none⟩ = some u := fun t u hu => by
    show w.cell? _ = _
    rw [kg.cell, ← hu, ← cellsZ_drop hk, List.getElem?_drop, ← ht]
    have ht2 : j * 7 + t < zs.length * 7 := by
      have := (List.getElem?_eq_some_iff.1 hu).1
      rw [hnl] at this
      omega
    rw [List.getElem?_take_of_lt ht2]
    simp
  have hone : ∀ u ∈ cellsZ (zs.drop j), u.oneCell' = true := fun u hu => by
    obtain ⟨z, hz, hu⟩ := List.mem_flatMap.1 hu
    exact (h.2 z (List.mem_of_mem_drop hz)).1.2 u hu
  obtain ⟨A, hA, hsrc⟩ : ∃ A : Addr, (if cap = j then some (⟨g, 0, none⟩ : Addr) else some ⟨g, j * 7, none⟩) = some A ∧ Hid (∀ t u, (cellsZ (zs.drop j))[t]? = some u → w.drew.cell? (A.add t) = some u) := by
    by_cases e : cap = j
    · refine ⟨⟨g, 0, none⟩, by simp [e], fun t u hu => ?_⟩
      have h0 : zs.drop j = [] := List.drop_eq_nil_of_le (by omega)
      rw [h0] at hu
      simp [cellsZ] at hu
    · refine ⟨⟨g, j * 7, none⟩, by simp [e], fun t u hu => ?_⟩
      rw [Addr.add_lit]
      exact hcell t u hu
  have HN : Hid ((cellsZ (zs.drop j)).length = (zs.length - j) * 7) := hnl
  have HO : Hid (∀ u ∈ cellsZ (zs.drop j), u.oneCell' = true) := hone
  have HZ : Hid (∀ z ∈ zs, (z.1.length = 7 ∧ ∀ u ∈ z.1, u.oneCell' = true) ∧ R z.1 z.2) := h.2
  have HT : Hid (cur.toList.take (zs.length * 7) = cellsZ zs) := ht
  have HK : Hid (∀ z ∈ zs, z.1.length = 7) := hk
  have HS : Hid (cur.size = cap * 7) := hs
  obtain ⟨news, hnews⟩ : ∃ news, cellsZ (zs.drop j) = news := ⟨_, rfl⟩
  rw [hnews] at hsrc HN HO
  have HW : Hid (cellsZ (zs.drop j) = news) := hnews
  have kd : Blk w.drew g cur 43 := ⟨kg.h⟩
  have k1 := kd.row (cur.toList.take (i * 7) ++ news ++ cur.toList.drop (i * 7 + news.length)).toArray
  obtain ⟨W1, hW1⟩ : ∃ W1, w.drew.setRow g (cur.toList.take (i * 7) ++ news ++ cur.toList.drop (i * 7 + news.length)).toArray = W1 := ⟨_, rfl⟩
  rw [hW1] at k1
  have g1 : w.grownBy W1 (some g) := by
    rw [← hW1]
    exact ⟨rfl, rfl, rfl, (grown_setRow w.drew g _).size, fun k hk hne => (grown_setRow w.drew g _).block k hk hne⟩
  have HW1 : Hid (w.drew.setRow g (cur.toList.take (i * 7) ++ news ++ cur.toList.drop (i * 7 + news.length)).toArray = W1) := hW1
  have hsz : (cur.toList.take (i * 7) ++ news ++ cur.toList.drop (i * 7 + news.length)).toArray.size = cap * 7 := by
    have := HN.out
    have : i * 7 + (zs.length - j) * 7 ≤ cap * 7 := by omega
    simp
    omega
  obtain ⟨zz, hzz, hclr⟩ := run_clear_row (P := Tryz.prog) W1 22 43 0 (.agg #[.int .i64 0, .bool false, .string ⟨#[]⟩, .string ⟨#[]⟩, .slice none 0 0, .bool false, .int .i64 0]) Tryz.underlying22 zero43 (by simp [Value.cells, Value.oneCell']) g ((zs.length - 1) * 7) 1 (cap - (zs.length - 1)) (by omega) _ k1.h (by rw [hsz]; simp [Value.cells]; omega)
  have k2 := k1.row (((cur.toList.take (i * 7) ++ news ++ cur.toList.drop (i * 7 + news.length)).toArray.toList.take ((zs.length - 1) * 7) ++ zz ++ (cur.toList.take (i * 7) ++ news ++ cur.toList.drop (i * 7 + news.length)).toArray.toList.drop ((zs.length - 1) * 7 + zz.length)).toArray)
  obtain ⟨W2, hW2⟩ : ∃ W2, W1.setRow g (((cur.toList.take (i * 7) ++ news ++ cur.toList.drop (i * 7 + news.length)).toArray.toList.take ((zs.length - 1) * 7) ++ zz ++ (cur.toList.take (i * 7) ++ news ++ cur.toList.drop (i * 7 + news.length)).toArray.toList.drop ((zs.length - 1) * 7 + zz.length)).toArray) = W2 := ⟨_, rfl⟩
  rw [hW2] at k2 hclr
  have g2 : W1.grownBy W2 (some g) := by rw [← hW2]; exact grown_setRow W1 g _
  have hfin : OwnZ 43 7 R W2 B (.slice (some ⟨g, 0, none⟩) (zs.length - 1) cap) (zs.take i ++ zs.drop j) := by
    have hlen : (zs.take i ++ zs.drop j).length = zs.length - 1 := by simp; omega
    have hks : ∀ z ∈ zs.take i ++ zs.drop j, z ∈ zs := fun z hz => by
      rcases List.mem_append.1 hz with hz | hz
      · exact List.mem_of_mem_take hz
      · exact List.mem_of_mem_drop hz
    refine ⟨⟨by rw [cellsZ_len (fun z hz => HK.out z (hks z hz)), hlen], .inr ⟨g, cap, _, by rw [hlen], hBg, k2.h, by omega, hm, ?_, ?_⟩⟩, fun z hz => HZ.out z (hks z hz)⟩
    · simp only [List.size_toArray, List.length_append, List.length_take, List.length_drop, Array.length_toList] at hsz ⊢
      have e7 : (Value.agg #[.int .i64 0, .bool false, .string ⟨#[]⟩, .string ⟨#[]⟩, .slice none 0 0, .bool false, .int .i64 0]).cells.size = 7 := rfl
      rw [e7] at hzz
      simp only [hsz]
      omega
    · rw [hlen]
      have h1 := HN.out
      have hci : (cur.toList.take (i * 7)).length = i * 7 := by rw [List.length_take, Array.length_toList, HS.out]; omega
      have hl2 : (zs.length - 1) * 7 = (cur.toList.take (i * 7) ++ news).length := by rw [List.length_append, hci, h1]; omega
      rw [List.toList_toArray, List.append_assoc, List.take_append_of_le_length (by rw [List.length_take, List.toList_toArray, List.length_append]; omega), List.take_take, Nat.min_self, List.toList_toArray, hl2, List.take_left' rfl, cellsZ_app]
      congr 1
      · rw [← cellsZ_take HK.out, ← HT.out, List.take_take]
        congr 1
        omega
      · exact HW.out.symm
  obtain ⟨n, hnn⟩ : ∃ n, zs.length = n := ⟨_, rfl⟩
  have hgg := gb_trans g1 g2
  have hsp : i * 7 + news.length ≤ cur.size := by rw [HN.out, HS.out]; omega
  rw [hnn] at hi hn hc hclr hfin HN ⊢
  clear hnews hone hnl hcell hk hcl hkd ht hs kg h k1 hW1 hW2 k2 g1 g2 hsz hzz HT HK HS HZ HW hnn
  have e1 : i + (n - j) = n - 1 := by omega
  have hi0' : i < j := by omega
  have hi1 : j ≤ n := by omega
  have hi2 : i ≤ cap := by omega
  have hi3 : j ≤ cap := by omega
  have hne : ¬ ((i : Int) = (j : Int)) := by omega
  have mixed := hmix
  have E1 : Hid (i + (n - j) = n - 1) := e1
  clear hij e1
  go_enter Tryz.func50, Tryz.ntmps50
  go_wp2_with fail
  go_region_law_o (refine step_app_row rfl (.tmp 22) (.tmp 25) 22 rfl 43 i0 7 Tryz.underlying22 hi0 hz1 g i cap cur kd (by simp [Act.eval, Act.put]) A (n - j) (cap - j) news (by simp [Act.eval, Act.put]) HN.out hsrc.out HO.out (by omega) hsp ?_; rw [HW1.out])
  have e1 := E1.out
  simp only [e1]
  have hn1 : n - 1 ≤ n := by omega
  have hn2 : n - (n - 1) = 1 := by omega
  go_wp2
  go_ret
  exact ⟨_, rfl, hfin, hgg, rfl⟩

theorem zero61 (w : World) : (zeroValue 61).run Tryz.prog w = .ok (.agg #[.int .i64 0, .int .i64 0, .int .i64 0, .int .i64 0, .bool false, .string ⟨#[]⟩, .string ⟨#[]⟩, .slice none 0 0, .bool false, .int .i64 0]) w := by kernel_rfl
theorem ownH_some {w : World} {B : Nat} {v : Value} {zs : Zs Hld} {R : List Value → Hld → Prop} (h : OwnZ 61 10 R w B v zs) (h0 : 0 < zs.length) :
    ∃ g cap cur, v = .slice (some ⟨g, 0, none⟩) zs.length cap ∧ B ≤ g ∧ Blk w g cur 61 ∧ zs.length ≤ cap ∧ cap ≤ maxLen ∧ cur.size = cap * 10 ∧ cur.toList.take (zs.length * 10) = cellsZ zs := by
  obtain ⟨_, h1 | ⟨g, cap, cur, hv, hb, hg, hc, hm, hs, ht⟩⟩ := h.1
  · omega
  · exact ⟨g, cap, cur, hv, hb, ⟨hg⟩, hc, hm, hs, ht⟩
set_option maxHeartbeats 2000000 in
/-- slices.Delete of one of what is held, in a row of the call's own. -/
theorem deleteH_any (w : World) (B : Nat) (v : Value) (zs : Zs Hld) (R : List Value → Hld → Prop) (h : OwnZ 61 10 R w B v zs) (i j : Nat) (hij : j = i + 1) (hi : i < zs.length) (hn : zs.length ≤ 1000000) :
    Calls Tryz.prog 53 #[v, .int .i64 i, .int .i64 (j : Nat)] w fun e w' => ∃ v', e = .returned v' ∧ OwnZ 61 10 R w' B v' (zs.take i ++ zs.drop j) ∧ w.grownBy w' v.ownBlock ∧ v'.ownBlock = v.ownBlock := by
  obtain ⟨g, cap, cur, rfl, hBg, kg, hc, hm, hs, ht⟩ := ownH_some h (by omega)
  obtain ⟨i0, hi0, hz0, hz1, hz2⟩ := info_parts info61
  have hk : ∀ z ∈ zs, z.1.length = 10 := fun z hz => (h.2 z hz).1.1
  have hcl := cellsZ_len hk
  have hkd : ∀ z ∈ zs.drop j, z.1.length = 10 := fun z hz => hk z (List.mem_of_mem_drop hz)
  have hnl : (cellsZ (zs.drop j)).length = (zs.length - j) * 10 := by rw [cellsZ_len hkd, List.length_drop]
  have hcell : ∀ t u, (cellsZ (zs.drop j))[t]? = some u → w.drew.cell? ⟨g, j * 10 + t, none⟩ = some u := fun t u hu => by
    show w.cell? _ = _
    rw [kg.cell, ← hu, ← cellsZ_drop hk, List.getElem?_drop, ← ht]
    have ht2 : j * 10 + t < zs.length * 10 := by
      have := (List.getElem?_eq_some_iff.1 hu).1
      rw [hnl] at this
      omega
    rw [List.getElem?_take_of_lt ht2]
    simp
  have hone : ∀ u ∈ cellsZ (zs.drop j), u.oneCell' = true := fun u hu => by
    obtain ⟨z, hz, hu⟩ := List.mem_flatMap.1 hu
    exact (h.2 z (List.mem_of_mem_drop hz)).1.2 u hu
  obtain ⟨A, hA, hsrc⟩ : ∃ A : Addr, (if cap = j then some (⟨g, 0, none⟩ : Addr) else some ⟨g, j * 10, none⟩) = some A ∧ Hid (∀ t u, (cellsZ (zs.drop j))[t]? = some u → w.drew.cell? (A.add t) = some u) := by
    by_cases e : cap = j
    · refine ⟨⟨g, 0, none⟩, by simp [e], fun t u hu => ?_⟩
      have h0 : zs.drop j = [] := List.drop_eq_nil_of_le (by omega)
      rw [h0] at hu
      simp [cellsZ] at hu
    · refine ⟨⟨g, j * 10, none⟩, by simp [e], fun t u hu => ?_⟩
      rw [Addr.add_lit]
      exact hcell t u hu
  have HN : Hid ((cellsZ (zs.drop j)).length = (zs.length - j) * 10) := hnl
  have HO : Hid (∀ u ∈ cellsZ (zs.drop j), u.oneCell' = true) := hone
  have HZ : Hid (∀ z ∈ zs, (z.1.length = 10 ∧ ∀ u ∈ z.1, u.oneCell' = true) ∧ R z.1 z.2) := h.2
  have HT : Hid (cur.toList.take (zs.length * 10) = cellsZ zs) := ht
  have HK : Hid (∀ z ∈ zs, z.1.length = 10) := hk
  have HS : Hid (cur.size = cap * 10) := hs
  obtain ⟨news, hnews⟩ : ∃ news, cellsZ (zs.drop j) = news := ⟨_, rfl⟩
  rw [hnews] at hsrc HN HO
  have HW : Hid (cellsZ (zs.drop j) = news) := hnews
  have kd : Blk w.drew g cur 61 := ⟨kg.h⟩
  have k1 := kd.row (cur.toList.take (i * 10) ++ news ++ cur.toList.drop (i * 10 + news.length)).toArray
  obtain ⟨W1, hW1⟩ : ∃ W1, w.drew.setRow g (cur.toList.take (i * 10) ++ news ++ cur.toList.drop (i * 10 + news.length)).toArray = W1 := ⟨_, rfl⟩
  rw [hW1] at k1
  have g1 : w.grownBy W1 (some g) := by
    rw [← hW1]
    exact ⟨rfl, rfl, rfl, (grown_setRow w.drew g _).size, fun k hk hne => (grown_setRow w.drew g _).block k hk hne⟩
  have HW1 : Hid (w.drew.setRow g (cur.toList.take (i * 10) ++ news ++ cur.toList.drop (i * 10 + news.length)).toArray = W1) := hW1
  have hsz : (cur.toList.take (i * 10) ++ news ++ cur.toList.drop (i * 10 + news.length)).toArray.size = cap * 10 := by
    have := HN.out
    have : i * 10 + (zs.length - j) * 10 ≤ cap * 10 := by omega
    simp
    omega
  obtain ⟨zz, hzz, hclr⟩ := run_clear_row (P := Tryz.prog) W1 23 61 0 (.agg #[.int .i64 0, .int .i64 0, .int .i64 0, .int .i64 0, .bool false, .string ⟨#[]⟩, .string ⟨#[]⟩, .slice none 0 0, .bool false, .int .i64 0]) Tryz.underlying23 zero61 (by simp [Value.cells, Value.oneCell']) g ((zs.length - 1) * 10) 1 (cap - (zs.length - 1)) (by omega) _ k1.h (by rw [hsz]; simp [Value.cells]; omega)
  have k2 := k1.row (((cur.toList.take (i * 10) ++ news ++ cur.toList.drop (i * 10 + news.length)).toArray.toList.take ((zs.length - 1) * 10) ++ zz ++ (cur.toList.take (i * 10) ++ news ++ cur.toList.drop (i * 10 + news.length)).toArray.toList.drop ((zs.length - 1) * 10 + zz.length)).toArray)
  obtain ⟨W2, hW2⟩ : ∃ W2, W1.setRow g (((cur.toList.take (i * 10) ++ news ++ cur.toList.drop (i * 10 + news.length)).toArray.toList.take ((zs.length - 1) * 10) ++ zz ++ (cur.toList.take (i * 10) ++ news ++ cur.toList.drop (i * 10 + news.length)).toArray.toList.drop ((zs.length - 1) * 10 + zz.length)).toArray) = W2 := ⟨_, rfl⟩
  rw [hW2] at k2 hclr
  have g2 : W1.grownBy W2 (some g) := by rw [← hW2]; exact grown_setRow W1 g _
  have hfin : OwnZ 61 10 R W2 B (.slice (some ⟨g, 0, none⟩) (zs.length - 1) cap) (zs.take i ++ zs.drop j) := by
    have hlen : (zs.take i ++ zs.drop j).length = zs.length - 1 := by simp; omega
    have hks : ∀ z ∈ zs.take i ++ zs.drop j, z ∈ zs := fun z hz => by
      rcases List.mem_append.1 hz with hz | hz
      · exact List.mem_of_mem_take hz
      · exact List.mem_of_mem_drop hz
    refine ⟨⟨by rw [cellsZ_len (fun z hz => HK.out z (hks z hz)), hlen], .inr ⟨g, cap, _, by rw [hlen], hBg, k2.h, by omega, hm, ?_, ?_⟩⟩, fun z hz => HZ.out z (hks z hz)⟩
    · simp only [List.size_toArray, List.length_append, List.length_take, List.length_drop, Array.length_toList] at hsz ⊢
      have e7 : (Value.agg #[.int .i64 0, .int .i64 0, .int .i64 0, .int .i64 0, .bool false, .string ⟨#[]⟩, .string ⟨#[]⟩, .slice none 0 0, .bool false, .int .i64 0]).cells.size = 10 := rfl
      rw [e7] at hzz
      simp only [hsz]
      omega
    · rw [hlen]
      have h1 := HN.out
      have hci : (cur.toList.take (i * 10)).length = i * 10 := by rw [List.length_take, Array.length_toList, HS.out]; omega
      have hl2 : (zs.length - 1) * 10 = (cur.toList.take (i * 10) ++ news).length := by rw [List.length_append, hci, h1]; omega
      rw [List.toList_toArray, List.append_assoc, List.take_append_of_le_length (by rw [List.length_take, List.toList_toArray, List.length_append]; omega), List.take_take, Nat.min_self, List.toList_toArray, hl2, List.take_left' rfl, cellsZ_app]
      congr 1
      · rw [← cellsZ_take HK.out, ← HT.out, List.take_take]
        congr 1
        omega
      · exact HW.out.symm
  obtain ⟨n, hnn⟩ : ∃ n, zs.length = n := ⟨_, rfl⟩
  have hgg := gb_trans g1 g2
  have hsp : i * 10 + news.length ≤ cur.size := by rw [HN.out, HS.out]; omega
  rw [hnn] at hi hn hc hclr hfin HN ⊢
  clear hnews hone hnl hcell hk hcl hkd ht hs kg h k1 hW1 hW2 k2 g1 g2 hsz hzz HT HK HS HZ HW hnn
  have e1 : i + (n - j) = n - 1 := by omega
  have hi0' : i < j := by omega
  have hi1 : j ≤ n := by omega
  have hi2 : i ≤ cap := by omega
  have hi3 : j ≤ cap := by omega
  have hne : ¬ ((i : Int) = (j : Int)) := by omega
  have mixed := hmix
  have E1 : Hid (i + (n - j) = n - 1) := e1
  clear hij e1
  go_enter Tryz.func53, Tryz.ntmps53
  go_wp2_with fail
  go_region_law_o (refine step_app_row rfl (.tmp 22) (.tmp 25) 23 rfl 61 i0 10 Tryz.underlying23 hi0 hz1 g i cap cur kd (by simp [Act.eval, Act.put]) A (n - j) (cap - j) news (by simp [Act.eval, Act.put]) HN.out hsrc.out HO.out (by omega) hsp ?_; rw [HW1.out])
  have e1 := E1.out
  simp only [e1]
  have hn1 : n - 1 ≤ n := by omega
  have hn2 : n - (n - 1) = 1 := by omega
  go_wp2
  go_ret
  exact ⟨_, rfl, hfin, hgg, rfl⟩
end Go.Proofs.YtlbcefocmdnlgaaGreatDoor
