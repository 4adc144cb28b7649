
/- What the document's Put lays behind bytes of properties that can be a message's. Conditions: those that each row states. -/
import Derived.Test.YtmaaacaifpgpaaaGreatDoorTd
namespace Go.Proofs.YtmaaacaifpgpaaaGreatDoor
open Go.RowKit Go.Lib
set_option maxRecDepth 100000
set_option linter.unusedSimpArgs false

set_option maxHeartbeats 4000000 in
theorem bigN_any (w : World) (B : Nat) (v : Value) (l : List UInt8) (k n : Nat) (hk : k ≤ 8) (ho : Own w B v l) (hB : B ≤ w.heap.size) (hl : l.length + 8 ≤ 140737488355328) :
    Calls Tryz.prog 19 #[v, .int .u64 n, .int .i64 k] w fun e w' => ∃ v', e = .returned v' ∧ Own w' B v' (l ++ beN k n) ∧ Bn B w w' := by
  have ho2 : Own w B v (l ++ (beN k n).take 0) := by simpa using ho
  clear ho
  go_enter Tryz.func19, Tryz.ntmps19
  go_wp2_with fail
  go_loopw [0, 7] (fun u i wr => ∃ j : Nat, j ≤ k ∧ i = .int .i64 j ∧ Own wr B u (l ++ (beN k n).take j) ∧ Bn B w wr) (fun _ i _ => k - (RowKit.intOf i).toNat)
  case atStart => exact ⟨0, by omega, rfl, ho2, Bn.refl _ _⟩
  case round =>
    clear ho2
    obtain ⟨j, hj, rfl, ho, hbr⟩ := hrel
    have hwr : B ≤ wr.heap.size := Nat.le_trans hB hbr.size
    by_cases hlt : j < k
    · have HL : Hid ((l ++ (beN k n).take j).length + 1 ≤ l.length + 8) := by show _ ≤ _; rw [List.length_append, List.length_take, beN_len]; omega
      have HE : Hid (l ++ (beN k n).take (j + 1) = l ++ (beN k n).take j ++ [byteOf k n j]) := by show _ = _; rw [beN_snoc k n j hlt, List.append_assoc]
      generalize l ++ (beN k n).take j = L at *
      have hjz : (j : Int) < (k : Int) := by omega
      have hL := HL.out
      go_wp2_with (at_builtin; refine wpl_app1 rfl (.tmp 13) (.tmp 23) rfl B _ L wr (byteOf k n j) _ (byte_of_z _ _ _) rfl ho rfl (by omega) hwr ?_)
      intro v3 w3 ho3 hb3
      have b3 := hbr.trans hb3
      rw [← HE.out] at ho3
      clear ho hbr hb3 hL HL HE
      go_wp2
      go_roundw
      case rel => exact ⟨j + 1, by omega, by go_num, ho3, b3⟩
      case measure => simp [RowKit.intOf]; omega
    · have hjk : j = k := by omega
      subst hjk
      rw [beN_all] at ho
      go_wp2
      go_ret
      exact ⟨_, rfl, ho, hbr⟩

theorem opw_appS {o : Oper} {a : Act} {K : Act → World → Prop} {Q : Exit → Act → World → Prop} (s x : Operand)
    (ho : o.op = .call { callee := .builtin .append, args := #[s, x], argTypes := #[31, 9] }) (B : Nat) (v : Value) (l : List UInt8) (w : World) (t : ByteArray)
    (hs : a.eval s = v) (hown : Own w B v l) (hx : a.eval x = .string t) (hl : l.length + t.size ≤ 140737488355328) (hB : B ≤ w.heap.size)
    (h : ∀ v' w', Own w' B v' (l ++ t.data.toList) → Bn B w w' → K (a.put o.dst v') w') : o.wp Tryz.prog a w K Q := by
  obtain ⟨i0, hi, hz0, hz1, hz2⟩ := info_parts info5
  obtain ⟨v', w', hr, h1, h2, _⟩ := run_append_own_string (P := Tryz.prog) w B 31 9 o.type 5 i0 Tryz.underlying31 Tryz.underlying9 hi hz0 hz1 hz2 v l.length (byteCells l) hown t (by unfold maxLen; omega) hl hB
  unfold Oper.wp execOp
  simp only [ho, resolve, invoke, builtin, Sem.run_bind, Sem.run_pure, Result.andThen_ok, List.map_toArray, List.map_cons, List.map_nil, hs, hx, hr]
  refine h v' w' ?_ (Bn.grown hown (.refl _ _) h2 hB)
  unfold Own
  rw [List.length_append, byteCells_append, ← strCells_eq]
  exact h1

/-- The four kinds. -/
def Kd4 (p : Pr) : Prop := p.val.kind = 1 ∨ p.val.kind = 2 ∨ p.val.kind = 3 ∨ p.val.kind = 4
theorem kd_of {p : Pr} (h : canB p = true) : Kd4 p := by
  unfold canB at h
  rw [Bool.and_eq_true] at h
  have h2 := h.2
  unfold goodV at h2
  unfold Kd4
  split at h2
  · exact .inl ‹_›
  · split at h2
    · exact .inr (.inl ‹_›)
    · split at h2
      · exact .inr (.inr (.inl ‹_›))
      · split at h2
        · exact .inr (.inr (.inr ‹_›))
        · cases h2
theorem kd_all {ps : List Pr} (h : validL ps = true) : ∀ q ∈ ps, Kd4 q := by
  simp only [validL, Bool.and_eq_true, decide_eq_true_eq, List.all_eq_true] at h
  exact fun q hq => kd_of (h.2.1 q hq)
theorem beN_one (n : Nat) : beN 1 n = [UInt8.ofNat n] := by simp [beN, byteOf, List.range_succ]
theorem u8_wrap (z : Int) : IntKind.u8.wrap z = (((UInt8.ofNat (u64L z)).toNat : Nat) : Int) := by
  rw [IntKind.wrap_u8]
  unfold u64L
  simp only [UInt8.toNat_ofNat']
  omega
/-- Two bytes in a fresh block. -/
theorem rd_two (w : World) (c d : UInt8) (x y : Int) (hx : x = (c.toNat : Int)) (hy : y = (d.toNat : Int)) : RdA (w.alloc (.cells #[.int .u8 x, .int .u8 y] 5)) (.slice (some ⟨w.heap.size, 0, none⟩) 2 2) [c, d] := by
  subst hx hy
  refine .inl (.inr ⟨w.heap.size, 0, 2, rfl, by simp, fun i hi => ?_⟩)
  have : i < 2 := hi
  match i, this with
  | 0, _ => simp [World.cell?_alloc_new]
  | 1, _ => simp [World.cell?_alloc_new]

set_option maxHeartbeats 4000000 in
theorem rput_ok (w : World) (v va : Value) (l : List UInt8) (ps : List Pr) (h : RdA w v l) (hl : l.length ≤ 100000000) (hr : RdP w va ps) (hv : validL ps = true) (hf : ∀ q ∈ ps, Fits q) (h63 : ps.length ≤ 9223372036854775806) :
    Calls Tryz.prog 21 #[v, va] w fun e w' => ∃ v', e = .returned (.tuple #[v', .int .i64 0]) ∧ Own w' w.heap.size v' (l ++ tabL ps) ∧ Below w.heap.size w w' := by
  obtain ⟨h16, hs⟩ := sm_all hv (fun q hq => (hf q hq).2)
  have hkd := kd_all hv
  have V := rvalid7 w va ps hr hf h63
  rw [hv] at V
  clear hf h63
  obtain ⟨n, hnn⟩ : ∃ n, ps.length = n := ⟨_, rfl⟩
  obtain ⟨ad, cap, hva, hcells⟩ : ∃ ad cap, va = .slice ad n cap ∧ (0 < n → ∃ b o, ad = some ⟨b, o, none⟩ ∧ ∀ i (h : i < ps.length), PrAt w b (o + i * 5) ps[i]) := by
    rcases hr with ⟨⟨a, c, rfl⟩, rfl⟩ | ⟨b, o, c, rfl, _, h⟩
    · subst hnn
      exact ⟨a, c, rfl, fun h => absurd h (by simp)⟩
    · exact ⟨some ⟨b, o, none⟩, c, by rw [hnn], fun _ => ⟨b, o, rfl, h⟩⟩
  subst hva
  have HN : Hid (ps.length = n) := hnn
  have HC : Hid (0 < n → ∃ b o, ad = some ⟨b, o, none⟩ ∧ ∀ i (h : i < ps.length), PrAt w b (o + i * 5) ps[i]) := hcells
  have HS : Hid (∀ q ∈ ps, Sm q) := hs
  have HK : Hid (∀ q ∈ ps, Kd4 q) := hkd
  have HO : Hid (RdA w v l) := h
  rw [hnn] at h16
  clear hr hnn hcells hs h hkd
  obtain ⟨W0, hW0⟩ : ∃ W0, w.heap.size = W0 := ⟨_, rfl⟩
  have HW0 : Hid (w.heap.size = W0) := hW0
  have hfin : ∀ w' v', Own w' W0 v' (l ++ tabL ps) → Below W0 w w' → Own w' w.heap.size v' (l ++ tabL ps) ∧ Below w.heap.size w w' := fun w' v' h1 h2 => by rw [hW0]; exact ⟨h1, h2⟩
  clear hW0
  have HT : Hid (tabL ps = beN 4 (flatT ps).length ++ flatT ps) := rfl
  go_enter Tryz.func21, Tryz.ntmps21
  go_wp2_with fail
  refine V.mono ?_
  rintro e w1 ⟨rfl, hb1⟩
  rw [HW0.out] at hb1
  clear V hv
  go_wp2_with fail
  go_loopw [6, 17] (fun u i wr => ∃ k : Nat, k ≤ n ∧ i = .int .i64 k ∧ Own wr W0 u (flatT (ps.take k)) ∧ Below W0 w wr) (fun _ i _ => n - (RowKit.intOf i).toNat)
  case atStart => exact ⟨0, Nat.zero_le _, rfl, Own.nil _ _, hb1⟩
  case round =>
    clear hb1
    obtain ⟨k, hk, rfl, hou, hbr⟩ := hrel
    have hwr : W0 ≤ wr.heap.size := by have := hbr.size; have := HW0.out; omega
    have hfl : (flatT (ps.take k)).length ≤ 16 * 300 := by
      have := flatT_len (ps := ps.take k) (fun q hq => HS.out q (List.mem_of_mem_take hq))
      rw [List.length_take] at this
      have := HN.out
      omega
    by_cases hlt : k < n
    · have hkl : k < ps.length := by have := HN.out; omega
      obtain ⟨b, o, rfl, hps⟩ := HC.out (by omega)
      obtain ⟨c0, c1, c2, c3, c4⟩ := (hps k hkl).on (by rw [HW0.out]; exact hbr)
      have hsm := HS.out ps[k] (List.getElem_mem hkl)
      have hk4 := HK.out ps[k] (List.getElem_mem hkl)
      have HF : Hid (flatT (ps.take (k + 1)) = flatT (ps.take k) ++ prT ps[k]) := flatT_snoc ps k hkl
      clear hps hfin
      generalize ps[k] = p at *
      generalize flatT (ps.take k) = L at *
      obtain ⟨nm, kd, nu, tx, re⟩ := p
      obtain ⟨nl, rfl⟩ : ∃ nl : List UInt8, nm = ⟨nl.toArray⟩ := ⟨nm.data.toList, by simp⟩
      obtain ⟨tl, rfl⟩ : ∃ tl : List UInt8, tx = ⟨tl.toArray⟩ := ⟨tx.data.toList, by simp⟩
      obtain ⟨hn16, ht256, hre⟩ := hsm
      have hn16 : nl.length ≤ 16 := hn16
      have ht256 : tl.length ≤ 256 := ht256
      have hre : re < 2 ^ 64 := hre
      have hk4 : kd = 1 ∨ kd = 2 ∨ kd = 3 ∨ kd = 4 := hk4
      have hkz : (k : Int) < (n : Int) := by omega
      have HP : Hid (prT ⟨⟨nl.toArray⟩, kd, nu, ⟨tl.toArray⟩, re⟩ = UInt8.ofNat nl.length :: nl ++ (if kd = 2 then [116, UInt8.ofNat (u64L nu)] else if kd = 3 then 83 :: (beN 4 tl.length ++ tl) else if kd = 4 then fltL re else 108 :: beN 8 (u64L nu))) := by
        show prT _ = _
        simp only [prT, shortL, valT, longL, beN_one, List.singleton_append, List.cons_append, List.nil_append]
      have u8n : IntKind.u8.wrap (nl.length : Int) = ((UInt8.ofNat nl.length).toNat : Int) := by
        rw [IntKind.wrap_u8]
        simp only [UInt8.toNat_ofNat']
        omega
      have u8v := u8_wrap nu
      have uwt : IntKind.u64.wrap (tl.length : Int) = (tl.length : Int) := by rw [IntKind.wrap_u64]; omega
      have uw := u64_wrap nu
      have NA := fun w => rnarrow_any w re hre
      have hnl := narB_lt re hre
      have hFl : Hid (fltL re = if (narB re).2 = true then 102 :: beN 4 (narB re).1 else 100 :: beN 8 re) := rfl
      generalize fltL re = FL at *
      generalize narB re = nb at *
      obtain ⟨n4, is⟩ := nb
      have hn4 : n4 < 4294967296 := hnl
      have hnw : IntKind.u64.wrap (n4 : Int) = (n4 : Int) := by rw [IntKind.wrap_u64]; omega
      generalize prT ⟨⟨nl.toArray⟩, kd, nu, ⟨tl.toArray⟩, re⟩ = PR at *
      generalize UInt8.ofNat nl.length = cN at *
      generalize UInt8.ofNat (u64L nu) = cV at *
      have P4 : ∀ (n : Nat) w v l, Own w W0 v l → W0 ≤ w.heap.size → l.length ≤ 10000 → Calls Tryz.prog 19 #[v, .int .u64 n, .int .i64 4] w fun e w' => ∃ v', e = .returned v' ∧ Own w' W0 v' (l ++ beN 4 n) ∧ Bn W0 w w' := fun n w v l ho hB hl => bigN_any w W0 v l 4 n (by omega) ho hB (by omega)
      have P8 : ∀ (n : Nat) w v l, Own w W0 v l → W0 ≤ w.heap.size → l.length ≤ 10000 → Calls Tryz.prog 19 #[v, .int .u64 n, .int .i64 8] w fun e w' => ∃ v', e = .returned v' ∧ Own w' W0 v' (l ++ beN 8 n) ∧ Bn W0 w w' := fun n w v l ho hB hl => bigN_any w W0 v l 8 n (by omega) ho hB (by omega)
      obtain ⟨W, hW⟩ : ∃ W, W = wr.alloc (.cells #[str nl, .int .i64 kd, .int .i64 nu, str tl, .float .f64 re] 44) := ⟨_, rfl⟩
      obtain ⟨a, ha⟩ : ∃ a, wr.heap.size = a := ⟨_, rfl⟩
      have hRow : W.heap[a]? = some (Obj.cells #[str nl, .int .i64 kd, .int .i64 nu, str tl, .float .f64 re] 44 (0, 0)) := by subst hW; rw [← ha]; exact heap_alloc_new wr _
      have hB1 : Bn W0 wr W := by subst hW; exact .of (below_new wr _) hwr
      have hoU : Own W W0 u6 L := by subst hW; exact hou.on (below_new wr _)
      have hs1 := Nat.le_trans hwr hB1.size
      have hbW := Bn.refl W0 W
      have hB0 := hbr.trans hB1.b
      clear hou hbr hB1 hre hwr hnl
      go_wp2_with fail
      rw [← hW]
      clear c0 c1 c2 c3 c4 hW ha
      refine wp_region_held (S := fun W => W.heap[a]? = some (Obj.cells #[str nl, .int .i64 kd, .int .i64 nu, str tl, .float .f64 re] 44 (0, 0))) hmix ?_
      show wpAnyH _ _ _ _ _ _ _ _ (World.drew _)
      have hS : W.drew.heap[a]? = some (Obj.cells #[str nl, .int .i64 kd, .int .i64 nu, str tl, .float .f64 re] 44 (0, 0)) := hRow
      have hoD : Own W.drew W0 u6 L := hoU
      have hsD : W0 ≤ W.drew.heap.size := hs1
      have hBD : Bn W0 W W.drew := hbW.trans (.of (Below.refl _ _).drew hs1)
      clear hRow hoU hs1 hbW
      generalize W.drew = Wd at *
      refine tks [0, 1, 2, 3, 4, 7, 8] [u6, .pointer (some ⟨a, 0, none⟩), str nl, .int .i64 nl.length, .int .u8 (cN.toNat : Int), .pointer (some ⟨a, 0, none⟩), str nl] 4 ?_ hS ?_
      · simp only [tkY, tkf]
        refine ⟨.yes ?_, .yes ?_, .yes ?_, .yes ?_, .yes ?_, .yes ?_, .yes ?_, trivial⟩
        all_goals
          intro W' hW'
          have k0 := row_cell hW' 0
          have k1 := row_cell hW' 1
          have k2 := row_cell hW' 2
          have k3 := row_cell hW' 3
          have k4 := row_cell hW' 4
          simp only [List.getElem?_toArray, List.getElem?_cons_zero, List.getElem?_cons_succ] at k0 k1 k2 k3 k4
          go_simp
      simp only [tkA, tkf]
      refine ak 5 (fun K hK => ?_)
      go_wp2_with fail
      have hal := Bn.of (below_new Wd (.cells #[.int .u8 (cN.toNat : Int)] 5)) hsD
      refine hK _ _ (hal.n _ _ _ _ (by decide) hS) ?_
      clear hK K hal
      refine ak 6 (fun K hK => ?_)
      refine opw_app1 (.tmp 21) (.tmp 26) rfl W0 _ _ Wd cN _ rfl rfl hoD rfl (by omega) hsD ?_
      intro v2 w2 ho2 hb2
      have hS2 := hb2.n _ _ _ _ (by decide) hS
      have hB2 := hBD.trans hb2
      have hs2 := Nat.le_trans hsD hb2.size
      refine hK _ _ hS2 ?_
      clear hK K hb2 hBD hoD hS hsD
      refine ak 9 (fun K hK => ?_)
      refine opw_appS (.tmp 27) (.tmp 29) rfl W0 _ _ w2 ⟨nl.toArray⟩ rfl ho2 rfl (by rw [List.length_append, List.length_singleton, List.size_toByteArray_arr]; omega) hs2 ?_
      intro v3 w3 ho3 hb3
      have hS3 := hb3.n _ _ _ _ (by decide) hS2
      have hB3 := hB2.trans hb3
      have hs3 := Nat.le_trans hs2 hb3.size
      refine hK _ _ hS3 ?_
      clear hK K hb3 hB2 hS2 ho2 hs2
      refine ak 10 (fun K hK => ?_)
      go_wp2_with fail
      refine hK _ _ hS3 ?_
      clear hK K
      refine wpAnyH_done (by kernel_rfl) ?_ _
      have hl3 : (L ++ [cN] ++ nl).length ≤ 5000 := by rw [List.length_append, List.length_append, List.length_singleton]; omega
      have HL3 : Hid (L ++ cN :: nl = L ++ [cN] ++ nl) := by show _ = _; simp
      have ho3 : Own w3 W0 v3 (L ++ [cN] ++ nl) := ho3
      generalize L ++ [cN] ++ nl = M at *
      have hM : M.length ≤ 5000 := hl3
      clear hl3 u8n hfl hn16
      have hRow := hS3
      have hoU := ho3
      have hs1 := hs3
      have hbW := hB3
      clear hS3 ho3 hs3 hB3
      have q0 := row_cell hRow 0
      have q1 := row_cell hRow 1
      have q2 := row_cell hRow 2
      have q3 := row_cell hRow 3
      have q4 := row_cell hRow 4
      simp only [List.getElem?_toArray, List.getElem?_cons_zero, List.getElem?_cons_succ] at q0 q1 q2 q3 q4
      have hfw : ∀ X, PR = cN :: nl ++ X → M ++ X = flatT (ps.take (k + 1)) := fun X hX => by
        rw [HF.out, hX, ← HL3.out]
        simp
      have HX : Hid (∀ X, PR = cN :: nl ++ X → M ++ X = flatT (ps.take (k + 1))) := hfw
      clear hfw HF HL3
      rcases hk4 with rfl | rfl | rfl | rfl
      · have P := P8 (u64L nu)
        clear P4 P8 NA hFl u8v hnw uwt
        go_wp2_with fail
        clear q0 q1 q2 q3 q4
        refine wp_region_held (S := fun W => W.heap[a]? = some (Obj.cells #[str nl, .int .i64 1, .int .i64 nu, str tl, .float .f64 re] 44 (0, 0))) hmix ?_
        show wpAnyH _ _ _ _ _ _ _ _ (World.drew _)
        have hS : w3.drew.heap[a]? = some (Obj.cells #[str nl, .int .i64 1, .int .i64 nu, str tl, .float .f64 re] 44 (0, 0)) := hRow
        have hoD : Own w3.drew W0 v3 M := hoU
        have hsD : W0 ≤ w3.drew.heap.size := hs1
        have hBD : Bn W0 W w3.drew := hbW.trans (.of (Below.refl _ _).drew hs1)
        clear hRow hoU hs1 hbW
        generalize w3.drew = Wd at *
        refine tks [0, 3, 4, 5, 6] [v3, .pointer (some ⟨a, 1, none⟩), .pointer (some ⟨a, 2, none⟩), .int .i64 nu, .int .u64 (u64L nu)] 4 ?_ hS ?_
        · simp only [tkY, tkf]
          refine ⟨.yes ?_, .yes ?_, .yes ?_, .yes ?_, .yes ?_, trivial⟩
          all_goals
            intro W' hW'
            have k0 := row_cell hW' 0
            have k1 := row_cell hW' 1
            have k2 := row_cell hW' 2
            have k3 := row_cell hW' 3
            have k4 := row_cell hW' 4
            simp only [List.getElem?_toArray, List.getElem?_cons_zero, List.getElem?_cons_succ] at k0 k1 k2 k3 k4
            go_simp
        simp only [tkA, tkf]
        refine ak 1 (fun K hK => ?_)
        go_wp2_with fail
        have hal := Bn.of (below_new Wd (.cells #[.int .u8 108] 5)) hsD
        refine hK _ _ (hal.n _ _ _ _ (by decide) hS) ?_
        clear hK K hal
        refine ak 2 (fun K hK => ?_)
        refine opw_app1 (.tmp 36) (.tmp 37) rfl W0 _ _ Wd 108 108 rfl rfl hoD rfl (by omega) hsD ?_
        intro v2 w2 ho2 hb2
        have hS2 := hb2.n _ _ _ _ (by decide) hS
        have hB2 := hBD.trans hb2
        have hs2 := Nat.le_trans hsD hb2.size
        refine hK _ _ hS2 ?_
        clear hK K hb2 hBD hoD hS hsD
        refine ak 7 (fun K hK => ?_)
        go_wp2_with (go_at_call 19; refine (P w2 _ _ ho2 hs2 (by rw [List.length_append, List.length_singleton]; omega)).mono ?_; rintro e w3 ⟨v3, rfl, ho3, hb3⟩)
        have hS3 := hb3.n _ _ _ _ (by decide) hS2
        have hB3 := hB2.trans hb3
        have hs3 := Nat.le_trans hs2 hb3.size
        refine hK _ _ hS3 ?_
        clear hK K hb3 hB2 hS2 ho2 hs2
        refine ak 8 (fun K hK => ?_)
        go_wp2_with fail
        refine hK _ _ hS3 ?_
        clear hK K
        refine wpAnyH_done (by kernel_rfl) ?_ _
        have hoX : Own w3 W0 v3 (flatT (ps.take (k + 1))) := by
          rw [← HX.out (108 :: beN 8 (u64L nu)) HP.out]
          simpa using ho3
        have hBX := hB0.trans hB3.b
        clear HX HP ho3 hB3
        go_wp2_with fail
        go_roundw
        case rel => exact ⟨k + 1, by omega, by go_num, hoX, hBX⟩
        case measure => simp [RowKit.intOf]; omega
      · clear P4 P8 NA hFl hnw uwt uw
        have RT := rd_two w3 116 cV 116 _ rfl rfl
        have hob := hoU.on (below_new w3 (.cells #[.int .u8 116, .int .u8 (cV.toNat : Int)] 5))
        have hBb := hbW.trans (.of (below_new w3 (.cells #[.int .u8 116, .int .u8 (cV.toNat : Int)] 5)) hs1)
        have hsb := Nat.le_trans hs1 (below_new w3 (.cells #[.int .u8 116, .int .u8 (cV.toNat : Int)] 5)).size
        clear hRow hoU hbW hs1
        go_wp2_with (at_builtin; refine appB rfl (.tmp 46) (.tmp 51) rfl W0 _ _ M [116, cV] _ rfl hob rfl RT (by simp; omega) hsb ?_)
        intro v4 w4 ho4 hb4
        have hBX : Below W0 w w4 := hB0.trans (hBb.b.trans hb4)
        have hoX : Own w4 W0 v4 (flatT (ps.take (k + 1))) := by
          rw [← HX.out _ HP.out]
          exact ho4
        clear HX HP ho4 hb4
        go_wp2_with fail
        go_roundw
        case rel => exact ⟨k + 1, by omega, by go_num, hoX, hBX⟩
        case measure => simp [RowKit.intOf]; omega
      · have P := P4 tl.length
        clear P4 P8 NA hFl u8v hnw uw
        go_wp2_with fail
        clear q0 q1 q2 q3 q4
        refine wp_region_held (S := fun W => W.heap[a]? = some (Obj.cells #[str nl, .int .i64 3, .int .i64 nu, str tl, .float .f64 re] 44 (0, 0))) hmix ?_
        show wpAnyH _ _ _ _ _ _ _ _ (World.drew _)
        have hS : w3.drew.heap[a]? = some (Obj.cells #[str nl, .int .i64 3, .int .i64 nu, str tl, .float .f64 re] 44 (0, 0)) := hRow
        have hoD : Own w3.drew W0 v3 M := hoU
        have hsD : W0 ≤ w3.drew.heap.size := hs1
        have hBD : Bn W0 W w3.drew := hbW.trans (.of (Below.refl _ _).drew hs1)
        clear hRow hoU hs1 hbW
        generalize w3.drew = Wd at *
        refine tks [0, 3, 4, 5, 6, 7] [v3, .pointer (some ⟨a, 1, none⟩), .pointer (some ⟨a, 3, none⟩), str tl, .int .i64 tl.length, .int .u64 tl.length] 4 ?_ hS ?_
        · simp only [tkY, tkf]
          refine ⟨.yes ?_, .yes ?_, .yes ?_, .yes ?_, .yes ?_, .yes ?_, trivial⟩
          all_goals
            intro W' hW'
            have k0 := row_cell hW' 0
            have k1 := row_cell hW' 1
            have k2 := row_cell hW' 2
            have k3 := row_cell hW' 3
            have k4 := row_cell hW' 4
            simp only [List.getElem?_toArray, List.getElem?_cons_zero, List.getElem?_cons_succ] at k0 k1 k2 k3 k4
            go_simp
        simp only [tkA, tkf]
        refine ak 1 (fun K hK => ?_)
        go_wp2_with fail
        have hal := Bn.of (below_new Wd (.cells #[.int .u8 83] 5)) hsD
        refine hK _ _ (hal.n _ _ _ _ (by decide) hS) ?_
        clear hK K hal
        refine ak 2 (fun K hK => ?_)
        refine opw_app1 (.tmp 55) (.tmp 56) rfl W0 _ _ Wd 83 83 rfl rfl hoD rfl (by omega) hsD ?_
        intro v2 w2 ho2 hb2
        have hS2 := hb2.n _ _ _ _ (by decide) hS
        have hB2 := hBD.trans hb2
        have hs2 := Nat.le_trans hsD hb2.size
        refine hK _ _ hS2 ?_
        clear hK K hb2 hBD hoD hS hsD
        refine ak 8 (fun K hK => ?_)
        go_wp2_with (go_at_call 19; refine (P w2 _ _ ho2 hs2 (by rw [List.length_append, List.length_singleton]; omega)).mono ?_; rintro e w3 ⟨v3, rfl, ho3, hb3⟩)
        have hS3 := hb3.n _ _ _ _ (by decide) hS2
        have hB3 := hB2.trans hb3
        have hs3 := Nat.le_trans hs2 hb3.size
        refine hK _ _ hS3 ?_
        clear hK K hb3 hB2 hS2 ho2 hs2
        refine ak 9 (fun K hK => ?_)
        go_wp2_with fail
        refine hK _ _ hS3 ?_
        clear hK K
        refine wpAnyH_done (by kernel_rfl) ?_ _
        have q3 := row_cell hS3 3
        simp only [List.getElem?_toArray, List.getElem?_cons_zero, List.getElem?_cons_succ] at q3
        go_wp2_with (at_builtin; refine wpl_appS rfl (.tmp 64) (.tmp 67) rfl W0 _ _ w3 ⟨tl.toArray⟩ rfl ho3 rfl (by simp [beN_len, ByteArray.size]; omega) hs3 ?_)
        intro v4 w4 ho4 hb4
        have hBX := hB0.trans (hB3.trans hb4).b
        have hoX : Own w4 W0 v4 (flatT (ps.take (k + 1))) := by
          rw [← HX.out _ HP.out]
          simpa using ho4
        clear HX HP ho4 hb4 hB3 ho3
        go_wp2_with fail
        go_roundw
        case rel => exact ⟨k + 1, by omega, by go_num, hoX, hBX⟩
        case measure => simp [RowKit.intOf]; omega
      · clear u8v uwt uw
        have HP : Hid (PR = cN :: nl ++ FL) := HP.out
        cases is with
        | true =>
          have P := P4 n4
          have hX : Hid (FL = 102 :: beN 4 n4) := hFl.out
          clear P4 P8 hFl
          go_wp2_with (first | (go_at_call 37; refine (NA _).mono ?_; rintro e w' ⟨rfl, rfl⟩) | (at_builtin; refine wpl_app1 rfl (.tmp 79) (.tmp 80) rfl W0 _ M _ 102 102 rfl rfl hoU rfl (by omega) hs1 ?_))
          intro v2 w2 ho2 hb2
          have hB2 := hbW.trans hb2
          have hs2 := Nat.le_trans hs1 hb2.size
          clear hoU hb2 hbW hs1 NA
          go_wp2_with (go_at_call 19; refine (P w2 _ _ ho2 hs2 (by rw [List.length_append, List.length_singleton]; omega)).mono ?_; rintro e w4 ⟨v4, rfl, ho4, hb4⟩)
          have hBX := hB0.trans (hB2.trans hb4).b
          have hoX : Own w4 W0 v4 (flatT (ps.take (k + 1))) := by
            rw [← HX.out _ (by rw [HP.out, hX.out])]
            simpa using ho4
          clear HX HP ho4 hb4 hB2 ho2
          go_wp2_with fail
          go_roundw
          case rel => exact ⟨k + 1, by omega, by go_num, hoX, hBX⟩
          case measure => simp [RowKit.intOf]; omega
        | false =>
          have P := P8 re
          have hX : Hid (FL = 100 :: beN 8 re) := hFl.out
          clear P4 P8 hFl
          go_wp2_with (first | (go_at_call 37; refine (NA _).mono ?_; rintro e w3 ⟨rfl, rfl⟩))
          clear q0 q1 q2 q3 q4
          refine wp_region_held (S := fun W => W.heap[a]? = some (Obj.cells #[str nl, .int .i64 4, .int .i64 nu, str tl, .float .f64 re] 44 (0, 0))) hmix ?_
          show wpAnyH _ _ _ _ _ _ _ _ (World.drew _)
          have hS : w3.drew.heap[a]? = some (Obj.cells #[str nl, .int .i64 4, .int .i64 nu, str tl, .float .f64 re] 44 (0, 0)) := hRow
          have hoD : Own w3.drew W0 v3 M := hoU
          have hsD : W0 ≤ w3.drew.heap.size := hs1
          have hBD : Bn W0 W w3.drew := hbW.trans (.of (Below.refl _ _).drew hs1)
          clear hRow hoU hs1 hbW
          generalize w3.drew = Wd at *
          refine tks [0, 3, 4, 5] [v3, .pointer (some ⟨a, 1, none⟩), .pointer (some ⟨a, 4, none⟩), .float .f64 re] 5 ?_ hS ?_
          · simp only [tkY, tkf]
            refine ⟨.yes ?_, .yes ?_, .yes ?_, .yes ?_, trivial⟩
            all_goals
              intro W' hW'
              have k0 := row_cell hW' 0
              have k1 := row_cell hW' 1
              have k2 := row_cell hW' 2
              have k3 := row_cell hW' 3
              have k4 := row_cell hW' 4
              simp only [List.getElem?_toArray, List.getElem?_cons_zero, List.getElem?_cons_succ] at k0 k1 k2 k3 k4
              go_simp
          simp only [tkA, tkf]
          refine ak 1 (fun K hK => ?_)
          go_wp2_with fail
          have hal := Bn.of (below_new Wd (.cells #[.int .u8 100] 5)) hsD
          refine hK _ _ (hal.n _ _ _ _ (by decide) hS) ?_
          clear hK K hal
          refine ak 2 (fun K hK => ?_)
          refine opw_app1 (.tmp 85) (.tmp 86) rfl W0 _ _ Wd 100 100 rfl rfl hoD rfl (by omega) hsD ?_
          intro v2 w2 ho2 hb2
          have hS2 := hb2.n _ _ _ _ (by decide) hS
          have hB2 := hBD.trans hb2
          have hs2 := Nat.le_trans hsD hb2.size
          refine hK _ _ hS2 ?_
          clear hK K hb2 hBD hoD hS hsD
          refine ak 6 (fun K hK => ?_)
          go_wp2_with (go_at_call 38; refine (rbits_any _ _).mono ?_; rintro e w2 ⟨rfl, rfl⟩)
          refine hK _ _ hS2 ?_
          clear hK K
          refine ak 7 (fun K hK => ?_)
          go_wp2_with (go_at_call 19; refine (P w2 _ _ ho2 hs2 (by rw [List.length_append, List.length_singleton]; omega)).mono ?_; rintro e w3 ⟨v3, rfl, ho3, hb3⟩)
          have hS3 := hb3.n _ _ _ _ (by decide) hS2
          have hB3 := hB2.trans hb3
          have hs3 := Nat.le_trans hs2 hb3.size
          refine hK _ _ hS3 ?_
          clear hK K hb3 hB2 hS2 ho2 hs2
          refine ak 8 (fun K hK => ?_)
          go_wp2_with fail
          refine hK _ _ hS3 ?_
          clear hK K
          refine wpAnyH_done (by kernel_rfl) ?_ _
          have hBX := hB0.trans hB3.b
          have hoX : Own w3 W0 v3 (flatT (ps.take (k + 1))) := by
            rw [← HX.out _ (by rw [HP.out, hX.out])]
            simpa using ho3
          clear HX HP ho3 hB3
          go_wp2_with fail
          go_roundw
          case rel => exact ⟨k + 1, by omega, by go_num, hoX, hBX⟩
          case measure => simp [RowKit.intOf]; omega
    · have hkn : k = n := by omega
      subst hkn
      have hF0 : ps.take k = ps := by rw [← HN.out]; exact List.take_length
      rw [hF0] at hou hfl
      have hrb := HO.out.on (by rw [HW0.out]; exact hbr)
      clear hlt hk hF0
      generalize flatT ps = F at *
      have uwt : IntKind.u64.wrap (F.length : Int) = (F.length : Int) := by rw [IntKind.wrap_u64]; omega
      have he := own_empty wr wr.heap.size (Nat.le_refl _)
      have hrb2 := hrb.on (below_new wr (.cells #[] 5))
      have hrd := hou.rd
      have hv6 : ∃ a c, u6 = .slice a F.length c := by
        rcases hrd with ⟨h, rfl⟩ | ⟨b, o, c, h, _⟩
        · exact ⟨none, 0, h⟩
        · exact ⟨_, _, h⟩
      obtain ⟨a6, c6, rfl⟩ := hv6
      have hb0 := below_new wr (.cells #[] 5)
      have P : ∀ w v l', Own w wr.heap.size v l' → wr.heap.size ≤ w.heap.size → l'.length ≤ 100010000 → Calls Tryz.prog 19 #[v, .int .u64 F.length, .int .i64 4] w fun e w' => ∃ v', e = .returned v' ∧ Own w' wr.heap.size v' (l' ++ beN 4 F.length) ∧ Bn wr.heap.size w w' := fun w v l ho hB hl => bigN_any w _ v l 4 F.length (by omega) ho hB (by omega)
      clear hrb hou
      go_wp2_with (at_builtin; refine appB rfl (.tmp 94) (.tmp 95) rfl wr.heap.size _ _ [] l (wr.alloc (.cells #[] 5)) rfl he rfl hrb2 (by simp; omega) (by simp) ?_)
      intro v2 w2 ho2 hb2
      have hb2 := hb0.trans hb2
      have hs2 := hb2.size
      clear he hrb2 hb0
      go_wp2_with fail
      refine (P w2 _ _ ho2 hs2 (by first | omega | (simp; omega) | (show l.length ≤ _; omega))).mono ?_
      rintro e w3 ⟨v3, rfl, ho3, hb3⟩
      have hb3 := hb2.trans hb3.b
      have hs3 := hb3.size
      have hr3 := hrd.on hb3
      clear P ho2 hb2 hrd hs2
      go_wp2_with (at_builtin; refine appB rfl (.tmp 101) (.tmp 102) rfl wr.heap.size _ _ _ F w3 rfl ho3 rfl (.inl hr3) (by simp [beN_len]; omega) hs3 ?_)
      intro v4 w4 ho4 hb4
      have hb4 := hb3.trans hb4
      go_wp2
      go_ret2
      refine ⟨_, rfl, hfin _ _ ?_ (hbr.trans (hb4.mono hwr))⟩
      rw [HT.out]
      simpa using ho4.lower hwr
theorem rput_bad (w : World) (v va : Value) (ps : List Pr) (hr : RdP w va ps) (hv : validL ps = false) (hf : ∀ q ∈ ps, Fits q) (h63 : ps.length ≤ 9223372036854775806) :
    Calls Tryz.prog 21 #[v, va] w fun e w' => e = .returned (.tuple #[.slice none 0 0, .int .i64 36]) ∧ Below w.heap.size w w' := by
  have V := rvalid7 w va ps hr hf h63
  rw [hv] at V
  clear hf h63
  go_enter Tryz.func21, Tryz.ntmps21
  go_wp2_with fail
  refine V.mono ?_
  rintro e w1 ⟨rfl, hb1⟩
  go_wp2_with fail
  go_ret2
  exact ⟨rfl, hb1⟩
end Go.Proofs.YtmaaacaifpgpaaaGreatDoor
