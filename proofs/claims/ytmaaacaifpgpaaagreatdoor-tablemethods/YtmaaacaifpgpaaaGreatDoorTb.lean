
/- What table.putValue lays behind bytes. Conditions: those that each row states. -/
import Derived.Test.YtmaaacaifpgpaaaGreatDoorTa
namespace Go.Proofs.YtmaaacaifpgpaaaGreatDoor
open Go.RowKit Go.Lib
set_option maxRecDepth 100000

theorem row_cell {w : World} {g : Nat} {c : Array Value} {t : TypeId} (h : w.heap[g]? = some (Obj.cells c t (0, 0))) (j : Nat) : w.cell? ⟨g, j, none⟩ = c[j]? := by simp [World.cell?, h]
set_option maxHeartbeats 1000000 in
theorem value_any (w : World) (B : Nat) (v : Value) (l t : List UInt8) (kd nm : Int) (r : Nat) (hr : kd = 4 → r < 2 ^ 64) (ho : Own w B v l) (hB : B ≤ w.heap.size) (hl : l.length + t.length + 20 ≤ 140737488355328) :
    Calls Tryz.prog 45 #[v, .agg #[.int .i64 kd, .int .i64 nm, str t, .float .f64 r]] w fun e w' => ∃ v', e = .returned v' ∧ Own w' B v' (l ++ valT ⟨kd, nm, ⟨t.toArray⟩, r⟩) ∧ Bn B w w' := by
  have P1 : ∀ (n : Nat) w v l, Own w B v l → B ≤ w.heap.size → l.length + 8 ≤ 140737488355328 → Calls Tryz.prog 34 #[v, .int .i64 1, .int .u64 n] w fun e w' => ∃ v', e = .returned v' ∧ Own w' B v' (l ++ beN 1 n) ∧ Bn B w w' := fun n w v l ho hB hl => tput_any w B v l 1 n (by omega) ho hB hl
  have P8 : ∀ (n : Nat) w v l, Own w B v l → B ≤ w.heap.size → l.length + 8 ≤ 140737488355328 → Calls Tryz.prog 34 #[v, .int .i64 8, .int .u64 n] w fun e w' => ∃ v', e = .returned v' ∧ Own w' B v' (l ++ beN 8 n) ∧ Bn B w w' := fun n w v l ho hB hl => tput_any w B v l 8 n (by omega) ho hB hl
  have PL : ∀ w v l, Own w B v l → B ≤ w.heap.size → l.length + t.length + 8 ≤ 140737488355328 → Calls Tryz.prog 47 #[v, str t] w fun e w' => ∃ v', e = .returned v' ∧ Own w' B v' (l ++ longL t) ∧ Bn B w w' := fun w v l ho hB hl => long_any w B v l t ho hB hl
  have PF : kd = 4 → ∀ w v l, Own w B v l → B ≤ w.heap.size → l.length + 9 ≤ 140737488355328 → Calls Tryz.prog 66 #[v, .float .f64 r] w fun e w' => ∃ v', e = .returned v' ∧ Own w' B v' (l ++ fltL r) ∧ Bn B w w' := fun hk w v l ho hB hl => float_any w B v l r (hr hk) ho hB hl
  obtain ⟨W, hW⟩ : ∃ W, W = w.alloc (.cells #[.int .i64 kd, .int .i64 nm, str t, .float .f64 r] 42) := ⟨_, rfl⟩
  obtain ⟨a, ha⟩ : ∃ a, w.heap.size = a := ⟨_, rfl⟩
  have hRow : W.heap[a]? = some (Obj.cells #[.int .i64 kd, .int .i64 nm, str t, .float .f64 r] 42 (0, 0)) := by subst hW; rw [← ha]; exact heap_alloc_new w _
  have hB1 : Bn B w W := by subst hW; exact .of (below_new w _) hB
  have ho1 : Own W B v l := by subst hW; exact ho.on (below_new w _)
  have hs1 : B ≤ W.heap.size := Nat.le_trans hB hB1.size
  have k0 := row_cell hRow 0
  have k1 := row_cell hRow 1
  have k2 := row_cell hRow 2
  have k3 := row_cell hRow 3
  simp only [List.getElem?_toArray, List.getElem?_cons_zero, List.getElem?_cons_succ] at k0 k1 k2 k3
  have HV : Hid (valT ⟨kd, nm, ⟨t.toArray⟩, r⟩ = if kd = 2 then 116 :: beN 1 (u64L nm) else if kd = 3 then 83 :: longL t else if kd = 4 then fltL r else 108 :: beN 8 (u64L nm)) := rfl
  have HB : Hid (B ≤ w.heap.size ∧ Own w B v l) := ⟨hB, ho⟩
  have uw := u64_wrap nm
  generalize valT ⟨kd, nm, ⟨t.toArray⟩, r⟩ = X at *
  clear hr hB ho
  by_cases h2 : kd = 2
  · subst h2
    have hX : Hid (X = 116 :: beN 1 (u64L nm)) := HV.out
    have P := P1 (u64L nm)
    clear P1 P8 PL PF HV
    go_enter Tryz.func45, Tryz.ntmps45
    go_wp2_with fail
    rw [← hW]
    clear k0 k1 k2 k3
    refine wp_region_held (S := fun W => W.heap[a]? = some (Obj.cells #[.int .i64 2, .int .i64 nm, str t, .float .f64 r] 42 (0, 0))) hmix ?_
    show wpAnyH _ _ _ _ _ _ _ _ (World.drew _)
    have hS : W.drew.heap[a]? = some (Obj.cells #[.int .i64 2, .int .i64 nm, str t, .float .f64 r] 42 (0, 0)) := hRow
    have hoD : Own W.drew B v l := ho1
    have hsD : B ≤ W.drew.heap.size := hs1
    have hBD : Bn B w W.drew := hB1.trans (.of (Below.refl _ _).drew hs1)
    clear hRow ho1 hs1 hB1 hW
    generalize W.drew = Wd at *
    refine tks [0, 3, 4, 5] [v, .pointer (some ⟨a, 1, none⟩), .int .i64 nm, .int .u64 (u64L nm)] 4 ?_ hS ?_
    · simp only [tkY, tkf]
      refine ⟨.yes ?_, .yes ?_, .yes ?_, .yes ?_, trivial⟩
      all_goals
        intro W' hW'
        have k := row_cell hW' 1
        simp only [List.getElem?_toArray, List.getElem?_cons_zero, List.getElem?_cons_succ] at k
        go_simp
    simp only [tkA, tkf]
    refine ak 1 (fun K hK => ?_)
    go_wp2_with fail
    have hal := Bn.of (below_new Wd (.cells #[.int .u8 116] 5)) hsD
    refine hK _ _ (hal.n _ _ _ _ (by decide) hS) ?_
    clear hK K hal
    refine ak 2 (fun K hK => ?_)
    refine opw_app1 (.tmp 9) (.tmp 10) rfl B _ l Wd 116 116 rfl rfl hoD rfl (by omega) hsD ?_
    intro v2 w2 ho2 hb2
    have hS2 := hb2.n _ _ _ _ (by decide) hS
    have hB2 := hBD.trans hb2
    have hs2 := Nat.le_trans hsD hb2.size
    refine hK _ _ hS2 ?_
    clear hK K hb2 hBD hoD hS hsD
    refine ak 6 (fun K hK => ?_)
    go_wp2_with (go_at_call 34; refine (P w2 _ _ ho2 hs2 (by rw [List.length_append, List.length_singleton]; omega)).mono ?_; rintro e w3 ⟨v3, rfl, ho3, hb3⟩)
    have hS3 := hb3.n _ _ _ _ (by decide) hS2
    refine hK _ _ hS3 ?_
    clear hK K
    refine ak 7 (fun K hK => ?_)
    go_wp2_with fail
    refine hK _ _ hS3 ?_
    clear hK K
    refine wpAnyH_done (by kernel_rfl) ?_ _
    go_wp2_with fail
    go_ret
    refine ⟨_, rfl, ?_, hB2.trans hb3⟩
    rw [hX.out]
    simpa using ho3
  · by_cases h3 : kd = 3
    · subst h3
      have hX : Hid (X = 83 :: longL t) := HV.out
      clear P1 P8 PF HV uw h2
      go_enter Tryz.func45, Tryz.ntmps45
      go_wp2_with fail
      rw [← hW]
      clear k0 k1 k2 k3
      refine wp_region_held (S := fun W => W.heap[a]? = some (Obj.cells #[.int .i64 3, .int .i64 nm, str t, .float .f64 r] 42 (0, 0))) hmix ?_
      show wpAnyH _ _ _ _ _ _ _ _ (World.drew _)
      have hS : W.drew.heap[a]? = some (Obj.cells #[.int .i64 3, .int .i64 nm, str t, .float .f64 r] 42 (0, 0)) := hRow
      have hoD : Own W.drew B v l := ho1
      have hsD : B ≤ W.drew.heap.size := hs1
      have hBD : Bn B w W.drew := hB1.trans (.of (Below.refl _ _).drew hs1)
      clear hRow ho1 hs1 hB1 hW
      generalize W.drew = Wd at *
      refine tks [0, 3, 4] [v, .pointer (some ⟨a, 2, none⟩), str t] 4 ?_ hS ?_
      · simp only [tkY, tkf]
        refine ⟨.yes ?_, .yes ?_, .yes ?_, trivial⟩
        all_goals
          intro W' hW'
          have k := row_cell hW' 2
          simp only [List.getElem?_toArray, List.getElem?_cons_zero, List.getElem?_cons_succ] at k
          go_simp
      simp only [tkA, tkf]
      refine ak 1 (fun K hK => ?_)
      go_wp2_with fail
      have hal := Bn.of (below_new Wd (.cells #[.int .u8 83] 5)) hsD
      refine hK _ _ (hal.n _ _ _ _ (by decide) hS) ?_
      clear hK K hal
      refine ak 2 (fun K hK => ?_)
      refine opw_app1 (.tmp 18) (.tmp 19) rfl B _ l Wd 83 83 rfl rfl hoD rfl (by omega) hsD ?_
      intro v2 w2 ho2 hb2
      have hS2 := hb2.n _ _ _ _ (by decide) hS
      have hB2 := hBD.trans hb2
      have hs2 := Nat.le_trans hsD hb2.size
      refine hK _ _ hS2 ?_
      clear hK K hb2 hBD hoD hS hsD
      refine ak 5 (fun K hK => ?_)
      go_wp2_with (go_at_call 47; refine (PL w2 _ _ ho2 hs2 (by rw [List.length_append, List.length_singleton]; omega)).mono ?_; rintro e w3 ⟨v3, rfl, ho3, hb3⟩)
      have hS3 := hb3.n _ _ _ _ (by decide) hS2
      refine hK _ _ hS3 ?_
      clear hK K
      refine ak 6 (fun K hK => ?_)
      go_wp2_with fail
      refine hK _ _ hS3 ?_
      clear hK K
      refine wpAnyH_done (by kernel_rfl) ?_ _
      go_wp2_with fail
      go_ret
      refine ⟨_, rfl, ?_, hB2.trans hb3⟩
      rw [hX.out]
      simpa using ho3
    · by_cases h4 : kd = 4
      · subst h4
        have hX : Hid (X = fltL r) := HV.out
        have P := PF rfl
        clear P1 P8 PL PF HV uw h2 h3
        go_enter Tryz.func45, Tryz.ntmps45
        go_wp2_with fail
        rw [← hW]
        refine (P W _ _ ho1 hs1 (by omega)).mono ?_
        rintro e w3 ⟨v3, rfl, ho3, hb3⟩
        go_wp2
        go_ret
        exact ⟨_, rfl, by rw [hX.out]; exact ho3, hB1.trans hb3⟩
      · have hX : Hid (X = 108 :: beN 8 (u64L nm)) := by
          have := HV.out
          rwa [if_neg h2, if_neg h3, if_neg h4] at this
        have P := P8 (u64L nm)
        clear P1 P8 PL PF HV
        go_enter Tryz.func45, Tryz.ntmps45
        go_wp2_with fail
        rw [← hW]
        clear k0 k1 k2 k3 h2 h3 h4
        refine wp_region_held (S := fun W => W.heap[a]? = some (Obj.cells #[.int .i64 kd, .int .i64 nm, str t, .float .f64 r] 42 (0, 0))) hmix ?_
        show wpAnyH _ _ _ _ _ _ _ _ (World.drew _)
        have hS : W.drew.heap[a]? = some (Obj.cells #[.int .i64 kd, .int .i64 nm, str t, .float .f64 r] 42 (0, 0)) := hRow
        have hoD : Own W.drew B v l := ho1
        have hsD : B ≤ W.drew.heap.size := hs1
        have hBD : Bn B w W.drew := hB1.trans (.of (Below.refl _ _).drew hs1)
        clear hRow ho1 hs1 hB1 hW
        generalize W.drew = Wd at *
        refine tks [0, 3, 4, 5] [v, .pointer (some ⟨a, 1, none⟩), .int .i64 nm, .int .u64 (u64L nm)] 4 ?_ hS ?_
        · simp only [tkY, tkf]
          refine ⟨.yes ?_, .yes ?_, .yes ?_, .yes ?_, trivial⟩
          all_goals
            intro W' hW'
            have k := row_cell hW' 1
            simp only [List.getElem?_toArray, List.getElem?_cons_zero, List.getElem?_cons_succ] at k
            go_simp
        simp only [tkA, tkf]
        refine ak 1 (fun K hK => ?_)
        go_wp2_with fail
        have hal := Bn.of (below_new Wd (.cells #[.int .u8 108] 5)) hsD
        refine hK _ _ (hal.n _ _ _ _ (by decide) hS) ?_
        clear hK K hal
        refine ak 2 (fun K hK => ?_)
        refine opw_app1 (.tmp 30) (.tmp 31) rfl B _ l Wd 108 108 rfl rfl hoD rfl (by omega) hsD ?_
        intro v2 w2 ho2 hb2
        have hS2 := hb2.n _ _ _ _ (by decide) hS
        have hB2 := hBD.trans hb2
        have hs2 := Nat.le_trans hsD hb2.size
        refine hK _ _ hS2 ?_
        clear hK K hb2 hBD hoD hS hsD
        refine ak 6 (fun K hK => ?_)
        go_wp2_with (go_at_call 34; refine (P w2 _ _ ho2 hs2 (by rw [List.length_append, List.length_singleton]; omega)).mono ?_; rintro e w3 ⟨v3, rfl, ho3, hb3⟩)
        have hS3 := hb3.n _ _ _ _ (by decide) hS2
        refine hK _ _ hS3 ?_
        clear hK K
        refine ak 7 (fun K hK => ?_)
        go_wp2_with fail
        refine hK _ _ hS3 ?_
        clear hK K
        refine wpAnyH_done (by kernel_rfl) ?_ _
        go_wp2_with fail
        go_ret
        refine ⟨_, rfl, ?_, hB2.trans hb3⟩
        rw [hX.out]
        simpa using ho3
end Go.Proofs.YtmaaacaifpgpaaaGreatDoor
