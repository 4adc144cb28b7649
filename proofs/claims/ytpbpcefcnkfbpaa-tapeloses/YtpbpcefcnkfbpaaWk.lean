/- The law's wakes. -/
import Derived.Test.YtpbpcefcnkfbpaaSt
import Derived.Test.YtpbpcefcnkfbpaaFr
import Derived.Lib.SlBytesConst
namespace Go.Proofs.Ytpbpcefcnkfbpaa
open Go.RowKit Go.Lib Go.Shelf
set_option maxRecDepth 100000
set_option linter.unusedSimpArgs false

theorem hi_rd (w : World) : Sl.RdA (w.alloc (.cells #[.int .u8 104, .int .u8 105] 5 (2, 3))) (.slice (some ⟨w.heap.size, 0, none⟩) 2 2) [104, 105] := by
  have hg : (w.alloc (.cells #[.int .u8 104, .int .u8 105] 5 (2, 3))).heap[w.heap.size]? = some (.cells (byteCells [104, 105]).toArray 5 (2, 3)) := heap_alloc_new w _
  exact sl_range (l := [104, 105]) (c := 2) (range_of_block hg) (by decide)
theorem opsN_hi : opsN 0 2 512 = 4 := by decide

set_option maxHeartbeats 4000000 in
theorem wakes_any (w : World) : Calls Try.prog 9 #[] w fun e w' => e = .returned (.bool true) ∧ Below w.heap.size w w' := by
  have hmix : Try.prog.follows .mixedOrders = true := by kernel_rfl
  have N26 := new_ts w 3 (by decide) (by decide)
  have kc := fun (w : World) (C : Array Value) (n c : Nat) => Lib.run_convert_bytes_const (P := Try.prog) w 22 5 C n c Try.underlying22 Try.underlying5
  go_enter Try.func9, Try.ntmps9
  go_wp2_with (go_at_call 26; refine N26.mono ?_; rintro e w1 ⟨X, q, S, rfl, hdr, hP, hW0, hops, har, hdn, hb1, hX⟩)
  have hla : Laid S.P 1 ((3 - 1) * 256) [] := zeros_laid S.P 3 1 3 (by rw [hP, List.length_replicate]) (by decide) (by decide) (by rw [hP, List.getElem?_replicate, if_pos (by decide)])
  have N12 := open_ts w1 X q 3 S 1 3 [] hdr hla har hdn (by rw [hW0]; decide) (by decide) (by decide) (by decide)
  refine N12.mono ?_
  rintro e w2 ⟨hb2, v, t, rfl, ht1, hrec, hts⟩
  obtain ⟨va, vc, rfl⟩ := hrec.shape
  have hbh : Below w2.heap.size w2 (w2.alloc (.cells #[.int .u8 104, .int .u8 105] 5 (2, 3))) := (Below.refl _ _).alloc (Nat.le_refl _) _
  have hrd := hi_rd w2
  have hts2 : TS (w2.alloc (.cells #[.int .u8 104, .int .u8 105] 5 (2, 3))) X t q 3 S 1 3 [] := ⟨hts.d.below hbh, hts.tp.below hbh, hts.nx, hts.la, hts.ar, hts.dn, hts.wl⟩
  have N17 := append_ts _ X t q 3 S 1 3 [] hts2 (by decide) (by decide) (by omega) (by decide) [104, 105] _ hrd (by decide) (by decide)
  go_wp2_with fail
  refine N17.mono ?_
  rintro e w3 ⟨rfl, X3, S3, hts3, hst3, hX3, hops3, _, _⟩
  have hop4 : (S3.ops : Int) = 4 := by rw [hops3, hops, Nat.zero_add]; rfl
  have N30 := ops_any w3 X3 q 3 S3 hts3.d
  rw [hop4] at N30
  have N31 := read0 w3 X3 q 3 S3 1 (by decide) hts3.dn hts3.d
  have hb13 : Below w.heap.size w w3 := by
    refine (hb1.trans (hb2.mono hb1.size)).trans ((hbh.mono (Nat.le_trans hb1.size hb2.size)).trans (hst3.below (fun k hk => ?_) (Nat.le_trans hb1.size (Nat.le_trans hb2.size hbh.size))))
    rcases hk with hk | hk
    · exact hX k hk
    · rw [hk]; exact Nat.le_trans hb1.size ht1
  have hbytes : ∀ k, k < 14 → (pageOf S3.P 1)[k]? = (frB 1 0 [104, 105])[k]? := fun k hk => by
    rw [pageOf_get _ _ _ (by omega)]
    have := hts3.la.bytes k (by simp [tot]; omega)
    rw [this]
    simp [frs]
  have hpl : (pageOf S3.P 1).length = 256 := pageOf_length _ 3 _ hts3.d.len (by decide)
  have h14 : ((pageOf S3.P 1).drop 0).take 14 = frB 1 0 [104, 105] := by
    apply list_get_eq
    · rw [List.length_take, List.length_drop, hpl, frB_length]; rfl
    · intro k hk
      rw [frB_length] at hk
      have hk : k < 14 := hk
      rw [List.getElem?_take, if_pos hk, List.getElem?_drop, Nat.zero_add]
      exact hbytes k hk
  clear kc N12 N17 N26
  go_wp2_with (first | (go_at_call 30; refine N30.mono ?_; rintro e w9 ⟨rfl, hw9⟩; have hw9 := hw9.symm; subst hw9) | (go_at_call 31; refine N31.mono ?_; rintro e w5 ⟨rfl, hpg⟩))
  have hb5 : Below w.heap.size w w5 := hb13.trans (hpg.below.mono hb13.size)
  have hblk := hpg.block
  obtain ⟨fh, hfh⟩ : ∃ s : ByteArray, s = ⟨(frB 1 0 [104, 105]).toArray⟩ := ⟨_, rfl⟩
  have hcx : ∀ W' : World, W'.heap[w3.heap.size]? = some (.cells (byteCells (pageOf S3.P 1)).toArray 82 (0, 0)) → (convert 22 9 (.slice (some ⟨w3.heap.size, 0, none⟩) 14 256)).run Try.prog W' = .ok (.string fh) W' := fun W' hW' => by
    rw [hfh]
    apply convA
    have e14 : (frB 1 0 [104, 105]).length = 14 := by rw [frB_length]; rfl
    have := sl_range (c := 256) (range_cut hW' 0 14) (by rw [h14, e14]; decide)
    rw [h14, e14] at this
    exact this
  have hS : w5.drew.heap[w3.heap.size]? = some (.cells (byteCells (pageOf S3.P 1)).toArray 82 (0, 0)) := hblk
  refine wp_region_held (S := fun W' => W'.heap[w3.heap.size]? = some (.cells (byteCells (pageOf S3.P 1)).toArray 82 (0, 0))) hmix ?_
  show wpAnyH _ _ _ _ _ _ _ _ w5.drew
  refine wpAnyH_take (i := 0) (v := .int .i64 0) rfl (by kernel_rfl) (by kernel_rfl) (by kernel_rfl) (fun _ _ _ h => h) (.inl ⟨by rfl, fun W' hW' => ?_⟩) hS ?_
  · have hcv := hcx W' hW'
    clear hW'
    go_simp
  simp only [Act.put, List.getElem_toArray, List.getElem_cons_succ, List.getElem_cons_zero, List.setIfInBounds_toArray, List.set_cons_succ, List.set_cons_zero]
  refine wpAnyH_take (i := 1) (v := .bool true) rfl (by kernel_rfl) (by kernel_rfl) (by kernel_rfl) (fun _ _ _ h => h) (.inl ⟨by rfl, fun W' hW' => ?_⟩) hS ?_
  · have hcv := hcx W' hW'
    clear hW'
    go_simp
  simp only [Act.put, List.getElem_toArray, List.getElem_cons_succ, List.getElem_cons_zero, List.setIfInBounds_toArray, List.set_cons_succ, List.set_cons_zero]
  refine wpAnyH_take (i := 2) (v := .bool true) rfl (by kernel_rfl) (by kernel_rfl) (by kernel_rfl) (fun _ _ _ h => h) (.inl ⟨by rfl, fun W' hW' => ?_⟩) hS ?_
  · have hcv := hcx W' hW'
    clear hW'
    go_simp
  simp only [Act.put, List.getElem_toArray, List.getElem_cons_succ, List.getElem_cons_zero, List.setIfInBounds_toArray, List.set_cons_succ, List.set_cons_zero]
  refine wpAnyH_take (i := 3) (v := .slice (some ⟨w3.heap.size, 0, none⟩) 256 256) rfl (by kernel_rfl) (by kernel_rfl) (by kernel_rfl) (fun _ _ _ h => h) (.inl ⟨by rfl, fun W' hW' => ?_⟩) hS ?_
  · have hcv := hcx W' hW'
    clear hW'
    go_simp
  simp only [Act.put, List.getElem_toArray, List.getElem_cons_succ, List.getElem_cons_zero, List.setIfInBounds_toArray, List.set_cons_succ, List.set_cons_zero]
  refine wpAnyH_take (i := 4) (v := .int .i64 256) rfl (by kernel_rfl) (by kernel_rfl) (by kernel_rfl) (fun _ _ _ h => h) (.inl ⟨by rfl, fun W' hW' => ?_⟩) hS ?_
  · have hcv := hcx W' hW'
    clear hW'
    go_simp
  simp only [Act.put, List.getElem_toArray, List.getElem_cons_succ, List.getElem_cons_zero, List.setIfInBounds_toArray, List.set_cons_succ, List.set_cons_zero]
  refine wpAnyH_take (i := 5) (v := .bool true) rfl (by kernel_rfl) (by kernel_rfl) (by kernel_rfl) (fun _ _ _ h => h) (.inl ⟨by rfl, fun W' hW' => ?_⟩) hS ?_
  · have hcv := hcx W' hW'
    clear hW'
    go_simp
  simp only [Act.put, List.getElem_toArray, List.getElem_cons_succ, List.getElem_cons_zero, List.setIfInBounds_toArray, List.set_cons_succ, List.set_cons_zero]
  refine wpAnyH_take (i := 6) (v := .bool true) rfl (by kernel_rfl) (by kernel_rfl) (by kernel_rfl) (fun _ _ _ h => h) (.inl ⟨by rfl, fun W' hW' => ?_⟩) hS ?_
  · have hcv := hcx W' hW'
    clear hW'
    go_simp
  simp only [Act.put, List.getElem_toArray, List.getElem_cons_succ, List.getElem_cons_zero, List.setIfInBounds_toArray, List.set_cons_succ, List.set_cons_zero]
  refine wpAnyH_take (i := 7) (v := .bool true) rfl (by kernel_rfl) (by kernel_rfl) (by kernel_rfl) (fun _ _ _ h => h) (.inl ⟨by rfl, fun W' hW' => ?_⟩) hS ?_
  · have hcv := hcx W' hW'
    clear hW'
    go_simp
  simp only [Act.put, List.getElem_toArray, List.getElem_cons_succ, List.getElem_cons_zero, List.setIfInBounds_toArray, List.set_cons_succ, List.set_cons_zero]
  refine wpAnyH_take (i := 8) (v := .slice (some ⟨w3.heap.size, 0, none⟩) 256 256) rfl (by kernel_rfl) (by kernel_rfl) (by kernel_rfl) (fun _ _ _ h => h) (.inl ⟨by rfl, fun W' hW' => ?_⟩) hS ?_
  · have hcv := hcx W' hW'
    clear hW'
    go_simp
  simp only [Act.put, List.getElem_toArray, List.getElem_cons_succ, List.getElem_cons_zero, List.setIfInBounds_toArray, List.set_cons_succ, List.set_cons_zero]
  refine wpAnyH_take (i := 9) (v := .slice (some ⟨w3.heap.size, 0, none⟩) 14 256) rfl (by kernel_rfl) (by kernel_rfl) (by kernel_rfl) (fun _ _ _ h => h) (.inl ⟨by rfl, fun W' hW' => ?_⟩) hS ?_
  · have hcv := hcx W' hW'
    clear hW'
    go_simp
  simp only [Act.put, List.getElem_toArray, List.getElem_cons_succ, List.getElem_cons_zero, List.setIfInBounds_toArray, List.set_cons_succ, List.set_cons_zero]
  refine wpAnyH_take (i := 10) (v := .string fh) rfl (by kernel_rfl) (by kernel_rfl) (by kernel_rfl) (fun _ _ _ h => h) (.inl ⟨by rfl, fun W' hW' => ?_⟩) hS ?_
  · have hcv := hcx W' hW'
    clear hW'
    go_simp
  simp only [Act.put, List.getElem_toArray, List.getElem_cons_succ, List.getElem_cons_zero, List.setIfInBounds_toArray, List.set_cons_succ, List.set_cons_zero]
  have hk12 : (convert 22 22 (.slice (some ⟨w5.heap.size, 0, none⟩) 2 2)).run Try.prog (w5.alloc (.cells #[.int .u8 104, .int .u8 105] 5)).drew = .ok (.slice (some ⟨w5.heap.size, 0, none⟩) 2 2) (w5.alloc (.cells #[.int .u8 104, .int .u8 105] 5 (2, 3))).drew :=
    Lib.run_convert_bytes_const (P := Try.prog) w5.drew 22 5 #[.int .u8 104, .int .u8 105] 2 2 Try.underlying22 Try.underlying5
  have hlt5 : w3.heap.size < w5.heap.size := (Array.getElem?_eq_some_iff.1 hblk).1
  have hba : ∀ fr, (w5.alloc (.cells #[.int .u8 104, .int .u8 105] 5 fr)).drew.heap[w3.heap.size]? = some (.cells (byteCells (pageOf S3.P 1)).toArray 82 (0, 0)) := fun fr => (Below.heap_alloc w5 (.cells #[.int .u8 104, .int .u8 105] 5 fr) w3.heap.size hlt5).trans hblk
  refine wpAnyH_one (i := 11) (by kernel_rfl) rfl (by rfl) (fun K hK => ?_)
  go_simp
  refine hK _ _ (hba _) ?_
  clear hK K
  refine wpAnyH_one (i := 12) (by kernel_rfl) rfl (by rfl) (fun K hK => ?_)
  go_simp
  obtain ⟨w6, hw6⟩ : ∃ w6, w6 = (w5.alloc (.cells #[.int .u8 104, .int .u8 105] 5 (2, 3))).drew := ⟨_, rfl⟩
  have hrd6 : Sl.RdA w6 (.slice (some ⟨w5.heap.size, 0, none⟩) 2 2) [104, 105] := by rw [hw6]; exact hi_rd w5.drew
  have hS6 : w6.heap[w3.heap.size]? = some (.cells (byteCells (pageOf S3.P 1)).toArray 82 (0, 0)) := by rw [hw6]; exact hba _
  have hb6 : Below w.heap.size w w6 := by
    rw [hw6]
    exact (hb5.trans ((Below.refl w.heap.size w5).alloc hb5.size _)).trans ⟨rfl, rfl, rfl, Nat.le_refl _, fun _ _ => rfl⟩
  rw [← hw6]
  clear hw6 hk12
  refine hK _ _ hS6 ?_
  clear hK K
  have N32 := frame_any w6 1 0 _ [104, 105] hrd6 (by decide)
  refine wpAnyH_one (i := 13) (by kernel_rfl) rfl (by rfl) (fun K hK => ?_)
  go_simp
  refine N32.mono ?_
  rintro e w7 ⟨v7, rfl, ho7, hb7⟩
  have hS7 : w7.heap[w3.heap.size]? = some (.cells (byteCells (pageOf S3.P 1)).toArray 82 (0, 0)) := (hb7.block _ (Array.getElem?_eq_some_iff.1 hS6).1).trans hS6
  have hcv7 : (convert 22 9 v7).run Try.prog w7 = .ok (.string fh) w7 := by rw [hfh]; exact convA (.inl (Sl.Own.rd ho7))
  have hb07 : Below w.heap.size w w7 := hb6.trans (hb7.mono hb6.size)
  show K _ _
  refine hK _ _ hS7 ?_
  clear hK K
  refine wpAnyH_one (i := 14) (by kernel_rfl) rfl (by rfl) (fun K hK => ?_)
  go_simp
  refine hK _ _ hS7 ?_
  clear hK K
  have hS := hS7
  refine wpAnyH_take (i := 15) (v := .bool true) rfl (by kernel_rfl) (by kernel_rfl) (by kernel_rfl) (fun _ _ _ h => h) (.inl ⟨by rfl, fun W' hW' => ?_⟩) hS ?_
  · have hcv := hcx W' hW'
    clear hW'
    go_simp
  simp only [Act.put, List.getElem_toArray, List.getElem_cons_succ, List.getElem_cons_zero, List.setIfInBounds_toArray, List.set_cons_succ, List.set_cons_zero]
  refine wpAnyH_take (i := 16) (v := .bool true) rfl (by kernel_rfl) (by kernel_rfl) (by kernel_rfl) (fun _ _ _ h => h) (.inl ⟨by rfl, fun W' hW' => ?_⟩) hS ?_
  · have hcv := hcx W' hW'
    clear hW'
    go_simp
  simp only [Act.put, List.getElem_toArray, List.getElem_cons_succ, List.getElem_cons_zero, List.setIfInBounds_toArray, List.set_cons_succ, List.set_cons_zero]
  refine wpAnyH_take (i := 17) (v := .bool true) rfl (by kernel_rfl) (by kernel_rfl) (by kernel_rfl) (fun _ _ _ h => h) (.inl ⟨by rfl, fun W' hW' => ?_⟩) hS ?_
  · have hcv := hcx W' hW'
    clear hW'
    go_simp
  simp only [Act.put, List.getElem_toArray, List.getElem_cons_succ, List.getElem_cons_zero, List.setIfInBounds_toArray, List.set_cons_succ, List.set_cons_zero]
  refine wpAnyH_done (by kernel_rfl) ?_ _
  go_wp2
  go_ret
  exact ⟨rfl, hb07⟩
end Go.Proofs.Ytpbpcefcnkfbpaa
