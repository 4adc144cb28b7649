/- The document's Frame; the law's wakes. -/
import Derived.Test.YthgkkmcpmhfehaaPo
import Derived.Lib.SlBytesConst
namespace Go.Proofs.Ythgkkmcpmhfehaa
open Go.RowKit Go.Lib Go.Shelf
set_option maxRecDepth 100000
set_option linter.unusedSimpArgs false

set_option maxHeartbeats 2000000 in
theorem sframe_any (w : World) (v : Value) (r : List UInt8) (h : Sl.RdA w v r) (hl : r.length ≤ 1048576) :
    Calls Try.prog 33 #[v] w fun e w' => ∃ v', e = .returned v' ∧ Sl.Own w' w.heap.size v' (snB r) ∧ Below w.heap.size w w' := by
  obtain ⟨a, k, rfl⟩ := h.len
  have HR : Hid _ := h
  clear h
  have d0 : ((r.length : Nat) : Int).tdiv 16777216 = (r.length : Int) / 16777216 := Int.tdiv_eq_ediv_of_nonneg (by omega)
  have d1 : ((r.length : Nat) : Int).tdiv 65536 = (r.length : Int) / 65536 := Int.tdiv_eq_ediv_of_nonneg (by omega)
  have d2 : ((r.length : Nat) : Int).tdiv 256 = (r.length : Int) / 256 := Int.tdiv_eq_ediv_of_nonneg (by omega)
  have d3 : ((r.length : Int) / 256).tmod 256 = (r.length : Int) / 256 % 256 := Int.tmod_eq_emod_of_nonneg (by omega)
  have d5 : ((r.length : Int) / 65536).tmod 256 = (r.length : Int) / 65536 := by rw [Int.tmod_eq_emod_of_nonneg (by omega)]; omega
  have d4 : ((r.length : Nat) : Int).tmod 256 = (r.length : Int) % 256 := Int.tmod_eq_emod_of_nonneg (by omega)
  go_enter Try.func33, Try.ntmps33
  go_wp2_with fail
  rw [head4_cells r.length hl]
  have hb1 : Below w.heap.size w (w.alloc (.cells (byteCells (be4 r.length)).toArray 5)) := (Below.refl _ _).alloc (Nat.le_refl _) _
  have hh1 : (w.alloc (.cells (byteCells (be4 r.length)).toArray 5)).heap[w.heap.size]? = some (.cells (byteCells (be4 r.length)).toArray 5 (0, 0)) := heap_alloc_new w _
  generalize w.alloc (.cells (byteCells (be4 r.length)).toArray 5) = w1 at hb1 hh1 ⊢
  have hr1 : Sl.RdA w1 (.slice a r.length k) r := Sl.RdA.on HR.out hb1
  have h4 : Sl.RdA w1 (.slice (some ⟨w.heap.size, 0, none⟩) 4 4) (be4 r.length) := by
    have := sl_range (c := 4) (range_cut hh1 0 4) (by simp [be4])
    simpa [be4] using this
  have N1 := Sl.refof_any w1 r.length _ r hr1 (by omega)
  change Calls Try.prog 57 _ w1 (fun e w' => e = .returned (.int .u64 (sumS r : Nat)) ∧ w' = w1) at N1
  have N2 := Sl.refput_any w1 _ (be4 r.length) (sumS r) (sumS_lt r) h4 (by simp [be4])
  have hfr : Hid (snB r = be4 r.length ++ Sl.be8 (sumS r) ++ r) := rfl
  have hl8 : (be4 r.length ++ Sl.be8 (sumS r)).length = 12 := by simp [be4, Sl.be8]
  generalize sumS r = A at *
  generalize be4 r.length ++ Sl.be8 A = L at *
  refine N1.mono ?_
  rintro e w2 ⟨rfl, hw2⟩
  have hw2 := hw2.symm
  subst hw2
  go_wp2_with fail
  refine N2.mono ?_
  rintro e w3 ⟨v', rfl, ho, hb⟩
  have hr3 := hr1.on hb
  have hle : w.heap.size ≤ w3.heap.size := Nat.le_trans hb1.size hb.size
  go_wp2_with (at_builtin; refine Sl.appB rfl (.tmp 26) (.tmp 27) rfl w.heap.size _ _ L r w3 rfl (ownsRow_base ho hb1.size) rfl hr3 (by omega) hle ?_)
  intro v4 w4 ho4 hb4
  go_wp2
  go_ret
  exact ⟨v4, rfl, by rw [hfr.out]; exact ho4, (hb1.trans (hb.mono hb1.size)).trans hb4⟩

theorem zero_pp (n : Nat) (hn : 5 ≤ n) : PP (List.replicate (n * 256) 0) n 0 [] [] := by
  have hs : 2 ≤ spanN n := by unfold spanN; omega
  have hf : firstN n 0 = 1 := by simp [firstN]
  have hsn : spanN n + 1 ≤ n := by unfold spanN; omega
  have ht0 : takesN ([] : List UInt8).length = 1 := rfl
  refine ⟨by omega, by rw [List.getElem?_replicate, if_pos (by omega)]; rfl, .inl ⟨rfl, ?_⟩, by rw [ht0]; omega, Laid.nil _ _ _ ?_ ?_, by decide⟩
  · unfold cutB
    rw [List.drop_replicate, List.take_replicate, Nat.min_eq_left (by rw [hf]; omega)]
  · rw [hf, ht0, List.length_replicate]; omega
  · rw [hf, ht0, List.getElem?_replicate, if_pos (by omega)]
theorem hi_rd (w : World) : Sl.RdA (w.alloc (.cells #[.int .u8 104, .int .u8 105] 5 (2, 3))) (.slice (some ⟨w.heap.size, 0, none⟩) 2 2) [104, 105] := by
  have hg : (w.alloc (.cells #[.int .u8 104, .int .u8 105] 5 (2, 3))).heap[w.heap.size]? = some (.cells (byteCells [104, 105]).toArray 5 (2, 3)) := heap_alloc_new w _
  exact sl_range (l := [104, 105]) (c := 2) (range_of_block hg) (by decide)

/-- A new drum, and a pair opened on it. -/
theorem new_open (w : World) (n : Nat) (hn : 5 ≤ n) (hn2 : n ≤ 4096) :
    Calls Try.prog 10 #[.int .i64 n] w fun e w' => ∃ X q S, e = .returned (.pointer (some ⟨q, 0, none⟩)) ∧ Drum w' X q n S ∧ PP S.P n 0 [] [] ∧ S.W = [] ∧ S.ops = 0 ∧ S.armed = 0 ∧ S.down = false ∧ Below w.heap.size w w' ∧ ∀ k, X k → w.heap.size ≤ k := by
  refine (new_ts w n (by omega) hn2).mono ?_
  rintro e w' ⟨X, q, S, rfl, h1, h2, h3, h4, h5, h6, h7, h8⟩
  exact ⟨X, q, S, rfl, h1, by rw [h2]; exact zero_pp n hn, h3, h4, h5, h6, h7, h8⟩

set_option maxHeartbeats 4000000 in
theorem wakes_any (w : World) : Calls Try.prog 8 #[] w fun e w' => e = .returned (.bool true) ∧ Below w.heap.size w w' := by
  have hmix : Try.prog.follows .mixedOrders = true := by kernel_rfl
  have N10 := new_open w 9 (by decide) (by decide)
  have kc := fun (w : World) (C : Array Value) (n c : Nat) => Lib.run_convert_bytes_const (P := Try.prog) w 30 5 C n c Try.underlying30 Try.underlying5
  go_enter Try.func8, Try.ntmps8
  go_wp2_with (go_at_call 10; refine N10.mono ?_; rintro e w1 ⟨X, q, S, rfl, hdr, hpp, hW0, hops, har, hdn, hb1, hX⟩)
  have N12 := popen_any w1 X q 9 S hdn hW0 hdr (by decide) 0 [] [] (by decide) hpp
  refine N12.mono ?_
  rintro e w2 ⟨hb2, v1, v2, p, t, rfl, hp2, ht2, hsv, hrec, hps⟩
  obtain ⟨sa, sc, rfl⟩ := hsv.shape
  obtain ⟨ra, rc, rfl⟩ := hrec.shape
  have hbh : Below w2.heap.size w2 (w2.alloc (.cells #[.int .u8 104, .int .u8 105] 5 (2, 3))) := (Below.refl _ _).alloc (Nat.le_refl _) _
  have N16 := save_ps _ X p t q 9 S 0 [] [] (hps.below hbh) (by omega) [104, 105] _ (hi_rd w2) (by decide) (by decide)
  clear hsv hrec
  go_wp2_with fail
  refine N16.mono ?_
  rintro e w3 ⟨X3, S3, hd3, hst3, hX3, hw3, _, ⟨rfl, ⟨t3, ht3, hps3⟩, hop3, har3, hkeep3⟩ | ⟨_, hne, _⟩⟩
  rotate_left
  · exact absurd har hne
  have hop5 : (S3.ops : Int) = 5 := by rw [hop3, hops]; rfl
  have hb03 : Below w.heap.size w w3 := by
    refine (hb1.trans (hb2.mono hb1.size)).trans ((hbh.mono (Nat.le_trans hb1.size hb2.size)).trans (hst3.below (fun k hk => ?_) (Nat.le_trans hb1.size (Nat.le_trans hb2.size hbh.size))))
    rcases hk with hk | hk
    · exact hX k hk
    · rw [hk]; exact Nat.le_trans hb1.size hp2
  have N31 := ops_any w3 X3 q 9 S3 hd3
  rw [hop5] at N31
  have hmk : (Instr.makeSlice 30 (.int .i64 757) (.int .i64 757)).run Try.prog w3 = .ok (.slice (some ⟨w3.heap.size, 0, none⟩) 757 757) (w3.alloc (.cells (byteCells (List.replicate 757 0)).toArray 5)) := makeB w3 757 757 (by decide) (by decide)
  have hb4 : Below w3.heap.size w3 (w3.alloc (.cells (byteCells (List.replicate 757 0)).toArray 5)) := (Below.refl _ _).alloc (Nat.le_refl _) _
  generalize hw4 : w3.alloc (.cells (byteCells (List.replicate 757 0)).toArray 5) = w4 at *
  have hps4 := hps3.below hb4
  have N16b := save_long w4 X3 p q 9 S3 1 _ 0 hps4.d hps4.pr (by decide) (List.replicate 757 0) (some ⟨w3.heap.size, 0, none⟩) 757 (by rw [List.length_replicate]; decide) (by rw [List.length_replicate]; decide)
  rw [List.length_replicate] at N16b
  clear N16 N12 N10 hw4
  go_wp2_with (first | (go_at_call 31; refine N31.mono ?_; rintro e w9 ⟨rfl, hw9⟩; have hw9 := hw9.symm; subst hw9) | (go_at_call 16; refine N16b.mono ?_; rintro e w5 ⟨rfl, hb5⟩))
  have hps5 := hps4.below hb5
  have N12 := popen_any w5 X3 q 9 S3 hps5.dn hps5.wz hps5.d (by decide) 1 [104, 105] [] (by decide) hps5.pp
  refine N12.mono ?_
  rintro e w6 ⟨hb6, v1, v2, p6, t6, rfl, hp6, ht6, hsv, hrec, hps6⟩
  have hrd6 := hsv.rd
  obtain ⟨sa6, sc6, rfl⟩ := hsv.shape
  obtain ⟨ra6, rc6, rfl⟩ := hrec.shape
  have N32 := read0 w6 X3 q 9 S3 5 (by decide) hps5.dn hps6.d
  clear hsv hrec N31 N16b N12
  go_wp2_with (go_at_call 32; refine N32.mono ?_; rintro e w7 ⟨rfl, hpg⟩)
  have h14 : ((pageOf S3.P 5).drop 0).take 14 = snB [104, 105] := by
    rcases hps6.pp.sn with ⟨h0, _⟩ | h0
    · cases h0
    · rw [List.drop_zero, ← cutB_page _ _ _ (by decide)]; exact h0
  have hb05 : Below w.heap.size w w6 := (hb03.trans (hb4.mono hb03.size)).trans ((hb5.mono (Nat.le_trans hb03.size hb4.size)).trans (hb6.mono (Nat.le_trans hb03.size (Nat.le_trans hb4.size hb5.size))))
  have hb07 : Below w.heap.size w w7 := hb05.trans (hpg.below.mono hb05.size)
  have hblk := hpg.block
  have hrd7 : Sl.RdA w7 (.slice sa6 2 sc6) [104, 105] := Sl.RdA.on hrd6 hpg.below
  obtain ⟨fh, hfh⟩ : ∃ s : ByteArray, s = ⟨(snB [104, 105]).toArray⟩ := ⟨_, rfl⟩
  have hcx : ∀ W' : World, W'.heap[w6.heap.size]? = some (.cells (byteCells (pageOf S3.P 5)).toArray 85 (0, 0)) → (convert 30 9 (.slice (some ⟨w6.heap.size, 0, none⟩) 14 256)).run Try.prog W' = .ok (.string fh) W' := fun W' hW' => by
    rw [hfh]
    apply convA
    have e14 : (snB [104, 105]).length = 14 := by rw [snB_length]; rfl
    have := sl_range (c := 256) (range_cut hW' 0 14) (by rw [h14, e14]; decide)
    rw [h14, e14] at this
    exact this
  have hcx2 : ∀ W' : World, Sl.RdA W' (.slice sa6 2 sc6) [104, 105] → (convert 30 9 (.slice sa6 2 sc6)).run Try.prog W' = .ok (.string ⟨#[104, 105]⟩) W' := fun W' hW' => convA hW'
  have hS : w7.drew.heap[w6.heap.size]? = some (.cells (byteCells (pageOf S3.P 5)).toArray 85 (0, 0)) ∧ Sl.RdA w7.drew (.slice sa6 2 sc6) [104, 105] := ⟨hblk, hrd7⟩
  refine wp_region_held (S := fun W' => W'.heap[w6.heap.size]? = some (.cells (byteCells (pageOf S3.P 5)).toArray 85 (0, 0)) ∧ Sl.RdA W' (.slice sa6 2 sc6) [104, 105]) hmix ?_
  show wpAnyH _ _ _ _ _ _ _ _ w7.drew
  clear hrd6 N32 kc
  refine wpAnyH_take (i := 0) (v := .int .i64 0) rfl (by kernel_rfl) (by kernel_rfl) (by kernel_rfl) (fun _ _ _ h => h) (.inl ⟨by rfl, fun W' hW' => ?_⟩) hS ?_
  · obtain ⟨q1, q2⟩ := hW'
    have hcv := hcx W' q1
    have hcv2 := hcx2 W' q2
    clear q1 q2
    go_simp
  simp only [Act.put, List.getElem_toArray, List.getElem_cons_succ, List.getElem_cons_zero, List.setIfInBounds_toArray, List.set_cons_succ, List.set_cons_zero]
  refine wpAnyH_take (i := 1) (v := .bool true) rfl (by kernel_rfl) (by kernel_rfl) (by kernel_rfl) (fun _ _ _ h => h) (.inl ⟨by rfl, fun W' hW' => ?_⟩) hS ?_
  · obtain ⟨q1, q2⟩ := hW'
    have hcv := hcx W' q1
    have hcv2 := hcx2 W' q2
    clear q1 q2
    go_simp
  simp only [Act.put, List.getElem_toArray, List.getElem_cons_succ, List.getElem_cons_zero, List.setIfInBounds_toArray, List.set_cons_succ, List.set_cons_zero]
  refine wpAnyH_take (i := 2) (v := .bool true) rfl (by kernel_rfl) (by kernel_rfl) (by kernel_rfl) (fun _ _ _ h => h) (.inl ⟨by rfl, fun W' hW' => ?_⟩) hS ?_
  · obtain ⟨q1, q2⟩ := hW'
    have hcv := hcx W' q1
    have hcv2 := hcx2 W' q2
    clear q1 q2
    go_simp
  simp only [Act.put, List.getElem_toArray, List.getElem_cons_succ, List.getElem_cons_zero, List.setIfInBounds_toArray, List.set_cons_succ, List.set_cons_zero]
  refine wpAnyH_take (i := 3) (v := .int .i64 0) rfl (by kernel_rfl) (by kernel_rfl) (by kernel_rfl) (fun _ _ _ h => h) (.inl ⟨by rfl, fun W' hW' => ?_⟩) hS ?_
  · obtain ⟨q1, q2⟩ := hW'
    have hcv := hcx W' q1
    have hcv2 := hcx2 W' q2
    clear q1 q2
    go_simp
  simp only [Act.put, List.getElem_toArray, List.getElem_cons_succ, List.getElem_cons_zero, List.setIfInBounds_toArray, List.set_cons_succ, List.set_cons_zero]
  refine wpAnyH_take (i := 4) (v := .bool true) rfl (by kernel_rfl) (by kernel_rfl) (by kernel_rfl) (fun _ _ _ h => h) (.inl ⟨by rfl, fun W' hW' => ?_⟩) hS ?_
  · obtain ⟨q1, q2⟩ := hW'
    have hcv := hcx W' q1
    have hcv2 := hcx2 W' q2
    clear q1 q2
    go_simp
  simp only [Act.put, List.getElem_toArray, List.getElem_cons_succ, List.getElem_cons_zero, List.setIfInBounds_toArray, List.set_cons_succ, List.set_cons_zero]
  refine wpAnyH_take (i := 5) (v := .bool true) rfl (by kernel_rfl) (by kernel_rfl) (by kernel_rfl) (fun _ _ _ h => h) (.inl ⟨by rfl, fun W' hW' => ?_⟩) hS ?_
  · obtain ⟨q1, q2⟩ := hW'
    have hcv := hcx W' q1
    have hcv2 := hcx2 W' q2
    clear q1 q2
    go_simp
  simp only [Act.put, List.getElem_toArray, List.getElem_cons_succ, List.getElem_cons_zero, List.setIfInBounds_toArray, List.set_cons_succ, List.set_cons_zero]
  refine wpAnyH_take (i := 6) (v := .bool true) rfl (by kernel_rfl) (by kernel_rfl) (by kernel_rfl) (fun _ _ _ h => h) (.inl ⟨by rfl, fun W' hW' => ?_⟩) hS ?_
  · obtain ⟨q1, q2⟩ := hW'
    have hcv := hcx W' q1
    have hcv2 := hcx2 W' q2
    clear q1 q2
    go_simp
  simp only [Act.put, List.getElem_toArray, List.getElem_cons_succ, List.getElem_cons_zero, List.setIfInBounds_toArray, List.set_cons_succ, List.set_cons_zero]
  refine wpAnyH_take (i := 7) (v := .slice sa6 2 sc6) rfl (by kernel_rfl) (by kernel_rfl) (by kernel_rfl) (fun _ _ _ h => h) (.inl ⟨by rfl, fun W' hW' => ?_⟩) hS ?_
  · obtain ⟨q1, q2⟩ := hW'
    have hcv := hcx W' q1
    have hcv2 := hcx2 W' q2
    clear q1 q2
    go_simp
  simp only [Act.put, List.getElem_toArray, List.getElem_cons_succ, List.getElem_cons_zero, List.setIfInBounds_toArray, List.set_cons_succ, List.set_cons_zero]
  refine wpAnyH_take (i := 8) (v := .string ⟨#[104, 105]⟩) rfl (by kernel_rfl) (by kernel_rfl) (by kernel_rfl) (fun _ _ _ h => h) (.inl ⟨by rfl, fun W' hW' => ?_⟩) hS ?_
  · obtain ⟨q1, q2⟩ := hW'
    have hcv := hcx W' q1
    have hcv2 := hcx2 W' q2
    clear q1 q2
    go_simp
  simp only [Act.put, List.getElem_toArray, List.getElem_cons_succ, List.getElem_cons_zero, List.setIfInBounds_toArray, List.set_cons_succ, List.set_cons_zero]
  refine wpAnyH_take (i := 9) (v := .bool true) rfl (by kernel_rfl) (by kernel_rfl) (by kernel_rfl) (fun _ _ _ h => h) (.inl ⟨by rfl, fun W' hW' => ?_⟩) hS ?_
  · obtain ⟨q1, q2⟩ := hW'
    have hcv := hcx W' q1
    have hcv2 := hcx2 W' q2
    clear q1 q2
    go_simp
  simp only [Act.put, List.getElem_toArray, List.getElem_cons_succ, List.getElem_cons_zero, List.setIfInBounds_toArray, List.set_cons_succ, List.set_cons_zero]
  refine wpAnyH_take (i := 10) (v := .bool true) rfl (by kernel_rfl) (by kernel_rfl) (by kernel_rfl) (fun _ _ _ h => h) (.inl ⟨by rfl, fun W' hW' => ?_⟩) hS ?_
  · obtain ⟨q1, q2⟩ := hW'
    have hcv := hcx W' q1
    have hcv2 := hcx2 W' q2
    clear q1 q2
    go_simp
  simp only [Act.put, List.getElem_toArray, List.getElem_cons_succ, List.getElem_cons_zero, List.setIfInBounds_toArray, List.set_cons_succ, List.set_cons_zero]
  refine wpAnyH_take (i := 11) (v := .bool true) rfl (by kernel_rfl) (by kernel_rfl) (by kernel_rfl) (fun _ _ _ h => h) (.inl ⟨by rfl, fun W' hW' => ?_⟩) hS ?_
  · obtain ⟨q1, q2⟩ := hW'
    have hcv := hcx W' q1
    have hcv2 := hcx2 W' q2
    clear q1 q2
    go_simp
  simp only [Act.put, List.getElem_toArray, List.getElem_cons_succ, List.getElem_cons_zero, List.setIfInBounds_toArray, List.set_cons_succ, List.set_cons_zero]
  refine wpAnyH_take (i := 12) (v := .slice ra6 0 rc6) rfl (by kernel_rfl) (by kernel_rfl) (by kernel_rfl) (fun _ _ _ h => h) (.inl ⟨by rfl, fun W' hW' => ?_⟩) hS ?_
  · obtain ⟨q1, q2⟩ := hW'
    have hcv := hcx W' q1
    have hcv2 := hcx2 W' q2
    clear q1 q2
    go_simp
  simp only [Act.put, List.getElem_toArray, List.getElem_cons_succ, List.getElem_cons_zero, List.setIfInBounds_toArray, List.set_cons_succ, List.set_cons_zero]
  refine wpAnyH_take (i := 13) (v := .int .i64 0) rfl (by kernel_rfl) (by kernel_rfl) (by kernel_rfl) (fun _ _ _ h => h) (.inl ⟨by rfl, fun W' hW' => ?_⟩) hS ?_
  · obtain ⟨q1, q2⟩ := hW'
    have hcv := hcx W' q1
    have hcv2 := hcx2 W' q2
    clear q1 q2
    go_simp
  simp only [Act.put, List.getElem_toArray, List.getElem_cons_succ, List.getElem_cons_zero, List.setIfInBounds_toArray, List.set_cons_succ, List.set_cons_zero]
  refine wpAnyH_take (i := 14) (v := .bool true) rfl (by kernel_rfl) (by kernel_rfl) (by kernel_rfl) (fun _ _ _ h => h) (.inl ⟨by rfl, fun W' hW' => ?_⟩) hS ?_
  · obtain ⟨q1, q2⟩ := hW'
    have hcv := hcx W' q1
    have hcv2 := hcx2 W' q2
    clear q1 q2
    go_simp
  simp only [Act.put, List.getElem_toArray, List.getElem_cons_succ, List.getElem_cons_zero, List.setIfInBounds_toArray, List.set_cons_succ, List.set_cons_zero]
  refine wpAnyH_take (i := 15) (v := .bool true) rfl (by kernel_rfl) (by kernel_rfl) (by kernel_rfl) (fun _ _ _ h => h) (.inl ⟨by rfl, fun W' hW' => ?_⟩) hS ?_
  · obtain ⟨q1, q2⟩ := hW'
    have hcv := hcx W' q1
    have hcv2 := hcx2 W' q2
    clear q1 q2
    go_simp
  simp only [Act.put, List.getElem_toArray, List.getElem_cons_succ, List.getElem_cons_zero, List.setIfInBounds_toArray, List.set_cons_succ, List.set_cons_zero]
  refine wpAnyH_take (i := 16) (v := .bool true) rfl (by kernel_rfl) (by kernel_rfl) (by kernel_rfl) (fun _ _ _ h => h) (.inl ⟨by rfl, fun W' hW' => ?_⟩) hS ?_
  · obtain ⟨q1, q2⟩ := hW'
    have hcv := hcx W' q1
    have hcv2 := hcx2 W' q2
    clear q1 q2
    go_simp
  simp only [Act.put, List.getElem_toArray, List.getElem_cons_succ, List.getElem_cons_zero, List.setIfInBounds_toArray, List.set_cons_succ, List.set_cons_zero]
  refine wpAnyH_take (i := 17) (v := .slice (some ⟨w6.heap.size, 0, none⟩) 256 256) rfl (by kernel_rfl) (by kernel_rfl) (by kernel_rfl) (fun _ _ _ h => h) (.inl ⟨by rfl, fun W' hW' => ?_⟩) hS ?_
  · obtain ⟨q1, q2⟩ := hW'
    have hcv := hcx W' q1
    have hcv2 := hcx2 W' q2
    clear q1 q2
    go_simp
  simp only [Act.put, List.getElem_toArray, List.getElem_cons_succ, List.getElem_cons_zero, List.setIfInBounds_toArray, List.set_cons_succ, List.set_cons_zero]
  refine wpAnyH_take (i := 18) (v := .slice (some ⟨w6.heap.size, 0, none⟩) 14 256) rfl (by kernel_rfl) (by kernel_rfl) (by kernel_rfl) (fun _ _ _ h => h) (.inl ⟨by rfl, fun W' hW' => ?_⟩) hS ?_
  · obtain ⟨q1, q2⟩ := hW'
    have hcv := hcx W' q1
    have hcv2 := hcx2 W' q2
    clear q1 q2
    go_simp
  simp only [Act.put, List.getElem_toArray, List.getElem_cons_succ, List.getElem_cons_zero, List.setIfInBounds_toArray, List.set_cons_succ, List.set_cons_zero]
  refine wpAnyH_take (i := 19) (v := .string fh) rfl (by kernel_rfl) (by kernel_rfl) (by kernel_rfl) (fun _ _ _ h => h) (.inl ⟨by rfl, fun W' hW' => ?_⟩) hS ?_
  · obtain ⟨q1, q2⟩ := hW'
    have hcv := hcx W' q1
    have hcv2 := hcx2 W' q2
    clear q1 q2
    go_simp
  simp only [Act.put, List.getElem_toArray, List.getElem_cons_succ, List.getElem_cons_zero, List.setIfInBounds_toArray, List.set_cons_succ, List.set_cons_zero]
  have hk12 : (convert 30 30 (.slice (some ⟨w7.heap.size, 0, none⟩) 2 2)).run Try.prog (w7.alloc (.cells #[.int .u8 104, .int .u8 105] 5)).drew = .ok (.slice (some ⟨w7.heap.size, 0, none⟩) 2 2) (w7.alloc (.cells #[.int .u8 104, .int .u8 105] 5 (2, 3))).drew :=
    Lib.run_convert_bytes_const (P := Try.prog) w7.drew 30 5 #[.int .u8 104, .int .u8 105] 2 2 Try.underlying30 Try.underlying5
  have hbal : ∀ fr, Below w7.heap.size w7 (w7.alloc (.cells #[.int .u8 104, .int .u8 105] 5 fr)).drew := fun fr => ((Below.refl _ w7).alloc (Nat.le_refl _) _).trans ⟨rfl, rfl, rfl, Nat.le_refl _, fun _ _ => rfl⟩
  have hba : ∀ (W' : World), Below w7.heap.size w7 W' → W'.heap[w6.heap.size]? = some (.cells (byteCells (pageOf S3.P 5)).toArray 85 (0, 0)) ∧ Sl.RdA W' (.slice sa6 2 sc6) [104, 105] := fun W' hW' => ⟨(hW'.block _ (Array.getElem?_eq_some_iff.1 hblk).1).trans hblk, Sl.RdA.on hrd7 hW'⟩
  refine wpAnyH_one (i := 20) (by kernel_rfl) rfl (by rfl) (fun K hK => ?_)
  go_simp
  refine hK _ _ (hba _ (hbal _)) ?_
  clear hK K
  refine wpAnyH_one (i := 21) (by kernel_rfl) rfl (by rfl) (fun K hK => ?_)
  go_simp
  obtain ⟨w8, hw8⟩ : ∃ w8, w8 = (w7.alloc (.cells #[.int .u8 104, .int .u8 105] 5 (2, 3))).drew := ⟨_, rfl⟩
  have hrd8 : Sl.RdA w8 (.slice (some ⟨w7.heap.size, 0, none⟩) 2 2) [104, 105] := by rw [hw8]; exact hi_rd w7.drew
  have hb8 : Below w7.heap.size w7 w8 := by rw [hw8]; exact hbal _
  rw [← hw8]
  clear hw8 hk12
  refine hK _ _ (hba _ hb8) ?_
  clear hK K
  have N33 := sframe_any w8 _ [104, 105] hrd8 (by decide)
  refine wpAnyH_one (i := 22) (by kernel_rfl) rfl (by rfl) (fun K hK => ?_)
  go_simp
  refine N33.mono ?_
  rintro e w9 ⟨v9, rfl, ho9, hb9⟩
  have hb79 : Below w7.heap.size w7 w9 := hb8.trans (hb9.mono hb8.size)
  have hcv9 : (convert 30 9 v9).run Try.prog w9 = .ok (.string fh) w9 := by rw [hfh]; exact convA (.inl (Sl.Own.rd ho9))
  show K _ _
  refine hK _ _ (hba _ hb79) ?_
  clear hK K
  refine wpAnyH_one (i := 23) (by kernel_rfl) rfl (by rfl) (fun K hK => ?_)
  go_simp
  refine hK _ _ (hba _ hb79) ?_
  clear hK K
  have hS := hba _ hb79
  refine wpAnyH_take (i := 24) (v := .bool true) rfl (by kernel_rfl) (by kernel_rfl) (by kernel_rfl) (fun _ _ _ h => h) (.inl ⟨by rfl, fun W' hW' => ?_⟩) hS ?_
  · obtain ⟨q1, q2⟩ := hW'
    have hcv := hcx W' q1
    have hcv2 := hcx2 W' q2
    clear q1 q2
    go_simp
  simp only [Act.put, List.getElem_toArray, List.getElem_cons_succ, List.getElem_cons_zero, List.setIfInBounds_toArray, List.set_cons_succ, List.set_cons_zero]
  refine wpAnyH_take (i := 25) (v := .bool true) rfl (by kernel_rfl) (by kernel_rfl) (by kernel_rfl) (fun _ _ _ h => h) (.inl ⟨by rfl, fun W' hW' => ?_⟩) hS ?_
  · obtain ⟨q1, q2⟩ := hW'
    have hcv := hcx W' q1
    have hcv2 := hcx2 W' q2
    clear q1 q2
    go_simp
  simp only [Act.put, List.getElem_toArray, List.getElem_cons_succ, List.getElem_cons_zero, List.setIfInBounds_toArray, List.set_cons_succ, List.set_cons_zero]
  refine wpAnyH_take (i := 26) (v := .bool true) rfl (by kernel_rfl) (by kernel_rfl) (by kernel_rfl) (fun _ _ _ h => h) (.inl ⟨by rfl, fun W' hW' => ?_⟩) hS ?_
  · obtain ⟨q1, q2⟩ := hW'
    have hcv := hcx W' q1
    have hcv2 := hcx2 W' q2
    clear q1 q2
    go_simp
  simp only [Act.put, List.getElem_toArray, List.getElem_cons_succ, List.getElem_cons_zero, List.setIfInBounds_toArray, List.set_cons_succ, List.set_cons_zero]
  refine wpAnyH_done (by kernel_rfl) ?_ _
  go_wp2
  go_ret
  exact ⟨rfl, hb07.trans (hb79.mono hb07.size)⟩
end Go.Proofs.Ythgkkmcpmhfehaa
