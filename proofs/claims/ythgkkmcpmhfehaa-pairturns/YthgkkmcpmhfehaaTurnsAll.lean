/- For every number of pages, every list of snapshots and every record, trivetlaw05.PairTurns answers true and leaves its arguments as they were, with no condition. -/
import Derived.Test.YthgkkmcpmhfehaaPo
import Derived.Lib.SlBytesConst
import Derived.Test.YthgkkmcpmhfehaaOd
namespace Go.Proofs.Ythgkkmcpmhfehaa
open Go.RowKit Go.Lib Go.Shelf
set_option maxRecDepth 100000
set_option linter.unusedSimpArgs false

set_option maxHeartbeats 2000000 in
theorem sframe_any (w : World) (v : Value) (r : List UInt8) (h : Sl.RdA w v r) (hl : r.length ≤ 1048576) :
    Calls Try.prog 33 #[v] w fun e w' => ∃ v', e = .returned v' ∧ Sl.Own w' w.heap.size v' (snB r) ∧ Below w.heap.size w w' := by
  obtain ⟨a, k, rfl⟩ := h.len
  have HR : Hid _ := h
  clear h
  have d0 : ((r.length : Nat) : Int).tdiv 16777216 = (r.length : Int) / 16777216 := Int.tdiv_eq_ediv_of_nonneg (by omega)
  have d1 : ((r.length : Nat) : Int).tdiv 65536 = (r.length : Int) / 65536 := Int.tdiv_eq_ediv_of_nonneg (by omega)
  have d2 : ((r.length : Nat) : Int).tdiv 256 = (r.length : Int) / 256 := Int.tdiv_eq_ediv_of_nonneg (by omega)
  have d3 : ((r.length : Int) / 256).tmod 256 = (r.length : Int) / 256 % 256 := Int.tmod_eq_emod_of_nonneg (by omega)
  have d5 : ((r.length : Int) / 65536).tmod 256 = (r.length : Int) / 65536 := by rw [Int.tmod_eq_emod_of_nonneg (by omega)]; omega
  have d4 : ((r.length : Nat) : Int).tmod 256 = (r.length : Int) % 256 := Int.tmod_eq_emod_of_nonneg (by omega)
  go_enter Try.func33, Try.ntmps33
  go_wp2_with fail
  rw [head4_cells r.length hl]
  have hb1 : Below w.heap.size w (w.alloc (.cells (byteCells (be4 r.length)).toArray 5)) := (Below.refl _ _).alloc (Nat.le_refl _) _
  have hh1 : (w.alloc (.cells (byteCells (be4 r.length)).toArray 5)).heap[w.heap.size]? = some (.cells (byteCells (be4 r.length)).toArray 5 (0, 0)) := heap_alloc_new w _
  generalize w.alloc (.cells (byteCells (be4 r.length)).toArray 5) = w1 at hb1 hh1 ⊢
  have hr1 : Sl.RdA w1 (.slice a r.length k) r := Sl.RdA.on HR.out hb1
  have h4 : Sl.RdA w1 (.slice (some ⟨w.heap.size, 0, none⟩) 4 4) (be4 r.length) := by
    have := sl_range (c := 4) (range_cut hh1 0 4) (by simp [be4])
    simpa [be4] using this
  have N1 := Sl.refof_any w1 r.length _ r hr1 (by omega)
  change Calls Try.prog 57 _ w1 (fun e w' => e = .returned (.int .u64 (sumS r : Nat)) ∧ w' = w1) at N1
  have N2 := Sl.refput_any w1 _ (be4 r.length) (sumS r) (sumS_lt r) h4 (by simp [be4])
  have hfr : Hid (snB r = be4 r.length ++ Sl.be8 (sumS r) ++ r) := rfl
  have hl8 : (be4 r.length ++ Sl.be8 (sumS r)).length = 12 := by simp [be4, Sl.be8]
  generalize sumS r = A at *
  generalize be4 r.length ++ Sl.be8 A = L at *
  refine N1.mono ?_
  rintro e w2 ⟨rfl, hw2⟩
  have hw2 := hw2.symm
  subst hw2
  go_wp2_with fail
  refine N2.mono ?_
  rintro e w3 ⟨v', rfl, ho, hb⟩
  have hr3 := hr1.on hb
  have hle : w.heap.size ≤ w3.heap.size := Nat.le_trans hb1.size hb.size
  go_wp2_with (at_builtin; refine Sl.appB rfl (.tmp 26) (.tmp 27) rfl w.heap.size _ _ L r w3 rfl (ownsRow_base ho hb1.size) rfl hr3 (by omega) hle ?_)
  intro v4 w4 ho4 hb4
  go_wp2
  go_ret
  exact ⟨v4, rfl, by rw [hfr.out]; exact ho4, (hb1.trans (hb.mono hb1.size)).trans hb4⟩

theorem zero_pp (n : Nat) (hn : 5 ≤ n) : PP (List.replicate (n * 256) 0) n 0 [] [] := by
  have hs : 2 ≤ spanN n := by unfold spanN; omega
  have hf : firstN n 0 = 1 := by simp [firstN]
  have hsn : spanN n + 1 ≤ n := by unfold spanN; omega
  have ht0 : takesN ([] : List UInt8).length = 1 := rfl
  refine ⟨by omega, by rw [List.getElem?_replicate, if_pos (by omega)]; rfl, .inl ⟨rfl, ?_⟩, by rw [ht0]; omega, Laid.nil _ _ _ ?_ ?_, by decide⟩
  · unfold cutB
    rw [List.drop_replicate, List.take_replicate, Nat.min_eq_left (by rw [hf]; omega)]
  · rw [hf, ht0, List.length_replicate]; omega
  · rw [hf, ht0, List.getElem?_replicate, if_pos (by omega)]
theorem hi_rd (w : World) : Sl.RdA (w.alloc (.cells #[.int .u8 104, .int .u8 105] 5 (2, 3))) (.slice (some ⟨w.heap.size, 0, none⟩) 2 2) [104, 105] := by
  have hg : (w.alloc (.cells #[.int .u8 104, .int .u8 105] 5 (2, 3))).heap[w.heap.size]? = some (.cells (byteCells [104, 105]).toArray 5 (2, 3)) := heap_alloc_new w _
  exact sl_range (l := [104, 105]) (c := 2) (range_of_block hg) (by decide)

/-- A new drum, and a pair opened on it. -/
theorem new_open (w : World) (n : Nat) (hn : 5 ≤ n) (hn2 : n ≤ 4096) :
    Calls Try.prog 10 #[.int .i64 n] w fun e w' => ∃ X q S, e = .returned (.pointer (some ⟨q, 0, none⟩)) ∧ Drum w' X q n S ∧ PP S.P n 0 [] [] ∧ S.W = [] ∧ S.ops = 0 ∧ S.armed = 0 ∧ S.down = false ∧ Below w.heap.size w w' ∧ ∀ k, X k → w.heap.size ≤ k := by
  refine (new_ts w n (by omega) hn2).mono ?_
  rintro e w' ⟨X, q, S, rfl, h1, h2, h3, h4, h5, h6, h7, h8⟩
  exact ⟨X, q, S, rfl, h1, by rw [h2]; exact zero_pp n hn, h3, h4, h5, h6, h7, h8⟩

set_option maxHeartbeats 4000000 in
theorem wakes_any (w : World) : Calls Try.prog 8 #[] w fun e w' => e = .returned (.bool true) ∧ Below w.heap.size w w' := by
  have hmix : Try.prog.follows .mixedOrders = true := by kernel_rfl
  have N10 := new_open w 9 (by decide) (by decide)
  have kc := fun (w : World) (C : Array Value) (n c : Nat) => Lib.run_convert_bytes_const (P := Try.prog) w 30 5 C n c Try.underlying30 Try.underlying5
  go_enter Try.func8, Try.ntmps8
  go_wp2_with (go_at_call 10; refine N10.mono ?_; rintro e w1 ⟨X, q, S, rfl, hdr, hpp, hW0, hops, har, hdn, hb1, hX⟩)
  have N12 := popen_any w1 X q 9 S hdn hW0 hdr (by decide) 0 [] [] (by decide) hpp
  refine N12.mono ?_
  rintro e w2 ⟨hb2, v1, v2, p, t, rfl, hp2, ht2, hsv, hrec, hps⟩
  obtain ⟨sa, sc, rfl⟩ := hsv.shape
  obtain ⟨ra, rc, rfl⟩ := hrec.shape
  have hbh : Below w2.heap.size w2 (w2.alloc (.cells #[.int .u8 104, .int .u8 105] 5 (2, 3))) := (Below.refl _ _).alloc (Nat.le_refl _) _
  have N16 := save_ps _ X p t q 9 S 0 [] [] (hps.below hbh) (by omega) [104, 105] _ (hi_rd w2) (by decide) (by decide)
  clear hsv hrec
  go_wp2_with fail
  refine N16.mono ?_
  rintro e w3 ⟨X3, S3, hd3, hst3, hX3, hw3, _, ⟨rfl, ⟨t3, ht3, hps3⟩, hop3, har3, hkeep3⟩ | ⟨_, hne, _⟩⟩
  rotate_left
  · exact absurd har hne
  have hop5 : (S3.ops : Int) = 5 := by rw [hop3, hops]; rfl
  have hb03 : Below w.heap.size w w3 := by
    refine (hb1.trans (hb2.mono hb1.size)).trans ((hbh.mono (Nat.le_trans hb1.size hb2.size)).trans (hst3.below (fun k hk => ?_) (Nat.le_trans hb1.size (Nat.le_trans hb2.size hbh.size))))
    rcases hk with hk | hk
    · exact hX k hk
    · rw [hk]; exact Nat.le_trans hb1.size hp2
  have N31 := ops_any w3 X3 q 9 S3 hd3
  rw [hop5] at N31
  have hmk : (Instr.makeSlice 30 (.int .i64 757) (.int .i64 757)).run Try.prog w3 = .ok (.slice (some ⟨w3.heap.size, 0, none⟩) 757 757) (w3.alloc (.cells (byteCells (List.replicate 757 0)).toArray 5)) := makeB w3 757 757 (by decide) (by decide)
  have hb4 : Below w3.heap.size w3 (w3.alloc (.cells (byteCells (List.replicate 757 0)).toArray 5)) := (Below.refl _ _).alloc (Nat.le_refl _) _
  generalize hw4 : w3.alloc (.cells (byteCells (List.replicate 757 0)).toArray 5) = w4 at *
  have hps4 := hps3.below hb4
  have N16b := save_long w4 X3 p q 9 S3 1 _ 0 hps4.d hps4.pr (by decide) (List.replicate 757 0) (some ⟨w3.heap.size, 0, none⟩) 757 (by rw [List.length_replicate]; decide) (by rw [List.length_replicate]; decide)
  rw [List.length_replicate] at N16b
  clear N16 N12 N10 hw4
  go_wp2_with (first | (go_at_call 31; refine N31.mono ?_; rintro e w9 ⟨rfl, hw9⟩; have hw9 := hw9.symm; subst hw9) | (go_at_call 16; refine N16b.mono ?_; rintro e w5 ⟨rfl, hb5⟩))
  have hps5 := hps4.below hb5
  have N12 := popen_any w5 X3 q 9 S3 hps5.dn hps5.wz hps5.d (by decide) 1 [104, 105] [] (by decide) hps5.pp
  refine N12.mono ?_
  rintro e w6 ⟨hb6, v1, v2, p6, t6, rfl, hp6, ht6, hsv, hrec, hps6⟩
  have hrd6 := hsv.rd
  obtain ⟨sa6, sc6, rfl⟩ := hsv.shape
  obtain ⟨ra6, rc6, rfl⟩ := hrec.shape
  have N32 := read0 w6 X3 q 9 S3 5 (by decide) hps5.dn hps6.d
  clear hsv hrec N31 N16b N12
  go_wp2_with (go_at_call 32; refine N32.mono ?_; rintro e w7 ⟨rfl, hpg⟩)
  have h14 : ((pageOf S3.P 5).drop 0).take 14 = snB [104, 105] := by
    rcases hps6.pp.sn with ⟨h0, _⟩ | h0
    · cases h0
    · rw [List.drop_zero, ← cutB_page _ _ _ (by decide)]; exact h0
  have hb05 : Below w.heap.size w w6 := (hb03.trans (hb4.mono hb03.size)).trans ((hb5.mono (Nat.le_trans hb03.size hb4.size)).trans (hb6.mono (Nat.le_trans hb03.size (Nat.le_trans hb4.size hb5.size))))
  have hb07 : Below w.heap.size w w7 := hb05.trans (hpg.below.mono hb05.size)
  have hblk := hpg.block
  have hrd7 : Sl.RdA w7 (.slice sa6 2 sc6) [104, 105] := Sl.RdA.on hrd6 hpg.below
  obtain ⟨fh, hfh⟩ : ∃ s : ByteArray, s = ⟨(snB [104, 105]).toArray⟩ := ⟨_, rfl⟩
  have hcx : ∀ W' : World, W'.heap[w6.heap.size]? = some (.cells (byteCells (pageOf S3.P 5)).toArray 85 (0, 0)) → (convert 30 9 (.slice (some ⟨w6.heap.size, 0, none⟩) 14 256)).run Try.prog W' = .ok (.string fh) W' := fun W' hW' => by
    rw [hfh]
    apply convA
    have e14 : (snB [104, 105]).length = 14 := by rw [snB_length]; rfl
    have := sl_range (c := 256) (range_cut hW' 0 14) (by rw [h14, e14]; decide)
    rw [h14, e14] at this
    exact this
  have hcx2 : ∀ W' : World, Sl.RdA W' (.slice sa6 2 sc6) [104, 105] → (convert 30 9 (.slice sa6 2 sc6)).run Try.prog W' = .ok (.string ⟨#[104, 105]⟩) W' := fun W' hW' => convA hW'
  have hS : w7.drew.heap[w6.heap.size]? = some (.cells (byteCells (pageOf S3.P 5)).toArray 85 (0, 0)) ∧ Sl.RdA w7.drew (.slice sa6 2 sc6) [104, 105] := ⟨hblk, hrd7⟩
  refine wp_region_held (S := fun W' => W'.heap[w6.heap.size]? = some (.cells (byteCells (pageOf S3.P 5)).toArray 85 (0, 0)) ∧ Sl.RdA W' (.slice sa6 2 sc6) [104, 105]) hmix ?_
  show wpAnyH _ _ _ _ _ _ _ _ w7.drew
  clear hrd6 N32 kc
  refine wpAnyH_take (i := 0) (v := .int .i64 0) rfl (by kernel_rfl) (by kernel_rfl) (by kernel_rfl) (fun _ _ _ h => h) (.inl ⟨by rfl, fun W' hW' => ?_⟩) hS ?_
  · obtain ⟨q1, q2⟩ := hW'
    have hcv := hcx W' q1
    have hcv2 := hcx2 W' q2
    clear q1 q2
    go_simp
  simp only [Act.put, List.getElem_toArray, List.getElem_cons_succ, List.getElem_cons_zero, List.setIfInBounds_toArray, List.set_cons_succ, List.set_cons_zero]
  refine wpAnyH_take (i := 1) (v := .bool true) rfl (by kernel_rfl) (by kernel_rfl) (by kernel_rfl) (fun _ _ _ h => h) (.inl ⟨by rfl, fun W' hW' => ?_⟩) hS ?_
  · obtain ⟨q1, q2⟩ := hW'
    have hcv := hcx W' q1
    have hcv2 := hcx2 W' q2
    clear q1 q2
    go_simp
  simp only [Act.put, List.getElem_toArray, List.getElem_cons_succ, List.getElem_cons_zero, List.setIfInBounds_toArray, List.set_cons_succ, List.set_cons_zero]
  refine wpAnyH_take (i := 2) (v := .bool true) rfl (by kernel_rfl) (by kernel_rfl) (by kernel_rfl) (fun _ _ _ h => h) (.inl ⟨by rfl, fun W' hW' => ?_⟩) hS ?_
  · obtain ⟨q1, q2⟩ := hW'
    have hcv := hcx W' q1
    have hcv2 := hcx2 W' q2
    clear q1 q2
    go_simp
  simp only [Act.put, List.getElem_toArray, List.getElem_cons_succ, List.getElem_cons_zero, List.setIfInBounds_toArray, List.set_cons_succ, List.set_cons_zero]
  refine wpAnyH_take (i := 3) (v := .int .i64 0) rfl (by kernel_rfl) (by kernel_rfl) (by kernel_rfl) (fun _ _ _ h => h) (.inl ⟨by rfl, fun W' hW' => ?_⟩) hS ?_
  · obtain ⟨q1, q2⟩ := hW'
    have hcv := hcx W' q1
    have hcv2 := hcx2 W' q2
    clear q1 q2
    go_simp
  simp only [Act.put, List.getElem_toArray, List.getElem_cons_succ, List.getElem_cons_zero, List.setIfInBounds_toArray, List.set_cons_succ, List.set_cons_zero]
  refine wpAnyH_take (i := 4) (v := .bool true) rfl (by kernel_rfl) (by kernel_rfl) (by kernel_rfl) (fun _ _ _ h => h) (.inl ⟨by rfl, fun W' hW' => ?_⟩) hS ?_
  · obtain ⟨q1, q2⟩ := hW'
    have hcv := hcx W' q1
    have hcv2 := hcx2 W' q2
    clear q1 q2
    go_simp
  simp only [Act.put, List.getElem_toArray, List.getElem_cons_succ, List.getElem_cons_zero, List.setIfInBounds_toArray, List.set_cons_succ, List.set_cons_zero]
  refine wpAnyH_take (i := 5) (v := .bool true) rfl (by kernel_rfl) (by kernel_rfl) (by kernel_rfl) (fun _ _ _ h => h) (.inl ⟨by rfl, fun W' hW' => ?_⟩) hS ?_
  · obtain ⟨q1, q2⟩ := hW'
    have hcv := hcx W' q1
    have hcv2 := hcx2 W' q2
    clear q1 q2
    go_simp
  simp only [Act.put, List.getElem_toArray, List.getElem_cons_succ, List.getElem_cons_zero, List.setIfInBounds_toArray, List.set_cons_succ, List.set_cons_zero]
  refine wpAnyH_take (i := 6) (v := .bool true) rfl (by kernel_rfl) (by kernel_rfl) (by kernel_rfl) (fun _ _ _ h => h) (.inl ⟨by rfl, fun W' hW' => ?_⟩) hS ?_
  · obtain ⟨q1, q2⟩ := hW'
    have hcv := hcx W' q1
    have hcv2 := hcx2 W' q2
    clear q1 q2
    go_simp
  simp only [Act.put, List.getElem_toArray, List.getElem_cons_succ, List.getElem_cons_zero, List.setIfInBounds_toArray, List.set_cons_succ, List.set_cons_zero]
  refine wpAnyH_take (i := 7) (v := .slice sa6 2 sc6) rfl (by kernel_rfl) (by kernel_rfl) (by kernel_rfl) (fun _ _ _ h => h) (.inl ⟨by rfl, fun W' hW' => ?_⟩) hS ?_
  · obtain ⟨q1, q2⟩ := hW'
    have hcv := hcx W' q1
    have hcv2 := hcx2 W' q2
    clear q1 q2
    go_simp
  simp only [Act.put, List.getElem_toArray, List.getElem_cons_succ, List.getElem_cons_zero, List.setIfInBounds_toArray, List.set_cons_succ, List.set_cons_zero]
  refine wpAnyH_take (i := 8) (v := .string ⟨#[104, 105]⟩) rfl (by kernel_rfl) (by kernel_rfl) (by kernel_rfl) (fun _ _ _ h => h) (.inl ⟨by rfl, fun W' hW' => ?_⟩) hS ?_
  · obtain ⟨q1, q2⟩ := hW'
    have hcv := hcx W' q1
    have hcv2 := hcx2 W' q2
    clear q1 q2
    go_simp
  simp only [Act.put, List.getElem_toArray, List.getElem_cons_succ, List.getElem_cons_zero, List.setIfInBounds_toArray, List.set_cons_succ, List.set_cons_zero]
  refine wpAnyH_take (i := 9) (v := .bool true) rfl (by kernel_rfl) (by kernel_rfl) (by kernel_rfl) (fun _ _ _ h => h) (.inl ⟨by rfl, fun W' hW' => ?_⟩) hS ?_
  · obtain ⟨q1, q2⟩ := hW'
    have hcv := hcx W' q1
    have hcv2 := hcx2 W' q2
    clear q1 q2
    go_simp
  simp only [Act.put, List.getElem_toArray, List.getElem_cons_succ, List.getElem_cons_zero, List.setIfInBounds_toArray, List.set_cons_succ, List.set_cons_zero]
  refine wpAnyH_take (i := 10) (v := .bool true) rfl (by kernel_rfl) (by kernel_rfl) (by kernel_rfl) (fun _ _ _ h => h) (.inl ⟨by rfl, fun W' hW' => ?_⟩) hS ?_
  · obtain ⟨q1, q2⟩ := hW'
    have hcv := hcx W' q1
    have hcv2 := hcx2 W' q2
    clear q1 q2
    go_simp
  simp only [Act.put, List.getElem_toArray, List.getElem_cons_succ, List.getElem_cons_zero, List.setIfInBounds_toArray, List.set_cons_succ, List.set_cons_zero]
  refine wpAnyH_take (i := 11) (v := .bool true) rfl (by kernel_rfl) (by kernel_rfl) (by kernel_rfl) (fun _ _ _ h => h) (.inl ⟨by rfl, fun W' hW' => ?_⟩) hS ?_
  · obtain ⟨q1, q2⟩ := hW'
    have hcv := hcx W' q1
    have hcv2 := hcx2 W' q2
    clear q1 q2
    go_simp
  simp only [Act.put, List.getElem_toArray, List.getElem_cons_succ, List.getElem_cons_zero, List.setIfInBounds_toArray, List.set_cons_succ, List.set_cons_zero]
  refine wpAnyH_take (i := 12) (v := .slice ra6 0 rc6) rfl (by kernel_rfl) (by kernel_rfl) (by kernel_rfl) (fun _ _ _ h => h) (.inl ⟨by rfl, fun W' hW' => ?_⟩) hS ?_
  · obtain ⟨q1, q2⟩ := hW'
    have hcv := hcx W' q1
    have hcv2 := hcx2 W' q2
    clear q1 q2
    go_simp
  simp only [Act.put, List.getElem_toArray, List.getElem_cons_succ, List.getElem_cons_zero, List.setIfInBounds_toArray, List.set_cons_succ, List.set_cons_zero]
  refine wpAnyH_take (i := 13) (v := .int .i64 0) rfl (by kernel_rfl) (by kernel_rfl) (by kernel_rfl) (fun _ _ _ h => h) (.inl ⟨by rfl, fun W' hW' => ?_⟩) hS ?_
  · obtain ⟨q1, q2⟩ := hW'
    have hcv := hcx W' q1
    have hcv2 := hcx2 W' q2
    clear q1 q2
    go_simp
  simp only [Act.put, List.getElem_toArray, List.getElem_cons_succ, List.getElem_cons_zero, List.setIfInBounds_toArray, List.set_cons_succ, List.set_cons_zero]
  refine wpAnyH_take (i := 14) (v := .bool true) rfl (by kernel_rfl) (by kernel_rfl) (by kernel_rfl) (fun _ _ _ h => h) (.inl ⟨by rfl, fun W' hW' => ?_⟩) hS ?_
  · obtain ⟨q1, q2⟩ := hW'
    have hcv := hcx W' q1
    have hcv2 := hcx2 W' q2
    clear q1 q2
    go_simp
  simp only [Act.put, List.getElem_toArray, List.getElem_cons_succ, List.getElem_cons_zero, List.setIfInBounds_toArray, List.set_cons_succ, List.set_cons_zero]
  refine wpAnyH_take (i := 15) (v := .bool true) rfl (by kernel_rfl) (by kernel_rfl) (by kernel_rfl) (fun _ _ _ h => h) (.inl ⟨by rfl, fun W' hW' => ?_⟩) hS ?_
  · obtain ⟨q1, q2⟩ := hW'
    have hcv := hcx W' q1
    have hcv2 := hcx2 W' q2
    clear q1 q2
    go_simp
  simp only [Act.put, List.getElem_toArray, List.getElem_cons_succ, List.getElem_cons_zero, List.setIfInBounds_toArray, List.set_cons_succ, List.set_cons_zero]
  refine wpAnyH_take (i := 16) (v := .bool true) rfl (by kernel_rfl) (by kernel_rfl) (by kernel_rfl) (fun _ _ _ h => h) (.inl ⟨by rfl, fun W' hW' => ?_⟩) hS ?_
  · obtain ⟨q1, q2⟩ := hW'
    have hcv := hcx W' q1
    have hcv2 := hcx2 W' q2
    clear q1 q2
    go_simp
  simp only [Act.put, List.getElem_toArray, List.getElem_cons_succ, List.getElem_cons_zero, List.setIfInBounds_toArray, List.set_cons_succ, List.set_cons_zero]
  refine wpAnyH_take (i := 17) (v := .slice (some ⟨w6.heap.size, 0, none⟩) 256 256) rfl (by kernel_rfl) (by kernel_rfl) (by kernel_rfl) (fun _ _ _ h => h) (.inl ⟨by rfl, fun W' hW' => ?_⟩) hS ?_
  · obtain ⟨q1, q2⟩ := hW'
    have hcv := hcx W' q1
    have hcv2 := hcx2 W' q2
    clear q1 q2
    go_simp
  simp only [Act.put, List.getElem_toArray, List.getElem_cons_succ, List.getElem_cons_zero, List.setIfInBounds_toArray, List.set_cons_succ, List.set_cons_zero]
  refine wpAnyH_take (i := 18) (v := .slice (some ⟨w6.heap.size, 0, none⟩) 14 256) rfl (by kernel_rfl) (by kernel_rfl) (by kernel_rfl) (fun _ _ _ h => h) (.inl ⟨by rfl, fun W' hW' => ?_⟩) hS ?_
  · obtain ⟨q1, q2⟩ := hW'
    have hcv := hcx W' q1
    have hcv2 := hcx2 W' q2
    clear q1 q2
    go_simp
  simp only [Act.put, List.getElem_toArray, List.getElem_cons_succ, List.getElem_cons_zero, List.setIfInBounds_toArray, List.set_cons_succ, List.set_cons_zero]
  refine wpAnyH_take (i := 19) (v := .string fh) rfl (by kernel_rfl) (by kernel_rfl) (by kernel_rfl) (fun _ _ _ h => h) (.inl ⟨by rfl, fun W' hW' => ?_⟩) hS ?_
  · obtain ⟨q1, q2⟩ := hW'
    have hcv := hcx W' q1
    have hcv2 := hcx2 W' q2
    clear q1 q2
    go_simp
  simp only [Act.put, List.getElem_toArray, List.getElem_cons_succ, List.getElem_cons_zero, List.setIfInBounds_toArray, List.set_cons_succ, List.set_cons_zero]
  have hk12 : (convert 30 30 (.slice (some ⟨w7.heap.size, 0, none⟩) 2 2)).run Try.prog (w7.alloc (.cells #[.int .u8 104, .int .u8 105] 5)).drew = .ok (.slice (some ⟨w7.heap.size, 0, none⟩) 2 2) (w7.alloc (.cells #[.int .u8 104, .int .u8 105] 5 (2, 3))).drew :=
    Lib.run_convert_bytes_const (P := Try.prog) w7.drew 30 5 #[.int .u8 104, .int .u8 105] 2 2 Try.underlying30 Try.underlying5
  have hbal : ∀ fr, Below w7.heap.size w7 (w7.alloc (.cells #[.int .u8 104, .int .u8 105] 5 fr)).drew := fun fr => ((Below.refl _ w7).alloc (Nat.le_refl _) _).trans ⟨rfl, rfl, rfl, Nat.le_refl _, fun _ _ => rfl⟩
  have hba : ∀ (W' : World), Below w7.heap.size w7 W' → W'.heap[w6.heap.size]? = some (.cells (byteCells (pageOf S3.P 5)).toArray 85 (0, 0)) ∧ Sl.RdA W' (.slice sa6 2 sc6) [104, 105] := fun W' hW' => ⟨(hW'.block _ (Array.getElem?_eq_some_iff.1 hblk).1).trans hblk, Sl.RdA.on hrd7 hW'⟩
  refine wpAnyH_one (i := 20) (by kernel_rfl) rfl (by rfl) (fun K hK => ?_)
  go_simp
  refine hK _ _ (hba _ (hbal _)) ?_
  clear hK K
  refine wpAnyH_one (i := 21) (by kernel_rfl) rfl (by rfl) (fun K hK => ?_)
  go_simp
  obtain ⟨w8, hw8⟩ : ∃ w8, w8 = (w7.alloc (.cells #[.int .u8 104, .int .u8 105] 5 (2, 3))).drew := ⟨_, rfl⟩
  have hrd8 : Sl.RdA w8 (.slice (some ⟨w7.heap.size, 0, none⟩) 2 2) [104, 105] := by rw [hw8]; exact hi_rd w7.drew
  have hb8 : Below w7.heap.size w7 w8 := by rw [hw8]; exact hbal _
  rw [← hw8]
  clear hw8 hk12
  refine hK _ _ (hba _ hb8) ?_
  clear hK K
  have N33 := sframe_any w8 _ [104, 105] hrd8 (by decide)
  refine wpAnyH_one (i := 22) (by kernel_rfl) rfl (by rfl) (fun K hK => ?_)
  go_simp
  refine N33.mono ?_
  rintro e w9 ⟨v9, rfl, ho9, hb9⟩
  have hb79 : Below w7.heap.size w7 w9 := hb8.trans (hb9.mono hb8.size)
  have hcv9 : (convert 30 9 v9).run Try.prog w9 = .ok (.string fh) w9 := by rw [hfh]; exact convA (.inl (Sl.Own.rd ho9))
  show K _ _
  refine hK _ _ (hba _ hb79) ?_
  clear hK K
  refine wpAnyH_one (i := 23) (by kernel_rfl) rfl (by rfl) (fun K hK => ?_)
  go_simp
  refine hK _ _ (hba _ hb79) ?_
  clear hK K
  have hS := hba _ hb79
  refine wpAnyH_take (i := 24) (v := .bool true) rfl (by kernel_rfl) (by kernel_rfl) (by kernel_rfl) (fun _ _ _ h => h) (.inl ⟨by rfl, fun W' hW' => ?_⟩) hS ?_
  · obtain ⟨q1, q2⟩ := hW'
    have hcv := hcx W' q1
    have hcv2 := hcx2 W' q2
    clear q1 q2
    go_simp
  simp only [Act.put, List.getElem_toArray, List.getElem_cons_succ, List.getElem_cons_zero, List.setIfInBounds_toArray, List.set_cons_succ, List.set_cons_zero]
  refine wpAnyH_take (i := 25) (v := .bool true) rfl (by kernel_rfl) (by kernel_rfl) (by kernel_rfl) (fun _ _ _ h => h) (.inl ⟨by rfl, fun W' hW' => ?_⟩) hS ?_
  · obtain ⟨q1, q2⟩ := hW'
    have hcv := hcx W' q1
    have hcv2 := hcx2 W' q2
    clear q1 q2
    go_simp
  simp only [Act.put, List.getElem_toArray, List.getElem_cons_succ, List.getElem_cons_zero, List.setIfInBounds_toArray, List.set_cons_succ, List.set_cons_zero]
  refine wpAnyH_take (i := 26) (v := .bool true) rfl (by kernel_rfl) (by kernel_rfl) (by kernel_rfl) (fun _ _ _ h => h) (.inl ⟨by rfl, fun W' hW' => ?_⟩) hS ?_
  · obtain ⟨q1, q2⟩ := hW'
    have hcv := hcx W' q1
    have hcv2 := hcx2 W' q2
    clear q1 q2
    go_simp
  simp only [Act.put, List.getElem_toArray, List.getElem_cons_succ, List.getElem_cons_zero, List.setIfInBounds_toArray, List.set_cons_succ, List.set_cons_zero]
  refine wpAnyH_done (by kernel_rfl) ?_ _
  go_wp2
  go_ret
  exact ⟨rfl, hb07.trans (hb79.mono hb07.size)⟩
end Go.Proofs.Ythgkkmcpmhfehaa

namespace Go.Proofs.Ythgkkmcpmhfehaa
open Go.RowKit Go.Lib Go.Shelf
set_option maxRecDepth 100000

structure PA (w0 wr : World) (X : Nat → Prop) (p t q n : Nat) (S : DS) (half : Nat) (b : List UInt8) (rs : List (List UInt8)) : Prop where
  ps : PS wr X p t q n S half b rs
  bel : Below w0.heap.size w0 wr
  xa : ∀ k, X k → w0.heap.size ≤ k
  pa : w0.heap.size ≤ p
  ta : w0.heap.size ≤ t
  ar : S.armed = 0
theorem PA.on {w0 w w' : World} {X : Nat → Prop} {p t q n : Nat} {S : DS} {half : Nat} {b : List UInt8} {rs : List (List UInt8)} (h : PA w0 w X p t q n S half b rs) (hb : Below w.heap.size w w') : PA w0 w' X p t q n S half b rs :=
  ⟨h.ps.below hb, h.bel.trans (hb.mono h.bel.size), h.xa, h.pa, h.ta, h.ar⟩

theorem append_pa (w0 w : World) (X : Nat → Prop) (p t q n : Nat) (S : DS) (half : Nat) (b : List UInt8) (rs : List (List UInt8)) (h : PA w0 w X p t q n S half b rs) (hops : S.ops ≤ 100000) (hn : rs.length ≤ 5000) (r : List UInt8) (v : Value) (hr : Sl.RdA w v r) (hrl : r.length ≤ 65536) (hpl : tot rs + (12 + r.length) ≤ (spanN n - takesN b.length) * 256) :
    Calls Try.prog 14 #[.pointer (some ⟨p, 0, none⟩), v] w fun e w' => e = .returned (.int .i64 0) ∧ ∃ X' S', PA w0 w' X' p t q n S' half b (rs ++ [r]) ∧ S'.ops ≤ S.ops + (r.length / 256 + 6) ∧ (∀ k, k < (firstN n half + takesN b.length) * 256 + tot rs ∨ (firstN n half + spanN n) * 256 ≤ k → S'.P[k]? = S.P[k]?) ∧ (∀ k, X' k → X k ∨ w.heap.size ≤ k) ∧ Step (fun k => X k ∨ k = t) (fun k => X' k ∨ k = t) w w' := by
  refine (append_ps w X p t q n S half b rs h.ps hops hn r v hr hrl hpl).mono ?_
  rintro e w' ⟨X', S', k1, k2, k3, k4, k5, k6, ⟨rfl, k7, k8⟩ | ⟨_, k7, _⟩⟩
  · refine ⟨rfl, X', S', ⟨k7, h.bel.trans (k2.below (fun k hk => ?_) h.bel.size), fun k hk => ?_, h.pa, h.ta, k8 h.ar⟩, k5, k6, k3, k2⟩
    · rcases hk with hk | hk
      · exact h.xa k hk
      · rw [hk]; exact h.ta
    · rcases k3 k hk with hk | hk
      · exact h.xa k hk
      · exact Nat.le_trans h.bel.size hk
  · exact absurd h.ar k7
theorem append_pafull (w0 w : World) (X : Nat → Prop) (p t q n : Nat) (S : DS) (half : Nat) (b : List UInt8) (rs : List (List UInt8)) (h : PA w0 w X p t q n S half b rs) (r : List UInt8) (a : Option Addr) (fc : Nat) (hrl : r.length ≤ 65536) (hpl : (spanN n - takesN b.length) * 256 < tot rs + (12 + r.length)) :
    Calls Try.prog 14 #[.pointer (some ⟨p, 0, none⟩), .slice a r.length fc] w fun e w' => e = .returned (.int .i64 22) ∧ PA w0 w' X p t q n S half b rs := by
  refine (append_psfull w X p t q n S half b rs h.ps r a fc hrl hpl).mono ?_
  rintro e w' ⟨rfl, hb⟩
  exact ⟨rfl, h.on hb⟩
theorem save_pa (w0 w : World) (X : Nat → Prop) (p t q n : Nat) (S : DS) (half : Nat) (b : List UInt8) (rs : List (List UInt8)) (h : PA w0 w X p t q n S half b rs) (hops : S.ops ≤ 80000) (b' : List UInt8) (v : Value) (hb : Sl.RdA w v b') (hl : b'.length ≤ 1048576) (htk : takesN b'.length < spanN n) :
    Calls Try.prog 16 #[.pointer (some ⟨p, 0, none⟩), v] w fun e w' => e = .returned (.int .i64 0) ∧ ∃ X' S' t', PA w0 w' X' p t' q n S' (1 - half) b' [] ∧ S'.ops = S.ops + (takesN b'.length + 4) ∧ (∀ j, 256 ≤ j → j < firstN n (1 - half) * 256 ∨ (firstN n (1 - half) + spanN n) * 256 ≤ j → S'.P[j]? = S.P[j]?) ∧ (∀ k, X' k → X k ∨ w.heap.size ≤ k) ∧ w.heap.size ≤ t' ∧ Step (fun k => X k ∨ k = p) (fun k => X' k ∨ k = p) w w' := by
  refine (save_ps w X p t q n S half b rs h.ps hops b' v hb hl htk).mono ?_
  rintro e w' ⟨X', S', k1, k2, k3, k4, k5, ⟨rfl, ⟨t', k6, k7⟩, k8, k9, k10⟩ | ⟨_, k7, _⟩⟩
  · refine ⟨rfl, X', S', t', ⟨k7, h.bel.trans (k2.below (fun k hk => ?_) h.bel.size), fun k hk => ?_, h.pa, Nat.le_trans h.bel.size k6, k9 h.ar⟩, k8, k10, k3, k6, k2⟩
    · rcases hk with hk | hk
      · exact h.xa k hk
      · rw [hk]; exact h.pa
    · rcases k3 k hk with hk | hk
      · exact h.xa k hk
      · exact Nat.le_trans h.bel.size hk
  · exact absurd h.ar k7
theorem save_palong (w0 w : World) (X : Nat → Prop) (p t q n : Nat) (S : DS) (half : Nat) (b : List UInt8) (rs : List (List UInt8)) (h : PA w0 w X p t q n S half b rs) (hn1 : 1 ≤ n) (b' : List UInt8) (va : Option Addr) (vc : Nat) (hl : b'.length ≤ 1099511627776) (htk : ¬ takesN b'.length < spanN n) :
    Calls Try.prog 16 #[.pointer (some ⟨p, 0, none⟩), .slice va b'.length vc] w fun e w' => e = .returned (.int .i64 3) ∧ PA w0 w' X p t q n S half b rs ∧ Below w.heap.size w w' := by
  refine (save_long w X p q n S half _ 0 h.ps.d h.ps.pr hn1 b' va vc hl htk).mono ?_
  rintro e w' ⟨rfl, hb⟩
  exact ⟨rfl, h.on hb, hb⟩
theorem count_pa (w0 w : World) (X : Nat → Prop) (p t q n : Nat) (S : DS) (half : Nat) (b : List UInt8) (rs : List (List UInt8)) (h : PA w0 w X p t q n S half b rs) :
    Calls Try.prog 28 #[.pointer (some ⟨p, 0, none⟩)] w fun e w' => e = .returned (.int .i64 (rs.length : Int)) ∧ w' = w := pcount_any w p q half t _ _ _ _ _ 0 h.ps.pr h.ps.tp
theorem ops_pa (w0 w : World) (X : Nat → Prop) (p t q n : Nat) (S : DS) (half : Nat) (b : List UInt8) (rs : List (List UInt8)) (h : PA w0 w X p t q n S half b rs) :
    Calls Try.prog 31 #[.pointer (some ⟨q, 0, none⟩)] w fun e w' => e = .returned (.int .i64 (S.ops : Int)) ∧ w' = w := ops_any w X q n S h.ps.d
/-- Opened anew: another pair beside it. -/
theorem open_pa (w0 w : World) (X : Nat → Prop) (p t q n : Nat) (S : DS) (half : Nat) (b : List UInt8) (rs : List (List UInt8)) (h : PA w0 w X p t q n S half b rs) (hn : 5 ≤ n) (hrs : rs.length ≤ 5000) :
    Calls Try.prog 12 #[.pointer (some ⟨q, 0, none⟩)] w fun e w' => ∃ v1 v2 p' t', e = .returned (.tuple #[.pointer (some ⟨p', 0, none⟩), v1, v2, .int .i64 0]) ∧ w.heap.size ≤ p' ∧ w.heap.size ≤ t' ∧ SnV w' w.heap.size v1 b ∧ Recs w' w.heap.size v2 rs ∧ PA w0 w' X p t q n S half b rs ∧ PA w0 w' X p' t' q n S half b rs ∧ Below w.heap.size w w' := by
  refine (popen_any w X q n S h.ps.dn h.ps.wz h.ps.d hn half b rs hrs h.ps.pp).mono ?_
  rintro e w' ⟨hb, v1, v2, p', t', rfl, h1, h2, h3, h4, h5⟩
  exact ⟨v1, v2, p', t', rfl, h1, h2, h3, h4, h.on hb, ⟨h5, h.bel.trans (hb.mono h.bel.size), h.xa, Nat.le_trans h.bel.size h1, Nat.le_trans h.bel.size h2, h.ar⟩, hb⟩
/-- Opened on a new drum. -/
theorem first_pa (w0 w : World) (X : Nat → Prop) (q n : Nat) (S : DS) (h : Drum w X q n S) (hpp : PP S.P n 0 [] []) (hW : S.W = []) (har : S.armed = 0) (hdn : S.down = false) (hb : Below w0.heap.size w0 w) (hX : ∀ k, X k → w0.heap.size ≤ k) (hn : 5 ≤ n) :
    Calls Try.prog 12 #[.pointer (some ⟨q, 0, none⟩)] w fun e w' => ∃ v1 v2 p t, e = .returned (.tuple #[.pointer (some ⟨p, 0, none⟩), v1, v2, .int .i64 0]) ∧ (∃ a c, v1 = .slice a 0 c) ∧ (∃ a c, v2 = .slice a 0 c) ∧ PA w0 w' X p t q n S 0 [] [] := by
  refine (popen_any w X q n S hdn hW h hn 0 [] [] (by decide) hpp).mono ?_
  rintro e w' ⟨hb', v1, v2, p', t', rfl, h1, h2, h3, h4, h5⟩
  exact ⟨v1, v2, p', t', rfl, h3.shape, h4.shape, h5, hb.trans (hb'.mono hb.size), hX, Nat.le_trans hb.size h1, Nat.le_trans hb.size h2, har⟩
end Go.Proofs.Ythgkkmcpmhfehaa

namespace Go.Proofs.Ythgkkmcpmhfehaa
open Go.RowKit Go.Lib Go.Shelf
set_option maxRecDepth 100000

/-- Bytes that were handed in, or of their own, apart from what moves. -/
def BV (w wr : World) (Z : Nat → Prop) (u : Value) (r : List UInt8) : Prop :=
  Sl.RdA w u r ∨ ∃ g o c full, u = .slice (some ⟨g, o, none⟩) r.length c ∧ w.heap.size ≤ g ∧ ¬ Z g ∧ r.length ≤ c ∧ wr.heap[g]? = some (.cells full 5 (0, 0)) ∧ wr.rangeAt g o (byteCells r)
theorem BV.on {w wr wr' : World} {Z Z' Y Y' : Nat → Prop} {u : Value} {r : List UInt8} (h : BV w wr Z u r) (hs : Step Y Y' wr wr') (hy : ∀ k, Y k → Z k) (hz : ∀ k, Z' k → Z k ∨ wr.heap.size ≤ k) : BV w wr' Z' u r := by
  rcases h with h | ⟨g, o, c, full, h1, h2, h3, h4, h5, h6⟩
  · exact .inl h
  · have hlt : g < wr.heap.size := (Array.getElem?_eq_some_iff.1 h5).1
    have hb := hs.block g hlt (fun hyg => h3 (hy g hyg))
    refine .inr ⟨g, o, c, full, h1, h2, fun hx' => ?_, h4, hb.trans h5, fun j x hj => ?_⟩
    · rcases hz g hx' with h' | h'
      · exact h3 h'
      · omega
    · rw [← h6 j x hj]
      simp only [World.cell?, hb]
theorem BV.rd {w wr : World} {Z : Nat → Prop} {u : Value} {r : List UInt8} (h : BV w wr Z u r) (hb : Below w.heap.size w wr) : Sl.RdA wr u r := by
  rcases h with h | ⟨g, o, c, full, rfl, _, _, h4, _, h6⟩
  · exact Sl.RdA.on h hb
  · exact sl_range h6 h4
theorem BV.shape {w wr : World} {Z : Nat → Prop} {u : Value} {r : List UInt8} (h : BV w wr Z u r) : ∃ a c, u = .slice a r.length c := by
  rcases h with h | ⟨g, o, c, full, rfl, _⟩
  · exact h.len
  · exact ⟨_, _, rfl⟩
/-- A list of such. -/
def LZ (w wr : World) (Z : Nat → Prop) (v : Value) (rs : List (List UInt8)) : Prop :=
  ∃ vals : List Value, wr.ownsRow 0 30 1 v rs.length vals ∧ (∀ k, v.ownBlock = some k → w.heap.size ≤ k ∧ ¬ Z k) ∧ ∀ (i : Nat) (r : List UInt8), rs[i]? = some r → ∃ u, vals[i]? = some u ∧ BV w wr Z u r
theorem LZ.nil (w wr : World) (Z : Nat → Prop) : LZ w wr Z (.slice none 0 0) [] := ⟨[], World.ownsRow_nil _ _ _ _, ⟨(fun k hk => by cases hk), fun i r h => by simp at h⟩⟩
theorem LZ.lt {w wr : World} {Z : Nat → Prop} {v : Value} {rs : List (List UInt8)} (h : LZ w wr Z v rs) : ∀ k, v.ownBlock = some k → k < wr.heap.size := fun k hk => by
  obtain ⟨vals, ho, _⟩ := h
  obtain ⟨c, hc⟩ := own_ne ho hk
  exact (Array.getElem?_eq_some_iff.1 hc).1
theorem LZ.shape {w wr : World} {Z : Nat → Prop} {v : Value} {rs : List (List UInt8)} (h : LZ w wr Z v rs) : ∃ a c, v = .slice a rs.length c := by
  obtain ⟨vals, ho, _⟩ := h
  rcases ho.2 with ⟨rfl, h0⟩ | ⟨g, cap, cur, rfl, _⟩
  · rw [h0]; exact ⟨_, _, rfl⟩
  · exact ⟨_, _, rfl⟩
theorem LZ.on {w wr wr' : World} {Z Z' Y Y' : Nat → Prop} {v : Value} {rs : List (List UInt8)} (h : LZ w wr Z v rs) (hs : Step Y Y' wr wr') (hy : ∀ k, Y k → Z k) (hz : ∀ k, Z' k → Z k ∨ wr.heap.size ≤ k) : LZ w wr' Z' v rs := by
  have hlt := h.lt
  obtain ⟨vals, ho, hb, hr⟩ := h
  refine ⟨vals, ownsRow_block ho (fun k hk => hs.block k (hlt k hk) (fun hyk => (hb k hk).2 (hy k hyk))), fun k hk => ⟨(hb k hk).1, fun hx' => ?_⟩, fun i r hi => ?_⟩
  · rcases hz k hx' with h' | h'
    · exact (hb k hk).2 h'
    · have := hlt k hk; omega
  · obtain ⟨u, h1, h2⟩ := hr i r hi
    exact ⟨u, h1, h2.on hs hy hz⟩
theorem own_cell' {w : World} {v : Value} {n : Nat} {xs : List Value} {i : Nat} {u : Value} (ho : w.ownsRow 0 30 1 v n xs) (hu : xs[i]? = some u) (hi : i < n) : ∃ g c, v = .slice (some ⟨g, 0, none⟩) n c ∧ w.cell? ⟨g, i, none⟩ = some u := by
  rcases ho.2 with ⟨_, h0⟩ | ⟨g, cap, cur, rfl, _, hg, _, _, _, ht⟩
  · omega
  · refine ⟨g, cap, rfl, ?_⟩
    have e : (cur.toList.take (n * 1))[i]? = xs[i]? := by rw [ht]
    rw [List.getElem?_take_of_lt (by omega), hu] at e
    simp only [World.cell?, hg]
    simpa using e
theorem LZ.rdl {w wr : World} {Z : Nat → Prop} {v : Value} {rs : List (List UInt8)} (h : LZ w wr Z v rs) (hb : Below w.heap.size w wr) : RdL wr v rs := by
  obtain ⟨a, c, rfl⟩ := h.shape
  obtain ⟨vals, ho, _, hr⟩ := h
  refine ⟨a, c, rfl, fun i r hi => ?_⟩
  obtain ⟨u, hu, he⟩ := hr i r hi
  obtain ⟨g, c', h1, h2⟩ := own_cell' ho hu (List.getElem?_eq_some_iff.1 hi).1
  cases h1
  exact ⟨g, 0, u, rfl, by rw [Nat.zero_add]; exact h2, he.rd hb⟩
theorem Recs.lz {w wr : World} {Z : Nat → Prop} {B : Nat} {v : Value} {rs : List (List UInt8)} (h : Recs wr B v rs) (hB : w.heap.size ≤ B) (hZ : ∀ (k : Nat) (c : Array Value) (e : TypeId), B ≤ k → (e = 5 ∨ e = 30) → wr.heap[k]? = some (.cells c e (0, 0)) → ¬ Z k) : LZ w wr Z v rs := by
  obtain ⟨vals, ho, hb, hr⟩ := h
  refine ⟨vals, ho, fun k hk => ⟨Nat.le_trans hB (hb k hk), ?_⟩, fun i r hi => ?_⟩
  · obtain ⟨c, hc⟩ := own_ne ho hk
    exact hZ k c 30 (hb k hk) (.inr rfl) hc
  · obtain ⟨u, hu, g, rfl, h1, h2⟩ := hr i r hi
    exact ⟨_, hu, .inr ⟨g, 0, r.length, _, rfl, by omega, hZ g _ 5 h1 (.inl rfl) h2, Nat.le_refl _, h2, range_of_block h2⟩⟩
theorem SnV.bv {w wr : World} {Z : Nat → Prop} {B : Nat} {v : Value} {b : List UInt8} (h : SnV wr B v b) (hB : w.heap.size ≤ B) (hZ : ∀ (k : Nat) (c : Array Value) (e : TypeId), B ≤ k → (e = 5 ∨ e = 30) → wr.heap[k]? = some (.cells c e (0, 0)) → ¬ Z k) : BV w wr Z v b := by
  rcases h with ⟨rfl, rfl⟩ | ⟨g, c, full, rfl, h1, h2, h3, h4⟩
  · exact .inl (.inl (.inl ⟨rfl, rfl⟩))
  · exact .inr ⟨g, 12, c, full, rfl, by omega, hZ g _ 5 h1 (.inl rfl) h3, h2, h3, h4⟩
theorem BV.one {w wr : World} {Z : Nat → Prop} {u : Value} {r : List UInt8} (h : BV w wr Z u r) : u.oneCell' = true := by
  obtain ⟨a, c, rfl⟩ := h.shape; rfl
theorem LZ.push {w w1 w2 : World} {Z : Nat → Prop} {v v1 u : Value} {rs : List (List UInt8)} {r : List UInt8} {g1 : Nat} {xs : List Value} (hw : w.heap.size ≤ w1.heap.size) (hZ : ∀ k, Z k → k < w1.heap.size)
    (ho : w1.ownsRow 0 30 1 v rs.length xs) (hb : ∀ k, v.ownBlock = some k → w.heap.size ≤ k ∧ ¬ Z k) (hr : ∀ (i : Nat) (r : List UInt8), rs[i]? = some r → ∃ u, xs[i]? = some u ∧ BV w w1 Z u r) (hu : BV w w1 Z u r)
    (hp : Pushed w1 w2 30 v v1 rs.length xs u g1) : LZ w w2 Z v1 (rs ++ [r]) := by
  have hxl : xs.length = rs.length := by have := ho.1; omega
  have hst : ∀ {u r}, BV w w1 Z u r → BV w w2 Z u r := fun {u r} h => by
    rcases h with h2 | ⟨g, o, c, full, e1, e2, e3, e4, e5, e6⟩
    · exact .inl h2
    · have hb := hp.step.block g (Array.getElem?_eq_some_iff.1 e5).1 (fun hk => by
        obtain ⟨c, hc⟩ := own_ne ho hk
        exact ne_type hc e5 (by decide) rfl)
      refine .inr ⟨g, o, c, full, e1, e2, e3, e4, hb.trans e5, fun j x hj => ?_⟩
      rw [← e6 j x hj]
      simp only [World.cell?, hb]
  refine ⟨xs ++ [u], by rw [List.length_append]; exact hp.own, fun k hk => ?_, fun i r' hi => ?_⟩
  · rw [hp.at1] at hk
    cases hk
    rcases hp.old with h | h
    · exact hb _ h
    · exact ⟨by omega, fun hx => by have := hZ _ hx; omega⟩
  · by_cases hlt : i < rs.length
    · rw [List.getElem?_append_left hlt] at hi
      obtain ⟨u', h1, h2⟩ := hr i r' hi
      exact ⟨u', by rw [List.getElem?_append_left (by omega)]; exact h1, hst h2⟩
    · have hi' : i = rs.length := by
        have := (List.getElem?_eq_some_iff.1 hi).1
        simp at this; omega
      subst hi'
      rw [List.getElem?_append_right (Nat.le_refl _), Nat.sub_self] at hi
      cases hi
      exact ⟨u, by rw [List.getElem?_append_right (by omega), hxl, Nat.sub_self]; rfl, hst hu⟩

/-- All of a list behind a list of the call's own. -/
theorem appL {ops : Array Oper} {rest : List Oper} {o : Oper} {a : Act} {Q : Exit → Act → World → Prop} (hgd : o.guard = none) (s x : Operand)
    (ho : o.op = .call { callee := .builtin .append, args := #[s, x], argTypes := #[31, 31] }) (B : Nat) (v vx : Value) (xs lx : List Value) (n m : Nat) (w : World)
    (hs : a.eval s = v) (hown : w.ownsRow B 30 1 v n xs) (hx : a.eval x = vx) (hsrc : w.ownsRow 0 30 1 vx m lx) (hone : ∀ u ∈ lx, u.oneCell' = true) (hn : n ≤ 5000) (hm : m ≤ 5000) (hB : B ≤ w.heap.size)
    (h : ∀ v' w', w'.ownsRow B 30 1 v' (n + m) (xs ++ lx) → Below B w w' → wpList Try.prog ops Q rest (a.put o.dst v') w') :
    wpList Try.prog ops Q (o :: rest) a w := by
  obtain ⟨i0, hi, hz0, hz1, hz2⟩ := info_parts info22
  rcases hsrc with ⟨hl, ⟨rfl, rfl⟩ | ⟨g, cap, cur, rfl, _, hg, hc, hmx, hsz, ht⟩⟩
  · obtain rfl : lx = [] := List.length_eq_zero_iff.1 (by omega)
    refine wpList_append_own_none hgd s x 31 ho B 30 i0 1 Try.underlying31 hi v n xs hs hown hx ?_
    exact h v w (by simpa using hown) (Below.refl _ _)
  · refine wpList_append_own _ hgd s x 31 ho B 30 i0 (.slice none 0 0) 1 24 Try.underlying31 hi hz0 hz1 hz2 rfl (by decide) v n xs hs hown ⟨g, 0, none⟩ m cap lx hx (by omega) ?_ hone (by unfold maxLen; omega) (by omega) hB ?_
    · intro j u hj
      have hjl := (List.getElem?_eq_some_iff.1 hj).1
      have e : (cur.toList.take (m * 1))[j]? = lx[j]? := by rw [ht]
      rw [List.getElem?_take_of_lt (by omega), hj] at e
      rw [Addr.add_lit, Nat.zero_add]
      simp only [World.cell?, hg]
      simpa using e
    · intro v' w' h1 h2 _
      exact h v' w' h1 ((Below.refl B w).grown h2 hB (fun k hk => (World.ownsRow.lt hown k hk).1))

/-- A slice of steps that came in. -/
def RdSt (w : World) (v : Value) (n : Nat) : Prop := ∃ (a : Option Addr) (c : Nat), v = .slice a n c ∧ ∀ k, k < n → ∃ (b o : Nat) (s : Bool) (u : Value) (r : List UInt8) (x y : Int), a = some ⟨b, o, none⟩ ∧ w.cell? ⟨b, o + k * 4, none⟩ = some (.bool s) ∧ w.cell? ⟨b, o + k * 4 + 1, none⟩ = some u ∧ Sl.RdA w u r ∧ w.cell? ⟨b, o + k * 4 + 2, none⟩ = some (.int .i64 x) ∧ w.cell? ⟨b, o + k * 4 + 3, none⟩ = some (.int .i64 y) ∧ (-9223372036854775808 ≤ x ∧ x < 9223372036854775808) ∧ (-9223372036854775808 ≤ y ∧ y < 9223372036854775808)
end Go.Proofs.Ythgkkmcpmhfehaa

namespace Go.Proofs.Ythgkkmcpmhfehaa
open Go.RowKit Go.Lib Go.Shelf
set_option maxRecDepth 100000

theorem wpAnyH_two {P : Program} {md : Region.Mode} {ops : Array Oper} {Q : Exit → Act → World → Prop} {S : World → Prop} {i j : Nat} {o o' : Oper} {fuel : Nat} {listed : Array Bool} {a : Act} {w : World} (hr : Region.ready md ops listed = [i, j]) (ho : ops[i]? = some o) (hw : Region.wanted o (yielded ops a.tmps) = true) (ho' : ops[j]? = some o') (hw' : Region.wanted o' (yielded ops a.tmps) = true)
    (h : ∀ K : Act → World → Prop, (∀ a' w', S w' → wpAnyH P md ops Q S fuel (listed.setIfInBounds i true) a' w' → K a' w') → o.wp P a w K Q)
    (h' : ∀ K : Act → World → Prop, (∀ a' w', S w' → wpAnyH P md ops Q S fuel (listed.setIfInBounds j true) a' w' → K a' w') → o'.wp P a w K Q) : wpAnyH P md ops Q S (fuel + 1) listed a w :=
  wpAnyH_all hr (by simp) (fun k hk => by
    simp only [List.mem_cons, List.not_mem_nil, or_false] at hk
    rcases hk with rfl | rfl
    · unfold wpOp
      simp only [ho]
      rw [if_pos hw]
      exact .inl (h _ (fun _ _ h1 h2 => ⟨h1, h2⟩))
    · unfold wpOp
      simp only [ho']
      rw [if_pos hw']
      exact .inl (h' _ (fun _ _ h1 h2 => ⟨h1, h2⟩)))

theorem wp_appL {o : Oper} {a : Act} {K : Act → World → Prop} {Q : Exit → Act → World → Prop} (s x : Operand)
    (ho : o.op = .call { callee := .builtin .append, args := #[s, x], argTypes := #[31, 31] }) (B : Nat) (v vx : Value) (xs lx : List Value) (n m : Nat) (w : World)
    (hs : a.eval s = v) (hown : w.ownsRow B 30 1 v n xs) (hx : a.eval x = vx) (hsrc : w.ownsRow 0 30 1 vx m lx) (hone : ∀ u ∈ lx, u.oneCell' = true) (hn : n ≤ 5000) (hm : m ≤ 5000) (hB : B ≤ w.heap.size)
    (h : ∀ v' w', w'.ownsRow B 30 1 v' (n + m) (xs ++ lx) → Below B w w' → (∀ k, k < w.heap.size → v.ownBlock ≠ some k → w'.heap[k]? = w.heap[k]?) → K (a.put o.dst v') w') : o.wp Try.prog a w K Q := by
  obtain ⟨i0, hi, hz0, hz1, hz2⟩ := info_parts info22
  rcases hsrc with ⟨hl, ⟨rfl, rfl⟩ | ⟨g, cap, cur, rfl, _, hg, hc, hmx, hsz, ht⟩⟩
  · obtain rfl : lx = [] := List.length_eq_zero_iff.1 (by omega)
    have hrun := run_append_owned_none (P := Try.prog) (w := w) B 31 o.type 30 i0 1 Try.underlying31 hi v n xs hown
    unfold Oper.wp
    simp [execOp, ho, resolve, invoke, builtin, hs, hx, hrun, Result.andThen]
    exact h v w (by simpa using hown) (Below.refl _ _) (fun _ _ _ => rfl)
  · refine wp_append_own w s x 31 ho B 30 i0 (.slice none 0 0) 1 24 Try.underlying31 hi hz0 hz1 hz2 rfl (by decide) v n xs hs hown ⟨g, 0, none⟩ m cap lx hx (by omega) ?_ hone (by unfold maxLen; omega) (by omega) hB ?_
    · intro j u hj
      have hjl := (List.getElem?_eq_some_iff.1 hj).1
      have e : (cur.toList.take (m * 1))[j]? = lx[j]? := by rw [ht]
      rw [List.getElem?_take_of_lt (by omega), hj] at e
      rw [Addr.add_lit, Nat.zero_add]
      simp only [World.cell?, hg]
      simpa using e
    · intro v' w' h1 h2 _
      exact h v' w' h1 ((Below.refl B w).grown h2 hB (fun k hk => (World.ownsRow.lt hown k hk).1)) (fun k hk hne => h2.block k hk (fun e' => hne e'.symm))
/-- A row with one element, just built. -/
theorem own_one {w : World} {g : Nat} {u : Value} (hg : w.heap[g]? = some (.cells #[u] 30 (0, 0))) : w.ownsRow 0 30 1 (.slice (some ⟨g, 0, none⟩) 1 1) 1 [u] :=
  ⟨rfl, .inr ⟨g, 1, _, rfl, Nat.zero_le _, hg, Nat.le_refl _, by decide, rfl, rfl⟩⟩
theorem own_no {w : World} {B g : Nat} (hB : B ≤ g) (hg : w.heap[g]? = some (.cells #[] 30 (0, 0))) : w.ownsRow B 30 1 (.slice (some ⟨g, 0, none⟩) 0 0) 0 [] :=
  ⟨rfl, .inr ⟨g, 0, _, rfl, hB, hg, Nat.le_refl _, by decide, rfl, rfl⟩⟩
theorem own_on {w w' : World} {B : Nat} {v : Value} {n : Nat} {xs : List Value} (h : w.ownsRow B 30 1 v n xs) (hb : Below w.heap.size w w') : w'.ownsRow B 30 1 v n xs :=
  ownsRow_block h (fun k hk => hb.block k (by
    obtain ⟨c, hc⟩ := own_ne (ownsRow_base h (Nat.zero_le _)) hk
    exact (Array.getElem?_eq_some_iff.1 hc).1))

/-- A fresh copy of a list of records, with one more. -/
theorem LZ.copied {w w3 wc : World} {Z : Nat → Prop} {v' u : Value} {rs : List (List UInt8)} {y : List UInt8} {vals : List Value} (hw : w.heap.size ≤ w3.heap.size) (hZ : ∀ k, Z k → k < w3.heap.size)
    (hlen : vals.length = rs.length) (hr : ∀ (i : Nat) (r : List UInt8), rs[i]? = some r → ∃ u, vals[i]? = some u ∧ BV w w3 Z u r) (hu : Sl.RdA w u y)
    (ho : wc.ownsRow w3.heap.size 30 1 v' (rs.length + 1) (vals ++ [u])) (hb : Below w3.heap.size w3 wc) : LZ w wc Z v' (rs ++ [y]) := by
  refine ⟨vals ++ [u], by rw [List.length_append]; exact ownsRow_base ho (Nat.zero_le _), fun k hk => ?_, fun i r hi => ?_⟩
  · rcases ho.2 with ⟨rfl, h0⟩ | ⟨g, cap, cur, rfl, hB, _⟩
    · cases hk
    · have e : k = g := by cases hk; rfl
      subst e
      exact ⟨by omega, fun hz => by have := hZ _ hz; omega⟩
  · by_cases hlt : i < rs.length
    · rw [List.getElem?_append_left hlt] at hi
      obtain ⟨u', h1, h2⟩ := hr i r hi
      exact ⟨u', by rw [List.getElem?_append_left (by omega)]; exact h1, h2.on (Y := fun _ => False) (Y' := fun _ => False) (Step.of_below hb) (fun _ h => h.elim) (fun _ h => .inl h)⟩
    · have hi' : i = rs.length := by
        have := (List.getElem?_eq_some_iff.1 hi).1
        simp at this; omega
      subst hi'
      rw [List.getElem?_append_right (Nat.le_refl _), Nat.sub_self] at hi
      cases hi
      exact ⟨u, by rw [List.getElem?_append_right (by omega), hlen, Nat.sub_self]; rfl, .inl hu⟩
end Go.Proofs.Ythgkkmcpmhfehaa

namespace Go.Proofs.Ythgkkmcpmhfehaa
open Go.RowKit Go.Lib Go.Shelf
set_option maxRecDepth 100000
set_option linter.unusedSimpArgs false

theorem append_either (w0 w : World) (X : Nat → Prop) (p t q n : Nat) (S : DS) (half : Nat) (b : List UInt8) (rs : List (List UInt8)) (h : PA w0 w X p t q n S half b rs) (hops : S.ops ≤ 100000) (hn : rs.length ≤ 5000) (r : List UInt8) (a : Option Addr) (c : Nat) (hr : Sl.RdA w (.slice a r.length c) r) (hrl : r.length ≤ 2048) :
    Calls Try.prog 14 #[.pointer (some ⟨p, 0, none⟩), .slice a r.length c] w fun e w' => ∃ (k : Int) (X' : Nat → Prop) (S' : DS) (rs' : List (List UInt8)), e = .returned (.int .i64 k) ∧ PA w0 w' X' p t q n S' half b rs' ∧ S'.ops ≤ S.ops + 14 ∧ rs'.length ≤ rs.length + 1 := by
  by_cases hpl : tot rs + (12 + r.length) ≤ (spanN n - takesN b.length) * 256
  · refine (append_pa w0 w X p t q n S half b rs h hops hn r _ hr (by omega) hpl).mono ?_
    rintro e w' ⟨rfl, X', S', h1, h2, _, _, _⟩
    exact ⟨0, X', S', _, rfl, h1, by omega, by simp⟩
  · refine (append_pafull w0 w X p t q n S half b rs h r a c (by omega) (by omega)).mono ?_
    rintro e w' ⟨rfl, h1⟩
    exact ⟨22, X, S, rs, rfl, h1, by omega, by omega⟩

theorem info9 : (Try.prog.info? 9).map (fun i => (i.zero, i.size, i.bytes)) = some (some (.string ByteArray.empty), 1, 16) := by kernel_rfl
theorem appStr {ops : Array Oper} {rest : List Oper} {o : Oper} {a : Act} {Q : Exit → Act → World → Prop} (hgd : o.guard = none) (s x : Operand)
    (ho : o.op = .call { callee := .builtin .append, args := #[s, x], argTypes := #[63, 63] }) (B : Nat) (v : Value) (xs : List Value) (n : Nat) (w : World) (u : ByteArray)
    (hs : a.eval s = v) (hown : w.ownsRow B 9 1 v n xs) (hx : a.eval x = .slice (some ⟨w.heap.size, 0, none⟩) 1 1) (hn : n ≤ 5000) (hB : B ≤ w.heap.size)
    (h : ∀ v' w', w'.ownsRow B 9 1 v' (n + 1) (xs ++ [.string u]) → Below B w w' → wpList Try.prog ops Q rest (a.put o.dst v') w') :
    wpList Try.prog ops Q (o :: rest) a (w.alloc (.cells #[.string u] 9)) := by
  obtain ⟨i0, hi, hz0, hz1, hz2⟩ := info_parts info9
  refine wpList_append_own _ hgd s x 63 ho B 9 i0 (.string ByteArray.empty) 1 16 Try.underlying63 hi hz0 hz1 hz2 rfl (by decide) v n xs hs (World.ownsRow.alloc hown _) ⟨w.heap.size, 0, none⟩ 1 1 [.string u] hx rfl ?_ ?_ (by unfold maxLen; omega) (by omega) (by simp; omega) ?_
  · intro j u' hj
    match j, hj with
    | 0, hj => simp at hj; subst hj; simp [Addr.add_lit, World.cell?_alloc_new]
  · intro u' hu; simp at hu; subst hu; rfl
  · intro v' w' h1 h2 _
    exact h v' w' h1 (((Below.refl B w).alloc hB _).grown h2 (by simp; omega) (fun k hk => (World.ownsRow.lt hown k hk).1))
theorem pageOf_same {P P' : List UInt8} {k : Nat} (h : ∀ j, k * 256 ≤ j → j < (k + 1) * 256 → P'[j]? = P[j]?) : pageOf P' k = pageOf P k := by
  apply List.ext_getElem?
  intro i
  by_cases hi : i < 256
  · rw [pageOf_get _ _ _ hi, pageOf_get _ _ _ hi]
    exact h _ (by omega) (by omega)
  · unfold pageOf
    rw [List.getElem?_take, if_neg hi, List.getElem?_take, if_neg hi]
/-- A page as a string. -/
def strP (P : List UInt8) (i : Nat) : ByteArray := ⟨(pageOf P i).toArray⟩
/-- The first pages as strings. -/
def strs (P : List UInt8) (k : Nat) : List Value := (List.range k).map fun i => .string (strP P i)
theorem strs_succ (P : List UInt8) (k : Nat) : strs P (k + 1) = strs P k ++ [.string (strP P k)] := by simp [strs, List.range_succ]
theorem strs_cell {w : World} {B : Nat} {v : Value} {n : Nat} {P : List UInt8} (h : w.ownsRow B 9 1 v n (strs P n)) (hn : 0 < n) : ∃ g c, v = .slice (some ⟨g, 0, none⟩) n c ∧ B ≤ g ∧ n ≤ c ∧ (∃ cc, w.heap[g]? = some (.cells cc 9 (0, 0))) ∧ ∀ k, k < n → w.cell? ⟨g, k, none⟩ = some (.string (strP P k)) := by
  rcases h.2 with ⟨_, h0⟩ | ⟨g, cap, cur, rfl, hB, hg, hc, _, _, ht⟩
  · omega
  · refine ⟨g, cap, rfl, hB, hc, ⟨_, hg⟩, fun k hk => ?_⟩
    have e : (cur.toList.take (n * 1))[k]? = (strs P n)[k]? := by rw [ht]
    rw [List.getElem?_take_of_lt (by omega)] at e
    simp only [strs, List.getElem?_map, List.getElem?_range hk, Option.map_some] at e
    simp only [World.cell?, hg]
    simpa using e

set_option maxHeartbeats 16000000 in
theorem turns_any (w : World) (z : Int) (v1 : Value) (r1 : List (List UInt8)) (h1 : RdL w v1 r1) (vr : Value) (r : List UInt8) (hr : Sl.RdA w vr r) (hrl : r.length ≤ 140737488355328) :
    Calls Try.prog 7 #[.int .i64 z, v1, vr] w fun e w' => e = .returned (.bool true) ∧ Below w.heap.size w w' := by
  obtain ⟨a1, c1, rfl, hr1⟩ := h1
  obtain ⟨n1, hn1⟩ : ∃ n, n = r1.length := ⟨_, rfl⟩
  rw [← hn1]
  have N1H : Hid (n1 = r1.length) := hn1
  clear hn1
  have HR1 : Hid _ := hr1
  clear hr1
  have hmix : Try.prog.follows .mixedOrders = true := by kernel_rfl
  obtain ⟨ra, rc, rfl⟩ := hr.len
  have HR : Hid _ := hr
  clear hr
  have hnot : ∀ (b : Bool) (w : World), (Op.unary .not (.bool b)).run Try.prog w = .ok (.bool (!b)) w := fun _ _ => rfl
  go_enter Try.func7, Try.ntmps7
  go_wp2_with fail
  refine (wakes_any w).mono ?_
  rintro e w0 ⟨rfl, hb0⟩
  by_cases h0 : z < 5
  · go_wp2_with fail
    go_ret
    exact ⟨rfl, hb0⟩
  by_cases h00 : 60 < z
  · go_wp2_with fail
    go_ret
    exact ⟨rfl, hb0⟩
  by_cases h000 : (12 : Int) < (n1 : Int)
  · go_wp2_with fail
    go_ret
    exact ⟨rfl, hb0⟩
  by_cases h0000 : (2048 : Int) < (r.length : Int)
  · go_wp2_with fail
    go_ret
    exact ⟨rfl, hb0⟩
  have hrl2 : r.length ≤ 2048 := by omega
  have hn12 : n1 ≤ 12 := by omega
  clear hrl
  obtain ⟨n, rfl⟩ : ∃ n : Nat, z = (n : Int) := ⟨z.toNat, by omega⟩
  have hn5 : 5 ≤ n := by omega
  have hn60 : n ≤ 60 := by omega
  have N10 := new_open w0 n hn5 (by omega)
  go_wp2_with fail
  refine N10.mono ?_
  rintro e w1 ⟨X0, q, S0, rfl, hdr0, hpp0, hW0, hops0, har0, hdn0, hb1, hX0⟩
  have hb01 : Below w.heap.size w w1 := hb0.trans (hb1.mono hb0.size)
  have N12 := first_pa w w1 X0 q n S0 hdr0 hpp0 hW0 har0 hdn0 hb01 (fun k hk => Nat.le_trans hb0.size (hX0 k hk)) hn5
  clear N10 h0 h00 h000 h0000
  go_wp2_with fail
  refine N12.mono ?_
  rintro e w2 ⟨v1, v2, p, t, rfl, ⟨sa6, sc6, rfl⟩, ⟨ra6, rc6, rfl⟩, hpa⟩
  clear N12 hb01 hdr0 hpp0 hW0 har0 hdn0 hX0 hb1 hb0
  have d1 : ((n : Int) - 1).tdiv 2 = ((spanN n : Nat) : Int) := by rw [Int.tdiv_eq_ediv_of_nonneg (by omega)]; unfold spanN; omega
  have hsn : 1 + 2 * spanN n ≤ n := by unfold spanN; omega
  have hs2 : 2 ≤ spanN n := by unfold spanN; omega
  obtain ⟨sp, hsp⟩ : ∃ sp, spanN n = sp := ⟨_, rfl⟩
  have HSP : Hid _ := hsp
  rw [hsp] at d1 hsn hs2
  clear hsp
  go_wp2_with fail
  go_loopw [58, 11, 12] (fun i v11 v12 wr => ∃ (j half t : Nat) (X : Nat → Prop) (S : DS) (b : List UInt8) (rs : List (List UInt8)) (ec : Int), j ≤ n1 ∧ i = .int .i64 j ∧ v11 = .int .i64 ec ∧ v12 = .int .i64 half ∧ PA w wr X p t q n S half b rs ∧ rs.length ≤ j ∧ S.ops ≤ 80 * j) (fun i _ _ _ => n1 - (RowKit.intOf i).toNat)
  case atStart => exact ⟨0, 0, t, X0, S0, [], [], 0, by omega, rfl, rfl, rfl, hpa, by simp, by omega⟩
  case round =>
    clear hpa hops0
    obtain ⟨j, half, t, X, S, b, rs, ec, hj, rfl, rfl, rfl, hpa, hrsl, hops⟩ := hrel
    by_cases hlt : j < n1
    · obtain ⟨s, hs⟩ : ∃ s, r1[j]? = some s := ⟨_, List.getElem?_eq_getElem (by rw [← N1H.out]; exact hlt)⟩
      obtain ⟨xb, xo, u, hae, e1, f1⟩ := HR1.out j s hs
      cases hae
      have e4 : wr.cell? ⟨xb, xo + j, none⟩ = some u := (hpa.bel.cell (p := ⟨xb, xo + j, none⟩) (World.block_lt_of_cell? w _ e1)).trans e1
      obtain ⟨ua, uc, rfl⟩ := f1.len
      have F1 : Hid _ := f1
      clear e1 f1 hs
      by_cases hbig : (8192 : Int) < (s.length : Int)
      · go_wp2_with fail
        go_ret
        exact ⟨rfl, hpa.bel⟩
      have hsl : s.length ≤ 8192 := by omega
      have N14 := append_either w wr X p t q n S half b rs hpa (by omega) (by omega) r ra rc (Sl.RdA.on HR.out hpa.bel) hrl2
      go_wp2_with fail
      refine N14.mono ?_
      rintro e w3 ⟨kc, X3, S3, rs3, rfl, hp3, ho3, hl3⟩
      have hops3 : S3.ops ≤ 80 * j + 14 := by omega
      have hrs3 : rs3.length ≤ j + 1 := by omega
      clear N14 hpa e4 hrsl hops ho3 hl3
      have hx3 := hp3.ps.d.xlt
      have hpl3 := hp3.ps.pr.lt
      have hhf := hp3.ps.pp.h1
      go_wp2_with fail
      go_loopw [17, 16] (fun i v wr => ∃ (k : Nat), k ≤ n ∧ i = .int .i64 k ∧ wr.ownsRow w3.heap.size 9 1 v k (strs S3.P k) ∧ Below w3.heap.size w3 wr) (fun i _ _ => n - (RowKit.intOf i).toNat)
      case atStart => exact ⟨0, by omega, rfl, World.ownsRow_nil _ _ _ _, Below.refl _ _⟩
      case round =>
        obtain ⟨k, hk, rfl, hown, hbw⟩ := hrel
        have hle := hbw.size
        have hpk := hp3.on hbw
        by_cases hkn : k < n
        · have N32 := read0 wr X3 q n S3 k hkn hpk.ps.dn hpk.ps.d
          have hpkl : (pageOf S3.P k).length = 256 := pageOf_length _ n _ hpk.ps.d.len hkn
          go_wp2_with fail
          refine N32.mono ?_
          rintro e w4 ⟨rfl, hpg⟩
          have hb4 : Below w3.heap.size w3 w4 := hbw.trans (hpg.below.mono hle)
          have hcv : (convert 30 9 (.slice (some ⟨wr.heap.size, 0, none⟩) 256 256)).run Try.prog w4 = .ok (.string (strP S3.P k)) w4 := by
            apply convA
            have := sl_range (c := 256) (range_of_block hpg.block) (by omega)
            rwa [hpkl] at this
          have ho4 : w4.ownsRow w3.heap.size 9 1 u16 k (strs S3.P k) := ownsRow_block hown (fun g hg => hpg.below.block g (World.ownsRow.lt hown g hg).2)
          have hss : Hid _ := strs_succ S3.P k
          generalize strP S3.P k = cs at *
          generalize strs S3.P k = xs at *
          have hle4 := hb4.size
          clear N32 hpk hpg hown
          go_wp2_with (at_builtin; refine appStr rfl (.tmp 81) (.tmp 84) rfl w3.heap.size _ xs k w4 cs rfl ho4 rfl (by omega) hle4 ?_)
          intro v5 w5 ho5 hb5
          go_wp2
          exact ⟨⟨k + 1, by omega, by go_num, by rw [hss.out]; exact ho5, hb4.trans hb5⟩, by simp [RowKit.intOf]; omega⟩
        · have hkn' : n = k := by omega
          subst hkn'
          obtain ⟨gw, cw, rfl, hgB, hgc, ⟨cc, hgh⟩, hcell⟩ := strs_cell hown (by omega)
          have hgl : gw < wr.heap.size := (Array.getElem?_eq_some_iff.1 hgh).1
          have HC : Hid _ := hcell
          clear hcell hown
          have d2 : takesN s.length ≤ 40 := by unfold takesN; omega
          by_cases hfit : takesN s.length < spanN n
          · have N16 := save_pa w wr X3 p t q n S3 half b rs3 hpk (by omega) s _ (Sl.RdA.on F1.out hpk.bel) (by omega) hfit
            go_wp2_with fail
            refine N16.mono ?_
            rintro e w5 ⟨rfl, X5, S5, t5, hp5, ho5, hsame, hX5, ht5, hst5⟩
            have hc5 : ∀ i, i < n → w5.cell? ⟨gw, i, none⟩ = some (.string (strP S3.P i)) := fun i hi => by
              rw [← HC.out i hi]
              have := hst5.block gw hgl (fun h => by
                rcases h with h | h
                · have := hx3 gw h; omega
                · omega)
              simp only [World.cell?, this]
            have HC5 : Hid _ := hc5
            have HS5 : Hid _ := hsame
            clear hc5 hsame hX5 hst5 hpk HC N16
            obtain ⟨hn, hhn⟩ : ∃ x, x = 1 - half := ⟨_, rfl⟩
            have hh2 : (1 : Int) - (half : Int) = (hn : Int) := by omega
            rw [← hhn] at hp5 HS5
            have hhn1 : hn ≤ 1 := by omega
            clear hhn
            go_wp2_with fail
            go_loopw [20] (fun i wr => ∃ (k : Nat), k ≤ n ∧ i = .int .i64 k ∧ Below w5.heap.size w5 wr) (fun i _ => n - (RowKit.intOf i).toNat)
            case atStart => exact ⟨0, by omega, rfl, Below.refl _ _⟩
            case round =>
              obtain ⟨k, hk, rfl, hbw2⟩ := hrel
              by_cases hkn : k < n
              · have hpk := hp5.on hbw2
                have N32 := read0 wr X5 q n S5 k hkn hpk.ps.dn hpk.ps.d
                have hpkl : (pageOf S5.P k).length = 256 := pageOf_length _ n _ hpk.ps.d.len hkn
                have ht0 := hpk.ps.pp.t
                go_wp2_with fail
                refine N32.mono ?_
                rintro e w6 ⟨rfl, hpg⟩
                have hb6 : Below w5.heap.size w5 w6 := hbw2.trans (hpg.below.mono hbw2.size)
                obtain ⟨mm, hmm⟩ : ∃ mm : Nat, mm = (hn) * sp := ⟨_, rfl⟩
                have hmul : ((hn : Nat) : Int) * (sp : Int) = (mm : Int) := by rw [hmm]; simp
                have hmb : mm ≤ 60 := by
                  rcases (show (hn) = 0 ∨ (hn) = 1 by omega) with h | h
                  · rw [hmm, h]; omega
                  · rw [hmm, h]; omega
                have hfst : Hid (firstN n (hn) = 1 + mm) := by
                  have : firstN n (hn) = 1 + mm := by unfold firstN; rw [HSP.out, hmm]
                  exact this
                have hh2l : (hn) ≤ 1 := by omega
                clear hmm
                have hpage : ¬ (0 = (0 : Int) ∧ 1 + mm ≤ k ∧ k < 1 + mm + sp) → 0 < k → pageOf S5.P k = pageOf S3.P k := fun hno hk0 => by
                  refine pageOf_same (fun jj h1 h2 => HS5.out jj (by omega) ?_)
                  rw [hfst.out, HSP.out]
                  have : ¬ (1 + mm ≤ k ∧ k < 1 + mm + sp) := fun h => hno ⟨rfl, h⟩
                  omega
                have HP : Hid _ := hpage
                clear hpage
                by_cases hk0 : k = 0
                · subst hk0
                  have hb0 : ∀ m, (w6.drewN m).cell? ⟨wr.heap.size, 0, none⟩ = some (.int .u8 (hn : Int)) := fun m => by
                    show w6.cell? ⟨wr.heap.size, 0, none⟩ = _
                    rw [cell_of_row _ _ _ _ _ _ hpg.block]
                    have hpt : (pageOf S5.P 0)[0]? = some (UInt8.ofNat hn) := by rw [pageOf_get _ _ _ (by omega)]; exact ht0
                    simp only [byteCells, List.getElem?_toArray, List.getElem?_map, hpt, Option.map_some]
                    congr 2
                    rcases (show hn = 0 ∨ hn = 1 by omega) with h | h <;> subst h <;> rfl
                  have i1 : ¬ (1 : Int) + (mm : Int) ≤ 0 := by omega
                  have HB0 : Hid _ := hb0
                  clear hb0 ht0 hpg hpk N32
                  go_upto_region 34 with fail
                  have hb0 : ∀ m, (w6.drewN m).cell? ⟨wr.heap.size, 0, none⟩ = some (.int .u8 (hn : Int)) := HB0.out
                  have h256 : (hn : Int) < 256 := by omega
                  go_quiet (fail)
                  go_wp2
                  exact ⟨⟨0 + 1, by omega, by go_num, hb6.trans ⟨rfl, rfl, rfl, Nat.le_refl _, fun _ _ => rfl⟩⟩, by simp [RowKit.intOf]; omega⟩
                · have hcv : ∀ m, (convert 30 9 (.slice (some ⟨wr.heap.size, 0, none⟩) 256 256)).run Try.prog (w6.drewN m) = .ok (.string (strP S5.P k)) (w6.drewN m) := fun m => by
                    apply convA
                    have := sl_range (c := 256) (range_of_block (w := w6.drewN m) hpg.block) (by omega)
                    rwa [hpkl] at this
                  have hwk : ∀ m, (w6.drewN m).cell? ⟨gw, k, none⟩ = some (.string (strP S3.P k)) := fun m => by
                    show w6.cell? ⟨gw, k, none⟩ = _
                    rw [← HC5.out k hkn]
                    exact hb6.cell (p := ⟨gw, k, none⟩) (World.block_lt_of_cell? _ _ (HC5.out k hkn))
                  have hki : ¬ (k : Int) = 0 := by omega
                  have hkp : (0 : Int) < (k : Int) := by omega
                  have HCV : Hid _ := hcv
                  have HWK : Hid _ := hwk
                  clear hcv hwk ht0 hpg hpk N32
                  by_cases iA : (1 : Int) + (mm : Int) ≤ (k : Int)
                  · by_cases iB : (k : Int) < 1 + (mm : Int) + (sp : Int)
                    · clear HP
                      go_upto_region 34 with fail
                      have b1 : decide ((k : Int) = 0) = false := decide_eq_false (by omega)
                      have b2 : decide ((0 : Int) < (k : Int)) = true := decide_eq_true (by omega)
                      have b3 : ((k : Int) == 0) = false := by simp; omega
                      have b4 : decide ((k : Int) < 1 + (mm : Int) + (sp : Int)) = true := decide_eq_true (by omega)
                      have c1 : ∀ inst, @decide ((k : Int) = 0) inst = false := fun _ => decide_eq_false (by omega)
                      have c2 : ∀ inst, @decide ((0 : Int) < (k : Int)) inst = true := fun _ => decide_eq_true (by omega)
                      have c4 : ∀ inst, @decide ((k : Int) < 1 + (mm : Int) + (sp : Int)) inst = true := fun _ => decide_eq_true (by omega)
                      try simp only [c4]
                      have hS : True := trivial
                      refine wp_region_held (S := fun _ => True) hmix ?_
                      show wpAnyH _ _ _ _ _ _ _ _ w6.drew
                      refine wpAnyH_take (i := 0) (v := .int .i64 0) rfl (by kernel_rfl) (by kernel_rfl) (by kernel_rfl) (fun _ _ _ h => h) (.inl ⟨by rfl, fun W' hW' => ?_⟩) hS ?_
                      · clear hW'
                        go_simp
                      simp only [Act.put, List.getElem_toArray, List.getElem_cons_succ, List.getElem_cons_zero, List.setIfInBounds_toArray, List.set_cons_succ, List.set_cons_zero]
                      refine wpAnyH_take (i := 1) (v := .bool false) rfl (by kernel_rfl) (by kernel_rfl) (by kernel_rfl) (fun _ _ _ h => h) (.inl ⟨by rfl, fun W' hW' => ?_⟩) hS ?_
                      · clear hW'
                        go_simp
                      simp only [Act.put, List.getElem_toArray, List.getElem_cons_succ, List.getElem_cons_zero, List.setIfInBounds_toArray, List.set_cons_succ, List.set_cons_zero]
                      refine wpAnyH_take (i := 2) (v := .bool false) rfl (by kernel_rfl) (by kernel_rfl) (by kernel_rfl) (fun _ _ _ h => h) (.inl ⟨by rfl, fun W' hW' => ?_⟩) hS ?_
                      · clear hW'
                        go_simp
                      simp only [Act.put, List.getElem_toArray, List.getElem_cons_succ, List.getElem_cons_zero, List.setIfInBounds_toArray, List.set_cons_succ, List.set_cons_zero]
                      refine wpAnyH_take (i := 3) (v := .int .i64 (k : Int)) rfl (by kernel_rfl) (by kernel_rfl) (by kernel_rfl) (fun _ _ _ h => h) (.inl ⟨by rfl, fun W' hW' => ?_⟩) hS ?_
                      · clear hW'
                        go_simp
                      simp only [Act.put, List.getElem_toArray, List.getElem_cons_succ, List.getElem_cons_zero, List.setIfInBounds_toArray, List.set_cons_succ, List.set_cons_zero]
                      refine wpAnyH_take (i := 4) (v := .bool false) rfl (by kernel_rfl) (by kernel_rfl) (by kernel_rfl) (fun _ _ _ h => h) (.inl ⟨by rfl, fun W' hW' => ?_⟩) hS ?_
                      · clear hW'
                        go_simp
                      simp only [Act.put, List.getElem_toArray, List.getElem_cons_succ, List.getElem_cons_zero, List.setIfInBounds_toArray, List.set_cons_succ, List.set_cons_zero]
                      refine wpAnyH_take (i := 5) (v := .bool false) rfl (by kernel_rfl) (by kernel_rfl) (by kernel_rfl) (fun _ _ _ h => h) (.inl ⟨by rfl, fun W' hW' => ?_⟩) hS ?_
                      · clear hW'
                        go_simp
                      simp only [Act.put, List.getElem_toArray, List.getElem_cons_succ, List.getElem_cons_zero, List.setIfInBounds_toArray, List.set_cons_succ, List.set_cons_zero]
                      refine wpAnyH_take (i := 6) (v := undef) rfl (by kernel_rfl) (by kernel_rfl) (by kernel_rfl) (fun _ _ _ h => h) (.inr ⟨by rfl, rfl⟩) hS ?_
                      simp only [Act.put, List.getElem_toArray, List.getElem_cons_succ, List.getElem_cons_zero, List.setIfInBounds_toArray, List.set_cons_succ, List.set_cons_zero]
                      refine wpAnyH_take (i := 7) (v := undef) rfl (by kernel_rfl) (by kernel_rfl) (by kernel_rfl) (fun _ _ _ h => h) (.inr ⟨by rfl, rfl⟩) hS ?_
                      simp only [Act.put, List.getElem_toArray, List.getElem_cons_succ, List.getElem_cons_zero, List.setIfInBounds_toArray, List.set_cons_succ, List.set_cons_zero]
                      refine wpAnyH_take (i := 8) (v := undef) rfl (by kernel_rfl) (by kernel_rfl) (by kernel_rfl) (fun _ _ _ h => h) (.inr ⟨by rfl, rfl⟩) hS ?_
                      simp only [Act.put, List.getElem_toArray, List.getElem_cons_succ, List.getElem_cons_zero, List.setIfInBounds_toArray, List.set_cons_succ, List.set_cons_zero]
                      refine wpAnyH_take (i := 9) (v := undef) rfl (by kernel_rfl) (by kernel_rfl) (by kernel_rfl) (fun _ _ _ h => h) (.inr ⟨by rfl, rfl⟩) hS ?_
                      simp only [Act.put, List.getElem_toArray, List.getElem_cons_succ, List.getElem_cons_zero, List.setIfInBounds_toArray, List.set_cons_succ, List.set_cons_zero]
                      refine wpAnyH_take (i := 10) (v := undef) rfl (by kernel_rfl) (by kernel_rfl) (by kernel_rfl) (fun _ _ _ h => h) (.inr ⟨by rfl, rfl⟩) hS ?_
                      simp only [Act.put, List.getElem_toArray, List.getElem_cons_succ, List.getElem_cons_zero, List.setIfInBounds_toArray, List.set_cons_succ, List.set_cons_zero]
                      refine wpAnyH_take (i := 11) (v := undef) rfl (by kernel_rfl) (by kernel_rfl) (by kernel_rfl) (fun _ _ _ h => h) (.inr ⟨by rfl, rfl⟩) hS ?_
                      simp only [Act.put, List.getElem_toArray, List.getElem_cons_succ, List.getElem_cons_zero, List.setIfInBounds_toArray, List.set_cons_succ, List.set_cons_zero]
                      refine wpAnyH_take (i := 12) (v := .bool false) rfl (by kernel_rfl) (by kernel_rfl) (by kernel_rfl) (fun _ _ _ h => h) (.inl ⟨by rfl, fun W' hW' => ?_⟩) hS ?_
                      · clear hW'
                        go_simp
                      simp only [Act.put, List.getElem_toArray, List.getElem_cons_succ, List.getElem_cons_zero, List.setIfInBounds_toArray, List.set_cons_succ, List.set_cons_zero]
                      refine wpAnyH_take (i := 13) (v := .bool false) rfl (by kernel_rfl) (by kernel_rfl) (by kernel_rfl) (fun _ _ _ h => h) (.inl ⟨by rfl, fun W' hW' => ?_⟩) hS ?_
                      · clear hW'
                        go_simp
                      simp only [Act.put, List.getElem_toArray, List.getElem_cons_succ, List.getElem_cons_zero, List.setIfInBounds_toArray, List.set_cons_succ, List.set_cons_zero]
                      refine wpAnyH_take (i := 14) (v := .bool false) rfl (by kernel_rfl) (by kernel_rfl) (by kernel_rfl) (fun _ _ _ h => h) (.inl ⟨by rfl, fun W' hW' => ?_⟩) hS ?_
                      · clear hW'
                        go_simp
                      simp only [Act.put, List.getElem_toArray, List.getElem_cons_succ, List.getElem_cons_zero, List.setIfInBounds_toArray, List.set_cons_succ, List.set_cons_zero]
                      refine wpAnyH_take (i := 15) (v := .int .i64 (k : Int)) rfl (by kernel_rfl) (by kernel_rfl) (by kernel_rfl) (fun _ _ _ h => h) (.inl ⟨by rfl, fun W' hW' => ?_⟩) hS ?_
                      · clear hW'
                        go_simp
                      simp only [Act.put, List.getElem_toArray, List.getElem_cons_succ, List.getElem_cons_zero, List.setIfInBounds_toArray, List.set_cons_succ, List.set_cons_zero]
                      refine wpAnyH_take (i := 16) (v := .bool true) rfl (by kernel_rfl) (by kernel_rfl) (by kernel_rfl) (fun _ _ _ h => h) (.inl ⟨by rfl, fun W' hW' => ?_⟩) hS ?_
                      · clear hW'
                        go_simp <;> omega
                      simp only [Act.put, List.getElem_toArray, List.getElem_cons_succ, List.getElem_cons_zero, List.setIfInBounds_toArray, List.set_cons_succ, List.set_cons_zero]
                      refine wpAnyH_take (i := 17) (v := .bool true) rfl (by kernel_rfl) (by kernel_rfl) (by kernel_rfl) (fun _ _ _ h => h) (.inl ⟨by rfl, fun W' hW' => ?_⟩) hS ?_
                      · clear hW'
                        go_simp
                      simp only [Act.put, List.getElem_toArray, List.getElem_cons_succ, List.getElem_cons_zero, List.setIfInBounds_toArray, List.set_cons_succ, List.set_cons_zero]
                      refine wpAnyH_take (i := 18) (v := .int .i64 0) rfl (by kernel_rfl) (by kernel_rfl) (by kernel_rfl) (fun _ _ _ h => h) (.inl ⟨by rfl, fun W' hW' => ?_⟩) hS ?_
                      · clear hW'
                        go_simp
                      simp only [Act.put, List.getElem_toArray, List.getElem_cons_succ, List.getElem_cons_zero, List.setIfInBounds_toArray, List.set_cons_succ, List.set_cons_zero]
                      refine wpAnyH_take (i := 19) (v := .bool true) rfl (by kernel_rfl) (by kernel_rfl) (by kernel_rfl) (fun _ _ _ h => h) (.inl ⟨by rfl, fun W' hW' => ?_⟩) hS ?_
                      · clear hW'
                        go_simp
                      simp only [Act.put, List.getElem_toArray, List.getElem_cons_succ, List.getElem_cons_zero, List.setIfInBounds_toArray, List.set_cons_succ, List.set_cons_zero]
                      refine wpAnyH_take (i := 20) (v := .bool true) rfl (by kernel_rfl) (by kernel_rfl) (by kernel_rfl) (fun _ _ _ h => h) (.inl ⟨by rfl, fun W' hW' => ?_⟩) hS ?_
                      · clear hW'
                        go_simp
                      simp only [Act.put, List.getElem_toArray, List.getElem_cons_succ, List.getElem_cons_zero, List.setIfInBounds_toArray, List.set_cons_succ, List.set_cons_zero]
                      refine wpAnyH_take (i := 21) (v := .bool true) rfl (by kernel_rfl) (by kernel_rfl) (by kernel_rfl) (fun _ _ _ h => h) (.inl ⟨by rfl, fun W' hW' => ?_⟩) hS ?_
                      · clear hW'
                        go_simp
                      simp only [Act.put, List.getElem_toArray, List.getElem_cons_succ, List.getElem_cons_zero, List.setIfInBounds_toArray, List.set_cons_succ, List.set_cons_zero]
                      refine wpAnyH_take (i := 22) (v := .bool true) rfl (by kernel_rfl) (by kernel_rfl) (by kernel_rfl) (fun _ _ _ h => h) (.inl ⟨by rfl, fun W' hW' => ?_⟩) hS ?_
                      · clear hW'
                        go_simp
                      simp only [Act.put, List.getElem_toArray, List.getElem_cons_succ, List.getElem_cons_zero, List.setIfInBounds_toArray, List.set_cons_succ, List.set_cons_zero]
                      refine wpAnyH_take (i := 23) (v := .bool false) rfl (by kernel_rfl) (by kernel_rfl) (by kernel_rfl) (fun _ _ _ h => h) (.inl ⟨by rfl, fun W' hW' => ?_⟩) hS ?_
                      · clear hW'
                        go_simp
                      simp only [Act.put, List.getElem_toArray, List.getElem_cons_succ, List.getElem_cons_zero, List.setIfInBounds_toArray, List.set_cons_succ, List.set_cons_zero]
                      refine wpAnyH_take (i := 24) (v := .bool false) rfl (by kernel_rfl) (by kernel_rfl) (by kernel_rfl) (fun _ _ _ h => h) (.inl ⟨by rfl, fun W' hW' => ?_⟩) hS ?_
                      · clear hW'
                        go_simp
                      simp only [Act.put, List.getElem_toArray, List.getElem_cons_succ, List.getElem_cons_zero, List.setIfInBounds_toArray, List.set_cons_succ, List.set_cons_zero]
                      refine wpAnyH_take (i := 25) (v := .bool false) rfl (by kernel_rfl) (by kernel_rfl) (by kernel_rfl) (fun _ _ _ h => h) (.inl ⟨by rfl, fun W' hW' => ?_⟩) hS ?_
                      · clear hW'
                        go_simp
                      simp only [Act.put, List.getElem_toArray, List.getElem_cons_succ, List.getElem_cons_zero, List.setIfInBounds_toArray, List.set_cons_succ, List.set_cons_zero]
                      refine wpAnyH_take (i := 26) (v := undef) rfl (by kernel_rfl) (by kernel_rfl) (by kernel_rfl) (fun _ _ _ h => h) (.inr ⟨by rfl, rfl⟩) hS ?_
                      simp only [Act.put, List.getElem_toArray, List.getElem_cons_succ, List.getElem_cons_zero, List.setIfInBounds_toArray, List.set_cons_succ, List.set_cons_zero]
                      refine wpAnyH_take (i := 27) (v := undef) rfl (by kernel_rfl) (by kernel_rfl) (by kernel_rfl) (fun _ _ _ h => h) (.inr ⟨by rfl, rfl⟩) hS ?_
                      simp only [Act.put, List.getElem_toArray, List.getElem_cons_succ, List.getElem_cons_zero, List.setIfInBounds_toArray, List.set_cons_succ, List.set_cons_zero]
                      refine wpAnyH_take (i := 28) (v := undef) rfl (by kernel_rfl) (by kernel_rfl) (by kernel_rfl) (fun _ _ _ h => h) (.inr ⟨by rfl, rfl⟩) hS ?_
                      simp only [Act.put, List.getElem_toArray, List.getElem_cons_succ, List.getElem_cons_zero, List.setIfInBounds_toArray, List.set_cons_succ, List.set_cons_zero]
                      refine wpAnyH_take (i := 29) (v := undef) rfl (by kernel_rfl) (by kernel_rfl) (by kernel_rfl) (fun _ _ _ h => h) (.inr ⟨by rfl, rfl⟩) hS ?_
                      simp only [Act.put, List.getElem_toArray, List.getElem_cons_succ, List.getElem_cons_zero, List.setIfInBounds_toArray, List.set_cons_succ, List.set_cons_zero]
                      refine wpAnyH_take (i := 30) (v := undef) rfl (by kernel_rfl) (by kernel_rfl) (by kernel_rfl) (fun _ _ _ h => h) (.inr ⟨by rfl, rfl⟩) hS ?_
                      simp only [Act.put, List.getElem_toArray, List.getElem_cons_succ, List.getElem_cons_zero, List.setIfInBounds_toArray, List.set_cons_succ, List.set_cons_zero]
                      refine wpAnyH_take (i := 31) (v := undef) rfl (by kernel_rfl) (by kernel_rfl) (by kernel_rfl) (fun _ _ _ h => h) (.inr ⟨by rfl, rfl⟩) hS ?_
                      simp only [Act.put, List.getElem_toArray, List.getElem_cons_succ, List.getElem_cons_zero, List.setIfInBounds_toArray, List.set_cons_succ, List.set_cons_zero]
                      refine wpAnyH_take (i := 32) (v := undef) rfl (by kernel_rfl) (by kernel_rfl) (by kernel_rfl) (fun _ _ _ h => h) (.inr ⟨by rfl, rfl⟩) hS ?_
                      simp only [Act.put, List.getElem_toArray, List.getElem_cons_succ, List.getElem_cons_zero, List.setIfInBounds_toArray, List.set_cons_succ, List.set_cons_zero]
                      refine wpAnyH_take (i := 33) (v := .bool false) rfl (by kernel_rfl) (by kernel_rfl) (by kernel_rfl) (fun _ _ _ h => h) (.inl ⟨by rfl, fun W' hW' => ?_⟩) hS ?_
                      · clear hW'
                        go_simp
                      simp only [Act.put, List.getElem_toArray, List.getElem_cons_succ, List.getElem_cons_zero, List.setIfInBounds_toArray, List.set_cons_succ, List.set_cons_zero]
                      refine wpAnyH_take (i := 34) (v := .bool false) rfl (by kernel_rfl) (by kernel_rfl) (by kernel_rfl) (fun _ _ _ h => h) (.inl ⟨by rfl, fun W' hW' => ?_⟩) hS ?_
                      · clear hW'
                        go_simp
                      simp only [Act.put, List.getElem_toArray, List.getElem_cons_succ, List.getElem_cons_zero, List.setIfInBounds_toArray, List.set_cons_succ, List.set_cons_zero]
                      refine wpAnyH_done (by kernel_rfl) ?_ _
                      go_wp2
                      exact ⟨⟨k + 1, by omega, by go_num, hb6.trans ⟨rfl, rfl, rfl, Nat.le_refl _, fun _ _ => rfl⟩⟩, by simp [RowKit.intOf]; omega⟩
                    · have hpe := HP.out (fun h => by omega) (by omega)
                      have hcv : ∀ m, (convert 30 9 (.slice (some ⟨wr.heap.size, 0, none⟩) 256 256)).run Try.prog (w6.drewN m) = .ok (.string (strP S5.P k)) (w6.drewN m) := HCV.out
                      have hwk : ∀ m, (w6.drewN m).cell? ⟨gw, k, none⟩ = some (.string (strP S3.P k)) := HWK.out
                      have hse : strP S5.P k = strP S3.P k := by unfold strP; rw [hpe]
                      rw [hse] at hcv
                      have H1 : Hid _ := hcv
                      have H2 : Hid _ := hwk
                      clear hpe hcv hwk hse HCV HWK HP
                      go_upto_region 34 with fail
                      have hcv : ∀ m, (convert 30 9 (.slice (some ⟨wr.heap.size, 0, none⟩) 256 256)).run Try.prog (w6.drewN m) = .ok (.string (strP S3.P k)) (w6.drewN m) := H1.out
                      have hwk : ∀ m, (w6.drewN m).cell? ⟨gw, k, none⟩ = some (.string (strP S3.P k)) := H2.out
                      generalize strP S3.P k = cs at *
                      have b1 : decide ((k : Int) = 0) = false := decide_eq_false (by omega)
                      have b2 : decide ((0 : Int) < (k : Int)) = true := decide_eq_true (by omega)
                      have b3 : ((k : Int) == 0) = false := by simp; omega
                      have b4 : decide ((k : Int) < 1 + (mm : Int) + (sp : Int)) = false := decide_eq_false (by omega)
                      have c1 : ∀ inst, @decide ((k : Int) = 0) inst = false := fun _ => decide_eq_false (by omega)
                      have c2 : ∀ inst, @decide ((0 : Int) < (k : Int)) inst = true := fun _ => decide_eq_true (by omega)
                      have c4 : ∀ inst, @decide ((k : Int) < 1 + (mm : Int) + (sp : Int)) inst = false := fun _ => decide_eq_false (by omega)
                      try simp only [c4]
                      have hS : (convert 30 9 (.slice (some ⟨wr.heap.size, 0, none⟩) 256 256)).run Try.prog w6.drew = .ok (.string cs) w6.drew ∧ w6.drew.cell? ⟨gw, k, none⟩ = some (.string cs) := ⟨hcv 1, hwk 1⟩
                      clear hcv hwk
                      refine wp_region_held (S := fun W' => (convert 30 9 (.slice (some ⟨wr.heap.size, 0, none⟩) 256 256)).run Try.prog W' = .ok (.string cs) W' ∧ W'.cell? ⟨gw, k, none⟩ = some (.string cs)) hmix ?_
                      show wpAnyH _ _ _ _ _ _ _ _ w6.drew
                      refine wpAnyH_take (i := 0) (v := .int .i64 0) rfl (by kernel_rfl) (by kernel_rfl) (by kernel_rfl) (fun _ _ _ h => h) (.inl ⟨by rfl, fun W' hW' => ?_⟩) hS ?_
                      · obtain ⟨q1, q2⟩ := hW'
                        go_simp
                      simp only [Act.put, List.getElem_toArray, List.getElem_cons_succ, List.getElem_cons_zero, List.setIfInBounds_toArray, List.set_cons_succ, List.set_cons_zero]
                      refine wpAnyH_take (i := 1) (v := .bool false) rfl (by kernel_rfl) (by kernel_rfl) (by kernel_rfl) (fun _ _ _ h => h) (.inl ⟨by rfl, fun W' hW' => ?_⟩) hS ?_
                      · obtain ⟨q1, q2⟩ := hW'
                        go_simp
                      simp only [Act.put, List.getElem_toArray, List.getElem_cons_succ, List.getElem_cons_zero, List.setIfInBounds_toArray, List.set_cons_succ, List.set_cons_zero]
                      refine wpAnyH_take (i := 2) (v := .bool false) rfl (by kernel_rfl) (by kernel_rfl) (by kernel_rfl) (fun _ _ _ h => h) (.inl ⟨by rfl, fun W' hW' => ?_⟩) hS ?_
                      · obtain ⟨q1, q2⟩ := hW'
                        go_simp
                      simp only [Act.put, List.getElem_toArray, List.getElem_cons_succ, List.getElem_cons_zero, List.setIfInBounds_toArray, List.set_cons_succ, List.set_cons_zero]
                      refine wpAnyH_take (i := 3) (v := .int .i64 (k : Int)) rfl (by kernel_rfl) (by kernel_rfl) (by kernel_rfl) (fun _ _ _ h => h) (.inl ⟨by rfl, fun W' hW' => ?_⟩) hS ?_
                      · obtain ⟨q1, q2⟩ := hW'
                        go_simp
                      simp only [Act.put, List.getElem_toArray, List.getElem_cons_succ, List.getElem_cons_zero, List.setIfInBounds_toArray, List.set_cons_succ, List.set_cons_zero]
                      refine wpAnyH_take (i := 4) (v := .bool false) rfl (by kernel_rfl) (by kernel_rfl) (by kernel_rfl) (fun _ _ _ h => h) (.inl ⟨by rfl, fun W' hW' => ?_⟩) hS ?_
                      · obtain ⟨q1, q2⟩ := hW'
                        go_simp
                      simp only [Act.put, List.getElem_toArray, List.getElem_cons_succ, List.getElem_cons_zero, List.setIfInBounds_toArray, List.set_cons_succ, List.set_cons_zero]
                      refine wpAnyH_take (i := 5) (v := .bool false) rfl (by kernel_rfl) (by kernel_rfl) (by kernel_rfl) (fun _ _ _ h => h) (.inl ⟨by rfl, fun W' hW' => ?_⟩) hS ?_
                      · obtain ⟨q1, q2⟩ := hW'
                        go_simp
                      simp only [Act.put, List.getElem_toArray, List.getElem_cons_succ, List.getElem_cons_zero, List.setIfInBounds_toArray, List.set_cons_succ, List.set_cons_zero]
                      refine wpAnyH_take (i := 6) (v := undef) rfl (by kernel_rfl) (by kernel_rfl) (by kernel_rfl) (fun _ _ _ h => h) (.inr ⟨by rfl, rfl⟩) hS ?_
                      simp only [Act.put, List.getElem_toArray, List.getElem_cons_succ, List.getElem_cons_zero, List.setIfInBounds_toArray, List.set_cons_succ, List.set_cons_zero]
                      refine wpAnyH_take (i := 7) (v := undef) rfl (by kernel_rfl) (by kernel_rfl) (by kernel_rfl) (fun _ _ _ h => h) (.inr ⟨by rfl, rfl⟩) hS ?_
                      simp only [Act.put, List.getElem_toArray, List.getElem_cons_succ, List.getElem_cons_zero, List.setIfInBounds_toArray, List.set_cons_succ, List.set_cons_zero]
                      refine wpAnyH_take (i := 8) (v := undef) rfl (by kernel_rfl) (by kernel_rfl) (by kernel_rfl) (fun _ _ _ h => h) (.inr ⟨by rfl, rfl⟩) hS ?_
                      simp only [Act.put, List.getElem_toArray, List.getElem_cons_succ, List.getElem_cons_zero, List.setIfInBounds_toArray, List.set_cons_succ, List.set_cons_zero]
                      refine wpAnyH_take (i := 9) (v := undef) rfl (by kernel_rfl) (by kernel_rfl) (by kernel_rfl) (fun _ _ _ h => h) (.inr ⟨by rfl, rfl⟩) hS ?_
                      simp only [Act.put, List.getElem_toArray, List.getElem_cons_succ, List.getElem_cons_zero, List.setIfInBounds_toArray, List.set_cons_succ, List.set_cons_zero]
                      refine wpAnyH_take (i := 10) (v := undef) rfl (by kernel_rfl) (by kernel_rfl) (by kernel_rfl) (fun _ _ _ h => h) (.inr ⟨by rfl, rfl⟩) hS ?_
                      simp only [Act.put, List.getElem_toArray, List.getElem_cons_succ, List.getElem_cons_zero, List.setIfInBounds_toArray, List.set_cons_succ, List.set_cons_zero]
                      refine wpAnyH_take (i := 11) (v := undef) rfl (by kernel_rfl) (by kernel_rfl) (by kernel_rfl) (fun _ _ _ h => h) (.inr ⟨by rfl, rfl⟩) hS ?_
                      simp only [Act.put, List.getElem_toArray, List.getElem_cons_succ, List.getElem_cons_zero, List.setIfInBounds_toArray, List.set_cons_succ, List.set_cons_zero]
                      refine wpAnyH_take (i := 12) (v := .bool false) rfl (by kernel_rfl) (by kernel_rfl) (by kernel_rfl) (fun _ _ _ h => h) (.inl ⟨by rfl, fun W' hW' => ?_⟩) hS ?_
                      · obtain ⟨q1, q2⟩ := hW'
                        go_simp
                      simp only [Act.put, List.getElem_toArray, List.getElem_cons_succ, List.getElem_cons_zero, List.setIfInBounds_toArray, List.set_cons_succ, List.set_cons_zero]
                      refine wpAnyH_take (i := 13) (v := .bool false) rfl (by kernel_rfl) (by kernel_rfl) (by kernel_rfl) (fun _ _ _ h => h) (.inl ⟨by rfl, fun W' hW' => ?_⟩) hS ?_
                      · obtain ⟨q1, q2⟩ := hW'
                        go_simp
                      simp only [Act.put, List.getElem_toArray, List.getElem_cons_succ, List.getElem_cons_zero, List.setIfInBounds_toArray, List.set_cons_succ, List.set_cons_zero]
                      refine wpAnyH_take (i := 14) (v := .bool false) rfl (by kernel_rfl) (by kernel_rfl) (by kernel_rfl) (fun _ _ _ h => h) (.inl ⟨by rfl, fun W' hW' => ?_⟩) hS ?_
                      · obtain ⟨q1, q2⟩ := hW'
                        go_simp
                      simp only [Act.put, List.getElem_toArray, List.getElem_cons_succ, List.getElem_cons_zero, List.setIfInBounds_toArray, List.set_cons_succ, List.set_cons_zero]
                      refine wpAnyH_take (i := 15) (v := .int .i64 (k : Int)) rfl (by kernel_rfl) (by kernel_rfl) (by kernel_rfl) (fun _ _ _ h => h) (.inl ⟨by rfl, fun W' hW' => ?_⟩) hS ?_
                      · obtain ⟨q1, q2⟩ := hW'
                        go_simp
                      simp only [Act.put, List.getElem_toArray, List.getElem_cons_succ, List.getElem_cons_zero, List.setIfInBounds_toArray, List.set_cons_succ, List.set_cons_zero]
                      refine wpAnyH_take (i := 16) (v := .bool true) rfl (by kernel_rfl) (by kernel_rfl) (by kernel_rfl) (fun _ _ _ h => h) (.inl ⟨by rfl, fun W' hW' => ?_⟩) hS ?_
                      · obtain ⟨q1, q2⟩ := hW'
                        go_simp <;> omega
                      simp only [Act.put, List.getElem_toArray, List.getElem_cons_succ, List.getElem_cons_zero, List.setIfInBounds_toArray, List.set_cons_succ, List.set_cons_zero]
                      refine wpAnyH_take (i := 17) (v := .bool true) rfl (by kernel_rfl) (by kernel_rfl) (by kernel_rfl) (fun _ _ _ h => h) (.inl ⟨by rfl, fun W' hW' => ?_⟩) hS ?_
                      · obtain ⟨q1, q2⟩ := hW'
                        go_simp
                      simp only [Act.put, List.getElem_toArray, List.getElem_cons_succ, List.getElem_cons_zero, List.setIfInBounds_toArray, List.set_cons_succ, List.set_cons_zero]
                      refine wpAnyH_take (i := 18) (v := .int .i64 0) rfl (by kernel_rfl) (by kernel_rfl) (by kernel_rfl) (fun _ _ _ h => h) (.inl ⟨by rfl, fun W' hW' => ?_⟩) hS ?_
                      · obtain ⟨q1, q2⟩ := hW'
                        go_simp
                      simp only [Act.put, List.getElem_toArray, List.getElem_cons_succ, List.getElem_cons_zero, List.setIfInBounds_toArray, List.set_cons_succ, List.set_cons_zero]
                      refine wpAnyH_take (i := 19) (v := .bool true) rfl (by kernel_rfl) (by kernel_rfl) (by kernel_rfl) (fun _ _ _ h => h) (.inl ⟨by rfl, fun W' hW' => ?_⟩) hS ?_
                      · obtain ⟨q1, q2⟩ := hW'
                        go_simp
                      simp only [Act.put, List.getElem_toArray, List.getElem_cons_succ, List.getElem_cons_zero, List.setIfInBounds_toArray, List.set_cons_succ, List.set_cons_zero]
                      refine wpAnyH_take (i := 20) (v := .bool true) rfl (by kernel_rfl) (by kernel_rfl) (by kernel_rfl) (fun _ _ _ h => h) (.inl ⟨by rfl, fun W' hW' => ?_⟩) hS ?_
                      · obtain ⟨q1, q2⟩ := hW'
                        go_simp
                      simp only [Act.put, List.getElem_toArray, List.getElem_cons_succ, List.getElem_cons_zero, List.setIfInBounds_toArray, List.set_cons_succ, List.set_cons_zero]
                      refine wpAnyH_take (i := 21) (v := .bool false) rfl (by kernel_rfl) (by kernel_rfl) (by kernel_rfl) (fun _ _ _ h => h) (.inl ⟨by rfl, fun W' hW' => ?_⟩) hS ?_
                      · obtain ⟨q1, q2⟩ := hW'
                        go_simp
                      simp only [Act.put, List.getElem_toArray, List.getElem_cons_succ, List.getElem_cons_zero, List.setIfInBounds_toArray, List.set_cons_succ, List.set_cons_zero]
                      refine wpAnyH_take (i := 22) (v := .bool false) rfl (by kernel_rfl) (by kernel_rfl) (by kernel_rfl) (fun _ _ _ h => h) (.inl ⟨by rfl, fun W' hW' => ?_⟩) hS ?_
                      · obtain ⟨q1, q2⟩ := hW'
                        go_simp
                      simp only [Act.put, List.getElem_toArray, List.getElem_cons_succ, List.getElem_cons_zero, List.setIfInBounds_toArray, List.set_cons_succ, List.set_cons_zero]
                      refine wpAnyH_take (i := 23) (v := .bool true) rfl (by kernel_rfl) (by kernel_rfl) (by kernel_rfl) (fun _ _ _ h => h) (.inl ⟨by rfl, fun W' hW' => ?_⟩) hS ?_
                      · obtain ⟨q1, q2⟩ := hW'
                        go_simp
                      simp only [Act.put, List.getElem_toArray, List.getElem_cons_succ, List.getElem_cons_zero, List.setIfInBounds_toArray, List.set_cons_succ, List.set_cons_zero]
                      refine wpAnyH_take (i := 24) (v := .bool true) rfl (by kernel_rfl) (by kernel_rfl) (by kernel_rfl) (fun _ _ _ h => h) (.inl ⟨by rfl, fun W' hW' => ?_⟩) hS ?_
                      · obtain ⟨q1, q2⟩ := hW'
                        go_simp
                      simp only [Act.put, List.getElem_toArray, List.getElem_cons_succ, List.getElem_cons_zero, List.setIfInBounds_toArray, List.set_cons_succ, List.set_cons_zero]
                      refine wpAnyH_take (i := 25) (v := .bool true) rfl (by kernel_rfl) (by kernel_rfl) (by kernel_rfl) (fun _ _ _ h => h) (.inl ⟨by rfl, fun W' hW' => ?_⟩) hS ?_
                      · obtain ⟨q1, q2⟩ := hW'
                        go_simp
                      simp only [Act.put, List.getElem_toArray, List.getElem_cons_succ, List.getElem_cons_zero, List.setIfInBounds_toArray, List.set_cons_succ, List.set_cons_zero]
                      refine wpAnyH_take (i := 26) (v := .slice (some ⟨wr.heap.size, 0, none⟩) 256 256) rfl (by kernel_rfl) (by kernel_rfl) (by kernel_rfl) (fun _ _ _ h => h) (.inl ⟨by rfl, fun W' hW' => ?_⟩) hS ?_
                      · obtain ⟨q1, q2⟩ := hW'
                        go_simp
                      simp only [Act.put, List.getElem_toArray, List.getElem_cons_succ, List.getElem_cons_zero, List.setIfInBounds_toArray, List.set_cons_succ, List.set_cons_zero]
                      refine wpAnyH_take (i := 27) (v := .string cs) rfl (by kernel_rfl) (by kernel_rfl) (by kernel_rfl) (fun _ _ _ h => h) (.inl ⟨by rfl, fun W' hW' => ?_⟩) hS ?_
                      · obtain ⟨q1, q2⟩ := hW'
                        go_simp
                      simp only [Act.put, List.getElem_toArray, List.getElem_cons_succ, List.getElem_cons_zero, List.setIfInBounds_toArray, List.set_cons_succ, List.set_cons_zero]
                      refine wpAnyH_take (i := 28) (v := .slice (some ⟨gw, 0, none⟩) n cw) rfl (by kernel_rfl) (by kernel_rfl) (by kernel_rfl) (fun _ _ _ h => h) (.inl ⟨by rfl, fun W' hW' => ?_⟩) hS ?_
                      · obtain ⟨q1, q2⟩ := hW'
                        go_simp
                      simp only [Act.put, List.getElem_toArray, List.getElem_cons_succ, List.getElem_cons_zero, List.setIfInBounds_toArray, List.set_cons_succ, List.set_cons_zero]
                      refine wpAnyH_take (i := 29) (v := .int .i64 (k : Int)) rfl (by kernel_rfl) (by kernel_rfl) (by kernel_rfl) (fun _ _ _ h => h) (.inl ⟨by rfl, fun W' hW' => ?_⟩) hS ?_
                      · obtain ⟨q1, q2⟩ := hW'
                        go_simp
                      simp only [Act.put, List.getElem_toArray, List.getElem_cons_succ, List.getElem_cons_zero, List.setIfInBounds_toArray, List.set_cons_succ, List.set_cons_zero]
                      refine wpAnyH_take (i := 30) (v := .pointer (some ⟨gw, k, none⟩)) rfl (by kernel_rfl) (by kernel_rfl) (by kernel_rfl) (fun _ _ _ h => h) (.inl ⟨by rfl, fun W' hW' => ?_⟩) hS ?_
                      · obtain ⟨q1, q2⟩ := hW'
                        go_simp
                      simp only [Act.put, List.getElem_toArray, List.getElem_cons_succ, List.getElem_cons_zero, List.setIfInBounds_toArray, List.set_cons_succ, List.set_cons_zero]
                      refine wpAnyH_take (i := 31) (v := .string cs) rfl (by kernel_rfl) (by kernel_rfl) (by kernel_rfl) (fun _ _ _ h => h) (.inl ⟨by rfl, fun W' hW' => ?_⟩) hS ?_
                      · obtain ⟨q1, q2⟩ := hW'
                        go_simp
                      simp only [Act.put, List.getElem_toArray, List.getElem_cons_succ, List.getElem_cons_zero, List.setIfInBounds_toArray, List.set_cons_succ, List.set_cons_zero]
                      refine wpAnyH_take (i := 32) (v := .bool false) rfl (by kernel_rfl) (by kernel_rfl) (by kernel_rfl) (fun _ _ _ h => h) (.inl ⟨by rfl, fun W' hW' => ?_⟩) hS ?_
                      · obtain ⟨q1, q2⟩ := hW'
                        go_simp
                      simp only [Act.put, List.getElem_toArray, List.getElem_cons_succ, List.getElem_cons_zero, List.setIfInBounds_toArray, List.set_cons_succ, List.set_cons_zero]
                      refine wpAnyH_take (i := 33) (v := .bool false) rfl (by kernel_rfl) (by kernel_rfl) (by kernel_rfl) (fun _ _ _ h => h) (.inl ⟨by rfl, fun W' hW' => ?_⟩) hS ?_
                      · obtain ⟨q1, q2⟩ := hW'
                        go_simp
                      simp only [Act.put, List.getElem_toArray, List.getElem_cons_succ, List.getElem_cons_zero, List.setIfInBounds_toArray, List.set_cons_succ, List.set_cons_zero]
                      refine wpAnyH_take (i := 34) (v := .bool false) rfl (by kernel_rfl) (by kernel_rfl) (by kernel_rfl) (fun _ _ _ h => h) (.inl ⟨by rfl, fun W' hW' => ?_⟩) hS ?_
                      · obtain ⟨q1, q2⟩ := hW'
                        go_simp
                      simp only [Act.put, List.getElem_toArray, List.getElem_cons_succ, List.getElem_cons_zero, List.setIfInBounds_toArray, List.set_cons_succ, List.set_cons_zero]
                      refine wpAnyH_done (by kernel_rfl) ?_ _
                      go_wp2
                      exact ⟨⟨k + 1, by omega, by go_num, hb6.trans ⟨rfl, rfl, rfl, Nat.le_refl _, fun _ _ => rfl⟩⟩, by simp [RowKit.intOf]; omega⟩
                  · have hpe := HP.out (fun h => by omega) (by omega)
                    have hcv : ∀ m, (convert 30 9 (.slice (some ⟨wr.heap.size, 0, none⟩) 256 256)).run Try.prog (w6.drewN m) = .ok (.string (strP S5.P k)) (w6.drewN m) := HCV.out
                    have hwk : ∀ m, (w6.drewN m).cell? ⟨gw, k, none⟩ = some (.string (strP S3.P k)) := HWK.out
                    have hse : strP S5.P k = strP S3.P k := by unfold strP; rw [hpe]
                    rw [hse] at hcv
                    have H1 : Hid _ := hcv
                    have H2 : Hid _ := hwk
                    clear hpe hcv hwk hse HCV HWK HP
                    go_upto_region 34 with fail
                    have hcv : ∀ m, (convert 30 9 (.slice (some ⟨wr.heap.size, 0, none⟩) 256 256)).run Try.prog (w6.drewN m) = .ok (.string (strP S3.P k)) (w6.drewN m) := H1.out
                    have hwk : ∀ m, (w6.drewN m).cell? ⟨gw, k, none⟩ = some (.string (strP S3.P k)) := H2.out
                    generalize strP S3.P k = cs at *
                    have b1 : decide ((k : Int) = 0) = false := decide_eq_false (by omega)
                    have b2 : decide ((0 : Int) < (k : Int)) = true := decide_eq_true (by omega)
                    have b3 : ((k : Int) == 0) = false := by simp; omega
                    have c1 : ∀ inst, @decide ((k : Int) = 0) inst = false := fun _ => decide_eq_false (by omega)
                    have c2 : ∀ inst, @decide ((0 : Int) < (k : Int)) inst = true := fun _ => decide_eq_true (by omega)
                    have hS : (convert 30 9 (.slice (some ⟨wr.heap.size, 0, none⟩) 256 256)).run Try.prog w6.drew = .ok (.string cs) w6.drew ∧ w6.drew.cell? ⟨gw, k, none⟩ = some (.string cs) := ⟨hcv 1, hwk 1⟩
                    clear hcv hwk
                    refine wp_region_held (S := fun W' => (convert 30 9 (.slice (some ⟨wr.heap.size, 0, none⟩) 256 256)).run Try.prog W' = .ok (.string cs) W' ∧ W'.cell? ⟨gw, k, none⟩ = some (.string cs)) hmix ?_
                    show wpAnyH _ _ _ _ _ _ _ _ w6.drew
                    refine wpAnyH_take (i := 0) (v := .int .i64 0) rfl (by kernel_rfl) (by kernel_rfl) (by kernel_rfl) (fun _ _ _ h => h) (.inl ⟨by rfl, fun W' hW' => ?_⟩) hS ?_
                    · obtain ⟨q1, q2⟩ := hW'
                      go_simp
                    simp only [Act.put, List.getElem_toArray, List.getElem_cons_succ, List.getElem_cons_zero, List.setIfInBounds_toArray, List.set_cons_succ, List.set_cons_zero]
                    refine wpAnyH_take (i := 1) (v := .bool false) rfl (by kernel_rfl) (by kernel_rfl) (by kernel_rfl) (fun _ _ _ h => h) (.inl ⟨by rfl, fun W' hW' => ?_⟩) hS ?_
                    · obtain ⟨q1, q2⟩ := hW'
                      go_simp
                    simp only [Act.put, List.getElem_toArray, List.getElem_cons_succ, List.getElem_cons_zero, List.setIfInBounds_toArray, List.set_cons_succ, List.set_cons_zero]
                    refine wpAnyH_take (i := 2) (v := .bool false) rfl (by kernel_rfl) (by kernel_rfl) (by kernel_rfl) (fun _ _ _ h => h) (.inl ⟨by rfl, fun W' hW' => ?_⟩) hS ?_
                    · obtain ⟨q1, q2⟩ := hW'
                      go_simp
                    simp only [Act.put, List.getElem_toArray, List.getElem_cons_succ, List.getElem_cons_zero, List.setIfInBounds_toArray, List.set_cons_succ, List.set_cons_zero]
                    refine wpAnyH_take (i := 3) (v := .int .i64 (k : Int)) rfl (by kernel_rfl) (by kernel_rfl) (by kernel_rfl) (fun _ _ _ h => h) (.inl ⟨by rfl, fun W' hW' => ?_⟩) hS ?_
                    · obtain ⟨q1, q2⟩ := hW'
                      go_simp
                    simp only [Act.put, List.getElem_toArray, List.getElem_cons_succ, List.getElem_cons_zero, List.setIfInBounds_toArray, List.set_cons_succ, List.set_cons_zero]
                    refine wpAnyH_take (i := 4) (v := .bool false) rfl (by kernel_rfl) (by kernel_rfl) (by kernel_rfl) (fun _ _ _ h => h) (.inl ⟨by rfl, fun W' hW' => ?_⟩) hS ?_
                    · obtain ⟨q1, q2⟩ := hW'
                      go_simp
                    simp only [Act.put, List.getElem_toArray, List.getElem_cons_succ, List.getElem_cons_zero, List.setIfInBounds_toArray, List.set_cons_succ, List.set_cons_zero]
                    refine wpAnyH_take (i := 5) (v := .bool false) rfl (by kernel_rfl) (by kernel_rfl) (by kernel_rfl) (fun _ _ _ h => h) (.inl ⟨by rfl, fun W' hW' => ?_⟩) hS ?_
                    · obtain ⟨q1, q2⟩ := hW'
                      go_simp
                    simp only [Act.put, List.getElem_toArray, List.getElem_cons_succ, List.getElem_cons_zero, List.setIfInBounds_toArray, List.set_cons_succ, List.set_cons_zero]
                    refine wpAnyH_take (i := 6) (v := undef) rfl (by kernel_rfl) (by kernel_rfl) (by kernel_rfl) (fun _ _ _ h => h) (.inr ⟨by rfl, rfl⟩) hS ?_
                    simp only [Act.put, List.getElem_toArray, List.getElem_cons_succ, List.getElem_cons_zero, List.setIfInBounds_toArray, List.set_cons_succ, List.set_cons_zero]
                    refine wpAnyH_take (i := 7) (v := undef) rfl (by kernel_rfl) (by kernel_rfl) (by kernel_rfl) (fun _ _ _ h => h) (.inr ⟨by rfl, rfl⟩) hS ?_
                    simp only [Act.put, List.getElem_toArray, List.getElem_cons_succ, List.getElem_cons_zero, List.setIfInBounds_toArray, List.set_cons_succ, List.set_cons_zero]
                    refine wpAnyH_take (i := 8) (v := undef) rfl (by kernel_rfl) (by kernel_rfl) (by kernel_rfl) (fun _ _ _ h => h) (.inr ⟨by rfl, rfl⟩) hS ?_
                    simp only [Act.put, List.getElem_toArray, List.getElem_cons_succ, List.getElem_cons_zero, List.setIfInBounds_toArray, List.set_cons_succ, List.set_cons_zero]
                    refine wpAnyH_take (i := 9) (v := undef) rfl (by kernel_rfl) (by kernel_rfl) (by kernel_rfl) (fun _ _ _ h => h) (.inr ⟨by rfl, rfl⟩) hS ?_
                    simp only [Act.put, List.getElem_toArray, List.getElem_cons_succ, List.getElem_cons_zero, List.setIfInBounds_toArray, List.set_cons_succ, List.set_cons_zero]
                    refine wpAnyH_take (i := 10) (v := undef) rfl (by kernel_rfl) (by kernel_rfl) (by kernel_rfl) (fun _ _ _ h => h) (.inr ⟨by rfl, rfl⟩) hS ?_
                    simp only [Act.put, List.getElem_toArray, List.getElem_cons_succ, List.getElem_cons_zero, List.setIfInBounds_toArray, List.set_cons_succ, List.set_cons_zero]
                    refine wpAnyH_take (i := 11) (v := undef) rfl (by kernel_rfl) (by kernel_rfl) (by kernel_rfl) (fun _ _ _ h => h) (.inr ⟨by rfl, rfl⟩) hS ?_
                    simp only [Act.put, List.getElem_toArray, List.getElem_cons_succ, List.getElem_cons_zero, List.setIfInBounds_toArray, List.set_cons_succ, List.set_cons_zero]
                    refine wpAnyH_take (i := 12) (v := .bool false) rfl (by kernel_rfl) (by kernel_rfl) (by kernel_rfl) (fun _ _ _ h => h) (.inl ⟨by rfl, fun W' hW' => ?_⟩) hS ?_
                    · obtain ⟨q1, q2⟩ := hW'
                      go_simp
                    simp only [Act.put, List.getElem_toArray, List.getElem_cons_succ, List.getElem_cons_zero, List.setIfInBounds_toArray, List.set_cons_succ, List.set_cons_zero]
                    refine wpAnyH_take (i := 13) (v := .bool false) rfl (by kernel_rfl) (by kernel_rfl) (by kernel_rfl) (fun _ _ _ h => h) (.inl ⟨by rfl, fun W' hW' => ?_⟩) hS ?_
                    · obtain ⟨q1, q2⟩ := hW'
                      go_simp
                    simp only [Act.put, List.getElem_toArray, List.getElem_cons_succ, List.getElem_cons_zero, List.setIfInBounds_toArray, List.set_cons_succ, List.set_cons_zero]
                    refine wpAnyH_take (i := 14) (v := .bool false) rfl (by kernel_rfl) (by kernel_rfl) (by kernel_rfl) (fun _ _ _ h => h) (.inl ⟨by rfl, fun W' hW' => ?_⟩) hS ?_
                    · obtain ⟨q1, q2⟩ := hW'
                      go_simp
                    simp only [Act.put, List.getElem_toArray, List.getElem_cons_succ, List.getElem_cons_zero, List.setIfInBounds_toArray, List.set_cons_succ, List.set_cons_zero]
                    refine wpAnyH_take (i := 15) (v := .int .i64 (k : Int)) rfl (by kernel_rfl) (by kernel_rfl) (by kernel_rfl) (fun _ _ _ h => h) (.inl ⟨by rfl, fun W' hW' => ?_⟩) hS ?_
                    · obtain ⟨q1, q2⟩ := hW'
                      go_simp
                    simp only [Act.put, List.getElem_toArray, List.getElem_cons_succ, List.getElem_cons_zero, List.setIfInBounds_toArray, List.set_cons_succ, List.set_cons_zero]
                    refine wpAnyH_take (i := 16) (v := .bool true) rfl (by kernel_rfl) (by kernel_rfl) (by kernel_rfl) (fun _ _ _ h => h) (.inl ⟨by rfl, fun W' hW' => ?_⟩) hS ?_
                    · obtain ⟨q1, q2⟩ := hW'
                      go_simp <;> omega
                    simp only [Act.put, List.getElem_toArray, List.getElem_cons_succ, List.getElem_cons_zero, List.setIfInBounds_toArray, List.set_cons_succ, List.set_cons_zero]
                    refine wpAnyH_take (i := 17) (v := .bool true) rfl (by kernel_rfl) (by kernel_rfl) (by kernel_rfl) (fun _ _ _ h => h) (.inl ⟨by rfl, fun W' hW' => ?_⟩) hS ?_
                    · obtain ⟨q1, q2⟩ := hW'
                      go_simp
                    simp only [Act.put, List.getElem_toArray, List.getElem_cons_succ, List.getElem_cons_zero, List.setIfInBounds_toArray, List.set_cons_succ, List.set_cons_zero]
                    refine wpAnyH_take (i := 18) (v := .int .i64 0) rfl (by kernel_rfl) (by kernel_rfl) (by kernel_rfl) (fun _ _ _ h => h) (.inl ⟨by rfl, fun W' hW' => ?_⟩) hS ?_
                    · obtain ⟨q1, q2⟩ := hW'
                      go_simp
                    simp only [Act.put, List.getElem_toArray, List.getElem_cons_succ, List.getElem_cons_zero, List.setIfInBounds_toArray, List.set_cons_succ, List.set_cons_zero]
                    refine wpAnyH_take (i := 19) (v := .bool true) rfl (by kernel_rfl) (by kernel_rfl) (by kernel_rfl) (fun _ _ _ h => h) (.inl ⟨by rfl, fun W' hW' => ?_⟩) hS ?_
                    · obtain ⟨q1, q2⟩ := hW'
                      go_simp
                    simp only [Act.put, List.getElem_toArray, List.getElem_cons_succ, List.getElem_cons_zero, List.setIfInBounds_toArray, List.set_cons_succ, List.set_cons_zero]
                    refine wpAnyH_take (i := 20) (v := .bool true) rfl (by kernel_rfl) (by kernel_rfl) (by kernel_rfl) (fun _ _ _ h => h) (.inl ⟨by rfl, fun W' hW' => ?_⟩) hS ?_
                    · obtain ⟨q1, q2⟩ := hW'
                      go_simp
                    simp only [Act.put, List.getElem_toArray, List.getElem_cons_succ, List.getElem_cons_zero, List.setIfInBounds_toArray, List.set_cons_succ, List.set_cons_zero]
                    refine wpAnyH_take (i := 21) (v := .bool false) rfl (by kernel_rfl) (by kernel_rfl) (by kernel_rfl) (fun _ _ _ h => h) (.inl ⟨by rfl, fun W' hW' => ?_⟩) hS ?_
                    · obtain ⟨q1, q2⟩ := hW'
                      go_simp
                    simp only [Act.put, List.getElem_toArray, List.getElem_cons_succ, List.getElem_cons_zero, List.setIfInBounds_toArray, List.set_cons_succ, List.set_cons_zero]
                    refine wpAnyH_take (i := 22) (v := .bool false) rfl (by kernel_rfl) (by kernel_rfl) (by kernel_rfl) (fun _ _ _ h => h) (.inl ⟨by rfl, fun W' hW' => ?_⟩) hS ?_
                    · obtain ⟨q1, q2⟩ := hW'
                      go_simp
                    simp only [Act.put, List.getElem_toArray, List.getElem_cons_succ, List.getElem_cons_zero, List.setIfInBounds_toArray, List.set_cons_succ, List.set_cons_zero]
                    refine wpAnyH_take (i := 23) (v := .bool true) rfl (by kernel_rfl) (by kernel_rfl) (by kernel_rfl) (fun _ _ _ h => h) (.inl ⟨by rfl, fun W' hW' => ?_⟩) hS ?_
                    · obtain ⟨q1, q2⟩ := hW'
                      go_simp
                    simp only [Act.put, List.getElem_toArray, List.getElem_cons_succ, List.getElem_cons_zero, List.setIfInBounds_toArray, List.set_cons_succ, List.set_cons_zero]
                    refine wpAnyH_take (i := 24) (v := .bool true) rfl (by kernel_rfl) (by kernel_rfl) (by kernel_rfl) (fun _ _ _ h => h) (.inl ⟨by rfl, fun W' hW' => ?_⟩) hS ?_
                    · obtain ⟨q1, q2⟩ := hW'
                      go_simp
                    simp only [Act.put, List.getElem_toArray, List.getElem_cons_succ, List.getElem_cons_zero, List.setIfInBounds_toArray, List.set_cons_succ, List.set_cons_zero]
                    refine wpAnyH_take (i := 25) (v := .bool true) rfl (by kernel_rfl) (by kernel_rfl) (by kernel_rfl) (fun _ _ _ h => h) (.inl ⟨by rfl, fun W' hW' => ?_⟩) hS ?_
                    · obtain ⟨q1, q2⟩ := hW'
                      go_simp
                    simp only [Act.put, List.getElem_toArray, List.getElem_cons_succ, List.getElem_cons_zero, List.setIfInBounds_toArray, List.set_cons_succ, List.set_cons_zero]
                    refine wpAnyH_take (i := 26) (v := .slice (some ⟨wr.heap.size, 0, none⟩) 256 256) rfl (by kernel_rfl) (by kernel_rfl) (by kernel_rfl) (fun _ _ _ h => h) (.inl ⟨by rfl, fun W' hW' => ?_⟩) hS ?_
                    · obtain ⟨q1, q2⟩ := hW'
                      go_simp
                    simp only [Act.put, List.getElem_toArray, List.getElem_cons_succ, List.getElem_cons_zero, List.setIfInBounds_toArray, List.set_cons_succ, List.set_cons_zero]
                    refine wpAnyH_take (i := 27) (v := .string cs) rfl (by kernel_rfl) (by kernel_rfl) (by kernel_rfl) (fun _ _ _ h => h) (.inl ⟨by rfl, fun W' hW' => ?_⟩) hS ?_
                    · obtain ⟨q1, q2⟩ := hW'
                      go_simp
                    simp only [Act.put, List.getElem_toArray, List.getElem_cons_succ, List.getElem_cons_zero, List.setIfInBounds_toArray, List.set_cons_succ, List.set_cons_zero]
                    refine wpAnyH_take (i := 28) (v := .slice (some ⟨gw, 0, none⟩) n cw) rfl (by kernel_rfl) (by kernel_rfl) (by kernel_rfl) (fun _ _ _ h => h) (.inl ⟨by rfl, fun W' hW' => ?_⟩) hS ?_
                    · obtain ⟨q1, q2⟩ := hW'
                      go_simp
                    simp only [Act.put, List.getElem_toArray, List.getElem_cons_succ, List.getElem_cons_zero, List.setIfInBounds_toArray, List.set_cons_succ, List.set_cons_zero]
                    refine wpAnyH_take (i := 29) (v := .int .i64 (k : Int)) rfl (by kernel_rfl) (by kernel_rfl) (by kernel_rfl) (fun _ _ _ h => h) (.inl ⟨by rfl, fun W' hW' => ?_⟩) hS ?_
                    · obtain ⟨q1, q2⟩ := hW'
                      go_simp
                    simp only [Act.put, List.getElem_toArray, List.getElem_cons_succ, List.getElem_cons_zero, List.setIfInBounds_toArray, List.set_cons_succ, List.set_cons_zero]
                    refine wpAnyH_take (i := 30) (v := .pointer (some ⟨gw, k, none⟩)) rfl (by kernel_rfl) (by kernel_rfl) (by kernel_rfl) (fun _ _ _ h => h) (.inl ⟨by rfl, fun W' hW' => ?_⟩) hS ?_
                    · obtain ⟨q1, q2⟩ := hW'
                      go_simp
                    simp only [Act.put, List.getElem_toArray, List.getElem_cons_succ, List.getElem_cons_zero, List.setIfInBounds_toArray, List.set_cons_succ, List.set_cons_zero]
                    refine wpAnyH_take (i := 31) (v := .string cs) rfl (by kernel_rfl) (by kernel_rfl) (by kernel_rfl) (fun _ _ _ h => h) (.inl ⟨by rfl, fun W' hW' => ?_⟩) hS ?_
                    · obtain ⟨q1, q2⟩ := hW'
                      go_simp
                    simp only [Act.put, List.getElem_toArray, List.getElem_cons_succ, List.getElem_cons_zero, List.setIfInBounds_toArray, List.set_cons_succ, List.set_cons_zero]
                    refine wpAnyH_take (i := 32) (v := .bool false) rfl (by kernel_rfl) (by kernel_rfl) (by kernel_rfl) (fun _ _ _ h => h) (.inl ⟨by rfl, fun W' hW' => ?_⟩) hS ?_
                    · obtain ⟨q1, q2⟩ := hW'
                      go_simp
                    simp only [Act.put, List.getElem_toArray, List.getElem_cons_succ, List.getElem_cons_zero, List.setIfInBounds_toArray, List.set_cons_succ, List.set_cons_zero]
                    refine wpAnyH_take (i := 33) (v := .bool false) rfl (by kernel_rfl) (by kernel_rfl) (by kernel_rfl) (fun _ _ _ h => h) (.inl ⟨by rfl, fun W' hW' => ?_⟩) hS ?_
                    · obtain ⟨q1, q2⟩ := hW'
                      go_simp
                    simp only [Act.put, List.getElem_toArray, List.getElem_cons_succ, List.getElem_cons_zero, List.setIfInBounds_toArray, List.set_cons_succ, List.set_cons_zero]
                    refine wpAnyH_take (i := 34) (v := .bool false) rfl (by kernel_rfl) (by kernel_rfl) (by kernel_rfl) (fun _ _ _ h => h) (.inl ⟨by rfl, fun W' hW' => ?_⟩) hS ?_
                    · obtain ⟨q1, q2⟩ := hW'
                      go_simp
                    simp only [Act.put, List.getElem_toArray, List.getElem_cons_succ, List.getElem_cons_zero, List.setIfInBounds_toArray, List.set_cons_succ, List.set_cons_zero]
                    refine wpAnyH_done (by kernel_rfl) ?_ _
                    go_wp2
                    exact ⟨⟨k + 1, by omega, by go_num, hb6.trans ⟨rfl, rfl, rfl, Nat.le_refl _, fun _ _ => rfl⟩⟩, by simp [RowKit.intOf]; omega⟩
              · have hps := hp5.on hbw2
                go_wp2_with fail
                exact ⟨⟨j + 1, hn, t5, X5, S5, _, _, 0, by omega, by go_num, rfl, rfl, hps, by simp, by omega⟩, by simp [RowKit.intOf]; omega⟩
          · have N16 := save_palong w wr X3 p t q n S3 half b rs3 hpk (by omega) s ua uc (by omega) hfit
            go_wp2_with fail
            refine N16.mono ?_
            rintro e w5 ⟨rfl, hp5, hb5⟩
            have hc5 : ∀ i, i < n → w5.cell? ⟨gw, i, none⟩ = some (.string (strP S3.P i)) := fun i hi => by
              rw [← HC.out i hi]
              simp only [World.cell?, hb5.block gw hgl]
            have HC5 : Hid _ := hc5
            clear hc5 hpk HC N16
            go_wp2_with fail
            go_loopw [20] (fun i wr => ∃ (k : Nat), k ≤ n ∧ i = .int .i64 k ∧ Below w5.heap.size w5 wr) (fun i _ => n - (RowKit.intOf i).toNat)
            case atStart => exact ⟨0, by omega, rfl, Below.refl _ _⟩
            case round =>
              obtain ⟨k, hk, rfl, hbw2⟩ := hrel
              by_cases hkn : k < n
              · have hpk := hp5.on hbw2
                have N32 := read0 wr X3 q n S3 k hkn hpk.ps.dn hpk.ps.d
                have hpkl : (pageOf S3.P k).length = 256 := pageOf_length _ n _ hpk.ps.d.len hkn
                have ht0 := hpk.ps.pp.t
                go_wp2_with fail
                refine N32.mono ?_
                rintro e w6 ⟨rfl, hpg⟩
                have hb6 : Below w5.heap.size w5 w6 := hbw2.trans (hpg.below.mono hbw2.size)
                obtain ⟨mm, hmm⟩ : ∃ mm : Nat, mm = (half) * sp := ⟨_, rfl⟩
                have hmul : ((half : Nat) : Int) * (sp : Int) = (mm : Int) := by rw [hmm]; simp
                have hmb : mm ≤ 60 := by
                  rcases (show (half) = 0 ∨ (half) = 1 by omega) with h | h
                  · rw [hmm, h]; omega
                  · rw [hmm, h]; omega
                have hfst : Hid (firstN n (half) = 1 + mm) := by
                  have : firstN n (half) = 1 + mm := by unfold firstN; rw [HSP.out, hmm]
                  exact this
                have hh2l : (half) ≤ 1 := by omega
                clear hmm
                have hpage : ¬ (3 = (0 : Int) ∧ 1 + mm ≤ k ∧ k < 1 + mm + sp) → 0 < k → pageOf S3.P k = pageOf S3.P k := fun hno hk0 => by
                  rfl
                have HP : Hid _ := hpage
                clear hpage
                by_cases hk0 : k = 0
                · subst hk0
                  have hb0 : ∀ m, (w6.drewN m).cell? ⟨wr.heap.size, 0, none⟩ = some (.int .u8 (half : Int)) := fun m => by
                    show w6.cell? ⟨wr.heap.size, 0, none⟩ = _
                    rw [cell_of_row _ _ _ _ _ _ hpg.block]
                    have hpt : (pageOf S3.P 0)[0]? = some (UInt8.ofNat half) := by rw [pageOf_get _ _ _ (by omega)]; exact ht0
                    simp only [byteCells, List.getElem?_toArray, List.getElem?_map, hpt, Option.map_some]
                    congr 2
                    rcases (show half = 0 ∨ half = 1 by omega) with h | h <;> subst h <;> rfl
                  have i1 : ¬ (1 : Int) + (mm : Int) ≤ 0 := by omega
                  have HB0 : Hid _ := hb0
                  clear hb0 ht0 hpg hpk N32
                  go_upto_region 34 with fail
                  have hb0 : ∀ m, (w6.drewN m).cell? ⟨wr.heap.size, 0, none⟩ = some (.int .u8 (half : Int)) := HB0.out
                  have h256 : (half : Int) < 256 := by omega
                  go_quiet (fail)
                  go_wp2
                  exact ⟨⟨0 + 1, by omega, by go_num, hb6.trans ⟨rfl, rfl, rfl, Nat.le_refl _, fun _ _ => rfl⟩⟩, by simp [RowKit.intOf]; omega⟩
                · have hcv : ∀ m, (convert 30 9 (.slice (some ⟨wr.heap.size, 0, none⟩) 256 256)).run Try.prog (w6.drewN m) = .ok (.string (strP S3.P k)) (w6.drewN m) := fun m => by
                    apply convA
                    have := sl_range (c := 256) (range_of_block (w := w6.drewN m) hpg.block) (by omega)
                    rwa [hpkl] at this
                  have hwk : ∀ m, (w6.drewN m).cell? ⟨gw, k, none⟩ = some (.string (strP S3.P k)) := fun m => by
                    show w6.cell? ⟨gw, k, none⟩ = _
                    rw [← HC5.out k hkn]
                    exact hb6.cell (p := ⟨gw, k, none⟩) (World.block_lt_of_cell? _ _ (HC5.out k hkn))
                  have hki : ¬ (k : Int) = 0 := by omega
                  have hkp : (0 : Int) < (k : Int) := by omega
                  have HCV : Hid _ := hcv
                  have HWK : Hid _ := hwk
                  clear hcv hwk ht0 hpg hpk N32
                  by_cases iA : (1 : Int) + (mm : Int) ≤ (k : Int)
                  · by_cases iB : (k : Int) < 1 + (mm : Int) + (sp : Int)
                    · have hpe := HP.out (fun h => by omega) (by omega)
                      have hcv : ∀ m, (convert 30 9 (.slice (some ⟨wr.heap.size, 0, none⟩) 256 256)).run Try.prog (w6.drewN m) = .ok (.string (strP S3.P k)) (w6.drewN m) := HCV.out
                      have hwk : ∀ m, (w6.drewN m).cell? ⟨gw, k, none⟩ = some (.string (strP S3.P k)) := HWK.out
                      have hse : strP S3.P k = strP S3.P k := by unfold strP; rw [hpe]
                      rw [hse] at hcv
                      have H1 : Hid _ := hcv
                      have H2 : Hid _ := hwk
                      clear hpe hcv hwk hse HCV HWK HP
                      go_upto_region 34 with fail
                      have hcv : ∀ m, (convert 30 9 (.slice (some ⟨wr.heap.size, 0, none⟩) 256 256)).run Try.prog (w6.drewN m) = .ok (.string (strP S3.P k)) (w6.drewN m) := H1.out
                      have hwk : ∀ m, (w6.drewN m).cell? ⟨gw, k, none⟩ = some (.string (strP S3.P k)) := H2.out
                      generalize strP S3.P k = cs at *
                      have b1 : decide ((k : Int) = 0) = false := decide_eq_false (by omega)
                      have b2 : decide ((0 : Int) < (k : Int)) = true := decide_eq_true (by omega)
                      have b3 : ((k : Int) == 0) = false := by simp; omega
                      have b4 : decide ((k : Int) < 1 + (mm : Int) + (sp : Int)) = true := decide_eq_true (by omega)
                      have c1 : ∀ inst, @decide ((k : Int) = 0) inst = false := fun _ => decide_eq_false (by omega)
                      have c2 : ∀ inst, @decide ((0 : Int) < (k : Int)) inst = true := fun _ => decide_eq_true (by omega)
                      have hS : (convert 30 9 (.slice (some ⟨wr.heap.size, 0, none⟩) 256 256)).run Try.prog w6.drew = .ok (.string cs) w6.drew ∧ w6.drew.cell? ⟨gw, k, none⟩ = some (.string cs) := ⟨hcv 1, hwk 1⟩
                      clear hcv hwk
                      refine wp_region_held (S := fun W' => (convert 30 9 (.slice (some ⟨wr.heap.size, 0, none⟩) 256 256)).run Try.prog W' = .ok (.string cs) W' ∧ W'.cell? ⟨gw, k, none⟩ = some (.string cs)) hmix ?_
                      show wpAnyH _ _ _ _ _ _ _ _ w6.drew
                      refine wpAnyH_take (i := 0) (v := .int .i64 0) rfl (by kernel_rfl) (by kernel_rfl) (by kernel_rfl) (fun _ _ _ h => h) (.inl ⟨by rfl, fun W' hW' => ?_⟩) hS ?_
                      · obtain ⟨q1, q2⟩ := hW'
                        go_simp
                      simp only [Act.put, List.getElem_toArray, List.getElem_cons_succ, List.getElem_cons_zero, List.setIfInBounds_toArray, List.set_cons_succ, List.set_cons_zero]
                      refine wpAnyH_take (i := 1) (v := .bool false) rfl (by kernel_rfl) (by kernel_rfl) (by kernel_rfl) (fun _ _ _ h => h) (.inl ⟨by rfl, fun W' hW' => ?_⟩) hS ?_
                      · obtain ⟨q1, q2⟩ := hW'
                        go_simp
                      simp only [Act.put, List.getElem_toArray, List.getElem_cons_succ, List.getElem_cons_zero, List.setIfInBounds_toArray, List.set_cons_succ, List.set_cons_zero]
                      refine wpAnyH_take (i := 2) (v := .bool false) rfl (by kernel_rfl) (by kernel_rfl) (by kernel_rfl) (fun _ _ _ h => h) (.inl ⟨by rfl, fun W' hW' => ?_⟩) hS ?_
                      · obtain ⟨q1, q2⟩ := hW'
                        go_simp
                      simp only [Act.put, List.getElem_toArray, List.getElem_cons_succ, List.getElem_cons_zero, List.setIfInBounds_toArray, List.set_cons_succ, List.set_cons_zero]
                      refine wpAnyH_take (i := 3) (v := .int .i64 (k : Int)) rfl (by kernel_rfl) (by kernel_rfl) (by kernel_rfl) (fun _ _ _ h => h) (.inl ⟨by rfl, fun W' hW' => ?_⟩) hS ?_
                      · obtain ⟨q1, q2⟩ := hW'
                        go_simp
                      simp only [Act.put, List.getElem_toArray, List.getElem_cons_succ, List.getElem_cons_zero, List.setIfInBounds_toArray, List.set_cons_succ, List.set_cons_zero]
                      refine wpAnyH_take (i := 4) (v := .bool false) rfl (by kernel_rfl) (by kernel_rfl) (by kernel_rfl) (fun _ _ _ h => h) (.inl ⟨by rfl, fun W' hW' => ?_⟩) hS ?_
                      · obtain ⟨q1, q2⟩ := hW'
                        go_simp
                      simp only [Act.put, List.getElem_toArray, List.getElem_cons_succ, List.getElem_cons_zero, List.setIfInBounds_toArray, List.set_cons_succ, List.set_cons_zero]
                      refine wpAnyH_take (i := 5) (v := .bool false) rfl (by kernel_rfl) (by kernel_rfl) (by kernel_rfl) (fun _ _ _ h => h) (.inl ⟨by rfl, fun W' hW' => ?_⟩) hS ?_
                      · obtain ⟨q1, q2⟩ := hW'
                        go_simp
                      simp only [Act.put, List.getElem_toArray, List.getElem_cons_succ, List.getElem_cons_zero, List.setIfInBounds_toArray, List.set_cons_succ, List.set_cons_zero]
                      refine wpAnyH_take (i := 6) (v := undef) rfl (by kernel_rfl) (by kernel_rfl) (by kernel_rfl) (fun _ _ _ h => h) (.inr ⟨by rfl, rfl⟩) hS ?_
                      simp only [Act.put, List.getElem_toArray, List.getElem_cons_succ, List.getElem_cons_zero, List.setIfInBounds_toArray, List.set_cons_succ, List.set_cons_zero]
                      refine wpAnyH_take (i := 7) (v := undef) rfl (by kernel_rfl) (by kernel_rfl) (by kernel_rfl) (fun _ _ _ h => h) (.inr ⟨by rfl, rfl⟩) hS ?_
                      simp only [Act.put, List.getElem_toArray, List.getElem_cons_succ, List.getElem_cons_zero, List.setIfInBounds_toArray, List.set_cons_succ, List.set_cons_zero]
                      refine wpAnyH_take (i := 8) (v := undef) rfl (by kernel_rfl) (by kernel_rfl) (by kernel_rfl) (fun _ _ _ h => h) (.inr ⟨by rfl, rfl⟩) hS ?_
                      simp only [Act.put, List.getElem_toArray, List.getElem_cons_succ, List.getElem_cons_zero, List.setIfInBounds_toArray, List.set_cons_succ, List.set_cons_zero]
                      refine wpAnyH_take (i := 9) (v := undef) rfl (by kernel_rfl) (by kernel_rfl) (by kernel_rfl) (fun _ _ _ h => h) (.inr ⟨by rfl, rfl⟩) hS ?_
                      simp only [Act.put, List.getElem_toArray, List.getElem_cons_succ, List.getElem_cons_zero, List.setIfInBounds_toArray, List.set_cons_succ, List.set_cons_zero]
                      refine wpAnyH_take (i := 10) (v := undef) rfl (by kernel_rfl) (by kernel_rfl) (by kernel_rfl) (fun _ _ _ h => h) (.inr ⟨by rfl, rfl⟩) hS ?_
                      simp only [Act.put, List.getElem_toArray, List.getElem_cons_succ, List.getElem_cons_zero, List.setIfInBounds_toArray, List.set_cons_succ, List.set_cons_zero]
                      refine wpAnyH_take (i := 11) (v := undef) rfl (by kernel_rfl) (by kernel_rfl) (by kernel_rfl) (fun _ _ _ h => h) (.inr ⟨by rfl, rfl⟩) hS ?_
                      simp only [Act.put, List.getElem_toArray, List.getElem_cons_succ, List.getElem_cons_zero, List.setIfInBounds_toArray, List.set_cons_succ, List.set_cons_zero]
                      refine wpAnyH_take (i := 12) (v := .bool false) rfl (by kernel_rfl) (by kernel_rfl) (by kernel_rfl) (fun _ _ _ h => h) (.inl ⟨by rfl, fun W' hW' => ?_⟩) hS ?_
                      · obtain ⟨q1, q2⟩ := hW'
                        go_simp
                      simp only [Act.put, List.getElem_toArray, List.getElem_cons_succ, List.getElem_cons_zero, List.setIfInBounds_toArray, List.set_cons_succ, List.set_cons_zero]
                      refine wpAnyH_take (i := 13) (v := .bool false) rfl (by kernel_rfl) (by kernel_rfl) (by kernel_rfl) (fun _ _ _ h => h) (.inl ⟨by rfl, fun W' hW' => ?_⟩) hS ?_
                      · obtain ⟨q1, q2⟩ := hW'
                        go_simp
                      simp only [Act.put, List.getElem_toArray, List.getElem_cons_succ, List.getElem_cons_zero, List.setIfInBounds_toArray, List.set_cons_succ, List.set_cons_zero]
                      refine wpAnyH_take (i := 14) (v := .bool false) rfl (by kernel_rfl) (by kernel_rfl) (by kernel_rfl) (fun _ _ _ h => h) (.inl ⟨by rfl, fun W' hW' => ?_⟩) hS ?_
                      · obtain ⟨q1, q2⟩ := hW'
                        go_simp
                      simp only [Act.put, List.getElem_toArray, List.getElem_cons_succ, List.getElem_cons_zero, List.setIfInBounds_toArray, List.set_cons_succ, List.set_cons_zero]
                      refine wpAnyH_take (i := 15) (v := .int .i64 (k : Int)) rfl (by kernel_rfl) (by kernel_rfl) (by kernel_rfl) (fun _ _ _ h => h) (.inl ⟨by rfl, fun W' hW' => ?_⟩) hS ?_
                      · obtain ⟨q1, q2⟩ := hW'
                        go_simp
                      simp only [Act.put, List.getElem_toArray, List.getElem_cons_succ, List.getElem_cons_zero, List.setIfInBounds_toArray, List.set_cons_succ, List.set_cons_zero]
                      refine wpAnyH_take (i := 16) (v := .bool true) rfl (by kernel_rfl) (by kernel_rfl) (by kernel_rfl) (fun _ _ _ h => h) (.inl ⟨by rfl, fun W' hW' => ?_⟩) hS ?_
                      · obtain ⟨q1, q2⟩ := hW'
                        go_simp <;> omega
                      simp only [Act.put, List.getElem_toArray, List.getElem_cons_succ, List.getElem_cons_zero, List.setIfInBounds_toArray, List.set_cons_succ, List.set_cons_zero]
                      refine wpAnyH_take (i := 17) (v := .bool true) rfl (by kernel_rfl) (by kernel_rfl) (by kernel_rfl) (fun _ _ _ h => h) (.inl ⟨by rfl, fun W' hW' => ?_⟩) hS ?_
                      · obtain ⟨q1, q2⟩ := hW'
                        go_simp
                      simp only [Act.put, List.getElem_toArray, List.getElem_cons_succ, List.getElem_cons_zero, List.setIfInBounds_toArray, List.set_cons_succ, List.set_cons_zero]
                      refine wpAnyH_take (i := 18) (v := .int .i64 3) rfl (by kernel_rfl) (by kernel_rfl) (by kernel_rfl) (fun _ _ _ h => h) (.inl ⟨by rfl, fun W' hW' => ?_⟩) hS ?_
                      · obtain ⟨q1, q2⟩ := hW'
                        go_simp
                      simp only [Act.put, List.getElem_toArray, List.getElem_cons_succ, List.getElem_cons_zero, List.setIfInBounds_toArray, List.set_cons_succ, List.set_cons_zero]
                      refine wpAnyH_take (i := 19) (v := .bool false) rfl (by kernel_rfl) (by kernel_rfl) (by kernel_rfl) (fun _ _ _ h => h) (.inl ⟨by rfl, fun W' hW' => ?_⟩) hS ?_
                      · obtain ⟨q1, q2⟩ := hW'
                        go_simp
                      simp only [Act.put, List.getElem_toArray, List.getElem_cons_succ, List.getElem_cons_zero, List.setIfInBounds_toArray, List.set_cons_succ, List.set_cons_zero]
                      refine wpAnyH_take (i := 20) (v := .bool false) rfl (by kernel_rfl) (by kernel_rfl) (by kernel_rfl) (fun _ _ _ h => h) (.inl ⟨by rfl, fun W' hW' => ?_⟩) hS ?_
                      · obtain ⟨q1, q2⟩ := hW'
                        go_simp
                      simp only [Act.put, List.getElem_toArray, List.getElem_cons_succ, List.getElem_cons_zero, List.setIfInBounds_toArray, List.set_cons_succ, List.set_cons_zero]
                      refine wpAnyH_take (i := 21) (v := undef) rfl (by kernel_rfl) (by kernel_rfl) (by kernel_rfl) (fun _ _ _ h => h) (.inr ⟨by rfl, rfl⟩) hS ?_
                      simp only [Act.put, List.getElem_toArray, List.getElem_cons_succ, List.getElem_cons_zero, List.setIfInBounds_toArray, List.set_cons_succ, List.set_cons_zero]
                      refine wpAnyH_take (i := 22) (v := .bool false) rfl (by kernel_rfl) (by kernel_rfl) (by kernel_rfl) (fun _ _ _ h => h) (.inl ⟨by rfl, fun W' hW' => ?_⟩) hS ?_
                      · obtain ⟨q1, q2⟩ := hW'
                        go_simp
                      simp only [Act.put, List.getElem_toArray, List.getElem_cons_succ, List.getElem_cons_zero, List.setIfInBounds_toArray, List.set_cons_succ, List.set_cons_zero]
                      refine wpAnyH_take (i := 23) (v := .bool true) rfl (by kernel_rfl) (by kernel_rfl) (by kernel_rfl) (fun _ _ _ h => h) (.inl ⟨by rfl, fun W' hW' => ?_⟩) hS ?_
                      · obtain ⟨q1, q2⟩ := hW'
                        go_simp
                      simp only [Act.put, List.getElem_toArray, List.getElem_cons_succ, List.getElem_cons_zero, List.setIfInBounds_toArray, List.set_cons_succ, List.set_cons_zero]
                      refine wpAnyH_take (i := 24) (v := .bool true) rfl (by kernel_rfl) (by kernel_rfl) (by kernel_rfl) (fun _ _ _ h => h) (.inl ⟨by rfl, fun W' hW' => ?_⟩) hS ?_
                      · obtain ⟨q1, q2⟩ := hW'
                        go_simp
                      simp only [Act.put, List.getElem_toArray, List.getElem_cons_succ, List.getElem_cons_zero, List.setIfInBounds_toArray, List.set_cons_succ, List.set_cons_zero]
                      refine wpAnyH_take (i := 25) (v := .bool true) rfl (by kernel_rfl) (by kernel_rfl) (by kernel_rfl) (fun _ _ _ h => h) (.inl ⟨by rfl, fun W' hW' => ?_⟩) hS ?_
                      · obtain ⟨q1, q2⟩ := hW'
                        go_simp
                      simp only [Act.put, List.getElem_toArray, List.getElem_cons_succ, List.getElem_cons_zero, List.setIfInBounds_toArray, List.set_cons_succ, List.set_cons_zero]
                      refine wpAnyH_take (i := 26) (v := .slice (some ⟨wr.heap.size, 0, none⟩) 256 256) rfl (by kernel_rfl) (by kernel_rfl) (by kernel_rfl) (fun _ _ _ h => h) (.inl ⟨by rfl, fun W' hW' => ?_⟩) hS ?_
                      · obtain ⟨q1, q2⟩ := hW'
                        go_simp
                      simp only [Act.put, List.getElem_toArray, List.getElem_cons_succ, List.getElem_cons_zero, List.setIfInBounds_toArray, List.set_cons_succ, List.set_cons_zero]
                      refine wpAnyH_take (i := 27) (v := .string cs) rfl (by kernel_rfl) (by kernel_rfl) (by kernel_rfl) (fun _ _ _ h => h) (.inl ⟨by rfl, fun W' hW' => ?_⟩) hS ?_
                      · obtain ⟨q1, q2⟩ := hW'
                        go_simp
                      simp only [Act.put, List.getElem_toArray, List.getElem_cons_succ, List.getElem_cons_zero, List.setIfInBounds_toArray, List.set_cons_succ, List.set_cons_zero]
                      refine wpAnyH_take (i := 28) (v := .slice (some ⟨gw, 0, none⟩) n cw) rfl (by kernel_rfl) (by kernel_rfl) (by kernel_rfl) (fun _ _ _ h => h) (.inl ⟨by rfl, fun W' hW' => ?_⟩) hS ?_
                      · obtain ⟨q1, q2⟩ := hW'
                        go_simp
                      simp only [Act.put, List.getElem_toArray, List.getElem_cons_succ, List.getElem_cons_zero, List.setIfInBounds_toArray, List.set_cons_succ, List.set_cons_zero]
                      refine wpAnyH_take (i := 29) (v := .int .i64 (k : Int)) rfl (by kernel_rfl) (by kernel_rfl) (by kernel_rfl) (fun _ _ _ h => h) (.inl ⟨by rfl, fun W' hW' => ?_⟩) hS ?_
                      · obtain ⟨q1, q2⟩ := hW'
                        go_simp
                      simp only [Act.put, List.getElem_toArray, List.getElem_cons_succ, List.getElem_cons_zero, List.setIfInBounds_toArray, List.set_cons_succ, List.set_cons_zero]
                      refine wpAnyH_take (i := 30) (v := .pointer (some ⟨gw, k, none⟩)) rfl (by kernel_rfl) (by kernel_rfl) (by kernel_rfl) (fun _ _ _ h => h) (.inl ⟨by rfl, fun W' hW' => ?_⟩) hS ?_
                      · obtain ⟨q1, q2⟩ := hW'
                        go_simp
                      simp only [Act.put, List.getElem_toArray, List.getElem_cons_succ, List.getElem_cons_zero, List.setIfInBounds_toArray, List.set_cons_succ, List.set_cons_zero]
                      refine wpAnyH_take (i := 31) (v := .string cs) rfl (by kernel_rfl) (by kernel_rfl) (by kernel_rfl) (fun _ _ _ h => h) (.inl ⟨by rfl, fun W' hW' => ?_⟩) hS ?_
                      · obtain ⟨q1, q2⟩ := hW'
                        go_simp
                      simp only [Act.put, List.getElem_toArray, List.getElem_cons_succ, List.getElem_cons_zero, List.setIfInBounds_toArray, List.set_cons_succ, List.set_cons_zero]
                      refine wpAnyH_take (i := 32) (v := .bool false) rfl (by kernel_rfl) (by kernel_rfl) (by kernel_rfl) (fun _ _ _ h => h) (.inl ⟨by rfl, fun W' hW' => ?_⟩) hS ?_
                      · obtain ⟨q1, q2⟩ := hW'
                        go_simp
                      simp only [Act.put, List.getElem_toArray, List.getElem_cons_succ, List.getElem_cons_zero, List.setIfInBounds_toArray, List.set_cons_succ, List.set_cons_zero]
                      refine wpAnyH_take (i := 33) (v := .bool false) rfl (by kernel_rfl) (by kernel_rfl) (by kernel_rfl) (fun _ _ _ h => h) (.inl ⟨by rfl, fun W' hW' => ?_⟩) hS ?_
                      · obtain ⟨q1, q2⟩ := hW'
                        go_simp
                      simp only [Act.put, List.getElem_toArray, List.getElem_cons_succ, List.getElem_cons_zero, List.setIfInBounds_toArray, List.set_cons_succ, List.set_cons_zero]
                      refine wpAnyH_take (i := 34) (v := .bool false) rfl (by kernel_rfl) (by kernel_rfl) (by kernel_rfl) (fun _ _ _ h => h) (.inl ⟨by rfl, fun W' hW' => ?_⟩) hS ?_
                      · obtain ⟨q1, q2⟩ := hW'
                        go_simp
                      simp only [Act.put, List.getElem_toArray, List.getElem_cons_succ, List.getElem_cons_zero, List.setIfInBounds_toArray, List.set_cons_succ, List.set_cons_zero]
                      refine wpAnyH_done (by kernel_rfl) ?_ _
                      go_wp2
                      exact ⟨⟨k + 1, by omega, by go_num, hb6.trans ⟨rfl, rfl, rfl, Nat.le_refl _, fun _ _ => rfl⟩⟩, by simp [RowKit.intOf]; omega⟩
                    · have hpe := HP.out (fun h => by omega) (by omega)
                      have hcv : ∀ m, (convert 30 9 (.slice (some ⟨wr.heap.size, 0, none⟩) 256 256)).run Try.prog (w6.drewN m) = .ok (.string (strP S3.P k)) (w6.drewN m) := HCV.out
                      have hwk : ∀ m, (w6.drewN m).cell? ⟨gw, k, none⟩ = some (.string (strP S3.P k)) := HWK.out
                      have hse : strP S3.P k = strP S3.P k := by unfold strP; rw [hpe]
                      rw [hse] at hcv
                      have H1 : Hid _ := hcv
                      have H2 : Hid _ := hwk
                      clear hpe hcv hwk hse HCV HWK HP
                      go_upto_region 34 with fail
                      have hcv : ∀ m, (convert 30 9 (.slice (some ⟨wr.heap.size, 0, none⟩) 256 256)).run Try.prog (w6.drewN m) = .ok (.string (strP S3.P k)) (w6.drewN m) := H1.out
                      have hwk : ∀ m, (w6.drewN m).cell? ⟨gw, k, none⟩ = some (.string (strP S3.P k)) := H2.out
                      generalize strP S3.P k = cs at *
                      have b1 : decide ((k : Int) = 0) = false := decide_eq_false (by omega)
                      have b2 : decide ((0 : Int) < (k : Int)) = true := decide_eq_true (by omega)
                      have b3 : ((k : Int) == 0) = false := by simp; omega
                      have b4 : decide ((k : Int) < 1 + (mm : Int) + (sp : Int)) = false := decide_eq_false (by omega)
                      have c1 : ∀ inst, @decide ((k : Int) = 0) inst = false := fun _ => decide_eq_false (by omega)
                      have c2 : ∀ inst, @decide ((0 : Int) < (k : Int)) inst = true := fun _ => decide_eq_true (by omega)
                      have hS : (convert 30 9 (.slice (some ⟨wr.heap.size, 0, none⟩) 256 256)).run Try.prog w6.drew = .ok (.string cs) w6.drew ∧ w6.drew.cell? ⟨gw, k, none⟩ = some (.string cs) := ⟨hcv 1, hwk 1⟩
                      clear hcv hwk
                      refine wp_region_held (S := fun W' => (convert 30 9 (.slice (some ⟨wr.heap.size, 0, none⟩) 256 256)).run Try.prog W' = .ok (.string cs) W' ∧ W'.cell? ⟨gw, k, none⟩ = some (.string cs)) hmix ?_
                      show wpAnyH _ _ _ _ _ _ _ _ w6.drew
                      refine wpAnyH_take (i := 0) (v := .int .i64 0) rfl (by kernel_rfl) (by kernel_rfl) (by kernel_rfl) (fun _ _ _ h => h) (.inl ⟨by rfl, fun W' hW' => ?_⟩) hS ?_
                      · obtain ⟨q1, q2⟩ := hW'
                        go_simp
                      simp only [Act.put, List.getElem_toArray, List.getElem_cons_succ, List.getElem_cons_zero, List.setIfInBounds_toArray, List.set_cons_succ, List.set_cons_zero]
                      refine wpAnyH_take (i := 1) (v := .bool false) rfl (by kernel_rfl) (by kernel_rfl) (by kernel_rfl) (fun _ _ _ h => h) (.inl ⟨by rfl, fun W' hW' => ?_⟩) hS ?_
                      · obtain ⟨q1, q2⟩ := hW'
                        go_simp
                      simp only [Act.put, List.getElem_toArray, List.getElem_cons_succ, List.getElem_cons_zero, List.setIfInBounds_toArray, List.set_cons_succ, List.set_cons_zero]
                      refine wpAnyH_take (i := 2) (v := .bool false) rfl (by kernel_rfl) (by kernel_rfl) (by kernel_rfl) (fun _ _ _ h => h) (.inl ⟨by rfl, fun W' hW' => ?_⟩) hS ?_
                      · obtain ⟨q1, q2⟩ := hW'
                        go_simp
                      simp only [Act.put, List.getElem_toArray, List.getElem_cons_succ, List.getElem_cons_zero, List.setIfInBounds_toArray, List.set_cons_succ, List.set_cons_zero]
                      refine wpAnyH_take (i := 3) (v := .int .i64 (k : Int)) rfl (by kernel_rfl) (by kernel_rfl) (by kernel_rfl) (fun _ _ _ h => h) (.inl ⟨by rfl, fun W' hW' => ?_⟩) hS ?_
                      · obtain ⟨q1, q2⟩ := hW'
                        go_simp
                      simp only [Act.put, List.getElem_toArray, List.getElem_cons_succ, List.getElem_cons_zero, List.setIfInBounds_toArray, List.set_cons_succ, List.set_cons_zero]
                      refine wpAnyH_take (i := 4) (v := .bool false) rfl (by kernel_rfl) (by kernel_rfl) (by kernel_rfl) (fun _ _ _ h => h) (.inl ⟨by rfl, fun W' hW' => ?_⟩) hS ?_
                      · obtain ⟨q1, q2⟩ := hW'
                        go_simp
                      simp only [Act.put, List.getElem_toArray, List.getElem_cons_succ, List.getElem_cons_zero, List.setIfInBounds_toArray, List.set_cons_succ, List.set_cons_zero]
                      refine wpAnyH_take (i := 5) (v := .bool false) rfl (by kernel_rfl) (by kernel_rfl) (by kernel_rfl) (fun _ _ _ h => h) (.inl ⟨by rfl, fun W' hW' => ?_⟩) hS ?_
                      · obtain ⟨q1, q2⟩ := hW'
                        go_simp
                      simp only [Act.put, List.getElem_toArray, List.getElem_cons_succ, List.getElem_cons_zero, List.setIfInBounds_toArray, List.set_cons_succ, List.set_cons_zero]
                      refine wpAnyH_take (i := 6) (v := undef) rfl (by kernel_rfl) (by kernel_rfl) (by kernel_rfl) (fun _ _ _ h => h) (.inr ⟨by rfl, rfl⟩) hS ?_
                      simp only [Act.put, List.getElem_toArray, List.getElem_cons_succ, List.getElem_cons_zero, List.setIfInBounds_toArray, List.set_cons_succ, List.set_cons_zero]
                      refine wpAnyH_take (i := 7) (v := undef) rfl (by kernel_rfl) (by kernel_rfl) (by kernel_rfl) (fun _ _ _ h => h) (.inr ⟨by rfl, rfl⟩) hS ?_
                      simp only [Act.put, List.getElem_toArray, List.getElem_cons_succ, List.getElem_cons_zero, List.setIfInBounds_toArray, List.set_cons_succ, List.set_cons_zero]
                      refine wpAnyH_take (i := 8) (v := undef) rfl (by kernel_rfl) (by kernel_rfl) (by kernel_rfl) (fun _ _ _ h => h) (.inr ⟨by rfl, rfl⟩) hS ?_
                      simp only [Act.put, List.getElem_toArray, List.getElem_cons_succ, List.getElem_cons_zero, List.setIfInBounds_toArray, List.set_cons_succ, List.set_cons_zero]
                      refine wpAnyH_take (i := 9) (v := undef) rfl (by kernel_rfl) (by kernel_rfl) (by kernel_rfl) (fun _ _ _ h => h) (.inr ⟨by rfl, rfl⟩) hS ?_
                      simp only [Act.put, List.getElem_toArray, List.getElem_cons_succ, List.getElem_cons_zero, List.setIfInBounds_toArray, List.set_cons_succ, List.set_cons_zero]
                      refine wpAnyH_take (i := 10) (v := undef) rfl (by kernel_rfl) (by kernel_rfl) (by kernel_rfl) (fun _ _ _ h => h) (.inr ⟨by rfl, rfl⟩) hS ?_
                      simp only [Act.put, List.getElem_toArray, List.getElem_cons_succ, List.getElem_cons_zero, List.setIfInBounds_toArray, List.set_cons_succ, List.set_cons_zero]
                      refine wpAnyH_take (i := 11) (v := undef) rfl (by kernel_rfl) (by kernel_rfl) (by kernel_rfl) (fun _ _ _ h => h) (.inr ⟨by rfl, rfl⟩) hS ?_
                      simp only [Act.put, List.getElem_toArray, List.getElem_cons_succ, List.getElem_cons_zero, List.setIfInBounds_toArray, List.set_cons_succ, List.set_cons_zero]
                      refine wpAnyH_take (i := 12) (v := .bool false) rfl (by kernel_rfl) (by kernel_rfl) (by kernel_rfl) (fun _ _ _ h => h) (.inl ⟨by rfl, fun W' hW' => ?_⟩) hS ?_
                      · obtain ⟨q1, q2⟩ := hW'
                        go_simp
                      simp only [Act.put, List.getElem_toArray, List.getElem_cons_succ, List.getElem_cons_zero, List.setIfInBounds_toArray, List.set_cons_succ, List.set_cons_zero]
                      refine wpAnyH_take (i := 13) (v := .bool false) rfl (by kernel_rfl) (by kernel_rfl) (by kernel_rfl) (fun _ _ _ h => h) (.inl ⟨by rfl, fun W' hW' => ?_⟩) hS ?_
                      · obtain ⟨q1, q2⟩ := hW'
                        go_simp
                      simp only [Act.put, List.getElem_toArray, List.getElem_cons_succ, List.getElem_cons_zero, List.setIfInBounds_toArray, List.set_cons_succ, List.set_cons_zero]
                      refine wpAnyH_take (i := 14) (v := .bool false) rfl (by kernel_rfl) (by kernel_rfl) (by kernel_rfl) (fun _ _ _ h => h) (.inl ⟨by rfl, fun W' hW' => ?_⟩) hS ?_
                      · obtain ⟨q1, q2⟩ := hW'
                        go_simp
                      simp only [Act.put, List.getElem_toArray, List.getElem_cons_succ, List.getElem_cons_zero, List.setIfInBounds_toArray, List.set_cons_succ, List.set_cons_zero]
                      refine wpAnyH_take (i := 15) (v := .int .i64 (k : Int)) rfl (by kernel_rfl) (by kernel_rfl) (by kernel_rfl) (fun _ _ _ h => h) (.inl ⟨by rfl, fun W' hW' => ?_⟩) hS ?_
                      · obtain ⟨q1, q2⟩ := hW'
                        go_simp
                      simp only [Act.put, List.getElem_toArray, List.getElem_cons_succ, List.getElem_cons_zero, List.setIfInBounds_toArray, List.set_cons_succ, List.set_cons_zero]
                      refine wpAnyH_take (i := 16) (v := .bool true) rfl (by kernel_rfl) (by kernel_rfl) (by kernel_rfl) (fun _ _ _ h => h) (.inl ⟨by rfl, fun W' hW' => ?_⟩) hS ?_
                      · obtain ⟨q1, q2⟩ := hW'
                        go_simp <;> omega
                      simp only [Act.put, List.getElem_toArray, List.getElem_cons_succ, List.getElem_cons_zero, List.setIfInBounds_toArray, List.set_cons_succ, List.set_cons_zero]
                      refine wpAnyH_take (i := 17) (v := .bool true) rfl (by kernel_rfl) (by kernel_rfl) (by kernel_rfl) (fun _ _ _ h => h) (.inl ⟨by rfl, fun W' hW' => ?_⟩) hS ?_
                      · obtain ⟨q1, q2⟩ := hW'
                        go_simp
                      simp only [Act.put, List.getElem_toArray, List.getElem_cons_succ, List.getElem_cons_zero, List.setIfInBounds_toArray, List.set_cons_succ, List.set_cons_zero]
                      refine wpAnyH_take (i := 18) (v := .int .i64 3) rfl (by kernel_rfl) (by kernel_rfl) (by kernel_rfl) (fun _ _ _ h => h) (.inl ⟨by rfl, fun W' hW' => ?_⟩) hS ?_
                      · obtain ⟨q1, q2⟩ := hW'
                        go_simp
                      simp only [Act.put, List.getElem_toArray, List.getElem_cons_succ, List.getElem_cons_zero, List.setIfInBounds_toArray, List.set_cons_succ, List.set_cons_zero]
                      refine wpAnyH_take (i := 19) (v := .bool false) rfl (by kernel_rfl) (by kernel_rfl) (by kernel_rfl) (fun _ _ _ h => h) (.inl ⟨by rfl, fun W' hW' => ?_⟩) hS ?_
                      · obtain ⟨q1, q2⟩ := hW'
                        go_simp
                      simp only [Act.put, List.getElem_toArray, List.getElem_cons_succ, List.getElem_cons_zero, List.setIfInBounds_toArray, List.set_cons_succ, List.set_cons_zero]
                      refine wpAnyH_take (i := 20) (v := .bool false) rfl (by kernel_rfl) (by kernel_rfl) (by kernel_rfl) (fun _ _ _ h => h) (.inl ⟨by rfl, fun W' hW' => ?_⟩) hS ?_
                      · obtain ⟨q1, q2⟩ := hW'
                        go_simp
                      simp only [Act.put, List.getElem_toArray, List.getElem_cons_succ, List.getElem_cons_zero, List.setIfInBounds_toArray, List.set_cons_succ, List.set_cons_zero]
                      refine wpAnyH_take (i := 21) (v := undef) rfl (by kernel_rfl) (by kernel_rfl) (by kernel_rfl) (fun _ _ _ h => h) (.inr ⟨by rfl, rfl⟩) hS ?_
                      simp only [Act.put, List.getElem_toArray, List.getElem_cons_succ, List.getElem_cons_zero, List.setIfInBounds_toArray, List.set_cons_succ, List.set_cons_zero]
                      refine wpAnyH_take (i := 22) (v := .bool false) rfl (by kernel_rfl) (by kernel_rfl) (by kernel_rfl) (fun _ _ _ h => h) (.inl ⟨by rfl, fun W' hW' => ?_⟩) hS ?_
                      · obtain ⟨q1, q2⟩ := hW'
                        go_simp
                      simp only [Act.put, List.getElem_toArray, List.getElem_cons_succ, List.getElem_cons_zero, List.setIfInBounds_toArray, List.set_cons_succ, List.set_cons_zero]
                      refine wpAnyH_take (i := 23) (v := .bool true) rfl (by kernel_rfl) (by kernel_rfl) (by kernel_rfl) (fun _ _ _ h => h) (.inl ⟨by rfl, fun W' hW' => ?_⟩) hS ?_
                      · obtain ⟨q1, q2⟩ := hW'
                        go_simp
                      simp only [Act.put, List.getElem_toArray, List.getElem_cons_succ, List.getElem_cons_zero, List.setIfInBounds_toArray, List.set_cons_succ, List.set_cons_zero]
                      refine wpAnyH_take (i := 24) (v := .bool true) rfl (by kernel_rfl) (by kernel_rfl) (by kernel_rfl) (fun _ _ _ h => h) (.inl ⟨by rfl, fun W' hW' => ?_⟩) hS ?_
                      · obtain ⟨q1, q2⟩ := hW'
                        go_simp
                      simp only [Act.put, List.getElem_toArray, List.getElem_cons_succ, List.getElem_cons_zero, List.setIfInBounds_toArray, List.set_cons_succ, List.set_cons_zero]
                      refine wpAnyH_take (i := 25) (v := .bool true) rfl (by kernel_rfl) (by kernel_rfl) (by kernel_rfl) (fun _ _ _ h => h) (.inl ⟨by rfl, fun W' hW' => ?_⟩) hS ?_
                      · obtain ⟨q1, q2⟩ := hW'
                        go_simp
                      simp only [Act.put, List.getElem_toArray, List.getElem_cons_succ, List.getElem_cons_zero, List.setIfInBounds_toArray, List.set_cons_succ, List.set_cons_zero]
                      refine wpAnyH_take (i := 26) (v := .slice (some ⟨wr.heap.size, 0, none⟩) 256 256) rfl (by kernel_rfl) (by kernel_rfl) (by kernel_rfl) (fun _ _ _ h => h) (.inl ⟨by rfl, fun W' hW' => ?_⟩) hS ?_
                      · obtain ⟨q1, q2⟩ := hW'
                        go_simp
                      simp only [Act.put, List.getElem_toArray, List.getElem_cons_succ, List.getElem_cons_zero, List.setIfInBounds_toArray, List.set_cons_succ, List.set_cons_zero]
                      refine wpAnyH_take (i := 27) (v := .string cs) rfl (by kernel_rfl) (by kernel_rfl) (by kernel_rfl) (fun _ _ _ h => h) (.inl ⟨by rfl, fun W' hW' => ?_⟩) hS ?_
                      · obtain ⟨q1, q2⟩ := hW'
                        go_simp
                      simp only [Act.put, List.getElem_toArray, List.getElem_cons_succ, List.getElem_cons_zero, List.setIfInBounds_toArray, List.set_cons_succ, List.set_cons_zero]
                      refine wpAnyH_take (i := 28) (v := .slice (some ⟨gw, 0, none⟩) n cw) rfl (by kernel_rfl) (by kernel_rfl) (by kernel_rfl) (fun _ _ _ h => h) (.inl ⟨by rfl, fun W' hW' => ?_⟩) hS ?_
                      · obtain ⟨q1, q2⟩ := hW'
                        go_simp
                      simp only [Act.put, List.getElem_toArray, List.getElem_cons_succ, List.getElem_cons_zero, List.setIfInBounds_toArray, List.set_cons_succ, List.set_cons_zero]
                      refine wpAnyH_take (i := 29) (v := .int .i64 (k : Int)) rfl (by kernel_rfl) (by kernel_rfl) (by kernel_rfl) (fun _ _ _ h => h) (.inl ⟨by rfl, fun W' hW' => ?_⟩) hS ?_
                      · obtain ⟨q1, q2⟩ := hW'
                        go_simp
                      simp only [Act.put, List.getElem_toArray, List.getElem_cons_succ, List.getElem_cons_zero, List.setIfInBounds_toArray, List.set_cons_succ, List.set_cons_zero]
                      refine wpAnyH_take (i := 30) (v := .pointer (some ⟨gw, k, none⟩)) rfl (by kernel_rfl) (by kernel_rfl) (by kernel_rfl) (fun _ _ _ h => h) (.inl ⟨by rfl, fun W' hW' => ?_⟩) hS ?_
                      · obtain ⟨q1, q2⟩ := hW'
                        go_simp
                      simp only [Act.put, List.getElem_toArray, List.getElem_cons_succ, List.getElem_cons_zero, List.setIfInBounds_toArray, List.set_cons_succ, List.set_cons_zero]
                      refine wpAnyH_take (i := 31) (v := .string cs) rfl (by kernel_rfl) (by kernel_rfl) (by kernel_rfl) (fun _ _ _ h => h) (.inl ⟨by rfl, fun W' hW' => ?_⟩) hS ?_
                      · obtain ⟨q1, q2⟩ := hW'
                        go_simp
                      simp only [Act.put, List.getElem_toArray, List.getElem_cons_succ, List.getElem_cons_zero, List.setIfInBounds_toArray, List.set_cons_succ, List.set_cons_zero]
                      refine wpAnyH_take (i := 32) (v := .bool false) rfl (by kernel_rfl) (by kernel_rfl) (by kernel_rfl) (fun _ _ _ h => h) (.inl ⟨by rfl, fun W' hW' => ?_⟩) hS ?_
                      · obtain ⟨q1, q2⟩ := hW'
                        go_simp
                      simp only [Act.put, List.getElem_toArray, List.getElem_cons_succ, List.getElem_cons_zero, List.setIfInBounds_toArray, List.set_cons_succ, List.set_cons_zero]
                      refine wpAnyH_take (i := 33) (v := .bool false) rfl (by kernel_rfl) (by kernel_rfl) (by kernel_rfl) (fun _ _ _ h => h) (.inl ⟨by rfl, fun W' hW' => ?_⟩) hS ?_
                      · obtain ⟨q1, q2⟩ := hW'
                        go_simp
                      simp only [Act.put, List.getElem_toArray, List.getElem_cons_succ, List.getElem_cons_zero, List.setIfInBounds_toArray, List.set_cons_succ, List.set_cons_zero]
                      refine wpAnyH_take (i := 34) (v := .bool false) rfl (by kernel_rfl) (by kernel_rfl) (by kernel_rfl) (fun _ _ _ h => h) (.inl ⟨by rfl, fun W' hW' => ?_⟩) hS ?_
                      · obtain ⟨q1, q2⟩ := hW'
                        go_simp
                      simp only [Act.put, List.getElem_toArray, List.getElem_cons_succ, List.getElem_cons_zero, List.setIfInBounds_toArray, List.set_cons_succ, List.set_cons_zero]
                      refine wpAnyH_done (by kernel_rfl) ?_ _
                      go_wp2
                      exact ⟨⟨k + 1, by omega, by go_num, hb6.trans ⟨rfl, rfl, rfl, Nat.le_refl _, fun _ _ => rfl⟩⟩, by simp [RowKit.intOf]; omega⟩
                  · have hpe := HP.out (fun h => by omega) (by omega)
                    have hcv : ∀ m, (convert 30 9 (.slice (some ⟨wr.heap.size, 0, none⟩) 256 256)).run Try.prog (w6.drewN m) = .ok (.string (strP S3.P k)) (w6.drewN m) := HCV.out
                    have hwk : ∀ m, (w6.drewN m).cell? ⟨gw, k, none⟩ = some (.string (strP S3.P k)) := HWK.out
                    have hse : strP S3.P k = strP S3.P k := by unfold strP; rw [hpe]
                    rw [hse] at hcv
                    have H1 : Hid _ := hcv
                    have H2 : Hid _ := hwk
                    clear hpe hcv hwk hse HCV HWK HP
                    go_upto_region 34 with fail
                    have hcv : ∀ m, (convert 30 9 (.slice (some ⟨wr.heap.size, 0, none⟩) 256 256)).run Try.prog (w6.drewN m) = .ok (.string (strP S3.P k)) (w6.drewN m) := H1.out
                    have hwk : ∀ m, (w6.drewN m).cell? ⟨gw, k, none⟩ = some (.string (strP S3.P k)) := H2.out
                    generalize strP S3.P k = cs at *
                    have b1 : decide ((k : Int) = 0) = false := decide_eq_false (by omega)
                    have b2 : decide ((0 : Int) < (k : Int)) = true := decide_eq_true (by omega)
                    have b3 : ((k : Int) == 0) = false := by simp; omega
                    have c1 : ∀ inst, @decide ((k : Int) = 0) inst = false := fun _ => decide_eq_false (by omega)
                    have c2 : ∀ inst, @decide ((0 : Int) < (k : Int)) inst = true := fun _ => decide_eq_true (by omega)
                    have hS : (convert 30 9 (.slice (some ⟨wr.heap.size, 0, none⟩) 256 256)).run Try.prog w6.drew = .ok (.string cs) w6.drew ∧ w6.drew.cell? ⟨gw, k, none⟩ = some (.string cs) := ⟨hcv 1, hwk 1⟩
                    clear hcv hwk
                    refine wp_region_held (S := fun W' => (convert 30 9 (.slice (some ⟨wr.heap.size, 0, none⟩) 256 256)).run Try.prog W' = .ok (.string cs) W' ∧ W'.cell? ⟨gw, k, none⟩ = some (.string cs)) hmix ?_
                    show wpAnyH _ _ _ _ _ _ _ _ w6.drew
                    refine wpAnyH_take (i := 0) (v := .int .i64 0) rfl (by kernel_rfl) (by kernel_rfl) (by kernel_rfl) (fun _ _ _ h => h) (.inl ⟨by rfl, fun W' hW' => ?_⟩) hS ?_
                    · obtain ⟨q1, q2⟩ := hW'
                      go_simp
                    simp only [Act.put, List.getElem_toArray, List.getElem_cons_succ, List.getElem_cons_zero, List.setIfInBounds_toArray, List.set_cons_succ, List.set_cons_zero]
                    refine wpAnyH_take (i := 1) (v := .bool false) rfl (by kernel_rfl) (by kernel_rfl) (by kernel_rfl) (fun _ _ _ h => h) (.inl ⟨by rfl, fun W' hW' => ?_⟩) hS ?_
                    · obtain ⟨q1, q2⟩ := hW'
                      go_simp
                    simp only [Act.put, List.getElem_toArray, List.getElem_cons_succ, List.getElem_cons_zero, List.setIfInBounds_toArray, List.set_cons_succ, List.set_cons_zero]
                    refine wpAnyH_take (i := 2) (v := .bool false) rfl (by kernel_rfl) (by kernel_rfl) (by kernel_rfl) (fun _ _ _ h => h) (.inl ⟨by rfl, fun W' hW' => ?_⟩) hS ?_
                    · obtain ⟨q1, q2⟩ := hW'
                      go_simp
                    simp only [Act.put, List.getElem_toArray, List.getElem_cons_succ, List.getElem_cons_zero, List.setIfInBounds_toArray, List.set_cons_succ, List.set_cons_zero]
                    refine wpAnyH_take (i := 3) (v := .int .i64 (k : Int)) rfl (by kernel_rfl) (by kernel_rfl) (by kernel_rfl) (fun _ _ _ h => h) (.inl ⟨by rfl, fun W' hW' => ?_⟩) hS ?_
                    · obtain ⟨q1, q2⟩ := hW'
                      go_simp
                    simp only [Act.put, List.getElem_toArray, List.getElem_cons_succ, List.getElem_cons_zero, List.setIfInBounds_toArray, List.set_cons_succ, List.set_cons_zero]
                    refine wpAnyH_take (i := 4) (v := .bool false) rfl (by kernel_rfl) (by kernel_rfl) (by kernel_rfl) (fun _ _ _ h => h) (.inl ⟨by rfl, fun W' hW' => ?_⟩) hS ?_
                    · obtain ⟨q1, q2⟩ := hW'
                      go_simp
                    simp only [Act.put, List.getElem_toArray, List.getElem_cons_succ, List.getElem_cons_zero, List.setIfInBounds_toArray, List.set_cons_succ, List.set_cons_zero]
                    refine wpAnyH_take (i := 5) (v := .bool false) rfl (by kernel_rfl) (by kernel_rfl) (by kernel_rfl) (fun _ _ _ h => h) (.inl ⟨by rfl, fun W' hW' => ?_⟩) hS ?_
                    · obtain ⟨q1, q2⟩ := hW'
                      go_simp
                    simp only [Act.put, List.getElem_toArray, List.getElem_cons_succ, List.getElem_cons_zero, List.setIfInBounds_toArray, List.set_cons_succ, List.set_cons_zero]
                    refine wpAnyH_take (i := 6) (v := undef) rfl (by kernel_rfl) (by kernel_rfl) (by kernel_rfl) (fun _ _ _ h => h) (.inr ⟨by rfl, rfl⟩) hS ?_
                    simp only [Act.put, List.getElem_toArray, List.getElem_cons_succ, List.getElem_cons_zero, List.setIfInBounds_toArray, List.set_cons_succ, List.set_cons_zero]
                    refine wpAnyH_take (i := 7) (v := undef) rfl (by kernel_rfl) (by kernel_rfl) (by kernel_rfl) (fun _ _ _ h => h) (.inr ⟨by rfl, rfl⟩) hS ?_
                    simp only [Act.put, List.getElem_toArray, List.getElem_cons_succ, List.getElem_cons_zero, List.setIfInBounds_toArray, List.set_cons_succ, List.set_cons_zero]
                    refine wpAnyH_take (i := 8) (v := undef) rfl (by kernel_rfl) (by kernel_rfl) (by kernel_rfl) (fun _ _ _ h => h) (.inr ⟨by rfl, rfl⟩) hS ?_
                    simp only [Act.put, List.getElem_toArray, List.getElem_cons_succ, List.getElem_cons_zero, List.setIfInBounds_toArray, List.set_cons_succ, List.set_cons_zero]
                    refine wpAnyH_take (i := 9) (v := undef) rfl (by kernel_rfl) (by kernel_rfl) (by kernel_rfl) (fun _ _ _ h => h) (.inr ⟨by rfl, rfl⟩) hS ?_
                    simp only [Act.put, List.getElem_toArray, List.getElem_cons_succ, List.getElem_cons_zero, List.setIfInBounds_toArray, List.set_cons_succ, List.set_cons_zero]
                    refine wpAnyH_take (i := 10) (v := undef) rfl (by kernel_rfl) (by kernel_rfl) (by kernel_rfl) (fun _ _ _ h => h) (.inr ⟨by rfl, rfl⟩) hS ?_
                    simp only [Act.put, List.getElem_toArray, List.getElem_cons_succ, List.getElem_cons_zero, List.setIfInBounds_toArray, List.set_cons_succ, List.set_cons_zero]
                    refine wpAnyH_take (i := 11) (v := undef) rfl (by kernel_rfl) (by kernel_rfl) (by kernel_rfl) (fun _ _ _ h => h) (.inr ⟨by rfl, rfl⟩) hS ?_
                    simp only [Act.put, List.getElem_toArray, List.getElem_cons_succ, List.getElem_cons_zero, List.setIfInBounds_toArray, List.set_cons_succ, List.set_cons_zero]
                    refine wpAnyH_take (i := 12) (v := .bool false) rfl (by kernel_rfl) (by kernel_rfl) (by kernel_rfl) (fun _ _ _ h => h) (.inl ⟨by rfl, fun W' hW' => ?_⟩) hS ?_
                    · obtain ⟨q1, q2⟩ := hW'
                      go_simp
                    simp only [Act.put, List.getElem_toArray, List.getElem_cons_succ, List.getElem_cons_zero, List.setIfInBounds_toArray, List.set_cons_succ, List.set_cons_zero]
                    refine wpAnyH_take (i := 13) (v := .bool false) rfl (by kernel_rfl) (by kernel_rfl) (by kernel_rfl) (fun _ _ _ h => h) (.inl ⟨by rfl, fun W' hW' => ?_⟩) hS ?_
                    · obtain ⟨q1, q2⟩ := hW'
                      go_simp
                    simp only [Act.put, List.getElem_toArray, List.getElem_cons_succ, List.getElem_cons_zero, List.setIfInBounds_toArray, List.set_cons_succ, List.set_cons_zero]
                    refine wpAnyH_take (i := 14) (v := .bool false) rfl (by kernel_rfl) (by kernel_rfl) (by kernel_rfl) (fun _ _ _ h => h) (.inl ⟨by rfl, fun W' hW' => ?_⟩) hS ?_
                    · obtain ⟨q1, q2⟩ := hW'
                      go_simp
                    simp only [Act.put, List.getElem_toArray, List.getElem_cons_succ, List.getElem_cons_zero, List.setIfInBounds_toArray, List.set_cons_succ, List.set_cons_zero]
                    refine wpAnyH_take (i := 15) (v := .int .i64 (k : Int)) rfl (by kernel_rfl) (by kernel_rfl) (by kernel_rfl) (fun _ _ _ h => h) (.inl ⟨by rfl, fun W' hW' => ?_⟩) hS ?_
                    · obtain ⟨q1, q2⟩ := hW'
                      go_simp
                    simp only [Act.put, List.getElem_toArray, List.getElem_cons_succ, List.getElem_cons_zero, List.setIfInBounds_toArray, List.set_cons_succ, List.set_cons_zero]
                    refine wpAnyH_take (i := 16) (v := .bool true) rfl (by kernel_rfl) (by kernel_rfl) (by kernel_rfl) (fun _ _ _ h => h) (.inl ⟨by rfl, fun W' hW' => ?_⟩) hS ?_
                    · obtain ⟨q1, q2⟩ := hW'
                      go_simp <;> omega
                    simp only [Act.put, List.getElem_toArray, List.getElem_cons_succ, List.getElem_cons_zero, List.setIfInBounds_toArray, List.set_cons_succ, List.set_cons_zero]
                    refine wpAnyH_take (i := 17) (v := .bool true) rfl (by kernel_rfl) (by kernel_rfl) (by kernel_rfl) (fun _ _ _ h => h) (.inl ⟨by rfl, fun W' hW' => ?_⟩) hS ?_
                    · obtain ⟨q1, q2⟩ := hW'
                      go_simp
                    simp only [Act.put, List.getElem_toArray, List.getElem_cons_succ, List.getElem_cons_zero, List.setIfInBounds_toArray, List.set_cons_succ, List.set_cons_zero]
                    refine wpAnyH_take (i := 18) (v := .int .i64 3) rfl (by kernel_rfl) (by kernel_rfl) (by kernel_rfl) (fun _ _ _ h => h) (.inl ⟨by rfl, fun W' hW' => ?_⟩) hS ?_
                    · obtain ⟨q1, q2⟩ := hW'
                      go_simp
                    simp only [Act.put, List.getElem_toArray, List.getElem_cons_succ, List.getElem_cons_zero, List.setIfInBounds_toArray, List.set_cons_succ, List.set_cons_zero]
                    refine wpAnyH_take (i := 19) (v := .bool false) rfl (by kernel_rfl) (by kernel_rfl) (by kernel_rfl) (fun _ _ _ h => h) (.inl ⟨by rfl, fun W' hW' => ?_⟩) hS ?_
                    · obtain ⟨q1, q2⟩ := hW'
                      go_simp
                    simp only [Act.put, List.getElem_toArray, List.getElem_cons_succ, List.getElem_cons_zero, List.setIfInBounds_toArray, List.set_cons_succ, List.set_cons_zero]
                    refine wpAnyH_take (i := 20) (v := .bool false) rfl (by kernel_rfl) (by kernel_rfl) (by kernel_rfl) (fun _ _ _ h => h) (.inl ⟨by rfl, fun W' hW' => ?_⟩) hS ?_
                    · obtain ⟨q1, q2⟩ := hW'
                      go_simp
                    simp only [Act.put, List.getElem_toArray, List.getElem_cons_succ, List.getElem_cons_zero, List.setIfInBounds_toArray, List.set_cons_succ, List.set_cons_zero]
                    refine wpAnyH_take (i := 21) (v := undef) rfl (by kernel_rfl) (by kernel_rfl) (by kernel_rfl) (fun _ _ _ h => h) (.inr ⟨by rfl, rfl⟩) hS ?_
                    simp only [Act.put, List.getElem_toArray, List.getElem_cons_succ, List.getElem_cons_zero, List.setIfInBounds_toArray, List.set_cons_succ, List.set_cons_zero]
                    refine wpAnyH_take (i := 22) (v := .bool false) rfl (by kernel_rfl) (by kernel_rfl) (by kernel_rfl) (fun _ _ _ h => h) (.inl ⟨by rfl, fun W' hW' => ?_⟩) hS ?_
                    · obtain ⟨q1, q2⟩ := hW'
                      go_simp
                    simp only [Act.put, List.getElem_toArray, List.getElem_cons_succ, List.getElem_cons_zero, List.setIfInBounds_toArray, List.set_cons_succ, List.set_cons_zero]
                    refine wpAnyH_take (i := 23) (v := .bool true) rfl (by kernel_rfl) (by kernel_rfl) (by kernel_rfl) (fun _ _ _ h => h) (.inl ⟨by rfl, fun W' hW' => ?_⟩) hS ?_
                    · obtain ⟨q1, q2⟩ := hW'
                      go_simp
                    simp only [Act.put, List.getElem_toArray, List.getElem_cons_succ, List.getElem_cons_zero, List.setIfInBounds_toArray, List.set_cons_succ, List.set_cons_zero]
                    refine wpAnyH_take (i := 24) (v := .bool true) rfl (by kernel_rfl) (by kernel_rfl) (by kernel_rfl) (fun _ _ _ h => h) (.inl ⟨by rfl, fun W' hW' => ?_⟩) hS ?_
                    · obtain ⟨q1, q2⟩ := hW'
                      go_simp
                    simp only [Act.put, List.getElem_toArray, List.getElem_cons_succ, List.getElem_cons_zero, List.setIfInBounds_toArray, List.set_cons_succ, List.set_cons_zero]
                    refine wpAnyH_take (i := 25) (v := .bool true) rfl (by kernel_rfl) (by kernel_rfl) (by kernel_rfl) (fun _ _ _ h => h) (.inl ⟨by rfl, fun W' hW' => ?_⟩) hS ?_
                    · obtain ⟨q1, q2⟩ := hW'
                      go_simp
                    simp only [Act.put, List.getElem_toArray, List.getElem_cons_succ, List.getElem_cons_zero, List.setIfInBounds_toArray, List.set_cons_succ, List.set_cons_zero]
                    refine wpAnyH_take (i := 26) (v := .slice (some ⟨wr.heap.size, 0, none⟩) 256 256) rfl (by kernel_rfl) (by kernel_rfl) (by kernel_rfl) (fun _ _ _ h => h) (.inl ⟨by rfl, fun W' hW' => ?_⟩) hS ?_
                    · obtain ⟨q1, q2⟩ := hW'
                      go_simp
                    simp only [Act.put, List.getElem_toArray, List.getElem_cons_succ, List.getElem_cons_zero, List.setIfInBounds_toArray, List.set_cons_succ, List.set_cons_zero]
                    refine wpAnyH_take (i := 27) (v := .string cs) rfl (by kernel_rfl) (by kernel_rfl) (by kernel_rfl) (fun _ _ _ h => h) (.inl ⟨by rfl, fun W' hW' => ?_⟩) hS ?_
                    · obtain ⟨q1, q2⟩ := hW'
                      go_simp
                    simp only [Act.put, List.getElem_toArray, List.getElem_cons_succ, List.getElem_cons_zero, List.setIfInBounds_toArray, List.set_cons_succ, List.set_cons_zero]
                    refine wpAnyH_take (i := 28) (v := .slice (some ⟨gw, 0, none⟩) n cw) rfl (by kernel_rfl) (by kernel_rfl) (by kernel_rfl) (fun _ _ _ h => h) (.inl ⟨by rfl, fun W' hW' => ?_⟩) hS ?_
                    · obtain ⟨q1, q2⟩ := hW'
                      go_simp
                    simp only [Act.put, List.getElem_toArray, List.getElem_cons_succ, List.getElem_cons_zero, List.setIfInBounds_toArray, List.set_cons_succ, List.set_cons_zero]
                    refine wpAnyH_take (i := 29) (v := .int .i64 (k : Int)) rfl (by kernel_rfl) (by kernel_rfl) (by kernel_rfl) (fun _ _ _ h => h) (.inl ⟨by rfl, fun W' hW' => ?_⟩) hS ?_
                    · obtain ⟨q1, q2⟩ := hW'
                      go_simp
                    simp only [Act.put, List.getElem_toArray, List.getElem_cons_succ, List.getElem_cons_zero, List.setIfInBounds_toArray, List.set_cons_succ, List.set_cons_zero]
                    refine wpAnyH_take (i := 30) (v := .pointer (some ⟨gw, k, none⟩)) rfl (by kernel_rfl) (by kernel_rfl) (by kernel_rfl) (fun _ _ _ h => h) (.inl ⟨by rfl, fun W' hW' => ?_⟩) hS ?_
                    · obtain ⟨q1, q2⟩ := hW'
                      go_simp
                    simp only [Act.put, List.getElem_toArray, List.getElem_cons_succ, List.getElem_cons_zero, List.setIfInBounds_toArray, List.set_cons_succ, List.set_cons_zero]
                    refine wpAnyH_take (i := 31) (v := .string cs) rfl (by kernel_rfl) (by kernel_rfl) (by kernel_rfl) (fun _ _ _ h => h) (.inl ⟨by rfl, fun W' hW' => ?_⟩) hS ?_
                    · obtain ⟨q1, q2⟩ := hW'
                      go_simp
                    simp only [Act.put, List.getElem_toArray, List.getElem_cons_succ, List.getElem_cons_zero, List.setIfInBounds_toArray, List.set_cons_succ, List.set_cons_zero]
                    refine wpAnyH_take (i := 32) (v := .bool false) rfl (by kernel_rfl) (by kernel_rfl) (by kernel_rfl) (fun _ _ _ h => h) (.inl ⟨by rfl, fun W' hW' => ?_⟩) hS ?_
                    · obtain ⟨q1, q2⟩ := hW'
                      go_simp
                    simp only [Act.put, List.getElem_toArray, List.getElem_cons_succ, List.getElem_cons_zero, List.setIfInBounds_toArray, List.set_cons_succ, List.set_cons_zero]
                    refine wpAnyH_take (i := 33) (v := .bool false) rfl (by kernel_rfl) (by kernel_rfl) (by kernel_rfl) (fun _ _ _ h => h) (.inl ⟨by rfl, fun W' hW' => ?_⟩) hS ?_
                    · obtain ⟨q1, q2⟩ := hW'
                      go_simp
                    simp only [Act.put, List.getElem_toArray, List.getElem_cons_succ, List.getElem_cons_zero, List.setIfInBounds_toArray, List.set_cons_succ, List.set_cons_zero]
                    refine wpAnyH_take (i := 34) (v := .bool false) rfl (by kernel_rfl) (by kernel_rfl) (by kernel_rfl) (fun _ _ _ h => h) (.inl ⟨by rfl, fun W' hW' => ?_⟩) hS ?_
                    · obtain ⟨q1, q2⟩ := hW'
                      go_simp
                    simp only [Act.put, List.getElem_toArray, List.getElem_cons_succ, List.getElem_cons_zero, List.setIfInBounds_toArray, List.set_cons_succ, List.set_cons_zero]
                    refine wpAnyH_done (by kernel_rfl) ?_ _
                    go_wp2
                    exact ⟨⟨k + 1, by omega, by go_num, hb6.trans ⟨rfl, rfl, rfl, Nat.le_refl _, fun _ _ => rfl⟩⟩, by simp [RowKit.intOf]; omega⟩
              · have hps := hp5.on hbw2
                go_wp2_with fail
                exact ⟨⟨j + 1, half, t, X3, S3, _, _, 3, by omega, by go_num, rfl, rfl, hps, by omega, by omega⟩, by simp [RowKit.intOf]; omega⟩
    · go_wp2_with fail
      go_ret
      exact ⟨rfl, hpa.bel⟩
end Go.Proofs.Ythgkkmcpmhfehaa

namespace Go.Proofs.Ythgkkmcpmhfehaa
open Go.ChangeShapes Go.WideShapes Go.ChangeAt Go.RowKit Go.Lib
set_option maxRecDepth 100000

theorem turns_contract (H : Type) (enc : TypeId × Value → H) (W : World) (base : Nat) (args : Array Value) (ds gs : List (DataW H)) (before : List MemPlace)
    (hval : ∀ (j : Nat) t v, Try.f7.params[j]? = some t → args[j]? = some v → Value.okWide Try.prog W .any base t v)
    (hW : DataW.Whole enc Try.prog Try.f7.params.toList Rows.pairTurnsSpec.vars false W args.toList ds gs before)
    (hsz0 : (DataW.weightsEach Try.prog (Try.f7.params.toList ++ Rows.pairTurnsSpec.plain.varTypes Try.prog) (ds ++ gs)).all (· ≤ reachBytes) = true) :
    Calls Try.prog 7 args W fun e W' => ∃ v, e = .returned v ∧ Rows.pairTurnsSpec.post enc Try.prog Try.f7 false true false false W args v W' := by
  have hW' := hW
  obtain ⟨p, q, hA0, hV, rfl, hfz, hnd⟩ := hW
  have hA : DataW.TrodAll enc Try.prog W 0 (fun _ => true) true Try.f7.params.toList args.toList ds p := hA0
  have hsz := hsz0
  rw [Try.params7] at hA hval hsz
  obtain ⟨v0, vs0, d0, ds0, p0, q0, hargs, rfl, rfl, h0, r0⟩ := trodAll_cons hA
  obtain ⟨v1, vs1, d1, ds1, p1, q1, rfl, rfl, rfl, h1, r1⟩ := trodAll_cons r0
  obtain ⟨v2, vs2, d2, ds2, p2, q2, rfl, rfl, rfl, h2, r2⟩ := trodAll_cons r1
  obtain ⟨rfl, rfl, rfl⟩ := trodAll_nil r2
  obtain rfl : args = #[v0, v1, v2] := by cases args; simp_all
  obtain ⟨rfl, rfl⟩ := trodVars_none hV
  obtain ⟨z0, rfl, rfl, rfl, w0⟩ := open_int Try.underlying3 (hval 0 3 v0 rfl rfl) h0
  have b0 := bounds_i64 w0
  obtain ⟨a1, len1, cap1, rfl⟩ := okWide_slice Try.underlying31 (hval 1 31 v1 rfl rfl)
  have lt1 : ∀ x ∈ p1, x.block < W.heap.size := by obtain ⟨m, hm⟩ := h1; exact DataW.trod_lt m _ _ _ hm
  obtain ⟨rs1, _, hr1⟩ := rd_list h1
  obtain ⟨a2, len2, cap2, rfl⟩ := okWide_slice Try.underlying30 (hval 2 30 v2 rfl rfl)
  have lt2 : ∀ x ∈ p2, x.block < W.heap.size := by obtain ⟨m, hm⟩ := h2; exact DataW.trod_lt m _ _ _ hm
  obtain ⟨x2, hx2, hr2, hb2⟩ := rd_bytes h2
  have b2 : x2.length ≤ 140737488355328 := by
    rcases hb2 with h | ⟨E, S, rfl, h⟩
    · omega
    · have := sized_slice hsz (j := 2) (t := 30) (e := 5) rfl rfl Try.underlying30
      rw [bytes5] at this
      simp only [reachBytes] at this
      omega
  refine (turns_any W _ _ _ hr1 _ _ hr2 b2).mono fun e W' ⟨he, bel⟩ => ?_
  subst he
  exact ⟨_, rfl, _, _, _, [], _, [], hW', trodAll_mk1 (shut_bool Try.underlying4 _), (trodAll_cons_mk (shut_int Try.underlying3 w0) (trodAll_cons_mk (Below.trod laidOut (by kernel_rfl) (of_decide_eq_true (by kernel_rfl)) h1 bel lt1) (trodAll_cons_mk (Below.trod laidOut (by kernel_rfl) (of_decide_eq_true (by kernel_rfl)) h2 bel lt2) trodAll_mk0))), rfl, bel.frame _, fun h => by cases h⟩

set_option maxRecDepth 100000 in
theorem turns_lifted (os : Os) (started : os.Started) (H : Type) (enc : TypeId × Value → H) :
    ReturnsInHanded {} Try.checked os 7 .any (Rows.pairTurnsSpec.pre6 enc Try.prog Try.f7 Rows.pairTurnsRow.domain false) (Rows.pairTurnsSpec.post enc Try.prog Try.f7 false true false false) := by
  refine returnsInHanded_of_change_sized (C := Try.checked) own started (by kernel_rfl) Try.func7
    (ChangeSpec.witness6 (enc := enc) (C := Try.checked) false ⟨#[], #[.int .i64 0, .slice none 0 0, .slice none 0 0], []⟩ 8 (by kernel_rfl) (by kernel_rfl) (by kernel_rfl) (by kernel_rfl)) ?_
  intro W base args ds gs before hval hW _ hsz _
  exact turns_contract H enc W base args ds gs before hval hW hsz

theorem pairTurns_said : Rows.PairTurnsSaid :=
  OpenClaim.holds_of_wide 7 Try.f7 rfl rfl rfl rfl rfl rfl rfl ⟨rfl, rfl, rfl, rfl, rfl⟩ rfl rfl rfl rfl rfl (by kernel_rfl) Try.func7 (by kernel_rfl)
    (of_decide_eq_true (by kernel_rfl)) (by unfold Func.isWrapper; first | (rw [if_pos (by decide +kernel)]; kernel_rfl) | (rw [if_neg (by decide +kernel)]; exact ⟨rfl, rfl⟩))
    (fun os started H enc _ => turns_lifted os started H enc)
#print axioms pairTurns_said
end Go.Proofs.Ythgkkmcpmhfehaa
