/- For every number of pages, every record and every snapshot, trivetlaw05.PairFull answers true and leaves its arguments as they were, with no condition. -/
import Derived.Test.YthgkkmcpmhfehaaPo
import Derived.Lib.SlBytesConst
import Derived.Test.YthgkkmcpmhfehaaOd
namespace Go.Proofs.Ythgkkmcpmhfehaa
open Go.RowKit Go.Lib Go.Shelf
set_option maxRecDepth 100000
set_option linter.unusedSimpArgs false

set_option maxHeartbeats 2000000 in
theorem sframe_any (w : World) (v : Value) (r : List UInt8) (h : Sl.RdA w v r) (hl : r.length ≤ 1048576) :
    Calls Try.prog 33 #[v] w fun e w' => ∃ v', e = .returned v' ∧ Sl.Own w' w.heap.size v' (snB r) ∧ Below w.heap.size w w' := by
  obtain ⟨a, k, rfl⟩ := h.len
  have HR : Hid _ := h
  clear h
  have d0 : ((r.length : Nat) : Int).tdiv 16777216 = (r.length : Int) / 16777216 := Int.tdiv_eq_ediv_of_nonneg (by omega)
  have d1 : ((r.length : Nat) : Int).tdiv 65536 = (r.length : Int) / 65536 := Int.tdiv_eq_ediv_of_nonneg (by omega)
  have d2 : ((r.length : Nat) : Int).tdiv 256 = (r.length : Int) / 256 := Int.tdiv_eq_ediv_of_nonneg (by omega)
  have d3 : ((r.length : Int) / 256).tmod 256 = (r.length : Int) / 256 % 256 := Int.tmod_eq_emod_of_nonneg (by omega)
  have d5 : ((r.length : Int) / 65536).tmod 256 = (r.length : Int) / 65536 := by rw [Int.tmod_eq_emod_of_nonneg (by omega)]; omega
  have d4 : ((r.length : Nat) : Int).tmod 256 = (r.length : Int) % 256 := Int.tmod_eq_emod_of_nonneg (by omega)
  go_enter Try.func33, Try.ntmps33
  go_wp2_with fail
  rw [head4_cells r.length hl]
  have hb1 : Below w.heap.size w (w.alloc (.cells (byteCells (be4 r.length)).toArray 5)) := (Below.refl _ _).alloc (Nat.le_refl _) _
  have hh1 : (w.alloc (.cells (byteCells (be4 r.length)).toArray 5)).heap[w.heap.size]? = some (.cells (byteCells (be4 r.length)).toArray 5 (0, 0)) := heap_alloc_new w _
  generalize w.alloc (.cells (byteCells (be4 r.length)).toArray 5) = w1 at hb1 hh1 ⊢
  have hr1 : Sl.RdA w1 (.slice a r.length k) r := Sl.RdA.on HR.out hb1
  have h4 : Sl.RdA w1 (.slice (some ⟨w.heap.size, 0, none⟩) 4 4) (be4 r.length) := by
    have := sl_range (c := 4) (range_cut hh1 0 4) (by simp [be4])
    simpa [be4] using this
  have N1 := Sl.refof_any w1 r.length _ r hr1 (by omega)
  change Calls Try.prog 57 _ w1 (fun e w' => e = .returned (.int .u64 (sumS r : Nat)) ∧ w' = w1) at N1
  have N2 := Sl.refput_any w1 _ (be4 r.length) (sumS r) (sumS_lt r) h4 (by simp [be4])
  have hfr : Hid (snB r = be4 r.length ++ Sl.be8 (sumS r) ++ r) := rfl
  have hl8 : (be4 r.length ++ Sl.be8 (sumS r)).length = 12 := by simp [be4, Sl.be8]
  generalize sumS r = A at *
  generalize be4 r.length ++ Sl.be8 A = L at *
  refine N1.mono ?_
  rintro e w2 ⟨rfl, hw2⟩
  have hw2 := hw2.symm
  subst hw2
  go_wp2_with fail
  refine N2.mono ?_
  rintro e w3 ⟨v', rfl, ho, hb⟩
  have hr3 := hr1.on hb
  have hle : w.heap.size ≤ w3.heap.size := Nat.le_trans hb1.size hb.size
  go_wp2_with (at_builtin; refine Sl.appB rfl (.tmp 26) (.tmp 27) rfl w.heap.size _ _ L r w3 rfl (ownsRow_base ho hb1.size) rfl hr3 (by omega) hle ?_)
  intro v4 w4 ho4 hb4
  go_wp2
  go_ret
  exact ⟨v4, rfl, by rw [hfr.out]; exact ho4, (hb1.trans (hb.mono hb1.size)).trans hb4⟩

theorem zero_pp (n : Nat) (hn : 5 ≤ n) : PP (List.replicate (n * 256) 0) n 0 [] [] := by
  have hs : 2 ≤ spanN n := by unfold spanN; omega
  have hf : firstN n 0 = 1 := by simp [firstN]
  have hsn : spanN n + 1 ≤ n := by unfold spanN; omega
  have ht0 : takesN ([] : List UInt8).length = 1 := rfl
  refine ⟨by omega, by rw [List.getElem?_replicate, if_pos (by omega)]; rfl, .inl ⟨rfl, ?_⟩, by rw [ht0]; omega, Laid.nil _ _ _ ?_ ?_, by decide⟩
  · unfold cutB
    rw [List.drop_replicate, List.take_replicate, Nat.min_eq_left (by rw [hf]; omega)]
  · rw [hf, ht0, List.length_replicate]; omega
  · rw [hf, ht0, List.getElem?_replicate, if_pos (by omega)]
theorem hi_rd (w : World) : Sl.RdA (w.alloc (.cells #[.int .u8 104, .int .u8 105] 5 (2, 3))) (.slice (some ⟨w.heap.size, 0, none⟩) 2 2) [104, 105] := by
  have hg : (w.alloc (.cells #[.int .u8 104, .int .u8 105] 5 (2, 3))).heap[w.heap.size]? = some (.cells (byteCells [104, 105]).toArray 5 (2, 3)) := heap_alloc_new w _
  exact sl_range (l := [104, 105]) (c := 2) (range_of_block hg) (by decide)

/-- A new drum, and a pair opened on it. -/
theorem new_open (w : World) (n : Nat) (hn : 5 ≤ n) (hn2 : n ≤ 4096) :
    Calls Try.prog 10 #[.int .i64 n] w fun e w' => ∃ X q S, e = .returned (.pointer (some ⟨q, 0, none⟩)) ∧ Drum w' X q n S ∧ PP S.P n 0 [] [] ∧ S.W = [] ∧ S.ops = 0 ∧ S.armed = 0 ∧ S.down = false ∧ Below w.heap.size w w' ∧ ∀ k, X k → w.heap.size ≤ k := by
  refine (new_ts w n (by omega) hn2).mono ?_
  rintro e w' ⟨X, q, S, rfl, h1, h2, h3, h4, h5, h6, h7, h8⟩
  exact ⟨X, q, S, rfl, h1, by rw [h2]; exact zero_pp n hn, h3, h4, h5, h6, h7, h8⟩

set_option maxHeartbeats 4000000 in
theorem wakes_any (w : World) : Calls Try.prog 8 #[] w fun e w' => e = .returned (.bool true) ∧ Below w.heap.size w w' := by
  have hmix : Try.prog.follows .mixedOrders = true := by kernel_rfl
  have N10 := new_open w 9 (by decide) (by decide)
  have kc := fun (w : World) (C : Array Value) (n c : Nat) => Lib.run_convert_bytes_const (P := Try.prog) w 30 5 C n c Try.underlying30 Try.underlying5
  go_enter Try.func8, Try.ntmps8
  go_wp2_with (go_at_call 10; refine N10.mono ?_; rintro e w1 ⟨X, q, S, rfl, hdr, hpp, hW0, hops, har, hdn, hb1, hX⟩)
  have N12 := popen_any w1 X q 9 S hdn hW0 hdr (by decide) 0 [] [] (by decide) hpp
  refine N12.mono ?_
  rintro e w2 ⟨hb2, v1, v2, p, t, rfl, hp2, ht2, hsv, hrec, hps⟩
  obtain ⟨sa, sc, rfl⟩ := hsv.shape
  obtain ⟨ra, rc, rfl⟩ := hrec.shape
  have hbh : Below w2.heap.size w2 (w2.alloc (.cells #[.int .u8 104, .int .u8 105] 5 (2, 3))) := (Below.refl _ _).alloc (Nat.le_refl _) _
  have N16 := save_ps _ X p t q 9 S 0 [] [] (hps.below hbh) (by omega) [104, 105] _ (hi_rd w2) (by decide) (by decide)
  clear hsv hrec
  go_wp2_with fail
  refine N16.mono ?_
  rintro e w3 ⟨X3, S3, hd3, hst3, hX3, hw3, _, ⟨rfl, ⟨t3, ht3, hps3⟩, hop3, har3, hkeep3⟩ | ⟨_, hne, _⟩⟩
  rotate_left
  · exact absurd har hne
  have hop5 : (S3.ops : Int) = 5 := by rw [hop3, hops]; rfl
  have hb03 : Below w.heap.size w w3 := by
    refine (hb1.trans (hb2.mono hb1.size)).trans ((hbh.mono (Nat.le_trans hb1.size hb2.size)).trans (hst3.below (fun k hk => ?_) (Nat.le_trans hb1.size (Nat.le_trans hb2.size hbh.size))))
    rcases hk with hk | hk
    · exact hX k hk
    · rw [hk]; exact Nat.le_trans hb1.size hp2
  have N31 := ops_any w3 X3 q 9 S3 hd3
  rw [hop5] at N31
  have hmk : (Instr.makeSlice 30 (.int .i64 757) (.int .i64 757)).run Try.prog w3 = .ok (.slice (some ⟨w3.heap.size, 0, none⟩) 757 757) (w3.alloc (.cells (byteCells (List.replicate 757 0)).toArray 5)) := makeB w3 757 757 (by decide) (by decide)
  have hb4 : Below w3.heap.size w3 (w3.alloc (.cells (byteCells (List.replicate 757 0)).toArray 5)) := (Below.refl _ _).alloc (Nat.le_refl _) _
  generalize hw4 : w3.alloc (.cells (byteCells (List.replicate 757 0)).toArray 5) = w4 at *
  have hps4 := hps3.below hb4
  have N16b := save_long w4 X3 p q 9 S3 1 _ 0 hps4.d hps4.pr (by decide) (List.replicate 757 0) (some ⟨w3.heap.size, 0, none⟩) 757 (by rw [List.length_replicate]; decide) (by rw [List.length_replicate]; decide)
  rw [List.length_replicate] at N16b
  clear N16 N12 N10 hw4
  go_wp2_with (first | (go_at_call 31; refine N31.mono ?_; rintro e w9 ⟨rfl, hw9⟩; have hw9 := hw9.symm; subst hw9) | (go_at_call 16; refine N16b.mono ?_; rintro e w5 ⟨rfl, hb5⟩))
  have hps5 := hps4.below hb5
  have N12 := popen_any w5 X3 q 9 S3 hps5.dn hps5.wz hps5.d (by decide) 1 [104, 105] [] (by decide) hps5.pp
  refine N12.mono ?_
  rintro e w6 ⟨hb6, v1, v2, p6, t6, rfl, hp6, ht6, hsv, hrec, hps6⟩
  have hrd6 := hsv.rd
  obtain ⟨sa6, sc6, rfl⟩ := hsv.shape
  obtain ⟨ra6, rc6, rfl⟩ := hrec.shape
  have N32 := read0 w6 X3 q 9 S3 5 (by decide) hps5.dn hps6.d
  clear hsv hrec N31 N16b N12
  go_wp2_with (go_at_call 32; refine N32.mono ?_; rintro e w7 ⟨rfl, hpg⟩)
  have h14 : ((pageOf S3.P 5).drop 0).take 14 = snB [104, 105] := by
    rcases hps6.pp.sn with ⟨h0, _⟩ | h0
    · cases h0
    · rw [List.drop_zero, ← cutB_page _ _ _ (by decide)]; exact h0
  have hb05 : Below w.heap.size w w6 := (hb03.trans (hb4.mono hb03.size)).trans ((hb5.mono (Nat.le_trans hb03.size hb4.size)).trans (hb6.mono (Nat.le_trans hb03.size (Nat.le_trans hb4.size hb5.size))))
  have hb07 : Below w.heap.size w w7 := hb05.trans (hpg.below.mono hb05.size)
  have hblk := hpg.block
  have hrd7 : Sl.RdA w7 (.slice sa6 2 sc6) [104, 105] := Sl.RdA.on hrd6 hpg.below
  obtain ⟨fh, hfh⟩ : ∃ s : ByteArray, s = ⟨(snB [104, 105]).toArray⟩ := ⟨_, rfl⟩
  have hcx : ∀ W' : World, W'.heap[w6.heap.size]? = some (.cells (byteCells (pageOf S3.P 5)).toArray 85 (0, 0)) → (convert 30 9 (.slice (some ⟨w6.heap.size, 0, none⟩) 14 256)).run Try.prog W' = .ok (.string fh) W' := fun W' hW' => by
    rw [hfh]
    apply convA
    have e14 : (snB [104, 105]).length = 14 := by rw [snB_length]; rfl
    have := sl_range (c := 256) (range_cut hW' 0 14) (by rw [h14, e14]; decide)
    rw [h14, e14] at this
    exact this
  have hcx2 : ∀ W' : World, Sl.RdA W' (.slice sa6 2 sc6) [104, 105] → (convert 30 9 (.slice sa6 2 sc6)).run Try.prog W' = .ok (.string ⟨#[104, 105]⟩) W' := fun W' hW' => convA hW'
  have hS : w7.drew.heap[w6.heap.size]? = some (.cells (byteCells (pageOf S3.P 5)).toArray 85 (0, 0)) ∧ Sl.RdA w7.drew (.slice sa6 2 sc6) [104, 105] := ⟨hblk, hrd7⟩
  refine wp_region_held (S := fun W' => W'.heap[w6.heap.size]? = some (.cells (byteCells (pageOf S3.P 5)).toArray 85 (0, 0)) ∧ Sl.RdA W' (.slice sa6 2 sc6) [104, 105]) hmix ?_
  show wpAnyH _ _ _ _ _ _ _ _ w7.drew
  clear hrd6 N32 kc
  refine wpAnyH_take (i := 0) (v := .int .i64 0) rfl (by kernel_rfl) (by kernel_rfl) (by kernel_rfl) (fun _ _ _ h => h) (.inl ⟨by rfl, fun W' hW' => ?_⟩) hS ?_
  · obtain ⟨q1, q2⟩ := hW'
    have hcv := hcx W' q1
    have hcv2 := hcx2 W' q2
    clear q1 q2
    go_simp
  simp only [Act.put, List.getElem_toArray, List.getElem_cons_succ, List.getElem_cons_zero, List.setIfInBounds_toArray, List.set_cons_succ, List.set_cons_zero]
  refine wpAnyH_take (i := 1) (v := .bool true) rfl (by kernel_rfl) (by kernel_rfl) (by kernel_rfl) (fun _ _ _ h => h) (.inl ⟨by rfl, fun W' hW' => ?_⟩) hS ?_
  · obtain ⟨q1, q2⟩ := hW'
    have hcv := hcx W' q1
    have hcv2 := hcx2 W' q2
    clear q1 q2
    go_simp
  simp only [Act.put, List.getElem_toArray, List.getElem_cons_succ, List.getElem_cons_zero, List.setIfInBounds_toArray, List.set_cons_succ, List.set_cons_zero]
  refine wpAnyH_take (i := 2) (v := .bool true) rfl (by kernel_rfl) (by kernel_rfl) (by kernel_rfl) (fun _ _ _ h => h) (.inl ⟨by rfl, fun W' hW' => ?_⟩) hS ?_
  · obtain ⟨q1, q2⟩ := hW'
    have hcv := hcx W' q1
    have hcv2 := hcx2 W' q2
    clear q1 q2
    go_simp
  simp only [Act.put, List.getElem_toArray, List.getElem_cons_succ, List.getElem_cons_zero, List.setIfInBounds_toArray, List.set_cons_succ, List.set_cons_zero]
  refine wpAnyH_take (i := 3) (v := .int .i64 0) rfl (by kernel_rfl) (by kernel_rfl) (by kernel_rfl) (fun _ _ _ h => h) (.inl ⟨by rfl, fun W' hW' => ?_⟩) hS ?_
  · obtain ⟨q1, q2⟩ := hW'
    have hcv := hcx W' q1
    have hcv2 := hcx2 W' q2
    clear q1 q2
    go_simp
  simp only [Act.put, List.getElem_toArray, List.getElem_cons_succ, List.getElem_cons_zero, List.setIfInBounds_toArray, List.set_cons_succ, List.set_cons_zero]
  refine wpAnyH_take (i := 4) (v := .bool true) rfl (by kernel_rfl) (by kernel_rfl) (by kernel_rfl) (fun _ _ _ h => h) (.inl ⟨by rfl, fun W' hW' => ?_⟩) hS ?_
  · obtain ⟨q1, q2⟩ := hW'
    have hcv := hcx W' q1
    have hcv2 := hcx2 W' q2
    clear q1 q2
    go_simp
  simp only [Act.put, List.getElem_toArray, List.getElem_cons_succ, List.getElem_cons_zero, List.setIfInBounds_toArray, List.set_cons_succ, List.set_cons_zero]
  refine wpAnyH_take (i := 5) (v := .bool true) rfl (by kernel_rfl) (by kernel_rfl) (by kernel_rfl) (fun _ _ _ h => h) (.inl ⟨by rfl, fun W' hW' => ?_⟩) hS ?_
  · obtain ⟨q1, q2⟩ := hW'
    have hcv := hcx W' q1
    have hcv2 := hcx2 W' q2
    clear q1 q2
    go_simp
  simp only [Act.put, List.getElem_toArray, List.getElem_cons_succ, List.getElem_cons_zero, List.setIfInBounds_toArray, List.set_cons_succ, List.set_cons_zero]
  refine wpAnyH_take (i := 6) (v := .bool true) rfl (by kernel_rfl) (by kernel_rfl) (by kernel_rfl) (fun _ _ _ h => h) (.inl ⟨by rfl, fun W' hW' => ?_⟩) hS ?_
  · obtain ⟨q1, q2⟩ := hW'
    have hcv := hcx W' q1
    have hcv2 := hcx2 W' q2
    clear q1 q2
    go_simp
  simp only [Act.put, List.getElem_toArray, List.getElem_cons_succ, List.getElem_cons_zero, List.setIfInBounds_toArray, List.set_cons_succ, List.set_cons_zero]
  refine wpAnyH_take (i := 7) (v := .slice sa6 2 sc6) rfl (by kernel_rfl) (by kernel_rfl) (by kernel_rfl) (fun _ _ _ h => h) (.inl ⟨by rfl, fun W' hW' => ?_⟩) hS ?_
  · obtain ⟨q1, q2⟩ := hW'
    have hcv := hcx W' q1
    have hcv2 := hcx2 W' q2
    clear q1 q2
    go_simp
  simp only [Act.put, List.getElem_toArray, List.getElem_cons_succ, List.getElem_cons_zero, List.setIfInBounds_toArray, List.set_cons_succ, List.set_cons_zero]
  refine wpAnyH_take (i := 8) (v := .string ⟨#[104, 105]⟩) rfl (by kernel_rfl) (by kernel_rfl) (by kernel_rfl) (fun _ _ _ h => h) (.inl ⟨by rfl, fun W' hW' => ?_⟩) hS ?_
  · obtain ⟨q1, q2⟩ := hW'
    have hcv := hcx W' q1
    have hcv2 := hcx2 W' q2
    clear q1 q2
    go_simp
  simp only [Act.put, List.getElem_toArray, List.getElem_cons_succ, List.getElem_cons_zero, List.setIfInBounds_toArray, List.set_cons_succ, List.set_cons_zero]
  refine wpAnyH_take (i := 9) (v := .bool true) rfl (by kernel_rfl) (by kernel_rfl) (by kernel_rfl) (fun _ _ _ h => h) (.inl ⟨by rfl, fun W' hW' => ?_⟩) hS ?_
  · obtain ⟨q1, q2⟩ := hW'
    have hcv := hcx W' q1
    have hcv2 := hcx2 W' q2
    clear q1 q2
    go_simp
  simp only [Act.put, List.getElem_toArray, List.getElem_cons_succ, List.getElem_cons_zero, List.setIfInBounds_toArray, List.set_cons_succ, List.set_cons_zero]
  refine wpAnyH_take (i := 10) (v := .bool true) rfl (by kernel_rfl) (by kernel_rfl) (by kernel_rfl) (fun _ _ _ h => h) (.inl ⟨by rfl, fun W' hW' => ?_⟩) hS ?_
  · obtain ⟨q1, q2⟩ := hW'
    have hcv := hcx W' q1
    have hcv2 := hcx2 W' q2
    clear q1 q2
    go_simp
  simp only [Act.put, List.getElem_toArray, List.getElem_cons_succ, List.getElem_cons_zero, List.setIfInBounds_toArray, List.set_cons_succ, List.set_cons_zero]
  refine wpAnyH_take (i := 11) (v := .bool true) rfl (by kernel_rfl) (by kernel_rfl) (by kernel_rfl) (fun _ _ _ h => h) (.inl ⟨by rfl, fun W' hW' => ?_⟩) hS ?_
  · obtain ⟨q1, q2⟩ := hW'
    have hcv := hcx W' q1
    have hcv2 := hcx2 W' q2
    clear q1 q2
    go_simp
  simp only [Act.put, List.getElem_toArray, List.getElem_cons_succ, List.getElem_cons_zero, List.setIfInBounds_toArray, List.set_cons_succ, List.set_cons_zero]
  refine wpAnyH_take (i := 12) (v := .slice ra6 0 rc6) rfl (by kernel_rfl) (by kernel_rfl) (by kernel_rfl) (fun _ _ _ h => h) (.inl ⟨by rfl, fun W' hW' => ?_⟩) hS ?_
  · obtain ⟨q1, q2⟩ := hW'
    have hcv := hcx W' q1
    have hcv2 := hcx2 W' q2
    clear q1 q2
    go_simp
  simp only [Act.put, List.getElem_toArray, List.getElem_cons_succ, List.getElem_cons_zero, List.setIfInBounds_toArray, List.set_cons_succ, List.set_cons_zero]
  refine wpAnyH_take (i := 13) (v := .int .i64 0) rfl (by kernel_rfl) (by kernel_rfl) (by kernel_rfl) (fun _ _ _ h => h) (.inl ⟨by rfl, fun W' hW' => ?_⟩) hS ?_
  · obtain ⟨q1, q2⟩ := hW'
    have hcv := hcx W' q1
    have hcv2 := hcx2 W' q2
    clear q1 q2
    go_simp
  simp only [Act.put, List.getElem_toArray, List.getElem_cons_succ, List.getElem_cons_zero, List.setIfInBounds_toArray, List.set_cons_succ, List.set_cons_zero]
  refine wpAnyH_take (i := 14) (v := .bool true) rfl (by kernel_rfl) (by kernel_rfl) (by kernel_rfl) (fun _ _ _ h => h) (.inl ⟨by rfl, fun W' hW' => ?_⟩) hS ?_
  · obtain ⟨q1, q2⟩ := hW'
    have hcv := hcx W' q1
    have hcv2 := hcx2 W' q2
    clear q1 q2
    go_simp
  simp only [Act.put, List.getElem_toArray, List.getElem_cons_succ, List.getElem_cons_zero, List.setIfInBounds_toArray, List.set_cons_succ, List.set_cons_zero]
  refine wpAnyH_take (i := 15) (v := .bool true) rfl (by kernel_rfl) (by kernel_rfl) (by kernel_rfl) (fun _ _ _ h => h) (.inl ⟨by rfl, fun W' hW' => ?_⟩) hS ?_
  · obtain ⟨q1, q2⟩ := hW'
    have hcv := hcx W' q1
    have hcv2 := hcx2 W' q2
    clear q1 q2
    go_simp
  simp only [Act.put, List.getElem_toArray, List.getElem_cons_succ, List.getElem_cons_zero, List.setIfInBounds_toArray, List.set_cons_succ, List.set_cons_zero]
  refine wpAnyH_take (i := 16) (v := .bool true) rfl (by kernel_rfl) (by kernel_rfl) (by kernel_rfl) (fun _ _ _ h => h) (.inl ⟨by rfl, fun W' hW' => ?_⟩) hS ?_
  · obtain ⟨q1, q2⟩ := hW'
    have hcv := hcx W' q1
    have hcv2 := hcx2 W' q2
    clear q1 q2
    go_simp
  simp only [Act.put, List.getElem_toArray, List.getElem_cons_succ, List.getElem_cons_zero, List.setIfInBounds_toArray, List.set_cons_succ, List.set_cons_zero]
  refine wpAnyH_take (i := 17) (v := .slice (some ⟨w6.heap.size, 0, none⟩) 256 256) rfl (by kernel_rfl) (by kernel_rfl) (by kernel_rfl) (fun _ _ _ h => h) (.inl ⟨by rfl, fun W' hW' => ?_⟩) hS ?_
  · obtain ⟨q1, q2⟩ := hW'
    have hcv := hcx W' q1
    have hcv2 := hcx2 W' q2
    clear q1 q2
    go_simp
  simp only [Act.put, List.getElem_toArray, List.getElem_cons_succ, List.getElem_cons_zero, List.setIfInBounds_toArray, List.set_cons_succ, List.set_cons_zero]
  refine wpAnyH_take (i := 18) (v := .slice (some ⟨w6.heap.size, 0, none⟩) 14 256) rfl (by kernel_rfl) (by kernel_rfl) (by kernel_rfl) (fun _ _ _ h => h) (.inl ⟨by rfl, fun W' hW' => ?_⟩) hS ?_
  · obtain ⟨q1, q2⟩ := hW'
    have hcv := hcx W' q1
    have hcv2 := hcx2 W' q2
    clear q1 q2
    go_simp
  simp only [Act.put, List.getElem_toArray, List.getElem_cons_succ, List.getElem_cons_zero, List.setIfInBounds_toArray, List.set_cons_succ, List.set_cons_zero]
  refine wpAnyH_take (i := 19) (v := .string fh) rfl (by kernel_rfl) (by kernel_rfl) (by kernel_rfl) (fun _ _ _ h => h) (.inl ⟨by rfl, fun W' hW' => ?_⟩) hS ?_
  · obtain ⟨q1, q2⟩ := hW'
    have hcv := hcx W' q1
    have hcv2 := hcx2 W' q2
    clear q1 q2
    go_simp
  simp only [Act.put, List.getElem_toArray, List.getElem_cons_succ, List.getElem_cons_zero, List.setIfInBounds_toArray, List.set_cons_succ, List.set_cons_zero]
  have hk12 : (convert 30 30 (.slice (some ⟨w7.heap.size, 0, none⟩) 2 2)).run Try.prog (w7.alloc (.cells #[.int .u8 104, .int .u8 105] 5)).drew = .ok (.slice (some ⟨w7.heap.size, 0, none⟩) 2 2) (w7.alloc (.cells #[.int .u8 104, .int .u8 105] 5 (2, 3))).drew :=
    Lib.run_convert_bytes_const (P := Try.prog) w7.drew 30 5 #[.int .u8 104, .int .u8 105] 2 2 Try.underlying30 Try.underlying5
  have hbal : ∀ fr, Below w7.heap.size w7 (w7.alloc (.cells #[.int .u8 104, .int .u8 105] 5 fr)).drew := fun fr => ((Below.refl _ w7).alloc (Nat.le_refl _) _).trans ⟨rfl, rfl, rfl, Nat.le_refl _, fun _ _ => rfl⟩
  have hba : ∀ (W' : World), Below w7.heap.size w7 W' → W'.heap[w6.heap.size]? = some (.cells (byteCells (pageOf S3.P 5)).toArray 85 (0, 0)) ∧ Sl.RdA W' (.slice sa6 2 sc6) [104, 105] := fun W' hW' => ⟨(hW'.block _ (Array.getElem?_eq_some_iff.1 hblk).1).trans hblk, Sl.RdA.on hrd7 hW'⟩
  refine wpAnyH_one (i := 20) (by kernel_rfl) rfl (by rfl) (fun K hK => ?_)
  go_simp
  refine hK _ _ (hba _ (hbal _)) ?_
  clear hK K
  refine wpAnyH_one (i := 21) (by kernel_rfl) rfl (by rfl) (fun K hK => ?_)
  go_simp
  obtain ⟨w8, hw8⟩ : ∃ w8, w8 = (w7.alloc (.cells #[.int .u8 104, .int .u8 105] 5 (2, 3))).drew := ⟨_, rfl⟩
  have hrd8 : Sl.RdA w8 (.slice (some ⟨w7.heap.size, 0, none⟩) 2 2) [104, 105] := by rw [hw8]; exact hi_rd w7.drew
  have hb8 : Below w7.heap.size w7 w8 := by rw [hw8]; exact hbal _
  rw [← hw8]
  clear hw8 hk12
  refine hK _ _ (hba _ hb8) ?_
  clear hK K
  have N33 := sframe_any w8 _ [104, 105] hrd8 (by decide)
  refine wpAnyH_one (i := 22) (by kernel_rfl) rfl (by rfl) (fun K hK => ?_)
  go_simp
  refine N33.mono ?_
  rintro e w9 ⟨v9, rfl, ho9, hb9⟩
  have hb79 : Below w7.heap.size w7 w9 := hb8.trans (hb9.mono hb8.size)
  have hcv9 : (convert 30 9 v9).run Try.prog w9 = .ok (.string fh) w9 := by rw [hfh]; exact convA (.inl (Sl.Own.rd ho9))
  show K _ _
  refine hK _ _ (hba _ hb79) ?_
  clear hK K
  refine wpAnyH_one (i := 23) (by kernel_rfl) rfl (by rfl) (fun K hK => ?_)
  go_simp
  refine hK _ _ (hba _ hb79) ?_
  clear hK K
  have hS := hba _ hb79
  refine wpAnyH_take (i := 24) (v := .bool true) rfl (by kernel_rfl) (by kernel_rfl) (by kernel_rfl) (fun _ _ _ h => h) (.inl ⟨by rfl, fun W' hW' => ?_⟩) hS ?_
  · obtain ⟨q1, q2⟩ := hW'
    have hcv := hcx W' q1
    have hcv2 := hcx2 W' q2
    clear q1 q2
    go_simp
  simp only [Act.put, List.getElem_toArray, List.getElem_cons_succ, List.getElem_cons_zero, List.setIfInBounds_toArray, List.set_cons_succ, List.set_cons_zero]
  refine wpAnyH_take (i := 25) (v := .bool true) rfl (by kernel_rfl) (by kernel_rfl) (by kernel_rfl) (fun _ _ _ h => h) (.inl ⟨by rfl, fun W' hW' => ?_⟩) hS ?_
  · obtain ⟨q1, q2⟩ := hW'
    have hcv := hcx W' q1
    have hcv2 := hcx2 W' q2
    clear q1 q2
    go_simp
  simp only [Act.put, List.getElem_toArray, List.getElem_cons_succ, List.getElem_cons_zero, List.setIfInBounds_toArray, List.set_cons_succ, List.set_cons_zero]
  refine wpAnyH_take (i := 26) (v := .bool true) rfl (by kernel_rfl) (by kernel_rfl) (by kernel_rfl) (fun _ _ _ h => h) (.inl ⟨by rfl, fun W' hW' => ?_⟩) hS ?_
  · obtain ⟨q1, q2⟩ := hW'
    have hcv := hcx W' q1
    have hcv2 := hcx2 W' q2
    clear q1 q2
    go_simp
  simp only [Act.put, List.getElem_toArray, List.getElem_cons_succ, List.getElem_cons_zero, List.setIfInBounds_toArray, List.set_cons_succ, List.set_cons_zero]
  refine wpAnyH_done (by kernel_rfl) ?_ _
  go_wp2
  go_ret
  exact ⟨rfl, hb07.trans (hb79.mono hb07.size)⟩
end Go.Proofs.Ythgkkmcpmhfehaa

namespace Go.Proofs.Ythgkkmcpmhfehaa
open Go.RowKit Go.Lib Go.Shelf
set_option maxRecDepth 100000

structure PA (w0 wr : World) (X : Nat → Prop) (p t q n : Nat) (S : DS) (half : Nat) (b : List UInt8) (rs : List (List UInt8)) : Prop where
  ps : PS wr X p t q n S half b rs
  bel : Below w0.heap.size w0 wr
  xa : ∀ k, X k → w0.heap.size ≤ k
  pa : w0.heap.size ≤ p
  ta : w0.heap.size ≤ t
  ar : S.armed = 0
theorem PA.on {w0 w w' : World} {X : Nat → Prop} {p t q n : Nat} {S : DS} {half : Nat} {b : List UInt8} {rs : List (List UInt8)} (h : PA w0 w X p t q n S half b rs) (hb : Below w.heap.size w w') : PA w0 w' X p t q n S half b rs :=
  ⟨h.ps.below hb, h.bel.trans (hb.mono h.bel.size), h.xa, h.pa, h.ta, h.ar⟩

theorem append_pa (w0 w : World) (X : Nat → Prop) (p t q n : Nat) (S : DS) (half : Nat) (b : List UInt8) (rs : List (List UInt8)) (h : PA w0 w X p t q n S half b rs) (hops : S.ops ≤ 100000) (hn : rs.length ≤ 5000) (r : List UInt8) (v : Value) (hr : Sl.RdA w v r) (hrl : r.length ≤ 65536) (hpl : tot rs + (12 + r.length) ≤ (spanN n - takesN b.length) * 256) :
    Calls Try.prog 14 #[.pointer (some ⟨p, 0, none⟩), v] w fun e w' => e = .returned (.int .i64 0) ∧ ∃ X' S', PA w0 w' X' p t q n S' half b (rs ++ [r]) ∧ S'.ops ≤ S.ops + (r.length / 256 + 6) ∧ (∀ k, k < (firstN n half + takesN b.length) * 256 + tot rs ∨ (firstN n half + spanN n) * 256 ≤ k → S'.P[k]? = S.P[k]?) ∧ (∀ k, X' k → X k ∨ w.heap.size ≤ k) ∧ Step (fun k => X k ∨ k = t) (fun k => X' k ∨ k = t) w w' := by
  refine (append_ps w X p t q n S half b rs h.ps hops hn r v hr hrl hpl).mono ?_
  rintro e w' ⟨X', S', k1, k2, k3, k4, k5, k6, ⟨rfl, k7, k8⟩ | ⟨_, k7, _⟩⟩
  · refine ⟨rfl, X', S', ⟨k7, h.bel.trans (k2.below (fun k hk => ?_) h.bel.size), fun k hk => ?_, h.pa, h.ta, k8 h.ar⟩, k5, k6, k3, k2⟩
    · rcases hk with hk | hk
      · exact h.xa k hk
      · rw [hk]; exact h.ta
    · rcases k3 k hk with hk | hk
      · exact h.xa k hk
      · exact Nat.le_trans h.bel.size hk
  · exact absurd h.ar k7
theorem append_pafull (w0 w : World) (X : Nat → Prop) (p t q n : Nat) (S : DS) (half : Nat) (b : List UInt8) (rs : List (List UInt8)) (h : PA w0 w X p t q n S half b rs) (r : List UInt8) (a : Option Addr) (fc : Nat) (hrl : r.length ≤ 65536) (hpl : (spanN n - takesN b.length) * 256 < tot rs + (12 + r.length)) :
    Calls Try.prog 14 #[.pointer (some ⟨p, 0, none⟩), .slice a r.length fc] w fun e w' => e = .returned (.int .i64 22) ∧ PA w0 w' X p t q n S half b rs := by
  refine (append_psfull w X p t q n S half b rs h.ps r a fc hrl hpl).mono ?_
  rintro e w' ⟨rfl, hb⟩
  exact ⟨rfl, h.on hb⟩
theorem save_pa (w0 w : World) (X : Nat → Prop) (p t q n : Nat) (S : DS) (half : Nat) (b : List UInt8) (rs : List (List UInt8)) (h : PA w0 w X p t q n S half b rs) (hops : S.ops ≤ 80000) (b' : List UInt8) (v : Value) (hb : Sl.RdA w v b') (hl : b'.length ≤ 1048576) (htk : takesN b'.length < spanN n) :
    Calls Try.prog 16 #[.pointer (some ⟨p, 0, none⟩), v] w fun e w' => e = .returned (.int .i64 0) ∧ ∃ X' S' t', PA w0 w' X' p t' q n S' (1 - half) b' [] ∧ S'.ops = S.ops + (takesN b'.length + 4) ∧ (∀ j, 256 ≤ j → j < firstN n (1 - half) * 256 ∨ (firstN n (1 - half) + spanN n) * 256 ≤ j → S'.P[j]? = S.P[j]?) ∧ (∀ k, X' k → X k ∨ w.heap.size ≤ k) ∧ w.heap.size ≤ t' ∧ Step (fun k => X k ∨ k = p) (fun k => X' k ∨ k = p) w w' := by
  refine (save_ps w X p t q n S half b rs h.ps hops b' v hb hl htk).mono ?_
  rintro e w' ⟨X', S', k1, k2, k3, k4, k5, ⟨rfl, ⟨t', k6, k7⟩, k8, k9, k10⟩ | ⟨_, k7, _⟩⟩
  · refine ⟨rfl, X', S', t', ⟨k7, h.bel.trans (k2.below (fun k hk => ?_) h.bel.size), fun k hk => ?_, h.pa, Nat.le_trans h.bel.size k6, k9 h.ar⟩, k8, k10, k3, k6, k2⟩
    · rcases hk with hk | hk
      · exact h.xa k hk
      · rw [hk]; exact h.pa
    · rcases k3 k hk with hk | hk
      · exact h.xa k hk
      · exact Nat.le_trans h.bel.size hk
  · exact absurd h.ar k7
theorem save_palong (w0 w : World) (X : Nat → Prop) (p t q n : Nat) (S : DS) (half : Nat) (b : List UInt8) (rs : List (List UInt8)) (h : PA w0 w X p t q n S half b rs) (hn1 : 1 ≤ n) (b' : List UInt8) (va : Option Addr) (vc : Nat) (hl : b'.length ≤ 1099511627776) (htk : ¬ takesN b'.length < spanN n) :
    Calls Try.prog 16 #[.pointer (some ⟨p, 0, none⟩), .slice va b'.length vc] w fun e w' => e = .returned (.int .i64 3) ∧ PA w0 w' X p t q n S half b rs ∧ Below w.heap.size w w' := by
  refine (save_long w X p q n S half _ 0 h.ps.d h.ps.pr hn1 b' va vc hl htk).mono ?_
  rintro e w' ⟨rfl, hb⟩
  exact ⟨rfl, h.on hb, hb⟩
theorem count_pa (w0 w : World) (X : Nat → Prop) (p t q n : Nat) (S : DS) (half : Nat) (b : List UInt8) (rs : List (List UInt8)) (h : PA w0 w X p t q n S half b rs) :
    Calls Try.prog 28 #[.pointer (some ⟨p, 0, none⟩)] w fun e w' => e = .returned (.int .i64 (rs.length : Int)) ∧ w' = w := pcount_any w p q half t _ _ _ _ _ 0 h.ps.pr h.ps.tp
theorem ops_pa (w0 w : World) (X : Nat → Prop) (p t q n : Nat) (S : DS) (half : Nat) (b : List UInt8) (rs : List (List UInt8)) (h : PA w0 w X p t q n S half b rs) :
    Calls Try.prog 31 #[.pointer (some ⟨q, 0, none⟩)] w fun e w' => e = .returned (.int .i64 (S.ops : Int)) ∧ w' = w := ops_any w X q n S h.ps.d
/-- Opened anew: another pair beside it. -/
theorem open_pa (w0 w : World) (X : Nat → Prop) (p t q n : Nat) (S : DS) (half : Nat) (b : List UInt8) (rs : List (List UInt8)) (h : PA w0 w X p t q n S half b rs) (hn : 5 ≤ n) (hrs : rs.length ≤ 5000) :
    Calls Try.prog 12 #[.pointer (some ⟨q, 0, none⟩)] w fun e w' => ∃ v1 v2 p' t', e = .returned (.tuple #[.pointer (some ⟨p', 0, none⟩), v1, v2, .int .i64 0]) ∧ w.heap.size ≤ p' ∧ w.heap.size ≤ t' ∧ SnV w' w.heap.size v1 b ∧ Recs w' w.heap.size v2 rs ∧ PA w0 w' X p t q n S half b rs ∧ PA w0 w' X p' t' q n S half b rs ∧ Below w.heap.size w w' := by
  refine (popen_any w X q n S h.ps.dn h.ps.wz h.ps.d hn half b rs hrs h.ps.pp).mono ?_
  rintro e w' ⟨hb, v1, v2, p', t', rfl, h1, h2, h3, h4, h5⟩
  exact ⟨v1, v2, p', t', rfl, h1, h2, h3, h4, h.on hb, ⟨h5, h.bel.trans (hb.mono h.bel.size), h.xa, Nat.le_trans h.bel.size h1, Nat.le_trans h.bel.size h2, h.ar⟩, hb⟩
/-- Opened on a new drum. -/
theorem first_pa (w0 w : World) (X : Nat → Prop) (q n : Nat) (S : DS) (h : Drum w X q n S) (hpp : PP S.P n 0 [] []) (hW : S.W = []) (har : S.armed = 0) (hdn : S.down = false) (hb : Below w0.heap.size w0 w) (hX : ∀ k, X k → w0.heap.size ≤ k) (hn : 5 ≤ n) :
    Calls Try.prog 12 #[.pointer (some ⟨q, 0, none⟩)] w fun e w' => ∃ v1 v2 p t, e = .returned (.tuple #[.pointer (some ⟨p, 0, none⟩), v1, v2, .int .i64 0]) ∧ (∃ a c, v1 = .slice a 0 c) ∧ (∃ a c, v2 = .slice a 0 c) ∧ PA w0 w' X p t q n S 0 [] [] := by
  refine (popen_any w X q n S hdn hW h hn 0 [] [] (by decide) hpp).mono ?_
  rintro e w' ⟨hb', v1, v2, p', t', rfl, h1, h2, h3, h4, h5⟩
  exact ⟨v1, v2, p', t', rfl, h3.shape, h4.shape, h5, hb.trans (hb'.mono hb.size), hX, Nat.le_trans hb.size h1, Nat.le_trans hb.size h2, har⟩
end Go.Proofs.Ythgkkmcpmhfehaa

namespace Go.Proofs.Ythgkkmcpmhfehaa
open Go.RowKit Go.Lib Go.Shelf
set_option maxRecDepth 100000

theorem tot_rep (k : Nat) (r : List UInt8) : tot (List.replicate k r) = k * (12 + r.length) := by
  induction k with
  | zero => simp [tot]
  | succ k ih => rw [List.replicate_succ', tot_snoc, ih, Nat.succ_mul]

set_option maxHeartbeats 8000000 in
theorem full_any (w : World) (z : Int) (vr vs : Value) (r s : List UInt8) (hr : Sl.RdA w vr r) (hs : Sl.RdA w vs s) (hrl : r.length ≤ 140737488355328) (hsl : s.length ≤ 140737488355328) :
    Calls Try.prog 5 #[.int .i64 z, vr, vs] w fun e w' => e = .returned (.bool true) ∧ Below w.heap.size w w' := by
  have hmix : Try.prog.follows .mixedOrders = true := by kernel_rfl
  obtain ⟨ra, rc, rfl⟩ := hr.len
  obtain ⟨sa, sc, rfl⟩ := hs.len
  have HR : Hid _ := hr
  have HS : Hid _ := hs
  clear hr hs
  have hnot : ∀ (b : Bool) (w : World), (Op.unary .not (.bool b)).run Try.prog w = .ok (.bool (!b)) w := fun _ _ => rfl
  go_enter Try.func5, Try.ntmps5
  go_wp2_with fail
  refine (wakes_any w).mono ?_
  rintro e w0 ⟨rfl, hb0⟩
  by_cases hbig : z < 5 ∨ 60 < z ∨ 2048 < r.length ∨ 8192 < s.length
  · rcases hbig with h1 | h1 | h1 | h1
    · go_wp2_with fail
      go_ret
      exact ⟨rfl, hb0⟩
    · by_cases h0 : z < 5
      · go_wp2_with fail
        go_ret
        exact ⟨rfl, hb0⟩
      · go_wp2_with fail
        go_ret
        exact ⟨rfl, hb0⟩
    · have h1' : (2048 : Int) < (r.length : Int) := by omega
      by_cases h0 : z < 5
      · go_wp2_with fail
        go_ret
        exact ⟨rfl, hb0⟩
      · by_cases h00 : 60 < z
        · go_wp2_with fail
          go_ret
          exact ⟨rfl, hb0⟩
        · go_wp2_with fail
          go_ret
          exact ⟨rfl, hb0⟩
    · have h1' : (8192 : Int) < (s.length : Int) := by omega
      by_cases h0 : z < 5
      · go_wp2_with fail
        go_ret
        exact ⟨rfl, hb0⟩
      · by_cases h00 : 60 < z
        · go_wp2_with fail
          go_ret
          exact ⟨rfl, hb0⟩
        · by_cases h000 : (2048 : Int) < (r.length : Int)
          · go_wp2_with fail
            go_ret
            exact ⟨rfl, hb0⟩
          · go_wp2_with fail
            go_ret
            exact ⟨rfl, hb0⟩
  have i1 : ¬ z < 5 := by omega
  have i2 : ¬ 60 < z := by omega
  have i3 : ¬ (2048 : Int) < (r.length : Int) := by omega
  have i4 : ¬ (8192 : Int) < (s.length : Int) := by omega
  have hrl2 : r.length ≤ 2048 := by omega
  have hsl2 : s.length ≤ 8192 := by omega
  clear hbig hrl hsl
  obtain ⟨n, rfl⟩ : ∃ n : Nat, z = (n : Int) := ⟨z.toNat, by omega⟩
  have hn5 : 5 ≤ n := by omega
  have hn60 : n ≤ 60 := by omega
  have N10 := new_open w0 n hn5 (by omega)
  go_wp2_with fail
  refine N10.mono ?_
  rintro e w1 ⟨X0, q, S0, rfl, hdr0, hpp0, hW0, hops0, har0, hdn0, hb1, hX0⟩
  have hb01 : Below w.heap.size w w1 := hb0.trans (hb1.mono hb0.size)
  have N12 := first_pa w w1 X0 q n S0 hdr0 hpp0 hW0 har0 hdn0 hb01 (fun k hk => Nat.le_trans hb0.size (hX0 k hk)) hn5
  clear N10 i1 i2 i3 i4
  go_wp2_with fail
  refine N12.mono ?_
  rintro e w2 ⟨v1, v2, p, t, rfl, ⟨sa6, sc6, rfl⟩, ⟨ra6, rc6, rfl⟩, hpa⟩
  clear N12 hb01 hdr0 hpp0 hW0 har0 hdn0 hX0 hb1 hb0
  have HL : Hid (12 ≤ 12 + r.length ∧ r.length ≤ 2048) := by
    have : 12 ≤ 12 + r.length ∧ r.length ≤ 2048 := ⟨by omega, hrl2⟩
    exact this
  have hspn : spanN n ≤ 29 := by unfold spanN; omega
  have ht0 : takesN ([] : List UInt8).length = 1 := rfl
  have hms : ∀ (M m : Nat), M * (12 + r.length) ≤ m * 256 → m ≤ 29 → M ≤ 700 := fun M m h1 h2 => by
    have : M * 12 ≤ M * (12 + r.length) := Nat.mul_le_mul_left _ (by omega)
    omega
  have HMS : Hid _ := hms
  clear hms
  go_wp2_with fail
  go_loopw [12] (fun i wr => ∃ (k : Nat) (X : Nat → Prop) (S : DS), i = .int .i64 k ∧ PA w wr X p t q n S 0 [] (List.replicate k r) ∧ k * (12 + r.length) ≤ (spanN n - 1) * 256 ∧ S.ops ≤ 14 * k) (fun i _ => 1000 - (RowKit.intOf i).toNat)
  case atStart => exact ⟨0, X0, S0, rfl, hpa, by omega, by omega⟩
  case round =>
    obtain ⟨k, X, S, rfl, hpk, hk, hok⟩ := hrel
    have hk7 := HMS.out k (spanN n - 1) hk (by omega)
    by_cases hroom : (k + 1) * (12 + r.length) ≤ (spanN n - 1) * 256
    · have N14 := append_pa w wr X p t q n S 0 [] (List.replicate k r) hpk (by omega) (by rw [List.length_replicate]; omega) r _ (Sl.RdA.on HR.out hpk.bel) (by omega) (by rw [tot_rep, ht0, ← Nat.succ_mul]; exact hroom)
      rw [← List.replicate_succ'] at N14
      have hk8 := HMS.out (k + 1) (spanN n - 1) hroom (by omega)
      go_wp2_with fail
      refine N14.mono ?_
      rintro e w3 ⟨rfl, X3, S3, hp3, ho3, _, _, _⟩
      go_wp2
      exact ⟨⟨k + 1, X3, S3, by go_num, hp3, hroom, by omega⟩, by simp [RowKit.intOf]; omega⟩
    · have N14 := append_pafull w wr X p t q n S 0 [] (List.replicate k r) hpk r ra rc (by omega) (by rw [tot_rep, ht0, ← Nat.succ_mul]; exact Nat.lt_of_not_le hroom)
      go_wp2_with fail
      refine N14.mono ?_
      rintro e w3 ⟨rfl, hp3⟩
      have N31 := ops_pa w w3 X p t q n S 0 [] (List.replicate k r) hp3
      have N14b := append_pafull w w3 X p t q n S 0 [] (List.replicate k r) hp3 r ra rc (by omega) (by rw [tot_rep, ht0, ← Nat.succ_mul]; exact Nat.lt_of_not_le hroom)
      go_wp2_with (go_at_call 31; refine N31.mono ?_; rintro e w9 ⟨rfl, hw9⟩; have hw9 := hw9.symm; subst hw9)
      refine N14b.mono ?_
      rintro e w4 ⟨rfl, hp4⟩
      have N31b := ops_pa w w4 X p t q n S 0 [] (List.replicate k r) hp4
      have N28 := count_pa w w4 X p t q n S 0 [] (List.replicate k r) hp4
      rw [List.length_replicate] at N28
      have d1 : ((n : Int) - 1).tdiv 2 = ((spanN n : Nat) : Int) := by rw [Int.tdiv_eq_ediv_of_nonneg (by omega)]; unfold spanN; omega
      have d2 : (12 + (s.length : Int) + 255).tdiv 256 = ((takesN s.length : Nat) : Int) := by rw [Int.tdiv_eq_ediv_of_nonneg (by omega)]; unfold takesN; omega
      have hsn0 : takesN s.length ≤ 40 := by unfold takesN; omega
      have hnr : ¬ (k + 1) * (12 + r.length) ≤ (spanN n - 1) * 256 := hroom
      clear hroom N14 N14b N31
      by_cases hfit : takesN s.length < spanN n
      · have hfit' : ((takesN s.length : Nat) : Int) < ((spanN n : Nat) : Int) := by omega
        have N16 := save_pa w w4 X p t q n S 0 [] (List.replicate k r) hp4 (by omega) s _ (Sl.RdA.on HS.out hp4.bel) (by omega) hfit
        obtain ⟨tk, htk⟩ : ∃ tk, takesN s.length = tk := ⟨_, rfl⟩
        obtain ⟨sp, hsp⟩ : ∃ sp, spanN n = sp := ⟨_, rfl⟩
        rw [htk, hsp] at hfit'
        rw [htk] at d2
        rw [hsp] at d1
        go_wp2_with (first | (go_at_call 31; refine N31b.mono ?_; rintro e w9 ⟨rfl, hw9⟩; have hw9 := hw9.symm; subst hw9) | (go_at_call 28; refine N28.mono ?_; rintro e w9 ⟨rfl, hw9⟩; have hw9 := hw9.symm; subst hw9))
        refine N16.mono ?_
        rintro e w5 ⟨rfl, X5, S5, t5, hp5, ho5, _, _, _, _⟩
        have N28b := count_pa w w5 X5 p t5 q n S5 (1 - 0) s [] hp5
        have hc0 : (([] : List (List UInt8)).length : Int) = 0 := rfl
        rw [hc0] at N28b
        clear N31b N28 N16 hc0
        go_wp2_with (go_at_call 28; refine N28b.mono ?_; rintro e w9 ⟨rfl, hw9⟩; have hw9 := hw9.symm; subst hw9)
        go_loopw [16] (fun i wr => ∃ (k2 : Nat) (X : Nat → Prop) (S : DS), i = .int .i64 k2 ∧ PA w wr X p t5 q n S (1 - 0) s (List.replicate k2 r) ∧ k2 * (12 + r.length) ≤ (sp - tk) * 256 ∧ S.ops ≤ 14 * k2 + 20000) (fun i _ => 1000 - (RowKit.intOf i).toNat)
        case atStart => exact ⟨0, X5, S5, rfl, hp5, by omega, by omega⟩
        case round =>
          obtain ⟨k2, X6, S6, rfl, hpk2, hk2, hok2⟩ := hrel
          have hk27 := HMS.out k2 (sp - tk) hk2 (by omega)
          by_cases hroom : (k2 + 1) * (12 + r.length) ≤ (sp - tk) * 256
          · have N14 := append_pa w wr X6 p t5 q n S6 (1 - 0) s (List.replicate k2 r) hpk2 (by omega) (by rw [List.length_replicate]; omega) r _ (Sl.RdA.on HR.out hpk2.bel) (by omega) (by rw [tot_rep, htk, hsp, ← Nat.succ_mul]; exact hroom)
            rw [← List.replicate_succ'] at N14
            have hk28 := HMS.out (k2 + 1) (sp - tk) hroom (by omega)
            go_wp2_with fail
            refine N14.mono ?_
            rintro e w7 ⟨rfl, X7, S7, hp7, ho7, _, _, _⟩
            go_wp2
            exact ⟨⟨k2 + 1, X7, S7, by go_num, hp7, hroom, by omega⟩, by simp [RowKit.intOf]; omega⟩
          · have N14 := append_pafull w wr X6 p t5 q n S6 (1 - 0) s (List.replicate k2 r) hpk2 r ra rc (by omega) (by rw [tot_rep, htk, hsp, ← Nat.succ_mul]; exact Nat.lt_of_not_le hroom)
            go_wp2_with fail
            refine N14.mono ?_
            rintro e w7 ⟨rfl, hp7⟩
            have N28c := count_pa w w7 X6 p t5 q n S6 (1 - 0) s (List.replicate k2 r) hp7
            rw [List.length_replicate] at N28c
            have d3 : ((256 : Int) * ((sp : Int) - (tk : Int))).tdiv (12 + (r.length : Int)) = (k2 : Int) := by
              have e1 : (256 : Int) * ((sp : Int) - (tk : Int)) = (((sp - tk) * 256 : Nat) : Int) := by omega
              have e2 : (12 : Int) + (r.length : Int) = ((12 + r.length : Nat) : Int) := by omega
              rw [e1, e2, Int.tdiv_eq_ediv_of_nonneg (by omega)]
              have : (sp - tk) * 256 / (12 + r.length) = k2 := by
                apply Nat.div_eq_of_lt_le
                · exact hk2
                · exact Nat.lt_of_not_le hroom
              rw [← this]; rfl
            clear hfit hk2 hroom hnr hk
            go_wp2_with (go_at_call 28; refine N28c.mono ?_; rintro e w9 ⟨rfl, hw9⟩; have hw9 := hw9.symm; subst hw9)
            go_ret
            exact ⟨rfl, hp7.bel⟩
      · have hfit' : ¬ ((takesN s.length : Nat) : Int) < ((spanN n : Nat) : Int) := by omega
        have N16 := save_palong w w4 X p t q n S 0 [] (List.replicate k r) hp4 (by omega) s sa sc (by omega) hfit
        obtain ⟨tk, htk⟩ : ∃ tk, takesN s.length = tk := ⟨_, rfl⟩
        obtain ⟨sp, hsp⟩ : ∃ sp, spanN n = sp := ⟨_, rfl⟩
        rw [htk, hsp] at hfit'
        rw [htk] at d2
        rw [hsp] at d1
        go_wp2_with (first | (go_at_call 31; refine N31b.mono ?_; rintro e w9 ⟨rfl, hw9⟩; have hw9 := hw9.symm; subst hw9) | (go_at_call 28; refine N28.mono ?_; rintro e w9 ⟨rfl, hw9⟩; have hw9 := hw9.symm; subst hw9))
        refine N16.mono ?_
        rintro e w5 ⟨rfl, hp5, _⟩
        have N31c := ops_pa w w5 X p t q n S 0 [] (List.replicate k r) hp5
        have N28c := count_pa w w5 X p t q n S 0 [] (List.replicate k r) hp5
        rw [List.length_replicate] at N28c
        have hfn : ¬ tk < sp := by rw [← htk, ← hsp]; exact hfit
        have hfd : decide (tk < sp) = false := decide_eq_false hfn
        clear N31b N28 N16 hfn hfit' hfit
        go_wp2_with (first | (go_at_call 31; refine N31c.mono ?_; rintro e w9 ⟨rfl, hw9⟩; have hw9 := hw9.symm; subst hw9) | (go_at_call 28; refine N28c.mono ?_; rintro e w9 ⟨rfl, hw9⟩; have hw9 := hw9.symm; subst hw9))
        go_ret
        exact ⟨rfl, hp5.bel⟩
end Go.Proofs.Ythgkkmcpmhfehaa

namespace Go.Proofs.Ythgkkmcpmhfehaa
open Go.ChangeShapes Go.WideShapes Go.ChangeAt Go.RowKit Go.Lib
set_option maxRecDepth 100000

theorem full_contract (H : Type) (enc : TypeId × Value → H) (W : World) (base : Nat) (args : Array Value) (ds gs : List (DataW H)) (before : List MemPlace)
    (hval : ∀ (j : Nat) t v, Try.f5.params[j]? = some t → args[j]? = some v → Value.okWide Try.prog W .any base t v)
    (hW : DataW.Whole enc Try.prog Try.f5.params.toList Rows.pairFullSpec.vars false W args.toList ds gs before)
    (hsz0 : (DataW.weightsEach Try.prog (Try.f5.params.toList ++ Rows.pairFullSpec.plain.varTypes Try.prog) (ds ++ gs)).all (· ≤ reachBytes) = true) :
    Calls Try.prog 5 args W fun e W' => ∃ v, e = .returned v ∧ Rows.pairFullSpec.post enc Try.prog Try.f5 false true false false W args v W' := by
  have hW' := hW
  obtain ⟨p, q, hA0, hV, rfl, hfz, hnd⟩ := hW
  have hA : DataW.TrodAll enc Try.prog W 0 (fun _ => true) true Try.f5.params.toList args.toList ds p := hA0
  have hsz := hsz0
  rw [Try.params5] at hA hval hsz
  obtain ⟨v0, vs0, d0, ds0, p0, q0, hargs, rfl, rfl, h0, r0⟩ := trodAll_cons hA
  obtain ⟨v1, vs1, d1, ds1, p1, q1, rfl, rfl, rfl, h1, r1⟩ := trodAll_cons r0
  obtain ⟨v2, vs2, d2, ds2, p2, q2, rfl, rfl, rfl, h2, r2⟩ := trodAll_cons r1
  obtain ⟨rfl, rfl, rfl⟩ := trodAll_nil r2
  obtain rfl : args = #[v0, v1, v2] := by cases args; simp_all
  obtain ⟨rfl, rfl⟩ := trodVars_none hV
  obtain ⟨z0, rfl, rfl, rfl, w0⟩ := open_int Try.underlying3 (hval 0 3 v0 rfl rfl) h0
  have b0 := bounds_i64 w0
  obtain ⟨a1, len1, cap1, rfl⟩ := okWide_slice Try.underlying30 (hval 1 30 v1 rfl rfl)
  have lt1 : ∀ x ∈ p1, x.block < W.heap.size := by obtain ⟨m, hm⟩ := h1; exact DataW.trod_lt m _ _ _ hm
  obtain ⟨x1, hx1, hr1, hb1⟩ := rd_bytes h1
  have b1 : x1.length ≤ 140737488355328 := by
    rcases hb1 with h | ⟨E, S, rfl, h⟩
    · omega
    · have := sized_slice hsz (j := 1) (t := 30) (e := 5) rfl rfl Try.underlying30
      rw [bytes5] at this
      simp only [reachBytes] at this
      omega
  obtain ⟨a2, len2, cap2, rfl⟩ := okWide_slice Try.underlying30 (hval 2 30 v2 rfl rfl)
  have lt2 : ∀ x ∈ p2, x.block < W.heap.size := by obtain ⟨m, hm⟩ := h2; exact DataW.trod_lt m _ _ _ hm
  obtain ⟨x2, hx2, hr2, hb2⟩ := rd_bytes h2
  have b2 : x2.length ≤ 140737488355328 := by
    rcases hb2 with h | ⟨E, S, rfl, h⟩
    · omega
    · have := sized_slice hsz (j := 2) (t := 30) (e := 5) rfl rfl Try.underlying30
      rw [bytes5] at this
      simp only [reachBytes] at this
      omega
  refine (full_any W _ _ _ _ _ hr1 hr2 b1 b2).mono fun e W' ⟨he, bel⟩ => ?_
  subst he
  exact ⟨_, rfl, _, _, _, [], _, [], hW', trodAll_mk1 (shut_bool Try.underlying4 _), (trodAll_cons_mk (shut_int Try.underlying3 w0) (trodAll_cons_mk (Below.trod laidOut (by kernel_rfl) (of_decide_eq_true (by kernel_rfl)) h1 bel lt1) (trodAll_cons_mk (Below.trod laidOut (by kernel_rfl) (of_decide_eq_true (by kernel_rfl)) h2 bel lt2) trodAll_mk0))), rfl, bel.frame _, fun h => by cases h⟩

set_option maxRecDepth 100000 in
theorem full_lifted (os : Os) (started : os.Started) (H : Type) (enc : TypeId × Value → H) :
    ReturnsInHanded {} Try.checked os 5 .any (Rows.pairFullSpec.pre6 enc Try.prog Try.f5 Rows.pairFullRow.domain false) (Rows.pairFullSpec.post enc Try.prog Try.f5 false true false false) := by
  refine returnsInHanded_of_change_sized (C := Try.checked) own started (by kernel_rfl) Try.func5
    (ChangeSpec.witness6 (enc := enc) (C := Try.checked) false ⟨#[], #[.int .i64 0, .slice none 0 0, .slice none 0 0], []⟩ 8 (by kernel_rfl) (by kernel_rfl) (by kernel_rfl) (by kernel_rfl)) ?_
  intro W base args ds gs before hval hW _ hsz _
  exact full_contract H enc W base args ds gs before hval hW hsz

theorem pairFull_said : Rows.PairFullSaid :=
  OpenClaim.holds_of_wide 5 Try.f5 rfl rfl rfl rfl rfl rfl rfl ⟨rfl, rfl, rfl, rfl, rfl⟩ rfl rfl rfl rfl rfl (by kernel_rfl) Try.func5 (by kernel_rfl)
    (of_decide_eq_true (by kernel_rfl)) (by unfold Func.isWrapper; first | (rw [if_pos (by decide +kernel)]; kernel_rfl) | (rw [if_neg (by decide +kernel)]; exact ⟨rfl, rfl⟩))
    (fun os started H enc _ => full_lifted os started H enc)
#print axioms pairFull_said
end Go.Proofs.Ythgkkmcpmhfehaa
