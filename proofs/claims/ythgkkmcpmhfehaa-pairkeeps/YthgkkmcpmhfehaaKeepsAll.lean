/- For every snapshot and every record, trivetlaw05.PairKeeps answers true and leaves its arguments as they were, with no condition. -/
import Derived.Test.YthgkkmcpmhfehaaPo
import Derived.Lib.SlBytesConst
import Derived.Test.YthgkkmcpmhfehaaOd
import Derived.BigQuiet
namespace Go.Proofs.Ythgkkmcpmhfehaa
open Go.RowKit Go.Lib Go.Shelf
set_option maxRecDepth 100000
set_option linter.unusedSimpArgs false

set_option maxHeartbeats 2000000 in
theorem sframe_any (w : World) (v : Value) (r : List UInt8) (h : Sl.RdA w v r) (hl : r.length ≤ 1048576) :
    Calls Try.prog 33 #[v] w fun e w' => ∃ v', e = .returned v' ∧ Sl.Own w' w.heap.size v' (snB r) ∧ Below w.heap.size w w' := by
  obtain ⟨a, k, rfl⟩ := h.len
  have HR : Hid _ := h
  clear h
  have d0 : ((r.length : Nat) : Int).tdiv 16777216 = (r.length : Int) / 16777216 := Int.tdiv_eq_ediv_of_nonneg (by omega)
  have d1 : ((r.length : Nat) : Int).tdiv 65536 = (r.length : Int) / 65536 := Int.tdiv_eq_ediv_of_nonneg (by omega)
  have d2 : ((r.length : Nat) : Int).tdiv 256 = (r.length : Int) / 256 := Int.tdiv_eq_ediv_of_nonneg (by omega)
  have d3 : ((r.length : Int) / 256).tmod 256 = (r.length : Int) / 256 % 256 := Int.tmod_eq_emod_of_nonneg (by omega)
  have d5 : ((r.length : Int) / 65536).tmod 256 = (r.length : Int) / 65536 := by rw [Int.tmod_eq_emod_of_nonneg (by omega)]; omega
  have d4 : ((r.length : Nat) : Int).tmod 256 = (r.length : Int) % 256 := Int.tmod_eq_emod_of_nonneg (by omega)
  go_enter Try.func33, Try.ntmps33
  go_wp2_with fail
  rw [head4_cells r.length hl]
  have hb1 : Below w.heap.size w (w.alloc (.cells (byteCells (be4 r.length)).toArray 5)) := (Below.refl _ _).alloc (Nat.le_refl _) _
  have hh1 : (w.alloc (.cells (byteCells (be4 r.length)).toArray 5)).heap[w.heap.size]? = some (.cells (byteCells (be4 r.length)).toArray 5 (0, 0)) := heap_alloc_new w _
  generalize w.alloc (.cells (byteCells (be4 r.length)).toArray 5) = w1 at hb1 hh1 ⊢
  have hr1 : Sl.RdA w1 (.slice a r.length k) r := Sl.RdA.on HR.out hb1
  have h4 : Sl.RdA w1 (.slice (some ⟨w.heap.size, 0, none⟩) 4 4) (be4 r.length) := by
    have := sl_range (c := 4) (range_cut hh1 0 4) (by simp [be4])
    simpa [be4] using this
  have N1 := Sl.refof_any w1 r.length _ r hr1 (by omega)
  change Calls Try.prog 57 _ w1 (fun e w' => e = .returned (.int .u64 (sumS r : Nat)) ∧ w' = w1) at N1
  have N2 := Sl.refput_any w1 _ (be4 r.length) (sumS r) (sumS_lt r) h4 (by simp [be4])
  have hfr : Hid (snB r = be4 r.length ++ Sl.be8 (sumS r) ++ r) := rfl
  have hl8 : (be4 r.length ++ Sl.be8 (sumS r)).length = 12 := by simp [be4, Sl.be8]
  generalize sumS r = A at *
  generalize be4 r.length ++ Sl.be8 A = L at *
  refine N1.mono ?_
  rintro e w2 ⟨rfl, hw2⟩
  have hw2 := hw2.symm
  subst hw2
  go_wp2_with fail
  refine N2.mono ?_
  rintro e w3 ⟨v', rfl, ho, hb⟩
  have hr3 := hr1.on hb
  have hle : w.heap.size ≤ w3.heap.size := Nat.le_trans hb1.size hb.size
  go_wp2_with (at_builtin; refine Sl.appB rfl (.tmp 26) (.tmp 27) rfl w.heap.size _ _ L r w3 rfl (ownsRow_base ho hb1.size) rfl hr3 (by omega) hle ?_)
  intro v4 w4 ho4 hb4
  go_wp2
  go_ret
  exact ⟨v4, rfl, by rw [hfr.out]; exact ho4, (hb1.trans (hb.mono hb1.size)).trans hb4⟩

theorem zero_pp (n : Nat) (hn : 5 ≤ n) : PP (List.replicate (n * 256) 0) n 0 [] [] := by
  have hs : 2 ≤ spanN n := by unfold spanN; omega
  have hf : firstN n 0 = 1 := by simp [firstN]
  have hsn : spanN n + 1 ≤ n := by unfold spanN; omega
  have ht0 : takesN ([] : List UInt8).length = 1 := rfl
  refine ⟨by omega, by rw [List.getElem?_replicate, if_pos (by omega)]; rfl, .inl ⟨rfl, ?_⟩, by rw [ht0]; omega, Laid.nil _ _ _ ?_ ?_, by decide⟩
  · unfold cutB
    rw [List.drop_replicate, List.take_replicate, Nat.min_eq_left (by rw [hf]; omega)]
  · rw [hf, ht0, List.length_replicate]; omega
  · rw [hf, ht0, List.getElem?_replicate, if_pos (by omega)]
theorem hi_rd (w : World) : Sl.RdA (w.alloc (.cells #[.int .u8 104, .int .u8 105] 5 (2, 3))) (.slice (some ⟨w.heap.size, 0, none⟩) 2 2) [104, 105] := by
  have hg : (w.alloc (.cells #[.int .u8 104, .int .u8 105] 5 (2, 3))).heap[w.heap.size]? = some (.cells (byteCells [104, 105]).toArray 5 (2, 3)) := heap_alloc_new w _
  exact sl_range (l := [104, 105]) (c := 2) (range_of_block hg) (by decide)

/-- A new drum, and a pair opened on it. -/
theorem new_open (w : World) (n : Nat) (hn : 5 ≤ n) (hn2 : n ≤ 4096) :
    Calls Try.prog 10 #[.int .i64 n] w fun e w' => ∃ X q S, e = .returned (.pointer (some ⟨q, 0, none⟩)) ∧ Drum w' X q n S ∧ PP S.P n 0 [] [] ∧ S.W = [] ∧ S.ops = 0 ∧ S.armed = 0 ∧ S.down = false ∧ Below w.heap.size w w' ∧ ∀ k, X k → w.heap.size ≤ k := by
  refine (new_ts w n (by omega) hn2).mono ?_
  rintro e w' ⟨X, q, S, rfl, h1, h2, h3, h4, h5, h6, h7, h8⟩
  exact ⟨X, q, S, rfl, h1, by rw [h2]; exact zero_pp n hn, h3, h4, h5, h6, h7, h8⟩

set_option maxHeartbeats 4000000 in
theorem wakes_any (w : World) : Calls Try.prog 8 #[] w fun e w' => e = .returned (.bool true) ∧ Below w.heap.size w w' := by
  have hmix : Try.prog.follows .mixedOrders = true := by kernel_rfl
  have N10 := new_open w 9 (by decide) (by decide)
  have kc := fun (w : World) (C : Array Value) (n c : Nat) => Lib.run_convert_bytes_const (P := Try.prog) w 30 5 C n c Try.underlying30 Try.underlying5
  go_enter Try.func8, Try.ntmps8
  go_wp2_with (go_at_call 10; refine N10.mono ?_; rintro e w1 ⟨X, q, S, rfl, hdr, hpp, hW0, hops, har, hdn, hb1, hX⟩)
  have N12 := popen_any w1 X q 9 S hdn hW0 hdr (by decide) 0 [] [] (by decide) hpp
  refine N12.mono ?_
  rintro e w2 ⟨hb2, v1, v2, p, t, rfl, hp2, ht2, hsv, hrec, hps⟩
  obtain ⟨sa, sc, rfl⟩ := hsv.shape
  obtain ⟨ra, rc, rfl⟩ := hrec.shape
  have hbh : Below w2.heap.size w2 (w2.alloc (.cells #[.int .u8 104, .int .u8 105] 5 (2, 3))) := (Below.refl _ _).alloc (Nat.le_refl _) _
  have N16 := save_ps _ X p t q 9 S 0 [] [] (hps.below hbh) (by omega) [104, 105] _ (hi_rd w2) (by decide) (by decide)
  clear hsv hrec
  go_wp2_with fail
  refine N16.mono ?_
  rintro e w3 ⟨X3, S3, hd3, hst3, hX3, hw3, _, ⟨rfl, ⟨t3, ht3, hps3⟩, hop3, har3, hkeep3⟩ | ⟨_, hne, _⟩⟩
  rotate_left
  · exact absurd har hne
  have hop5 : (S3.ops : Int) = 5 := by rw [hop3, hops]; rfl
  have hb03 : Below w.heap.size w w3 := by
    refine (hb1.trans (hb2.mono hb1.size)).trans ((hbh.mono (Nat.le_trans hb1.size hb2.size)).trans (hst3.below (fun k hk => ?_) (Nat.le_trans hb1.size (Nat.le_trans hb2.size hbh.size))))
    rcases hk with hk | hk
    · exact hX k hk
    · rw [hk]; exact Nat.le_trans hb1.size hp2
  have N31 := ops_any w3 X3 q 9 S3 hd3
  rw [hop5] at N31
  have hmk : (Instr.makeSlice 30 (.int .i64 757) (.int .i64 757)).run Try.prog w3 = .ok (.slice (some ⟨w3.heap.size, 0, none⟩) 757 757) (w3.alloc (.cells (byteCells (List.replicate 757 0)).toArray 5)) := makeB w3 757 757 (by decide) (by decide)
  have hb4 : Below w3.heap.size w3 (w3.alloc (.cells (byteCells (List.replicate 757 0)).toArray 5)) := (Below.refl _ _).alloc (Nat.le_refl _) _
  generalize hw4 : w3.alloc (.cells (byteCells (List.replicate 757 0)).toArray 5) = w4 at *
  have hps4 := hps3.below hb4
  have N16b := save_long w4 X3 p q 9 S3 1 _ 0 hps4.d hps4.pr (by decide) (List.replicate 757 0) (some ⟨w3.heap.size, 0, none⟩) 757 (by rw [List.length_replicate]; decide) (by rw [List.length_replicate]; decide)
  rw [List.length_replicate] at N16b
  clear N16 N12 N10 hw4
  go_wp2_with (first | (go_at_call 31; refine N31.mono ?_; rintro e w9 ⟨rfl, hw9⟩; have hw9 := hw9.symm; subst hw9) | (go_at_call 16; refine N16b.mono ?_; rintro e w5 ⟨rfl, hb5⟩))
  have hps5 := hps4.below hb5
  have N12 := popen_any w5 X3 q 9 S3 hps5.dn hps5.wz hps5.d (by decide) 1 [104, 105] [] (by decide) hps5.pp
  refine N12.mono ?_
  rintro e w6 ⟨hb6, v1, v2, p6, t6, rfl, hp6, ht6, hsv, hrec, hps6⟩
  have hrd6 := hsv.rd
  obtain ⟨sa6, sc6, rfl⟩ := hsv.shape
  obtain ⟨ra6, rc6, rfl⟩ := hrec.shape
  have N32 := read0 w6 X3 q 9 S3 5 (by decide) hps5.dn hps6.d
  clear hsv hrec N31 N16b N12
  go_wp2_with (go_at_call 32; refine N32.mono ?_; rintro e w7 ⟨rfl, hpg⟩)
  have h14 : ((pageOf S3.P 5).drop 0).take 14 = snB [104, 105] := by
    rcases hps6.pp.sn with ⟨h0, _⟩ | h0
    · cases h0
    · rw [List.drop_zero, ← cutB_page _ _ _ (by decide)]; exact h0
  have hb05 : Below w.heap.size w w6 := (hb03.trans (hb4.mono hb03.size)).trans ((hb5.mono (Nat.le_trans hb03.size hb4.size)).trans (hb6.mono (Nat.le_trans hb03.size (Nat.le_trans hb4.size hb5.size))))
  have hb07 : Below w.heap.size w w7 := hb05.trans (hpg.below.mono hb05.size)
  have hblk := hpg.block
  have hrd7 : Sl.RdA w7 (.slice sa6 2 sc6) [104, 105] := Sl.RdA.on hrd6 hpg.below
  obtain ⟨fh, hfh⟩ : ∃ s : ByteArray, s = ⟨(snB [104, 105]).toArray⟩ := ⟨_, rfl⟩
  have hcx : ∀ W' : World, W'.heap[w6.heap.size]? = some (.cells (byteCells (pageOf S3.P 5)).toArray 85 (0, 0)) → (convert 30 9 (.slice (some ⟨w6.heap.size, 0, none⟩) 14 256)).run Try.prog W' = .ok (.string fh) W' := fun W' hW' => by
    rw [hfh]
    apply convA
    have e14 : (snB [104, 105]).length = 14 := by rw [snB_length]; rfl
    have := sl_range (c := 256) (range_cut hW' 0 14) (by rw [h14, e14]; decide)
    rw [h14, e14] at this
    exact this
  have hcx2 : ∀ W' : World, Sl.RdA W' (.slice sa6 2 sc6) [104, 105] → (convert 30 9 (.slice sa6 2 sc6)).run Try.prog W' = .ok (.string ⟨#[104, 105]⟩) W' := fun W' hW' => convA hW'
  have hS : w7.drew.heap[w6.heap.size]? = some (.cells (byteCells (pageOf S3.P 5)).toArray 85 (0, 0)) ∧ Sl.RdA w7.drew (.slice sa6 2 sc6) [104, 105] := ⟨hblk, hrd7⟩
  refine wp_region_held (S := fun W' => W'.heap[w6.heap.size]? = some (.cells (byteCells (pageOf S3.P 5)).toArray 85 (0, 0)) ∧ Sl.RdA W' (.slice sa6 2 sc6) [104, 105]) hmix ?_
  show wpAnyH _ _ _ _ _ _ _ _ w7.drew
  clear hrd6 N32 kc
  refine wpAnyH_take (i := 0) (v := .int .i64 0) rfl (by kernel_rfl) (by kernel_rfl) (by kernel_rfl) (fun _ _ _ h => h) (.inl ⟨by rfl, fun W' hW' => ?_⟩) hS ?_
  · obtain ⟨q1, q2⟩ := hW'
    have hcv := hcx W' q1
    have hcv2 := hcx2 W' q2
    clear q1 q2
    go_simp
  simp only [Act.put, List.getElem_toArray, List.getElem_cons_succ, List.getElem_cons_zero, List.setIfInBounds_toArray, List.set_cons_succ, List.set_cons_zero]
  refine wpAnyH_take (i := 1) (v := .bool true) rfl (by kernel_rfl) (by kernel_rfl) (by kernel_rfl) (fun _ _ _ h => h) (.inl ⟨by rfl, fun W' hW' => ?_⟩) hS ?_
  · obtain ⟨q1, q2⟩ := hW'
    have hcv := hcx W' q1
    have hcv2 := hcx2 W' q2
    clear q1 q2
    go_simp
  simp only [Act.put, List.getElem_toArray, List.getElem_cons_succ, List.getElem_cons_zero, List.setIfInBounds_toArray, List.set_cons_succ, List.set_cons_zero]
  refine wpAnyH_take (i := 2) (v := .bool true) rfl (by kernel_rfl) (by kernel_rfl) (by kernel_rfl) (fun _ _ _ h => h) (.inl ⟨by rfl, fun W' hW' => ?_⟩) hS ?_
  · obtain ⟨q1, q2⟩ := hW'
    have hcv := hcx W' q1
    have hcv2 := hcx2 W' q2
    clear q1 q2
    go_simp
  simp only [Act.put, List.getElem_toArray, List.getElem_cons_succ, List.getElem_cons_zero, List.setIfInBounds_toArray, List.set_cons_succ, List.set_cons_zero]
  refine wpAnyH_take (i := 3) (v := .int .i64 0) rfl (by kernel_rfl) (by kernel_rfl) (by kernel_rfl) (fun _ _ _ h => h) (.inl ⟨by rfl, fun W' hW' => ?_⟩) hS ?_
  · obtain ⟨q1, q2⟩ := hW'
    have hcv := hcx W' q1
    have hcv2 := hcx2 W' q2
    clear q1 q2
    go_simp
  simp only [Act.put, List.getElem_toArray, List.getElem_cons_succ, List.getElem_cons_zero, List.setIfInBounds_toArray, List.set_cons_succ, List.set_cons_zero]
  refine wpAnyH_take (i := 4) (v := .bool true) rfl (by kernel_rfl) (by kernel_rfl) (by kernel_rfl) (fun _ _ _ h => h) (.inl ⟨by rfl, fun W' hW' => ?_⟩) hS ?_
  · obtain ⟨q1, q2⟩ := hW'
    have hcv := hcx W' q1
    have hcv2 := hcx2 W' q2
    clear q1 q2
    go_simp
  simp only [Act.put, List.getElem_toArray, List.getElem_cons_succ, List.getElem_cons_zero, List.setIfInBounds_toArray, List.set_cons_succ, List.set_cons_zero]
  refine wpAnyH_take (i := 5) (v := .bool true) rfl (by kernel_rfl) (by kernel_rfl) (by kernel_rfl) (fun _ _ _ h => h) (.inl ⟨by rfl, fun W' hW' => ?_⟩) hS ?_
  · obtain ⟨q1, q2⟩ := hW'
    have hcv := hcx W' q1
    have hcv2 := hcx2 W' q2
    clear q1 q2
    go_simp
  simp only [Act.put, List.getElem_toArray, List.getElem_cons_succ, List.getElem_cons_zero, List.setIfInBounds_toArray, List.set_cons_succ, List.set_cons_zero]
  refine wpAnyH_take (i := 6) (v := .bool true) rfl (by kernel_rfl) (by kernel_rfl) (by kernel_rfl) (fun _ _ _ h => h) (.inl ⟨by rfl, fun W' hW' => ?_⟩) hS ?_
  · obtain ⟨q1, q2⟩ := hW'
    have hcv := hcx W' q1
    have hcv2 := hcx2 W' q2
    clear q1 q2
    go_simp
  simp only [Act.put, List.getElem_toArray, List.getElem_cons_succ, List.getElem_cons_zero, List.setIfInBounds_toArray, List.set_cons_succ, List.set_cons_zero]
  refine wpAnyH_take (i := 7) (v := .slice sa6 2 sc6) rfl (by kernel_rfl) (by kernel_rfl) (by kernel_rfl) (fun _ _ _ h => h) (.inl ⟨by rfl, fun W' hW' => ?_⟩) hS ?_
  · obtain ⟨q1, q2⟩ := hW'
    have hcv := hcx W' q1
    have hcv2 := hcx2 W' q2
    clear q1 q2
    go_simp
  simp only [Act.put, List.getElem_toArray, List.getElem_cons_succ, List.getElem_cons_zero, List.setIfInBounds_toArray, List.set_cons_succ, List.set_cons_zero]
  refine wpAnyH_take (i := 8) (v := .string ⟨#[104, 105]⟩) rfl (by kernel_rfl) (by kernel_rfl) (by kernel_rfl) (fun _ _ _ h => h) (.inl ⟨by rfl, fun W' hW' => ?_⟩) hS ?_
  · obtain ⟨q1, q2⟩ := hW'
    have hcv := hcx W' q1
    have hcv2 := hcx2 W' q2
    clear q1 q2
    go_simp
  simp only [Act.put, List.getElem_toArray, List.getElem_cons_succ, List.getElem_cons_zero, List.setIfInBounds_toArray, List.set_cons_succ, List.set_cons_zero]
  refine wpAnyH_take (i := 9) (v := .bool true) rfl (by kernel_rfl) (by kernel_rfl) (by kernel_rfl) (fun _ _ _ h => h) (.inl ⟨by rfl, fun W' hW' => ?_⟩) hS ?_
  · obtain ⟨q1, q2⟩ := hW'
    have hcv := hcx W' q1
    have hcv2 := hcx2 W' q2
    clear q1 q2
    go_simp
  simp only [Act.put, List.getElem_toArray, List.getElem_cons_succ, List.getElem_cons_zero, List.setIfInBounds_toArray, List.set_cons_succ, List.set_cons_zero]
  refine wpAnyH_take (i := 10) (v := .bool true) rfl (by kernel_rfl) (by kernel_rfl) (by kernel_rfl) (fun _ _ _ h => h) (.inl ⟨by rfl, fun W' hW' => ?_⟩) hS ?_
  · obtain ⟨q1, q2⟩ := hW'
    have hcv := hcx W' q1
    have hcv2 := hcx2 W' q2
    clear q1 q2
    go_simp
  simp only [Act.put, List.getElem_toArray, List.getElem_cons_succ, List.getElem_cons_zero, List.setIfInBounds_toArray, List.set_cons_succ, List.set_cons_zero]
  refine wpAnyH_take (i := 11) (v := .bool true) rfl (by kernel_rfl) (by kernel_rfl) (by kernel_rfl) (fun _ _ _ h => h) (.inl ⟨by rfl, fun W' hW' => ?_⟩) hS ?_
  · obtain ⟨q1, q2⟩ := hW'
    have hcv := hcx W' q1
    have hcv2 := hcx2 W' q2
    clear q1 q2
    go_simp
  simp only [Act.put, List.getElem_toArray, List.getElem_cons_succ, List.getElem_cons_zero, List.setIfInBounds_toArray, List.set_cons_succ, List.set_cons_zero]
  refine wpAnyH_take (i := 12) (v := .slice ra6 0 rc6) rfl (by kernel_rfl) (by kernel_rfl) (by kernel_rfl) (fun _ _ _ h => h) (.inl ⟨by rfl, fun W' hW' => ?_⟩) hS ?_
  · obtain ⟨q1, q2⟩ := hW'
    have hcv := hcx W' q1
    have hcv2 := hcx2 W' q2
    clear q1 q2
    go_simp
  simp only [Act.put, List.getElem_toArray, List.getElem_cons_succ, List.getElem_cons_zero, List.setIfInBounds_toArray, List.set_cons_succ, List.set_cons_zero]
  refine wpAnyH_take (i := 13) (v := .int .i64 0) rfl (by kernel_rfl) (by kernel_rfl) (by kernel_rfl) (fun _ _ _ h => h) (.inl ⟨by rfl, fun W' hW' => ?_⟩) hS ?_
  · obtain ⟨q1, q2⟩ := hW'
    have hcv := hcx W' q1
    have hcv2 := hcx2 W' q2
    clear q1 q2
    go_simp
  simp only [Act.put, List.getElem_toArray, List.getElem_cons_succ, List.getElem_cons_zero, List.setIfInBounds_toArray, List.set_cons_succ, List.set_cons_zero]
  refine wpAnyH_take (i := 14) (v := .bool true) rfl (by kernel_rfl) (by kernel_rfl) (by kernel_rfl) (fun _ _ _ h => h) (.inl ⟨by rfl, fun W' hW' => ?_⟩) hS ?_
  · obtain ⟨q1, q2⟩ := hW'
    have hcv := hcx W' q1
    have hcv2 := hcx2 W' q2
    clear q1 q2
    go_simp
  simp only [Act.put, List.getElem_toArray, List.getElem_cons_succ, List.getElem_cons_zero, List.setIfInBounds_toArray, List.set_cons_succ, List.set_cons_zero]
  refine wpAnyH_take (i := 15) (v := .bool true) rfl (by kernel_rfl) (by kernel_rfl) (by kernel_rfl) (fun _ _ _ h => h) (.inl ⟨by rfl, fun W' hW' => ?_⟩) hS ?_
  · obtain ⟨q1, q2⟩ := hW'
    have hcv := hcx W' q1
    have hcv2 := hcx2 W' q2
    clear q1 q2
    go_simp
  simp only [Act.put, List.getElem_toArray, List.getElem_cons_succ, List.getElem_cons_zero, List.setIfInBounds_toArray, List.set_cons_succ, List.set_cons_zero]
  refine wpAnyH_take (i := 16) (v := .bool true) rfl (by kernel_rfl) (by kernel_rfl) (by kernel_rfl) (fun _ _ _ h => h) (.inl ⟨by rfl, fun W' hW' => ?_⟩) hS ?_
  · obtain ⟨q1, q2⟩ := hW'
    have hcv := hcx W' q1
    have hcv2 := hcx2 W' q2
    clear q1 q2
    go_simp
  simp only [Act.put, List.getElem_toArray, List.getElem_cons_succ, List.getElem_cons_zero, List.setIfInBounds_toArray, List.set_cons_succ, List.set_cons_zero]
  refine wpAnyH_take (i := 17) (v := .slice (some ⟨w6.heap.size, 0, none⟩) 256 256) rfl (by kernel_rfl) (by kernel_rfl) (by kernel_rfl) (fun _ _ _ h => h) (.inl ⟨by rfl, fun W' hW' => ?_⟩) hS ?_
  · obtain ⟨q1, q2⟩ := hW'
    have hcv := hcx W' q1
    have hcv2 := hcx2 W' q2
    clear q1 q2
    go_simp
  simp only [Act.put, List.getElem_toArray, List.getElem_cons_succ, List.getElem_cons_zero, List.setIfInBounds_toArray, List.set_cons_succ, List.set_cons_zero]
  refine wpAnyH_take (i := 18) (v := .slice (some ⟨w6.heap.size, 0, none⟩) 14 256) rfl (by kernel_rfl) (by kernel_rfl) (by kernel_rfl) (fun _ _ _ h => h) (.inl ⟨by rfl, fun W' hW' => ?_⟩) hS ?_
  · obtain ⟨q1, q2⟩ := hW'
    have hcv := hcx W' q1
    have hcv2 := hcx2 W' q2
    clear q1 q2
    go_simp
  simp only [Act.put, List.getElem_toArray, List.getElem_cons_succ, List.getElem_cons_zero, List.setIfInBounds_toArray, List.set_cons_succ, List.set_cons_zero]
  refine wpAnyH_take (i := 19) (v := .string fh) rfl (by kernel_rfl) (by kernel_rfl) (by kernel_rfl) (fun _ _ _ h => h) (.inl ⟨by rfl, fun W' hW' => ?_⟩) hS ?_
  · obtain ⟨q1, q2⟩ := hW'
    have hcv := hcx W' q1
    have hcv2 := hcx2 W' q2
    clear q1 q2
    go_simp
  simp only [Act.put, List.getElem_toArray, List.getElem_cons_succ, List.getElem_cons_zero, List.setIfInBounds_toArray, List.set_cons_succ, List.set_cons_zero]
  have hk12 : (convert 30 30 (.slice (some ⟨w7.heap.size, 0, none⟩) 2 2)).run Try.prog (w7.alloc (.cells #[.int .u8 104, .int .u8 105] 5)).drew = .ok (.slice (some ⟨w7.heap.size, 0, none⟩) 2 2) (w7.alloc (.cells #[.int .u8 104, .int .u8 105] 5 (2, 3))).drew :=
    Lib.run_convert_bytes_const (P := Try.prog) w7.drew 30 5 #[.int .u8 104, .int .u8 105] 2 2 Try.underlying30 Try.underlying5
  have hbal : ∀ fr, Below w7.heap.size w7 (w7.alloc (.cells #[.int .u8 104, .int .u8 105] 5 fr)).drew := fun fr => ((Below.refl _ w7).alloc (Nat.le_refl _) _).trans ⟨rfl, rfl, rfl, Nat.le_refl _, fun _ _ => rfl⟩
  have hba : ∀ (W' : World), Below w7.heap.size w7 W' → W'.heap[w6.heap.size]? = some (.cells (byteCells (pageOf S3.P 5)).toArray 85 (0, 0)) ∧ Sl.RdA W' (.slice sa6 2 sc6) [104, 105] := fun W' hW' => ⟨(hW'.block _ (Array.getElem?_eq_some_iff.1 hblk).1).trans hblk, Sl.RdA.on hrd7 hW'⟩
  refine wpAnyH_one (i := 20) (by kernel_rfl) rfl (by rfl) (fun K hK => ?_)
  go_simp
  refine hK _ _ (hba _ (hbal _)) ?_
  clear hK K
  refine wpAnyH_one (i := 21) (by kernel_rfl) rfl (by rfl) (fun K hK => ?_)
  go_simp
  obtain ⟨w8, hw8⟩ : ∃ w8, w8 = (w7.alloc (.cells #[.int .u8 104, .int .u8 105] 5 (2, 3))).drew := ⟨_, rfl⟩
  have hrd8 : Sl.RdA w8 (.slice (some ⟨w7.heap.size, 0, none⟩) 2 2) [104, 105] := by rw [hw8]; exact hi_rd w7.drew
  have hb8 : Below w7.heap.size w7 w8 := by rw [hw8]; exact hbal _
  rw [← hw8]
  clear hw8 hk12
  refine hK _ _ (hba _ hb8) ?_
  clear hK K
  have N33 := sframe_any w8 _ [104, 105] hrd8 (by decide)
  refine wpAnyH_one (i := 22) (by kernel_rfl) rfl (by rfl) (fun K hK => ?_)
  go_simp
  refine N33.mono ?_
  rintro e w9 ⟨v9, rfl, ho9, hb9⟩
  have hb79 : Below w7.heap.size w7 w9 := hb8.trans (hb9.mono hb8.size)
  have hcv9 : (convert 30 9 v9).run Try.prog w9 = .ok (.string fh) w9 := by rw [hfh]; exact convA (.inl (Sl.Own.rd ho9))
  show K _ _
  refine hK _ _ (hba _ hb79) ?_
  clear hK K
  refine wpAnyH_one (i := 23) (by kernel_rfl) rfl (by rfl) (fun K hK => ?_)
  go_simp
  refine hK _ _ (hba _ hb79) ?_
  clear hK K
  have hS := hba _ hb79
  refine wpAnyH_take (i := 24) (v := .bool true) rfl (by kernel_rfl) (by kernel_rfl) (by kernel_rfl) (fun _ _ _ h => h) (.inl ⟨by rfl, fun W' hW' => ?_⟩) hS ?_
  · obtain ⟨q1, q2⟩ := hW'
    have hcv := hcx W' q1
    have hcv2 := hcx2 W' q2
    clear q1 q2
    go_simp
  simp only [Act.put, List.getElem_toArray, List.getElem_cons_succ, List.getElem_cons_zero, List.setIfInBounds_toArray, List.set_cons_succ, List.set_cons_zero]
  refine wpAnyH_take (i := 25) (v := .bool true) rfl (by kernel_rfl) (by kernel_rfl) (by kernel_rfl) (fun _ _ _ h => h) (.inl ⟨by rfl, fun W' hW' => ?_⟩) hS ?_
  · obtain ⟨q1, q2⟩ := hW'
    have hcv := hcx W' q1
    have hcv2 := hcx2 W' q2
    clear q1 q2
    go_simp
  simp only [Act.put, List.getElem_toArray, List.getElem_cons_succ, List.getElem_cons_zero, List.setIfInBounds_toArray, List.set_cons_succ, List.set_cons_zero]
  refine wpAnyH_take (i := 26) (v := .bool true) rfl (by kernel_rfl) (by kernel_rfl) (by kernel_rfl) (fun _ _ _ h => h) (.inl ⟨by rfl, fun W' hW' => ?_⟩) hS ?_
  · obtain ⟨q1, q2⟩ := hW'
    have hcv := hcx W' q1
    have hcv2 := hcx2 W' q2
    clear q1 q2
    go_simp
  simp only [Act.put, List.getElem_toArray, List.getElem_cons_succ, List.getElem_cons_zero, List.setIfInBounds_toArray, List.set_cons_succ, List.set_cons_zero]
  refine wpAnyH_done (by kernel_rfl) ?_ _
  go_wp2
  go_ret
  exact ⟨rfl, hb07.trans (hb79.mono hb07.size)⟩
end Go.Proofs.Ythgkkmcpmhfehaa

namespace Go.Proofs.Ythgkkmcpmhfehaa
open Go.RowKit Go.Lib Go.Shelf
set_option maxRecDepth 100000

structure PA (w0 wr : World) (X : Nat → Prop) (p t q n : Nat) (S : DS) (half : Nat) (b : List UInt8) (rs : List (List UInt8)) : Prop where
  ps : PS wr X p t q n S half b rs
  bel : Below w0.heap.size w0 wr
  xa : ∀ k, X k → w0.heap.size ≤ k
  pa : w0.heap.size ≤ p
  ta : w0.heap.size ≤ t
  ar : S.armed = 0
theorem PA.on {w0 w w' : World} {X : Nat → Prop} {p t q n : Nat} {S : DS} {half : Nat} {b : List UInt8} {rs : List (List UInt8)} (h : PA w0 w X p t q n S half b rs) (hb : Below w.heap.size w w') : PA w0 w' X p t q n S half b rs :=
  ⟨h.ps.below hb, h.bel.trans (hb.mono h.bel.size), h.xa, h.pa, h.ta, h.ar⟩

theorem append_pa (w0 w : World) (X : Nat → Prop) (p t q n : Nat) (S : DS) (half : Nat) (b : List UInt8) (rs : List (List UInt8)) (h : PA w0 w X p t q n S half b rs) (hops : S.ops ≤ 100000) (hn : rs.length ≤ 5000) (r : List UInt8) (v : Value) (hr : Sl.RdA w v r) (hrl : r.length ≤ 65536) (hpl : tot rs + (12 + r.length) ≤ (spanN n - takesN b.length) * 256) :
    Calls Try.prog 14 #[.pointer (some ⟨p, 0, none⟩), v] w fun e w' => e = .returned (.int .i64 0) ∧ ∃ X' S', PA w0 w' X' p t q n S' half b (rs ++ [r]) ∧ S'.ops ≤ S.ops + (r.length / 256 + 6) ∧ (∀ k, k < (firstN n half + takesN b.length) * 256 + tot rs ∨ (firstN n half + spanN n) * 256 ≤ k → S'.P[k]? = S.P[k]?) ∧ (∀ k, X' k → X k ∨ w.heap.size ≤ k) ∧ Step (fun k => X k ∨ k = t) (fun k => X' k ∨ k = t) w w' := by
  refine (append_ps w X p t q n S half b rs h.ps hops hn r v hr hrl hpl).mono ?_
  rintro e w' ⟨X', S', k1, k2, k3, k4, k5, k6, ⟨rfl, k7, k8⟩ | ⟨_, k7, _⟩⟩
  · refine ⟨rfl, X', S', ⟨k7, h.bel.trans (k2.below (fun k hk => ?_) h.bel.size), fun k hk => ?_, h.pa, h.ta, k8 h.ar⟩, k5, k6, k3, k2⟩
    · rcases hk with hk | hk
      · exact h.xa k hk
      · rw [hk]; exact h.ta
    · rcases k3 k hk with hk | hk
      · exact h.xa k hk
      · exact Nat.le_trans h.bel.size hk
  · exact absurd h.ar k7
theorem append_pafull (w0 w : World) (X : Nat → Prop) (p t q n : Nat) (S : DS) (half : Nat) (b : List UInt8) (rs : List (List UInt8)) (h : PA w0 w X p t q n S half b rs) (r : List UInt8) (a : Option Addr) (fc : Nat) (hrl : r.length ≤ 65536) (hpl : (spanN n - takesN b.length) * 256 < tot rs + (12 + r.length)) :
    Calls Try.prog 14 #[.pointer (some ⟨p, 0, none⟩), .slice a r.length fc] w fun e w' => e = .returned (.int .i64 22) ∧ PA w0 w' X p t q n S half b rs := by
  refine (append_psfull w X p t q n S half b rs h.ps r a fc hrl hpl).mono ?_
  rintro e w' ⟨rfl, hb⟩
  exact ⟨rfl, h.on hb⟩
theorem save_pa (w0 w : World) (X : Nat → Prop) (p t q n : Nat) (S : DS) (half : Nat) (b : List UInt8) (rs : List (List UInt8)) (h : PA w0 w X p t q n S half b rs) (hops : S.ops ≤ 80000) (b' : List UInt8) (v : Value) (hb : Sl.RdA w v b') (hl : b'.length ≤ 1048576) (htk : takesN b'.length < spanN n) :
    Calls Try.prog 16 #[.pointer (some ⟨p, 0, none⟩), v] w fun e w' => e = .returned (.int .i64 0) ∧ ∃ X' S' t', PA w0 w' X' p t' q n S' (1 - half) b' [] ∧ S'.ops = S.ops + (takesN b'.length + 4) ∧ (∀ j, 256 ≤ j → j < firstN n (1 - half) * 256 ∨ (firstN n (1 - half) + spanN n) * 256 ≤ j → S'.P[j]? = S.P[j]?) ∧ (∀ k, X' k → X k ∨ w.heap.size ≤ k) ∧ w.heap.size ≤ t' ∧ Step (fun k => X k ∨ k = p) (fun k => X' k ∨ k = p) w w' := by
  refine (save_ps w X p t q n S half b rs h.ps hops b' v hb hl htk).mono ?_
  rintro e w' ⟨X', S', k1, k2, k3, k4, k5, ⟨rfl, ⟨t', k6, k7⟩, k8, k9, k10⟩ | ⟨_, k7, _⟩⟩
  · refine ⟨rfl, X', S', t', ⟨k7, h.bel.trans (k2.below (fun k hk => ?_) h.bel.size), fun k hk => ?_, h.pa, Nat.le_trans h.bel.size k6, k9 h.ar⟩, k8, k10, k3, k6, k2⟩
    · rcases hk with hk | hk
      · exact h.xa k hk
      · rw [hk]; exact h.pa
    · rcases k3 k hk with hk | hk
      · exact h.xa k hk
      · exact Nat.le_trans h.bel.size hk
  · exact absurd h.ar k7
theorem save_palong (w0 w : World) (X : Nat → Prop) (p t q n : Nat) (S : DS) (half : Nat) (b : List UInt8) (rs : List (List UInt8)) (h : PA w0 w X p t q n S half b rs) (hn1 : 1 ≤ n) (b' : List UInt8) (va : Option Addr) (vc : Nat) (hl : b'.length ≤ 1099511627776) (htk : ¬ takesN b'.length < spanN n) :
    Calls Try.prog 16 #[.pointer (some ⟨p, 0, none⟩), .slice va b'.length vc] w fun e w' => e = .returned (.int .i64 3) ∧ PA w0 w' X p t q n S half b rs ∧ Below w.heap.size w w' := by
  refine (save_long w X p q n S half _ 0 h.ps.d h.ps.pr hn1 b' va vc hl htk).mono ?_
  rintro e w' ⟨rfl, hb⟩
  exact ⟨rfl, h.on hb, hb⟩
theorem count_pa (w0 w : World) (X : Nat → Prop) (p t q n : Nat) (S : DS) (half : Nat) (b : List UInt8) (rs : List (List UInt8)) (h : PA w0 w X p t q n S half b rs) :
    Calls Try.prog 28 #[.pointer (some ⟨p, 0, none⟩)] w fun e w' => e = .returned (.int .i64 (rs.length : Int)) ∧ w' = w := pcount_any w p q half t _ _ _ _ _ 0 h.ps.pr h.ps.tp
theorem ops_pa (w0 w : World) (X : Nat → Prop) (p t q n : Nat) (S : DS) (half : Nat) (b : List UInt8) (rs : List (List UInt8)) (h : PA w0 w X p t q n S half b rs) :
    Calls Try.prog 31 #[.pointer (some ⟨q, 0, none⟩)] w fun e w' => e = .returned (.int .i64 (S.ops : Int)) ∧ w' = w := ops_any w X q n S h.ps.d
/-- Opened anew: another pair beside it. -/
theorem open_pa (w0 w : World) (X : Nat → Prop) (p t q n : Nat) (S : DS) (half : Nat) (b : List UInt8) (rs : List (List UInt8)) (h : PA w0 w X p t q n S half b rs) (hn : 5 ≤ n) (hrs : rs.length ≤ 5000) :
    Calls Try.prog 12 #[.pointer (some ⟨q, 0, none⟩)] w fun e w' => ∃ v1 v2 p' t', e = .returned (.tuple #[.pointer (some ⟨p', 0, none⟩), v1, v2, .int .i64 0]) ∧ w.heap.size ≤ p' ∧ w.heap.size ≤ t' ∧ SnV w' w.heap.size v1 b ∧ Recs w' w.heap.size v2 rs ∧ PA w0 w' X p t q n S half b rs ∧ PA w0 w' X p' t' q n S half b rs ∧ Below w.heap.size w w' := by
  refine (popen_any w X q n S h.ps.dn h.ps.wz h.ps.d hn half b rs hrs h.ps.pp).mono ?_
  rintro e w' ⟨hb, v1, v2, p', t', rfl, h1, h2, h3, h4, h5⟩
  exact ⟨v1, v2, p', t', rfl, h1, h2, h3, h4, h.on hb, ⟨h5, h.bel.trans (hb.mono h.bel.size), h.xa, Nat.le_trans h.bel.size h1, Nat.le_trans h.bel.size h2, h.ar⟩, hb⟩
/-- Opened on a new drum. -/
theorem first_pa (w0 w : World) (X : Nat → Prop) (q n : Nat) (S : DS) (h : Drum w X q n S) (hpp : PP S.P n 0 [] []) (hW : S.W = []) (har : S.armed = 0) (hdn : S.down = false) (hb : Below w0.heap.size w0 w) (hX : ∀ k, X k → w0.heap.size ≤ k) (hn : 5 ≤ n) :
    Calls Try.prog 12 #[.pointer (some ⟨q, 0, none⟩)] w fun e w' => ∃ v1 v2 p t, e = .returned (.tuple #[.pointer (some ⟨p, 0, none⟩), v1, v2, .int .i64 0]) ∧ (∃ a c, v1 = .slice a 0 c) ∧ (∃ a c, v2 = .slice a 0 c) ∧ PA w0 w' X p t q n S 0 [] [] := by
  refine (popen_any w X q n S hdn hW h hn 0 [] [] (by decide) hpp).mono ?_
  rintro e w' ⟨hb', v1, v2, p', t', rfl, h1, h2, h3, h4, h5⟩
  exact ⟨v1, v2, p', t', rfl, h3.shape, h4.shape, h5, hb.trans (hb'.mono hb.size), hX, Nat.le_trans hb.size h1, Nat.le_trans hb.size h2, har⟩
end Go.Proofs.Ythgkkmcpmhfehaa

namespace Go.Proofs.Ythgkkmcpmhfehaa
open Go.RowKit Go.Lib Go.Shelf
set_option maxRecDepth 100000

/-- Bytes that were handed in, or of their own, apart from what moves. -/
def BV (w wr : World) (Z : Nat → Prop) (u : Value) (r : List UInt8) : Prop :=
  Sl.RdA w u r ∨ ∃ g o c full, u = .slice (some ⟨g, o, none⟩) r.length c ∧ w.heap.size ≤ g ∧ ¬ Z g ∧ r.length ≤ c ∧ wr.heap[g]? = some (.cells full 5 (0, 0)) ∧ wr.rangeAt g o (byteCells r)
theorem BV.on {w wr wr' : World} {Z Z' Y Y' : Nat → Prop} {u : Value} {r : List UInt8} (h : BV w wr Z u r) (hs : Step Y Y' wr wr') (hy : ∀ k, Y k → Z k) (hz : ∀ k, Z' k → Z k ∨ wr.heap.size ≤ k) : BV w wr' Z' u r := by
  rcases h with h | ⟨g, o, c, full, h1, h2, h3, h4, h5, h6⟩
  · exact .inl h
  · have hlt : g < wr.heap.size := (Array.getElem?_eq_some_iff.1 h5).1
    have hb := hs.block g hlt (fun hyg => h3 (hy g hyg))
    refine .inr ⟨g, o, c, full, h1, h2, fun hx' => ?_, h4, hb.trans h5, fun j x hj => ?_⟩
    · rcases hz g hx' with h' | h'
      · exact h3 h'
      · omega
    · rw [← h6 j x hj]
      simp only [World.cell?, hb]
theorem BV.rd {w wr : World} {Z : Nat → Prop} {u : Value} {r : List UInt8} (h : BV w wr Z u r) (hb : Below w.heap.size w wr) : Sl.RdA wr u r := by
  rcases h with h | ⟨g, o, c, full, rfl, _, _, h4, _, h6⟩
  · exact Sl.RdA.on h hb
  · exact sl_range h6 h4
theorem BV.shape {w wr : World} {Z : Nat → Prop} {u : Value} {r : List UInt8} (h : BV w wr Z u r) : ∃ a c, u = .slice a r.length c := by
  rcases h with h | ⟨g, o, c, full, rfl, _⟩
  · exact h.len
  · exact ⟨_, _, rfl⟩
/-- A list of such. -/
def LZ (w wr : World) (Z : Nat → Prop) (v : Value) (rs : List (List UInt8)) : Prop :=
  ∃ vals : List Value, wr.ownsRow 0 30 1 v rs.length vals ∧ (∀ k, v.ownBlock = some k → w.heap.size ≤ k ∧ ¬ Z k) ∧ ∀ (i : Nat) (r : List UInt8), rs[i]? = some r → ∃ u, vals[i]? = some u ∧ BV w wr Z u r
theorem LZ.nil (w wr : World) (Z : Nat → Prop) : LZ w wr Z (.slice none 0 0) [] := ⟨[], World.ownsRow_nil _ _ _ _, ⟨(fun k hk => by cases hk), fun i r h => by simp at h⟩⟩
theorem LZ.lt {w wr : World} {Z : Nat → Prop} {v : Value} {rs : List (List UInt8)} (h : LZ w wr Z v rs) : ∀ k, v.ownBlock = some k → k < wr.heap.size := fun k hk => by
  obtain ⟨vals, ho, _⟩ := h
  obtain ⟨c, hc⟩ := own_ne ho hk
  exact (Array.getElem?_eq_some_iff.1 hc).1
theorem LZ.shape {w wr : World} {Z : Nat → Prop} {v : Value} {rs : List (List UInt8)} (h : LZ w wr Z v rs) : ∃ a c, v = .slice a rs.length c := by
  obtain ⟨vals, ho, _⟩ := h
  rcases ho.2 with ⟨rfl, h0⟩ | ⟨g, cap, cur, rfl, _⟩
  · rw [h0]; exact ⟨_, _, rfl⟩
  · exact ⟨_, _, rfl⟩
theorem LZ.on {w wr wr' : World} {Z Z' Y Y' : Nat → Prop} {v : Value} {rs : List (List UInt8)} (h : LZ w wr Z v rs) (hs : Step Y Y' wr wr') (hy : ∀ k, Y k → Z k) (hz : ∀ k, Z' k → Z k ∨ wr.heap.size ≤ k) : LZ w wr' Z' v rs := by
  have hlt := h.lt
  obtain ⟨vals, ho, hb, hr⟩ := h
  refine ⟨vals, ownsRow_block ho (fun k hk => hs.block k (hlt k hk) (fun hyk => (hb k hk).2 (hy k hyk))), fun k hk => ⟨(hb k hk).1, fun hx' => ?_⟩, fun i r hi => ?_⟩
  · rcases hz k hx' with h' | h'
    · exact (hb k hk).2 h'
    · have := hlt k hk; omega
  · obtain ⟨u, h1, h2⟩ := hr i r hi
    exact ⟨u, h1, h2.on hs hy hz⟩
theorem own_cell' {w : World} {v : Value} {n : Nat} {xs : List Value} {i : Nat} {u : Value} (ho : w.ownsRow 0 30 1 v n xs) (hu : xs[i]? = some u) (hi : i < n) : ∃ g c, v = .slice (some ⟨g, 0, none⟩) n c ∧ w.cell? ⟨g, i, none⟩ = some u := by
  rcases ho.2 with ⟨_, h0⟩ | ⟨g, cap, cur, rfl, _, hg, _, _, _, ht⟩
  · omega
  · refine ⟨g, cap, rfl, ?_⟩
    have e : (cur.toList.take (n * 1))[i]? = xs[i]? := by rw [ht]
    rw [List.getElem?_take_of_lt (by omega), hu] at e
    simp only [World.cell?, hg]
    simpa using e
theorem LZ.rdl {w wr : World} {Z : Nat → Prop} {v : Value} {rs : List (List UInt8)} (h : LZ w wr Z v rs) (hb : Below w.heap.size w wr) : RdL wr v rs := by
  obtain ⟨a, c, rfl⟩ := h.shape
  obtain ⟨vals, ho, _, hr⟩ := h
  refine ⟨a, c, rfl, fun i r hi => ?_⟩
  obtain ⟨u, hu, he⟩ := hr i r hi
  obtain ⟨g, c', h1, h2⟩ := own_cell' ho hu (List.getElem?_eq_some_iff.1 hi).1
  cases h1
  exact ⟨g, 0, u, rfl, by rw [Nat.zero_add]; exact h2, he.rd hb⟩
theorem Recs.lz {w wr : World} {Z : Nat → Prop} {B : Nat} {v : Value} {rs : List (List UInt8)} (h : Recs wr B v rs) (hB : w.heap.size ≤ B) (hZ : ∀ (k : Nat) (c : Array Value) (e : TypeId), B ≤ k → (e = 5 ∨ e = 30) → wr.heap[k]? = some (.cells c e (0, 0)) → ¬ Z k) : LZ w wr Z v rs := by
  obtain ⟨vals, ho, hb, hr⟩ := h
  refine ⟨vals, ho, fun k hk => ⟨Nat.le_trans hB (hb k hk), ?_⟩, fun i r hi => ?_⟩
  · obtain ⟨c, hc⟩ := own_ne ho hk
    exact hZ k c 30 (hb k hk) (.inr rfl) hc
  · obtain ⟨u, hu, g, rfl, h1, h2⟩ := hr i r hi
    exact ⟨_, hu, .inr ⟨g, 0, r.length, _, rfl, by omega, hZ g _ 5 h1 (.inl rfl) h2, Nat.le_refl _, h2, range_of_block h2⟩⟩
theorem SnV.bv {w wr : World} {Z : Nat → Prop} {B : Nat} {v : Value} {b : List UInt8} (h : SnV wr B v b) (hB : w.heap.size ≤ B) (hZ : ∀ (k : Nat) (c : Array Value) (e : TypeId), B ≤ k → (e = 5 ∨ e = 30) → wr.heap[k]? = some (.cells c e (0, 0)) → ¬ Z k) : BV w wr Z v b := by
  rcases h with ⟨rfl, rfl⟩ | ⟨g, c, full, rfl, h1, h2, h3, h4⟩
  · exact .inl (.inl (.inl ⟨rfl, rfl⟩))
  · exact .inr ⟨g, 12, c, full, rfl, by omega, hZ g _ 5 h1 (.inl rfl) h3, h2, h3, h4⟩
theorem BV.one {w wr : World} {Z : Nat → Prop} {u : Value} {r : List UInt8} (h : BV w wr Z u r) : u.oneCell' = true := by
  obtain ⟨a, c, rfl⟩ := h.shape; rfl
theorem LZ.push {w w1 w2 : World} {Z : Nat → Prop} {v v1 u : Value} {rs : List (List UInt8)} {r : List UInt8} {g1 : Nat} {xs : List Value} (hw : w.heap.size ≤ w1.heap.size) (hZ : ∀ k, Z k → k < w1.heap.size)
    (ho : w1.ownsRow 0 30 1 v rs.length xs) (hb : ∀ k, v.ownBlock = some k → w.heap.size ≤ k ∧ ¬ Z k) (hr : ∀ (i : Nat) (r : List UInt8), rs[i]? = some r → ∃ u, xs[i]? = some u ∧ BV w w1 Z u r) (hu : BV w w1 Z u r)
    (hp : Pushed w1 w2 30 v v1 rs.length xs u g1) : LZ w w2 Z v1 (rs ++ [r]) := by
  have hxl : xs.length = rs.length := by have := ho.1; omega
  have hst : ∀ {u r}, BV w w1 Z u r → BV w w2 Z u r := fun {u r} h => by
    rcases h with h2 | ⟨g, o, c, full, e1, e2, e3, e4, e5, e6⟩
    · exact .inl h2
    · have hb := hp.step.block g (Array.getElem?_eq_some_iff.1 e5).1 (fun hk => by
        obtain ⟨c, hc⟩ := own_ne ho hk
        exact ne_type hc e5 (by decide) rfl)
      refine .inr ⟨g, o, c, full, e1, e2, e3, e4, hb.trans e5, fun j x hj => ?_⟩
      rw [← e6 j x hj]
      simp only [World.cell?, hb]
  refine ⟨xs ++ [u], by rw [List.length_append]; exact hp.own, fun k hk => ?_, fun i r' hi => ?_⟩
  · rw [hp.at1] at hk
    cases hk
    rcases hp.old with h | h
    · exact hb _ h
    · exact ⟨by omega, fun hx => by have := hZ _ hx; omega⟩
  · by_cases hlt : i < rs.length
    · rw [List.getElem?_append_left hlt] at hi
      obtain ⟨u', h1, h2⟩ := hr i r' hi
      exact ⟨u', by rw [List.getElem?_append_left (by omega)]; exact h1, hst h2⟩
    · have hi' : i = rs.length := by
        have := (List.getElem?_eq_some_iff.1 hi).1
        simp at this; omega
      subst hi'
      rw [List.getElem?_append_right (Nat.le_refl _), Nat.sub_self] at hi
      cases hi
      exact ⟨u, by rw [List.getElem?_append_right (by omega), hxl, Nat.sub_self]; rfl, hst hu⟩

/-- All of a list behind a list of the call's own. -/
theorem appL {ops : Array Oper} {rest : List Oper} {o : Oper} {a : Act} {Q : Exit → Act → World → Prop} (hgd : o.guard = none) (s x : Operand)
    (ho : o.op = .call { callee := .builtin .append, args := #[s, x], argTypes := #[31, 31] }) (B : Nat) (v vx : Value) (xs lx : List Value) (n m : Nat) (w : World)
    (hs : a.eval s = v) (hown : w.ownsRow B 30 1 v n xs) (hx : a.eval x = vx) (hsrc : w.ownsRow 0 30 1 vx m lx) (hone : ∀ u ∈ lx, u.oneCell' = true) (hn : n ≤ 5000) (hm : m ≤ 5000) (hB : B ≤ w.heap.size)
    (h : ∀ v' w', w'.ownsRow B 30 1 v' (n + m) (xs ++ lx) → Below B w w' → wpList Try.prog ops Q rest (a.put o.dst v') w') :
    wpList Try.prog ops Q (o :: rest) a w := by
  obtain ⟨i0, hi, hz0, hz1, hz2⟩ := info_parts info22
  rcases hsrc with ⟨hl, ⟨rfl, rfl⟩ | ⟨g, cap, cur, rfl, _, hg, hc, hmx, hsz, ht⟩⟩
  · obtain rfl : lx = [] := List.length_eq_zero_iff.1 (by omega)
    refine wpList_append_own_none hgd s x 31 ho B 30 i0 1 Try.underlying31 hi v n xs hs hown hx ?_
    exact h v w (by simpa using hown) (Below.refl _ _)
  · refine wpList_append_own _ hgd s x 31 ho B 30 i0 (.slice none 0 0) 1 24 Try.underlying31 hi hz0 hz1 hz2 rfl (by decide) v n xs hs hown ⟨g, 0, none⟩ m cap lx hx (by omega) ?_ hone (by unfold maxLen; omega) (by omega) hB ?_
    · intro j u hj
      have hjl := (List.getElem?_eq_some_iff.1 hj).1
      have e : (cur.toList.take (m * 1))[j]? = lx[j]? := by rw [ht]
      rw [List.getElem?_take_of_lt (by omega), hj] at e
      rw [Addr.add_lit, Nat.zero_add]
      simp only [World.cell?, hg]
      simpa using e
    · intro v' w' h1 h2 _
      exact h v' w' h1 ((Below.refl B w).grown h2 hB (fun k hk => (World.ownsRow.lt hown k hk).1))

/-- A slice of steps that came in. -/
def RdSt (w : World) (v : Value) (n : Nat) : Prop := ∃ (a : Option Addr) (c : Nat), v = .slice a n c ∧ ∀ k, k < n → ∃ (b o : Nat) (s : Bool) (u : Value) (r : List UInt8) (x y : Int), a = some ⟨b, o, none⟩ ∧ w.cell? ⟨b, o + k * 4, none⟩ = some (.bool s) ∧ w.cell? ⟨b, o + k * 4 + 1, none⟩ = some u ∧ Sl.RdA w u r ∧ w.cell? ⟨b, o + k * 4 + 2, none⟩ = some (.int .i64 x) ∧ w.cell? ⟨b, o + k * 4 + 3, none⟩ = some (.int .i64 y) ∧ (-9223372036854775808 ≤ x ∧ x < 9223372036854775808) ∧ (-9223372036854775808 ≤ y ∧ y < 9223372036854775808)
end Go.Proofs.Ythgkkmcpmhfehaa

namespace Go.Proofs.Ythgkkmcpmhfehaa
open Go.RowKit Go.Lib Go.Shelf
set_option maxRecDepth 100000

theorem wpAnyH_two {P : Program} {md : Region.Mode} {ops : Array Oper} {Q : Exit → Act → World → Prop} {S : World → Prop} {i j : Nat} {o o' : Oper} {fuel : Nat} {listed : Array Bool} {a : Act} {w : World} (hr : Region.ready md ops listed = [i, j]) (ho : ops[i]? = some o) (hw : Region.wanted o (yielded ops a.tmps) = true) (ho' : ops[j]? = some o') (hw' : Region.wanted o' (yielded ops a.tmps) = true)
    (h : ∀ K : Act → World → Prop, (∀ a' w', S w' → wpAnyH P md ops Q S fuel (listed.setIfInBounds i true) a' w' → K a' w') → o.wp P a w K Q)
    (h' : ∀ K : Act → World → Prop, (∀ a' w', S w' → wpAnyH P md ops Q S fuel (listed.setIfInBounds j true) a' w' → K a' w') → o'.wp P a w K Q) : wpAnyH P md ops Q S (fuel + 1) listed a w :=
  wpAnyH_all hr (by simp) (fun k hk => by
    simp only [List.mem_cons, List.not_mem_nil, or_false] at hk
    rcases hk with rfl | rfl
    · unfold wpOp
      simp only [ho]
      rw [if_pos hw]
      exact .inl (h _ (fun _ _ h1 h2 => ⟨h1, h2⟩))
    · unfold wpOp
      simp only [ho']
      rw [if_pos hw']
      exact .inl (h' _ (fun _ _ h1 h2 => ⟨h1, h2⟩)))

theorem wp_appL {o : Oper} {a : Act} {K : Act → World → Prop} {Q : Exit → Act → World → Prop} (s x : Operand)
    (ho : o.op = .call { callee := .builtin .append, args := #[s, x], argTypes := #[31, 31] }) (B : Nat) (v vx : Value) (xs lx : List Value) (n m : Nat) (w : World)
    (hs : a.eval s = v) (hown : w.ownsRow B 30 1 v n xs) (hx : a.eval x = vx) (hsrc : w.ownsRow 0 30 1 vx m lx) (hone : ∀ u ∈ lx, u.oneCell' = true) (hn : n ≤ 5000) (hm : m ≤ 5000) (hB : B ≤ w.heap.size)
    (h : ∀ v' w', w'.ownsRow B 30 1 v' (n + m) (xs ++ lx) → Below B w w' → (∀ k, k < w.heap.size → v.ownBlock ≠ some k → w'.heap[k]? = w.heap[k]?) → K (a.put o.dst v') w') : o.wp Try.prog a w K Q := by
  obtain ⟨i0, hi, hz0, hz1, hz2⟩ := info_parts info22
  rcases hsrc with ⟨hl, ⟨rfl, rfl⟩ | ⟨g, cap, cur, rfl, _, hg, hc, hmx, hsz, ht⟩⟩
  · obtain rfl : lx = [] := List.length_eq_zero_iff.1 (by omega)
    have hrun := run_append_owned_none (P := Try.prog) (w := w) B 31 o.type 30 i0 1 Try.underlying31 hi v n xs hown
    unfold Oper.wp
    simp [execOp, ho, resolve, invoke, builtin, hs, hx, hrun, Result.andThen]
    exact h v w (by simpa using hown) (Below.refl _ _) (fun _ _ _ => rfl)
  · refine wp_append_own w s x 31 ho B 30 i0 (.slice none 0 0) 1 24 Try.underlying31 hi hz0 hz1 hz2 rfl (by decide) v n xs hs hown ⟨g, 0, none⟩ m cap lx hx (by omega) ?_ hone (by unfold maxLen; omega) (by omega) hB ?_
    · intro j u hj
      have hjl := (List.getElem?_eq_some_iff.1 hj).1
      have e : (cur.toList.take (m * 1))[j]? = lx[j]? := by rw [ht]
      rw [List.getElem?_take_of_lt (by omega), hj] at e
      rw [Addr.add_lit, Nat.zero_add]
      simp only [World.cell?, hg]
      simpa using e
    · intro v' w' h1 h2 _
      exact h v' w' h1 ((Below.refl B w).grown h2 hB (fun k hk => (World.ownsRow.lt hown k hk).1)) (fun k hk hne => h2.block k hk (fun e' => hne e'.symm))
/-- A row with one element, just built. -/
theorem own_one {w : World} {g : Nat} {u : Value} (hg : w.heap[g]? = some (.cells #[u] 30 (0, 0))) : w.ownsRow 0 30 1 (.slice (some ⟨g, 0, none⟩) 1 1) 1 [u] :=
  ⟨rfl, .inr ⟨g, 1, _, rfl, Nat.zero_le _, hg, Nat.le_refl _, by decide, rfl, rfl⟩⟩
theorem own_no {w : World} {B g : Nat} (hB : B ≤ g) (hg : w.heap[g]? = some (.cells #[] 30 (0, 0))) : w.ownsRow B 30 1 (.slice (some ⟨g, 0, none⟩) 0 0) 0 [] :=
  ⟨rfl, .inr ⟨g, 0, _, rfl, hB, hg, Nat.le_refl _, by decide, rfl, rfl⟩⟩
theorem own_on {w w' : World} {B : Nat} {v : Value} {n : Nat} {xs : List Value} (h : w.ownsRow B 30 1 v n xs) (hb : Below w.heap.size w w') : w'.ownsRow B 30 1 v n xs :=
  ownsRow_block h (fun k hk => hb.block k (by
    obtain ⟨c, hc⟩ := own_ne (ownsRow_base h (Nat.zero_le _)) hk
    exact (Array.getElem?_eq_some_iff.1 hc).1))

/-- A fresh copy of a list of records, with one more. -/
theorem LZ.copied {w w3 wc : World} {Z : Nat → Prop} {v' u : Value} {rs : List (List UInt8)} {y : List UInt8} {vals : List Value} (hw : w.heap.size ≤ w3.heap.size) (hZ : ∀ k, Z k → k < w3.heap.size)
    (hlen : vals.length = rs.length) (hr : ∀ (i : Nat) (r : List UInt8), rs[i]? = some r → ∃ u, vals[i]? = some u ∧ BV w w3 Z u r) (hu : Sl.RdA w u y)
    (ho : wc.ownsRow w3.heap.size 30 1 v' (rs.length + 1) (vals ++ [u])) (hb : Below w3.heap.size w3 wc) : LZ w wc Z v' (rs ++ [y]) := by
  refine ⟨vals ++ [u], by rw [List.length_append]; exact ownsRow_base ho (Nat.zero_le _), fun k hk => ?_, fun i r hi => ?_⟩
  · rcases ho.2 with ⟨rfl, h0⟩ | ⟨g, cap, cur, rfl, hB, _⟩
    · cases hk
    · have e : k = g := by cases hk; rfl
      subst e
      exact ⟨by omega, fun hz => by have := hZ _ hz; omega⟩
  · by_cases hlt : i < rs.length
    · rw [List.getElem?_append_left hlt] at hi
      obtain ⟨u', h1, h2⟩ := hr i r hi
      exact ⟨u', by rw [List.getElem?_append_left (by omega)]; exact h1, h2.on (Y := fun _ => False) (Y' := fun _ => False) (Step.of_below hb) (fun _ h => h.elim) (fun _ h => .inl h)⟩
    · have hi' : i = rs.length := by
        have := (List.getElem?_eq_some_iff.1 hi).1
        simp at this; omega
      subst hi'
      rw [List.getElem?_append_right (Nat.le_refl _), Nat.sub_self] at hi
      cases hi
      exact ⟨u, by rw [List.getElem?_append_right (by omega), hlen, Nat.sub_self]; rfl, .inl hu⟩
end Go.Proofs.Ythgkkmcpmhfehaa

namespace Go.Proofs.Ythgkkmcpmhfehaa
open Go.RowKit Go.Lib Go.Shelf
set_option maxRecDepth 100000

/-- What moves with a pair. -/
def ZP' (X : Nat → Prop) (p t : Nat) : Nat → Prop := fun k => X k ∨ k = p ∨ k = t
theorem PA.step {w0 w w' : World} {X Y Y' : Nat → Prop} {p t q n : Nat} {S : DS} {half : Nat} {b : List UInt8} {rs : List (List UInt8)} (h : PA w0 w X p t q n S half b rs) (hs : Step Y Y' w w') (hy : ∀ k, Y k → w0.heap.size ≤ k) (hz : ∀ k, Y k → ¬ ZP' X p t k) : PA w0 w' X p t q n S half b rs :=
  ⟨h.ps.on hs (fun k hk hy' => hz k hy' (.inl hk)) (fun hy' => hz p hy' (.inr (.inl rfl))) (fun hy' => hz t hy' (.inr (.inr rfl))), h.bel.trans (hs.below hy h.bel.size), h.xa, h.pa, h.ta, h.ar⟩
theorem own_blk {w : World} {B : Nat} {v : Value} {l : List UInt8} (h : Sl.Own w B v l) (hl : 0 < l.length) : ∃ g cap cur, v = .slice (some ⟨g, 0, none⟩) l.length cap ∧ B ≤ g ∧ w.heap[g]? = some (.cells cur 5 (0, 0)) ∧ l.length ≤ cur.size ∧ l.length ≤ cap ∧ w.rangeAt g 0 (byteCells l) := by
  rcases h.2 with ⟨_, h0⟩ | ⟨g, cap, cur, rfl, hB, hg, hc, _, hsz, ht⟩
  · omega
  · refine ⟨g, cap, cur, rfl, hB, hg, by omega, hc, fun j u hj => ?_⟩
    have hjl := (List.getElem?_eq_some_iff.1 hj).1
    rw [byteCells_length] at hjl
    have e : (cur.toList.take (l.length * 1))[j]? = (byteCells l)[j]? := by rw [ht]
    rw [List.getElem?_take_of_lt (by omega), hj] at e
    simp only [World.cell?, hg, Nat.zero_add]
    simpa using e
theorem range_take {w : World} {g : Nat} {l m : List UInt8} (h : w.rangeAt g 0 (byteCells (l ++ m))) : w.rangeAt g 0 (byteCells l) := fun j u hj => h j u (by
  have hjl := (List.getElem?_eq_some_iff.1 hj).1
  rw [← hj, byteCells_append, List.getElem?_append_left hjl])
theorem range_on {w w' : World} {g o : Nat} {cs : List Value} (h : w.rangeAt g o cs) (hb : w'.heap[g]? = w.heap[g]?) : w'.rangeAt g o cs := fun j u hj => by
  rw [← h j u hj]
  simp only [World.cell?, hb]

set_option maxHeartbeats 16000000 in
theorem keeps_any (w : World) (vs vr : Value) (s r : List UInt8) (hs : Sl.RdA w vs s) (hr : Sl.RdA w vr r) (hsl : s.length ≤ 140737488355328) (hrl : r.length ≤ 140737488355328) :
    Calls Try.prog 6 #[vs, vr] w fun e w' => e = .returned (.bool true) ∧ Below w.heap.size w w' := by
  have hmix : Try.prog.follows .mixedOrders = true := by kernel_rfl
  obtain ⟨ra, rc, rfl⟩ := hr.len
  obtain ⟨sa, sc, rfl⟩ := hs.len
  have HR : Hid _ := hr
  have HS : Hid _ := hs
  clear hr hs
  have hnot : ∀ (b : Bool) (w : World), (Op.unary .not (.bool b)).run Try.prog w = .ok (.bool (!b)) w := fun _ _ => rfl
  go_enter Try.func6, Try.ntmps6
  go_wp2_with fail
  refine (wakes_any w).mono ?_
  rintro e w0 ⟨rfl, hb0⟩
  by_cases h0 : (2000 : Int) < (s.length : Int)
  · go_wp2_with fail
    go_ret
    exact ⟨rfl, hb0⟩
  by_cases h00 : (2000 : Int) < (r.length : Int)
  · go_wp2_with fail
    go_ret
    exact ⟨rfl, hb0⟩
  have hsl2 : s.length ≤ 2000 := by omega
  have hrl2 : r.length ≤ 2000 := by omega
  clear hrl hsl
  have N10 := new_open w0 61 (by decide) (by decide)
  go_wp2_with fail
  refine N10.mono ?_
  rintro e w1 ⟨X0, q, S0, rfl, hdr0, hpp0, hW0, hops0, har0, hdn0, hb1, hX0⟩
  have hb01 : Below w.heap.size w w1 := hb0.trans (hb1.mono hb0.size)
  have N12 := first_pa w w1 X0 q 61 S0 hdr0 hpp0 hW0 har0 hdn0 hb01 (fun k hk => Nat.le_trans hb0.size (hX0 k hk)) (by decide)
  clear N10 h0 h00
  go_wp2_with fail
  refine N12.mono ?_
  rintro e w2 ⟨v1, v2, p, t, rfl, ⟨sa6, sc6, rfl⟩, ⟨ra6, rc6, rfl⟩, hpa⟩
  clear N12 hb01 hdr0 hpp0 hW0 har0 hdn0 hX0 hb1 hb0
  have hB2 : w2.heap.size ≤ (w2.alloc (.cells #[] 5)).heap.size := by simp
  have hoA := Sl.own_empty w2 w2.heap.size (Nat.le_refl _)
  have hbA : Below w2.heap.size w2 (w2.alloc (.cells #[] 5)) := (Below.refl _ _).alloc (Nat.le_refl _) _
  generalize hwA : w2.alloc (.cells #[] 5) = wA at *
  have hrA : Sl.RdA wA (.slice sa s.length sc) s := Sl.RdA.on (Sl.RdA.on HS.out hpa.bel) hbA
  go_wp2_with (at_builtin; refine Sl.appB rfl (.tmp 40) (.tmp 41) rfl w2.heap.size _ _ [] s wA rfl hoA rfl hrA (by simp; omega) hB2 ?_)
  clear hwA
  intro v42 w42 ho42 hb42
  have hb242 : Below w2.heap.size w2 w42 := hbA.trans hb42
  go_wp2_with (at_builtin; refine Sl.appS rfl (.tmp 42) (.const (.string ⟨#[115, 112, 97, 114, 101]⟩)) rfl w2.heap.size _ s w42 ⟨#[115, 112, 97, 114, 101]⟩ rfl ho42 rfl (by show s.length + 5 ≤ _; omega) hb242.size ?_)
  intro v43 w43 ho43 hb43
  have hb243 : Below w2.heap.size w2 w43 := hb242.trans hb43
  have hoC := Sl.own_empty w43 w43.heap.size (Nat.le_refl _)
  have hbC : Below w43.heap.size w43 (w43.alloc (.cells #[] 5)) := (Below.refl _ _).alloc (Nat.le_refl _) _
  have hB43 : w43.heap.size ≤ (w43.alloc (.cells #[] 5)).heap.size := by simp
  generalize hwC : w43.alloc (.cells #[] 5) = wC at *
  have hrC : Sl.RdA wC (.slice ra r.length rc) r := Sl.RdA.on (Sl.RdA.on (Sl.RdA.on HR.out hpa.bel) hb243) hbC
  go_wp2_with (at_builtin; refine Sl.appB rfl (.tmp 44) (.tmp 45) rfl w43.heap.size _ _ [] r wC rfl hoC rfl hrC (by simp; omega) hB43 ?_)
  clear hwC
  intro v46 w46 ho46 hb46
  have hb4346 : Below w43.heap.size w43 w46 := hbC.trans hb46
  go_wp2_with (at_builtin; refine Sl.appS rfl (.tmp 46) (.const (.string ⟨#[115, 112, 97, 114, 101]⟩)) rfl w43.heap.size _ r w46 ⟨#[115, 112, 97, 114, 101]⟩ rfl ho46 rfl (by show r.length + 5 ≤ _; omega) hb4346.size ?_)
  intro v47 w47 ho47 hb47
  have hb4347 : Below w43.heap.size w43 w47 := hb4346.trans hb47
  have hb247 : Below w2.heap.size w2 w47 := hb243.trans (hb4347.mono hb243.size)
  have hpa47 : PA w w47 X0 p t q 61 S0 0 [] [] := hpa.on hb247
  have hx2 := hpa.ps.d.xlt
  have hpw2 := hpa.bel.size
  have hp2 := hpa.ps.pr.lt
  obtain ⟨gs, cs, curs, rfl, hgs2, hgs, hgsz, hgsc, hrs⟩ := own_blk ho43 (by simp)
  obtain ⟨gr, cr, curr, rfl, hgr2, hgr, hgrz, hgrc, hrr⟩ := own_blk ho47 (by simp)
  have hgsl : gs < w43.heap.size := (Array.getElem?_eq_some_iff.1 hgs).1
  have hgrl : gr < w47.heap.size := (Array.getElem?_eq_some_iff.1 hgr).1
  have hgs47 := (hb4347.block gs hgsl).trans hgs
  have hrs47 := range_on hrs (hb4347.block gs hgsl)
  have hsz47 := hb4347.size
  have hsz243 := hb243.size
  have els : (s ++ [115, 112, 97, 114, 101]).length = s.length + 5 := by simp
  have elr : (r ++ [115, 112, 97, 114, 101]).length = r.length + 5 := by simp
  have HX1 : Hid (w47.rangeAt gs 0 (byteCells (s ++ [115, 112, 97, 114, 101]))) := hrs47
  have HX2 : Hid (w47.rangeAt gr 0 (byteCells (r ++ [115, 112, 97, 114, 101]))) := hrr
  have hspn : spanN 61 = 30 := rfl
  have htks : takesN s.length ≤ 9 := by unfold takesN; omega
  have N16 := save_pa w w47 X0 p t q 61 S0 0 [] [] hpa47 (by omega) s (.slice (some ⟨gs, 0, none⟩) s.length cs) (sl_range (range_take hrs47) (by omega)) (by omega) (by omega)
  clear hrs hrr hrs47 ho42 hb42 hb242 hoC hbC hB43 hrC ho46 hb46 hb4346 ho47 hb47 ho43 hb43 hoA hbA hrA hB2 hgs hb4347 hb243 hpa47 hpa hb247
  rw [els] at hgsz hgsc ⊢
  rw [elr] at hgrz hgrc ⊢
  go_wp2_with fail
  refine N16.mono ?_
  rintro e w5 ⟨rfl, X5, S5, t5, hp5, ho5, _, hX5, ht5, hst5⟩
  have hks : gs < w47.heap.size := by omega
  have hns : ¬ (X0 gs ∨ gs = p) := fun h => by
    rcases h with h | h
    · have := hx2 gs h; omega
    · omega
  have hnr : ¬ (X0 gr ∨ gr = p) := fun h => by
    rcases h with h | h
    · have := hx2 gr h; omega
    · omega
  have hgs5 := (hst5.block gs hks hns).trans hgs47
  have hgr5 := (hst5.block gr hgrl hnr).trans hgr
  have hx5s : ¬ (X5 gs ∨ gs = t5) := fun h => by
    rcases h with h | h
    · rcases hX5 gs h with h | h
      · exact hns (.inl h)
      · omega
    · omega
  have hx5r : ¬ (X5 gr ∨ gr = t5) := fun h => by
    rcases h with h | h
    · rcases hX5 gr h with h | h
      · exact hnr (.inl h)
      · omega
    · omega
  have HY1 : Hid (w5.rangeAt gs 0 (byteCells (s ++ [115, 112, 97, 114, 101]))) := range_on HX1.out (hst5.block gs hks hns)
  have HY2 : Hid (w5.rangeAt gr 0 (byteCells (r ++ [115, 112, 97, 114, 101]))) := range_on HX2.out (hst5.block gr hgrl hnr)
  have hpl : tot ([] : List (List UInt8)) + (12 + r.length) ≤ (spanN 61 - takesN s.length) * 256 := by rw [hspn]; simp [tot]; omega
  have N14 := append_pa w w5 X5 p t5 q 61 S5 (1 - 0) s [] hp5 (by omega) (by decide) r (.slice (some ⟨gr, 0, none⟩) r.length cr) (sl_range (range_take HY2.out) (by omega)) (by omega) hpl
  have hl5s : gs < w5.heap.size := (Array.getElem?_eq_some_iff.1 hgs5).1
  have hl5r : gr < w5.heap.size := (Array.getElem?_eq_some_iff.1 hgr5).1
  clear N16 HX1 HX2 hst5 hgs47 hgr hpl hp5
  go_wp2_with fail
  refine N14.mono ?_
  rintro e w6 ⟨rfl, X6, S6, hp6, ho6, _, hX6, hst6⟩
  have hgs6 := (hst6.block gs hl5s hx5s).trans hgs5
  have hgr6 := (hst6.block gr hl5r hx5r).trans hgr5
  have hnz : ∀ g, g < w5.heap.size → g ≠ p → ¬ (X5 g ∨ g = t5) → ¬ ZP' X6 p t5 g := fun g h1 h2 h3 h4 => by
    rcases h4 with h4 | h4 | h4
    · rcases hX6 g h4 with h | h
      · exact h3 (.inl h)
      · omega
    · exact h2 h4
    · exact h3 (.inr h4)
  have hzs : ¬ ZP' X6 p t5 gs := hnz gs hl5s (by omega) hx5s
  have hzr : ¬ ZP' X6 p t5 gr := hnz gr hl5r (by omega) hx5r
  have c1 : (convert 30 9 (.slice (some ⟨gs, 0, none⟩) (s.length + 5) cs)).run Try.prog w6 = .ok (.string ⟨(s ++ [115, 112, 97, 114, 101]).toArray⟩) w6 := by
    have := convA (sl_range (c := cs) (range_on HY1.out (hst6.block gs hl5s hx5s)) (by rw [els]; omega))
    rwa [els] at this
  have c2 : (convert 30 9 (.slice (some ⟨gr, 0, none⟩) (r.length + 5) cr)).run Try.prog w6 = .ok (.string ⟨(r ++ [115, 112, 97, 114, 101]).toArray⟩) w6 := by
    have := convA (sl_range (c := cr) (range_on HY2.out (hst6.block gr hl5r hx5r)) (by rw [elr]; omega))
    rwa [elr] at this
  have c3 := convA (Sl.RdA.on HS.out hp6.bel)
  have c4 := convA (Sl.RdA.on HR.out hp6.bel)
  have hgnb : ∀ l : List UInt8, (⟨(l ++ [115, 112, 97, 114, 101]).toArray⟩ : ByteArray) = ⟨l.toArray⟩ ++ ⟨#[115, 112, 97, 114, 101]⟩ := fun l => by
    apply ByteArray.ext
    simp
  rw [hgnb] at c1 c2
  clear hgnb N14 HY1 HY2 hst6 hgs5 hgr5
  have zS : ¬ 9223372036854775807 < (⟨s.toArray⟩ : ByteArray).size + 5 := by
    have : (⟨s.toArray⟩ : ByteArray).size = s.length := rfl
    omega
  have zR : ¬ 9223372036854775807 < (⟨r.toArray⟩ : ByteArray).size + 5 := by
    have : (⟨r.toArray⟩ : ByteArray).size = r.length := rfl
    omega
  generalize (⟨s.toArray⟩ : ByteArray) = cS at *
  generalize (⟨r.toArray⟩ : ByteArray) = cR at *
  go_wp2_with fail
  clear zS zR c1 c2 c3 c4 hnz
  have hgsw : w.heap.size ≤ gs := Nat.le_trans hpw2 hgs2
  have hgrw : w.heap.size ≤ gr := by omega
  go_loopw [82] (fun i wr => ∃ (k : Nat) (cur : Array Value), k ≤ (s.length + 5) ∧ i = .int .i64 k ∧ wr.heap[gs]? = some (.cells cur 5 (0, 0)) ∧ (s.length + 5) ≤ cur.size ∧ Step (fun j => j = gs) (fun j => j = gs) w6 wr) (fun i _ => (s.length + 5) - (RowKit.intOf i).toNat)
  case atStart => exact ⟨0, _, by omega, rfl, hgs6, hgsz, Step.refl _ _⟩
  case round =>
    obtain ⟨k, cur, hk, rfl, hgk, hck, hsk⟩ := hrel
    by_cases hlk : k < (s.length + 5)
    · have hcl : wr.cell? ⟨gs, k, none⟩ = some cur[k] := by rw [cell_of_row _ _ _ _ _ _ hgk]; simp
      have hfz := frozen_of_row _ _ k _ _ hgk
      have hnew : (wr.setCell ⟨gs, k, none⟩ (.int .u8 0)).heap[gs]? = some (.cells (cur.setIfInBounds k (.int .u8 0)) 5 (0, 0)) := heap_setCell_same _ _ _ _ _ _ hgk
      have HST : Hid (Step (fun j => j = gs) (fun j => j = gs) w6 (wr.setCell ⟨gs, k, none⟩ (.int .u8 0))) := Step.set hsk (a := ⟨gs, k, none⟩) rfl _
      go_wp2_with fail
      exact ⟨⟨k + 1, _, by omega, by go_num, hnew, by simp; omega, HST.out⟩, by simp [RowKit.intOf]; omega⟩
    · skip
      have hzr7 : wr.heap[gr]? = some (.cells curr 5 (0, 0)) := (hsk.block gr (Array.getElem?_eq_some_iff.1 hgr6).1 (by omega)).trans hgr6
      have hp7 := PA.step hp6 hsk (fun j hj => by rw [hj]; exact hgsw) (fun j hj => by rw [hj]; exact hzs)
      generalize wr = w7 at *
      go_wp2_with fail
      go_loopw [91] (fun i wr => ∃ (k : Nat) (cur : Array Value), k ≤ (r.length + 5) ∧ i = .int .i64 k ∧ wr.heap[gr]? = some (.cells cur 5 (0, 0)) ∧ (r.length + 5) ≤ cur.size ∧ Step (fun j => j = gr) (fun j => j = gr) w7 wr) (fun i _ => (r.length + 5) - (RowKit.intOf i).toNat)
      case atStart => exact ⟨0, _, by omega, rfl, hzr7, hgrz, Step.refl _ _⟩
      case round =>
        obtain ⟨k, cur, hk, rfl, hgk, hck, hsk⟩ := hrel
        by_cases hlk : k < (r.length + 5)
        · have hcl : wr.cell? ⟨gr, k, none⟩ = some cur[k] := by rw [cell_of_row _ _ _ _ _ _ hgk]; simp
          have hfz := frozen_of_row _ _ k _ _ hgk
          have hnew : (wr.setCell ⟨gr, k, none⟩ (.int .u8 0)).heap[gr]? = some (.cells (cur.setIfInBounds k (.int .u8 0)) 5 (0, 0)) := heap_setCell_same _ _ _ _ _ _ hgk
          have HST : Hid (Step (fun j => j = gr) (fun j => j = gr) w7 (wr.setCell ⟨gr, k, none⟩ (.int .u8 0))) := Step.set hsk (a := ⟨gr, k, none⟩) rfl _
          go_wp2_with fail
          exact ⟨⟨k + 1, _, by omega, by go_num, hnew, by simp; omega, HST.out⟩, by simp [RowKit.intOf]; omega⟩
        · have hp8 : PA w wr X6 p t5 q 61 S6 (1 - 0) s [r] := PA.step hp7 hsk (fun j hj => by rw [hj]; exact hgrw) (fun j hj => by rw [hj]; exact hzr)
          clear hgk hck hsk hp7
          generalize wr = w8 at *
          have N31 := ops_pa w w8 X6 p t5 q 61 S6 (1 - 0) s [r] hp8
          have N12 := open_pa w w8 X6 p t5 q 61 S6 (1 - 0) s [r] hp8 (by decide) (by simp)
          go_wp2_with (first | (go_at_call 31; refine N31.mono ?_; rintro e w9 ⟨rfl, hw9⟩; have hw9 := hw9.symm; subst hw9))
          refine N12.mono ?_
          rintro e w9 ⟨vb, vl, p9, t9, rfl, hp9', ht9', hsv, hrec, hp9, _, hb89⟩
          obtain ⟨vals, hov, hbv, hrv⟩ := hrec
          obtain ⟨u, hu, gl, rfl, hglB, hglh⟩ := hrv 0 r rfl
          obtain ⟨gv, cv, hve, hcv⟩ := own_cell' hov hu (by simp)
          have hve : vl = .slice (some ⟨gv, 0, none⟩) 1 cv := hve
          subst hve
          have hgvB : w8.heap.size ≤ gv := hbv gv rfl
          obtain ⟨cgv, hgvh⟩ := own_ne hov (k := gv) rfl
          have hsr := hsv.rd
          obtain ⟨ba, bc, rfl⟩ := hsv.shape
          have hbw9 := hp9.bel
          have k1m : ∀ m, (convert 30 9 (.slice sa s.length sc)).run Try.prog (w9.drewN m) = .ok (.string ⟨s.toArray⟩) (w9.drewN m) := fun m => convA (Sl.RdA.on (Sl.RdA.on HS.out hbw9) ⟨rfl, rfl, rfl, Nat.le_refl _, fun _ _ => rfl⟩)
          have k2m : ∀ m, (convert 30 9 (.slice ra r.length rc)).run Try.prog (w9.drewN m) = .ok (.string ⟨r.toArray⟩) (w9.drewN m) := fun m => convA (Sl.RdA.on (Sl.RdA.on HR.out hbw9) ⟨rfl, rfl, rfl, Nat.le_refl _, fun _ _ => rfl⟩)
          have k3m : ∀ m, (convert 30 9 (.slice ba s.length bc)).run Try.prog (w9.drewN m) = .ok (.string ⟨s.toArray⟩) (w9.drewN m) := fun m => convA (Sl.RdA.on hsr ⟨rfl, rfl, rfl, Nat.le_refl _, fun _ _ => rfl⟩)
          have k4m : ∀ m, (convert 30 9 (.slice (some ⟨gl, 0, none⟩) r.length r.length)).run Try.prog (w9.drewN m) = .ok (.string ⟨r.toArray⟩) (w9.drewN m) := fun m => convA (sl_range (range_of_block (w := w9.drewN m) hglh) (Nat.le_refl _))
          have k5m : ∀ m, (w9.drewN m).cell? ⟨gv, 0, none⟩ = some (.slice (some ⟨gl, 0, none⟩) r.length r.length) := fun m => hcv
          have K1 : Hid (∀ m, (convert 30 9 (.slice sa s.length sc)).run Try.prog (w9.drewN m) = .ok (.string ⟨s.toArray⟩) (w9.drewN m)) := k1m
          have K2 : Hid (∀ m, (convert 30 9 (.slice ra r.length rc)).run Try.prog (w9.drewN m) = .ok (.string ⟨r.toArray⟩) (w9.drewN m)) := k2m
          have K3 : Hid (∀ m, (convert 30 9 (.slice ba s.length bc)).run Try.prog (w9.drewN m) = .ok (.string ⟨s.toArray⟩) (w9.drewN m)) := k3m
          have K4 : Hid (∀ m, (convert 30 9 (.slice (some ⟨gl, 0, none⟩) r.length r.length)).run Try.prog (w9.drewN m) = .ok (.string ⟨r.toArray⟩) (w9.drewN m)) := k4m
          have K5 : Hid (∀ m, (w9.drewN m).cell? ⟨gv, 0, none⟩ = some (.slice (some ⟨gl, 0, none⟩) r.length r.length)) := k5m
          have HSV : Hid _ := hsv
          have HOV : Hid _ := hov
          clear k1m k2m k3m k4m k5m hsr hsv hov hrv hbv hu hcv N31 N12
          obtain ⟨gb, hgbw, hgbz, hba, hfull⟩ : ∃ gb, w.heap.size ≤ gb ∧ ¬ ZP' X6 p t5 gb ∧ (0 < s.length → ba = some ⟨gb, 12, none⟩) ∧ (0 < s.length → ∃ cur, w9.heap[gb]? = some (.cells cur 5 (0, 0)) ∧ 12 + s.length ≤ cur.size) := by
            have hx8 := hp8.ps.d.xlt
            have hpl8 := hp8.ps.pr.lt
            have htl8 := hp8.ps.tp.lt
            have hw8s := hp8.bel.size
            rcases HSV.out with ⟨he, hs0⟩ | ⟨g, c, full, he, h1, h2, h3, h4⟩
            · exact ⟨gs, hgsw, hzs, fun h => by rw [hs0] at h; simp at h, fun h => by rw [hs0] at h; simp at h⟩
            · refine ⟨g, by omega, fun hz => ?_, fun _ => by cases he; rfl, fun hl => ⟨full, h3, ?_⟩⟩
              · rcases hz with hz | hz | hz
                · have := hx8 g hz; omega
                · omega
                · omega
              · have hlast := h4 (s.length - 1) (.int .u8 ((s.getD (s.length - 1) 0).toNat : Int)) (by simp [byteCells, List.getElem?_eq_getElem (show s.length - 1 < s.length by omega)])
                rw [cell_of_row _ _ _ _ _ _ h3] at hlast
                have := (Array.getElem?_eq_some_iff.1 hlast).1
                omega
          have hglz : ¬ ZP' X6 p t5 gl := fun hz => by
            rcases hz with hz | hz | hz
            · have := hp8.ps.d.xlt gl hz; omega
            · have := hp8.ps.pr.lt; omega
            · have := hp8.ps.tp.lt; omega
          have hglw : w.heap.size ≤ gl := Nat.le_trans hp8.bel.size hglB
          have HBA : Hid _ := hba
          have HFU : Hid _ := hfull
          clear hba hfull HSV
          go_upto_region 24 with fail
          have k1m := K1.out
          have k2m := K2.out
          have k3m := K3.out
          have k4m := K4.out
          have k5m := K5.out
          generalize (⟨s.toArray⟩ : ByteArray) = cS at *
          generalize (⟨r.toArray⟩ : ByteArray) = cR at *
          go_quiet (fail)
          have hbq : Below w9.heap.size w9 (w9.drewN nq) := ⟨rfl, rfl, rfl, Nat.le_refl _, fun _ _ => rfl⟩
          have hp10 := hp9.on hbq
          have hgl10 : (w9.drewN nq).heap[gl]? = some (.cells (byteCells r).toArray 5 (0, 0)) := hglh
          have hfu10 : 0 < s.length → ∃ cur, (w9.drewN nq).heap[gb]? = some (.cells cur 5 (0, 0)) ∧ 12 + s.length ≤ cur.size := HFU.out
          have hgv10 : (w9.drewN nq).heap[gv]? = some (.cells cgv 30 (0, 0)) := hgvh
          have hcv10 := k5m nq
          clear k1m k2m k3m k4m k5m K1 K2 K3 K4 K5 HFU hbq hglh hgvh hp9 hp8 HOV
          generalize w9.drewN nq = w10 at *
          go_wp2_with fail
          go_loopw [132] (fun i wr => ∃ (k : Nat) (curl : Array Value), k ≤ s.length ∧ i = .int .i64 k ∧ (0 < s.length → ∃ cur, wr.heap[gb]? = some (.cells cur 5 (0, 0)) ∧ 12 + s.length ≤ cur.size) ∧ wr.heap[gl]? = some (.cells curl 5 (0, 0)) ∧ r.length ≤ curl.size ∧ wr.heap[gv]? = some (.cells cgv 30 (0, 0)) ∧ Step (fun j => j = gb) (fun j => j = gb) w10 wr) (fun i _ => s.length - (RowKit.intOf i).toNat)
          case atStart => exact ⟨0, _, by omega, rfl, hfu10, hgl10, by simp [byteCells], hgv10, Step.refl _ _⟩
          case round =>
            obtain ⟨k, curl, hk, rfl, hfk, hlk, hlz, hvk, hsk⟩ := hrel
            by_cases hlt : k < s.length
            · have hbe := HBA.out (by omega)
              subst hbe
              obtain ⟨cur, hgk, hck⟩ := hfk (by omega)
              have hcl : wr.cell? ⟨gb, 12 + k, none⟩ = some cur[12 + k] := by rw [cell_of_row _ _ _ _ _ _ hgk]; simp
              have hfz := frozen_of_row _ _ (12 + k) _ _ hgk
              have hnew : (wr.setCell ⟨gb, 12 + k, none⟩ (.int .u8 9)).heap[gb]? = some (.cells (cur.setIfInBounds (12 + k) (.int .u8 9)) 5 (0, 0)) := heap_setCell_same _ _ _ _ _ _ hgk
              have hoth : ∀ g, g ≠ gb → (wr.setCell ⟨gb, 12 + k, none⟩ (.int .u8 9)).heap[g]? = wr.heap[g]? := fun g hg => heap_setCell_other _ _ _ _ hg
              have hgvb : gv ≠ gb := ne_type hvk hgk (by decide)
              have hv' := (hoth gv hgvb).trans hvk
              obtain ⟨curl', hl', hlz'⟩ : ∃ curl', (wr.setCell ⟨gb, 12 + k, none⟩ (.int .u8 9)).heap[gl]? = some (.cells curl' 5 (0, 0)) ∧ r.length ≤ curl'.size := by
                by_cases hgg : gl = gb
                · rw [hgg] at hlk ⊢
                  rw [hlk] at hgk
                  cases hgk
                  exact ⟨_, hnew, by simp; omega⟩
                · exact ⟨curl, (hoth gl hgg).trans hlk, hlz⟩
              have HST : Hid (Step (fun j => j = gb) (fun j => j = gb) w10 (wr.setCell ⟨gb, 12 + k, none⟩ (.int .u8 9))) := Step.set hsk (a := ⟨gb, 12 + k, none⟩) rfl _
              clear hoth hlk hvk hsk hgk hfk
              go_wp2_with fail
              exact ⟨⟨k + 1, curl', by omega, by go_num, fun _ => ⟨_, hnew, by simp; omega⟩, hl', hlz', hv', HST.out⟩, by simp [RowKit.intOf]; omega⟩
            · have hp11 := PA.step hp10 hsk (fun j hj => by rw [hj]; exact hgbw) (fun j hj => by rw [hj]; exact hgbz)
              have hcv11 : wr.cell? ⟨gv, 0, none⟩ = some (.slice (some ⟨gl, 0, none⟩) r.length r.length) := by
                have e1 := hcv10
                rw [cell_of_row _ _ _ _ _ _ hgv10] at e1
                rw [cell_of_row _ _ _ _ _ _ hvk]
                exact e1
              clear hsk hfk HBA
              generalize wr = w11 at *
              have hgvgl : gv ≠ gl := ne_type hvk hlk (by decide)
              go_wp2_with fail
              go_loopw [143] (fun i wr => ∃ (k : Nat) (curl : Array Value), k ≤ r.length ∧ i = .int .i64 k ∧ wr.heap[gl]? = some (.cells curl 5 (0, 0)) ∧ r.length ≤ curl.size ∧ wr.cell? ⟨gv, 0, none⟩ = some (.slice (some ⟨gl, 0, none⟩) r.length r.length) ∧ Step (fun j => j = gl) (fun j => j = gl) w11 wr) (fun i _ => r.length - (RowKit.intOf i).toNat)
              case atStart => exact ⟨0, _, by omega, rfl, hlk, hlz, hcv11, Step.refl _ _⟩
              case round =>
                clear hcv11 hlk hlz
                obtain ⟨k2, curl, hk2, rfl, hlk, hlz, hcv11, hsk⟩ := hrel
                by_cases hlt2 : k2 < r.length
                · have hcl : wr.cell? ⟨gl, k2, none⟩ = some curl[k2] := by rw [cell_of_row _ _ _ _ _ _ hlk]; simp
                  have hfz := frozen_of_row _ _ k2 _ _ hlk
                  have hnew : (wr.setCell ⟨gl, k2, none⟩ (.int .u8 9)).heap[gl]? = some (.cells (curl.setIfInBounds k2 (.int .u8 9)) 5 (0, 0)) := heap_setCell_same _ _ _ _ _ _ hlk
                  have hv' : (wr.setCell ⟨gl, k2, none⟩ (.int .u8 9)).cell? ⟨gv, 0, none⟩ = some (.slice (some ⟨gl, 0, none⟩) r.length r.length) := by
                    rw [World.cell?_setCell_other _ _ _ _ (by simp)]; exact hcv11
                  have HST : Hid (Step (fun j => j = gl) (fun j => j = gl) w11 (wr.setCell ⟨gl, k2, none⟩ (.int .u8 9))) := Step.set hsk (a := ⟨gl, k2, none⟩) rfl _
                  have HNV : Hid _ := hv'
                  clear hsk hlk hv'
                  go_wp2_with fail
                  exact ⟨⟨k2 + 1, _, by omega, by go_num, hnew, by simp; omega, HNV.out, HST.out⟩, by simp [RowKit.intOf]; omega⟩
                · have hp12 := PA.step hp11 hsk (fun j hj => by rw [hj]; exact hglw) (fun j hj => by rw [hj]; exact hglz)
                  clear hsk hlk hcv11
                  generalize wr = w12 at *
                  have N12 := open_pa w w12 X6 p t5 q 61 S6 (1 - 0) s [r] hp12 (by decide) (by simp)
                  go_wp2_with fail
                  refine N12.mono ?_
                  rintro e w13 ⟨vb, vl, p13, t13, rfl, _, _, hsv, hrec, hp13, _, hb1213⟩
                  obtain ⟨vals, hov, hbv, hrv⟩ := hrec
                  obtain ⟨u, hu, gl2, rfl, hglB2, hglh2⟩ := hrv 0 r rfl
                  obtain ⟨gv2, cv2, hve, hcv2⟩ := own_cell' hov hu (by simp)
                  have hve : vl = .slice (some ⟨gv2, 0, none⟩) 1 cv2 := hve
                  subst hve
                  have hsr := hsv.rd
                  obtain ⟨ba2, bc2, rfl⟩ := hsv.shape
                  have hbw13 := hp13.bel
                  have hdm : ∀ m, Below w13.heap.size w13 (w13.drewN m) := fun m => ⟨rfl, rfl, rfl, Nat.le_refl _, fun _ _ => rfl⟩
                  have K1 : Hid (∀ m, (convert 30 9 (.slice sa s.length sc)).run Try.prog (w13.drewN m) = .ok (.string ⟨s.toArray⟩) (w13.drewN m)) := fun m => convA (Sl.RdA.on (Sl.RdA.on HS.out hbw13) (hdm m))
                  have K2 : Hid (∀ m, (convert 30 9 (.slice ra r.length rc)).run Try.prog (w13.drewN m) = .ok (.string ⟨r.toArray⟩) (w13.drewN m)) := fun m => convA (Sl.RdA.on (Sl.RdA.on HR.out hbw13) (hdm m))
                  have K3 : Hid (∀ m, (convert 30 9 (.slice ba2 s.length bc2)).run Try.prog (w13.drewN m) = .ok (.string ⟨s.toArray⟩) (w13.drewN m)) := fun m => convA (Sl.RdA.on hsr (hdm m))
                  have K4 : Hid (∀ m, (convert 30 9 (.slice (some ⟨gl2, 0, none⟩) r.length r.length)).run Try.prog (w13.drewN m) = .ok (.string ⟨r.toArray⟩) (w13.drewN m)) := fun m => convA (sl_range (range_of_block (w := w13.drewN m) hglh2) (Nat.le_refl _))
                  have K5 : Hid (∀ m, (w13.drewN m).cell? ⟨gv2, 0, none⟩ = some (.slice (some ⟨gl2, 0, none⟩) r.length r.length)) := fun m => hcv2
                  have N31 : ∀ m, Calls Try.prog 31 #[.pointer (some ⟨q, 0, none⟩)] (w13.drewN m) fun e w' => e = .returned (.int .i64 (S6.ops : Int)) ∧ w' = w13.drewN m := fun m => ops_pa w (w13.drewN m) X6 p t5 q 61 S6 (1 - 0) s [r] (hp13.on (hdm m))
                  have HFIN : Hid (∀ m, Below w.heap.size w (w13.drewN m)) := fun m => hbw13.trans ((hdm m).mono hbw13.size)
                  have HN31 : Hid (∀ m, Calls Try.prog 31 #[.pointer (some ⟨q, 0, none⟩)] (w13.drewN m) fun e w' => e = .returned (.int .i64 (S6.ops : Int)) ∧ w' = w13.drewN m) := N31
                  clear hsr hsv hov hrv hbv hu hcv2 N12 hdm N31
                  go_upto_region 37 with fail
                  have k1m := K1.out
                  have k2m := K2.out
                  have k3m := K3.out
                  have k4m := K4.out
                  have k5m := K5.out
                  generalize (⟨s.toArray⟩ : ByteArray) = dS at *
                  generalize (⟨r.toArray⟩ : ByteArray) = dR at *
                  go_quiet ((go_at_call 31; exact Calls.quiet_of_same (HN31.out _)))
                  go_wp2
                  go_ret
                  exact ⟨rfl, HFIN.out _⟩
end Go.Proofs.Ythgkkmcpmhfehaa

namespace Go.Proofs.Ythgkkmcpmhfehaa
open Go.ChangeShapes Go.WideShapes Go.ChangeAt Go.RowKit Go.Lib
set_option maxRecDepth 100000

theorem keeps_contract (H : Type) (enc : TypeId × Value → H) (W : World) (base : Nat) (args : Array Value) (ds gs : List (DataW H)) (before : List MemPlace)
    (hval : ∀ (j : Nat) t v, Try.f6.params[j]? = some t → args[j]? = some v → Value.okWide Try.prog W .any base t v)
    (hW : DataW.Whole enc Try.prog Try.f6.params.toList Rows.pairKeepsSpec.vars false W args.toList ds gs before)
    (hsz0 : (DataW.weightsEach Try.prog (Try.f6.params.toList ++ Rows.pairKeepsSpec.plain.varTypes Try.prog) (ds ++ gs)).all (· ≤ reachBytes) = true) :
    Calls Try.prog 6 args W fun e W' => ∃ v, e = .returned v ∧ Rows.pairKeepsSpec.post enc Try.prog Try.f6 false true false false W args v W' := by
  have hW' := hW
  obtain ⟨p, q, hA0, hV, rfl, hfz, hnd⟩ := hW
  have hA : DataW.TrodAll enc Try.prog W 0 (fun _ => true) true Try.f6.params.toList args.toList ds p := hA0
  have hsz := hsz0
  rw [Try.params6] at hA hval hsz
  obtain ⟨v0, vs0, d0, ds0, p0, q0, hargs, rfl, rfl, h0, r0⟩ := trodAll_cons hA
  obtain ⟨v1, vs1, d1, ds1, p1, q1, rfl, rfl, rfl, h1, r1⟩ := trodAll_cons r0
  obtain ⟨rfl, rfl, rfl⟩ := trodAll_nil r1
  obtain rfl : args = #[v0, v1] := by cases args; simp_all
  obtain ⟨rfl, rfl⟩ := trodVars_none hV
  obtain ⟨a0, len0, cap0, rfl⟩ := okWide_slice Try.underlying30 (hval 0 30 v0 rfl rfl)
  have lt0 : ∀ x ∈ p0, x.block < W.heap.size := by obtain ⟨m, hm⟩ := h0; exact DataW.trod_lt m _ _ _ hm
  obtain ⟨x0, hx0, hr0, hb0⟩ := rd_bytes h0
  have b0 : x0.length ≤ 140737488355328 := by
    rcases hb0 with h | ⟨E, S, rfl, h⟩
    · omega
    · have := sized_slice hsz (j := 0) (t := 30) (e := 5) rfl rfl Try.underlying30
      rw [bytes5] at this
      simp only [reachBytes] at this
      omega
  obtain ⟨a1, len1, cap1, rfl⟩ := okWide_slice Try.underlying30 (hval 1 30 v1 rfl rfl)
  have lt1 : ∀ x ∈ p1, x.block < W.heap.size := by obtain ⟨m, hm⟩ := h1; exact DataW.trod_lt m _ _ _ hm
  obtain ⟨x1, hx1, hr1, hb1⟩ := rd_bytes h1
  have b1 : x1.length ≤ 140737488355328 := by
    rcases hb1 with h | ⟨E, S, rfl, h⟩
    · omega
    · have := sized_slice hsz (j := 1) (t := 30) (e := 5) rfl rfl Try.underlying30
      rw [bytes5] at this
      simp only [reachBytes] at this
      omega
  refine (keeps_any W _ _ _ _ hr0 hr1 b0 b1).mono fun e W' ⟨he, bel⟩ => ?_
  subst he
  exact ⟨_, rfl, _, _, _, [], _, [], hW', trodAll_mk1 (shut_bool Try.underlying4 _), (trodAll_cons_mk (Below.trod laidOut (by kernel_rfl) (of_decide_eq_true (by kernel_rfl)) h0 bel lt0) (trodAll_cons_mk (Below.trod laidOut (by kernel_rfl) (of_decide_eq_true (by kernel_rfl)) h1 bel lt1) trodAll_mk0)), rfl, bel.frame _, fun h => by cases h⟩

set_option maxRecDepth 100000 in
theorem keeps_lifted (os : Os) (started : os.Started) (H : Type) (enc : TypeId × Value → H) :
    ReturnsInHanded {} Try.checked os 6 .any (Rows.pairKeepsSpec.pre6 enc Try.prog Try.f6 Rows.pairKeepsRow.domain false) (Rows.pairKeepsSpec.post enc Try.prog Try.f6 false true false false) := by
  refine returnsInHanded_of_change_sized (C := Try.checked) own started (by kernel_rfl) Try.func6
    (ChangeSpec.witness6 (enc := enc) (C := Try.checked) false ⟨#[], #[.slice none 0 0, .slice none 0 0], []⟩ 8 (by kernel_rfl) (by kernel_rfl) (by kernel_rfl) (by kernel_rfl)) ?_
  intro W base args ds gs before hval hW _ hsz _
  exact keeps_contract H enc W base args ds gs before hval hW hsz

theorem pairKeeps_said : Rows.PairKeepsSaid :=
  OpenClaim.holds_of_wide 6 Try.f6 rfl rfl rfl rfl rfl rfl rfl ⟨rfl, rfl, rfl, rfl, rfl⟩ rfl rfl rfl rfl rfl (by kernel_rfl) Try.func6 (by kernel_rfl)
    (of_decide_eq_true (by kernel_rfl)) (by unfold Func.isWrapper; first | (rw [if_pos (by decide +kernel)]; kernel_rfl) | (rw [if_neg (by decide +kernel)]; exact ⟨rfl, rfl⟩))
    (fun os started H enc _ => keeps_lifted os started H enc)
#print axioms pairKeeps_said
end Go.Proofs.Ythgkkmcpmhfehaa
