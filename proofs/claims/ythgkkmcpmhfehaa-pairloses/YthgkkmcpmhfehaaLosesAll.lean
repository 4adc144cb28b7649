/- For every list of records and snapshots and of places where the power goes, trivetlaw05.PairLoses answers true and leaves its arguments as they were, with no condition. -/
import Derived.Test.YthgkkmcpmhfehaaPo
import Derived.Lib.SlBytesConst
import Derived.Test.YthgkkmcpmhfehaaOd
import Derived.BigQuiet
namespace Go.Proofs.Ythgkkmcpmhfehaa
open Go.RowKit Go.Lib Go.Shelf
set_option maxRecDepth 100000
set_option linter.unusedSimpArgs false

set_option maxHeartbeats 2000000 in
theorem sframe_any (w : World) (v : Value) (r : List UInt8) (h : Sl.RdA w v r) (hl : r.length ≤ 1048576) :
    Calls Try.prog 33 #[v] w fun e w' => ∃ v', e = .returned v' ∧ Sl.Own w' w.heap.size v' (snB r) ∧ Below w.heap.size w w' := by
  obtain ⟨a, k, rfl⟩ := h.len
  have HR : Hid _ := h
  clear h
  have d0 : ((r.length : Nat) : Int).tdiv 16777216 = (r.length : Int) / 16777216 := Int.tdiv_eq_ediv_of_nonneg (by omega)
  have d1 : ((r.length : Nat) : Int).tdiv 65536 = (r.length : Int) / 65536 := Int.tdiv_eq_ediv_of_nonneg (by omega)
  have d2 : ((r.length : Nat) : Int).tdiv 256 = (r.length : Int) / 256 := Int.tdiv_eq_ediv_of_nonneg (by omega)
  have d3 : ((r.length : Int) / 256).tmod 256 = (r.length : Int) / 256 % 256 := Int.tmod_eq_emod_of_nonneg (by omega)
  have d5 : ((r.length : Int) / 65536).tmod 256 = (r.length : Int) / 65536 := by rw [Int.tmod_eq_emod_of_nonneg (by omega)]; omega
  have d4 : ((r.length : Nat) : Int).tmod 256 = (r.length : Int) % 256 := Int.tmod_eq_emod_of_nonneg (by omega)
  go_enter Try.func33, Try.ntmps33
  go_wp2_with fail
  rw [head4_cells r.length hl]
  have hb1 : Below w.heap.size w (w.alloc (.cells (byteCells (be4 r.length)).toArray 5)) := (Below.refl _ _).alloc (Nat.le_refl _) _
  have hh1 : (w.alloc (.cells (byteCells (be4 r.length)).toArray 5)).heap[w.heap.size]? = some (.cells (byteCells (be4 r.length)).toArray 5 (0, 0)) := heap_alloc_new w _
  generalize w.alloc (.cells (byteCells (be4 r.length)).toArray 5) = w1 at hb1 hh1 ⊢
  have hr1 : Sl.RdA w1 (.slice a r.length k) r := Sl.RdA.on HR.out hb1
  have h4 : Sl.RdA w1 (.slice (some ⟨w.heap.size, 0, none⟩) 4 4) (be4 r.length) := by
    have := sl_range (c := 4) (range_cut hh1 0 4) (by simp [be4])
    simpa [be4] using this
  have N1 := Sl.refof_any w1 r.length _ r hr1 (by omega)
  change Calls Try.prog 57 _ w1 (fun e w' => e = .returned (.int .u64 (sumS r : Nat)) ∧ w' = w1) at N1
  have N2 := Sl.refput_any w1 _ (be4 r.length) (sumS r) (sumS_lt r) h4 (by simp [be4])
  have hfr : Hid (snB r = be4 r.length ++ Sl.be8 (sumS r) ++ r) := rfl
  have hl8 : (be4 r.length ++ Sl.be8 (sumS r)).length = 12 := by simp [be4, Sl.be8]
  generalize sumS r = A at *
  generalize be4 r.length ++ Sl.be8 A = L at *
  refine N1.mono ?_
  rintro e w2 ⟨rfl, hw2⟩
  have hw2 := hw2.symm
  subst hw2
  go_wp2_with fail
  refine N2.mono ?_
  rintro e w3 ⟨v', rfl, ho, hb⟩
  have hr3 := hr1.on hb
  have hle : w.heap.size ≤ w3.heap.size := Nat.le_trans hb1.size hb.size
  go_wp2_with (at_builtin; refine Sl.appB rfl (.tmp 26) (.tmp 27) rfl w.heap.size _ _ L r w3 rfl (ownsRow_base ho hb1.size) rfl hr3 (by omega) hle ?_)
  intro v4 w4 ho4 hb4
  go_wp2
  go_ret
  exact ⟨v4, rfl, by rw [hfr.out]; exact ho4, (hb1.trans (hb.mono hb1.size)).trans hb4⟩

theorem zero_pp (n : Nat) (hn : 5 ≤ n) : PP (List.replicate (n * 256) 0) n 0 [] [] := by
  have hs : 2 ≤ spanN n := by unfold spanN; omega
  have hf : firstN n 0 = 1 := by simp [firstN]
  have hsn : spanN n + 1 ≤ n := by unfold spanN; omega
  have ht0 : takesN ([] : List UInt8).length = 1 := rfl
  refine ⟨by omega, by rw [List.getElem?_replicate, if_pos (by omega)]; rfl, .inl ⟨rfl, ?_⟩, by rw [ht0]; omega, Laid.nil _ _ _ ?_ ?_, by decide⟩
  · unfold cutB
    rw [List.drop_replicate, List.take_replicate, Nat.min_eq_left (by rw [hf]; omega)]
  · rw [hf, ht0, List.length_replicate]; omega
  · rw [hf, ht0, List.getElem?_replicate, if_pos (by omega)]
theorem hi_rd (w : World) : Sl.RdA (w.alloc (.cells #[.int .u8 104, .int .u8 105] 5 (2, 3))) (.slice (some ⟨w.heap.size, 0, none⟩) 2 2) [104, 105] := by
  have hg : (w.alloc (.cells #[.int .u8 104, .int .u8 105] 5 (2, 3))).heap[w.heap.size]? = some (.cells (byteCells [104, 105]).toArray 5 (2, 3)) := heap_alloc_new w _
  exact sl_range (l := [104, 105]) (c := 2) (range_of_block hg) (by decide)

/-- A new drum, and a pair opened on it. -/
theorem new_open (w : World) (n : Nat) (hn : 5 ≤ n) (hn2 : n ≤ 4096) :
    Calls Try.prog 10 #[.int .i64 n] w fun e w' => ∃ X q S, e = .returned (.pointer (some ⟨q, 0, none⟩)) ∧ Drum w' X q n S ∧ PP S.P n 0 [] [] ∧ S.W = [] ∧ S.ops = 0 ∧ S.armed = 0 ∧ S.down = false ∧ Below w.heap.size w w' ∧ ∀ k, X k → w.heap.size ≤ k := by
  refine (new_ts w n (by omega) hn2).mono ?_
  rintro e w' ⟨X, q, S, rfl, h1, h2, h3, h4, h5, h6, h7, h8⟩
  exact ⟨X, q, S, rfl, h1, by rw [h2]; exact zero_pp n hn, h3, h4, h5, h6, h7, h8⟩

set_option maxHeartbeats 4000000 in
theorem wakes_any (w : World) : Calls Try.prog 8 #[] w fun e w' => e = .returned (.bool true) ∧ Below w.heap.size w w' := by
  have hmix : Try.prog.follows .mixedOrders = true := by kernel_rfl
  have N10 := new_open w 9 (by decide) (by decide)
  have kc := fun (w : World) (C : Array Value) (n c : Nat) => Lib.run_convert_bytes_const (P := Try.prog) w 30 5 C n c Try.underlying30 Try.underlying5
  go_enter Try.func8, Try.ntmps8
  go_wp2_with (go_at_call 10; refine N10.mono ?_; rintro e w1 ⟨X, q, S, rfl, hdr, hpp, hW0, hops, har, hdn, hb1, hX⟩)
  have N12 := popen_any w1 X q 9 S hdn hW0 hdr (by decide) 0 [] [] (by decide) hpp
  refine N12.mono ?_
  rintro e w2 ⟨hb2, v1, v2, p, t, rfl, hp2, ht2, hsv, hrec, hps⟩
  obtain ⟨sa, sc, rfl⟩ := hsv.shape
  obtain ⟨ra, rc, rfl⟩ := hrec.shape
  have hbh : Below w2.heap.size w2 (w2.alloc (.cells #[.int .u8 104, .int .u8 105] 5 (2, 3))) := (Below.refl _ _).alloc (Nat.le_refl _) _
  have N16 := save_ps _ X p t q 9 S 0 [] [] (hps.below hbh) (by omega) [104, 105] _ (hi_rd w2) (by decide) (by decide)
  clear hsv hrec
  go_wp2_with fail
  refine N16.mono ?_
  rintro e w3 ⟨X3, S3, hd3, hst3, hX3, hw3, _, ⟨rfl, ⟨t3, ht3, hps3⟩, hop3, har3, hkeep3⟩ | ⟨_, hne, _⟩⟩
  rotate_left
  · exact absurd har hne
  have hop5 : (S3.ops : Int) = 5 := by rw [hop3, hops]; rfl
  have hb03 : Below w.heap.size w w3 := by
    refine (hb1.trans (hb2.mono hb1.size)).trans ((hbh.mono (Nat.le_trans hb1.size hb2.size)).trans (hst3.below (fun k hk => ?_) (Nat.le_trans hb1.size (Nat.le_trans hb2.size hbh.size))))
    rcases hk with hk | hk
    · exact hX k hk
    · rw [hk]; exact Nat.le_trans hb1.size hp2
  have N31 := ops_any w3 X3 q 9 S3 hd3
  rw [hop5] at N31
  have hmk : (Instr.makeSlice 30 (.int .i64 757) (.int .i64 757)).run Try.prog w3 = .ok (.slice (some ⟨w3.heap.size, 0, none⟩) 757 757) (w3.alloc (.cells (byteCells (List.replicate 757 0)).toArray 5)) := makeB w3 757 757 (by decide) (by decide)
  have hb4 : Below w3.heap.size w3 (w3.alloc (.cells (byteCells (List.replicate 757 0)).toArray 5)) := (Below.refl _ _).alloc (Nat.le_refl _) _
  generalize hw4 : w3.alloc (.cells (byteCells (List.replicate 757 0)).toArray 5) = w4 at *
  have hps4 := hps3.below hb4
  have N16b := save_long w4 X3 p q 9 S3 1 _ 0 hps4.d hps4.pr (by decide) (List.replicate 757 0) (some ⟨w3.heap.size, 0, none⟩) 757 (by rw [List.length_replicate]; decide) (by rw [List.length_replicate]; decide)
  rw [List.length_replicate] at N16b
  clear N16 N12 N10 hw4
  go_wp2_with (first | (go_at_call 31; refine N31.mono ?_; rintro e w9 ⟨rfl, hw9⟩; have hw9 := hw9.symm; subst hw9) | (go_at_call 16; refine N16b.mono ?_; rintro e w5 ⟨rfl, hb5⟩))
  have hps5 := hps4.below hb5
  have N12 := popen_any w5 X3 q 9 S3 hps5.dn hps5.wz hps5.d (by decide) 1 [104, 105] [] (by decide) hps5.pp
  refine N12.mono ?_
  rintro e w6 ⟨hb6, v1, v2, p6, t6, rfl, hp6, ht6, hsv, hrec, hps6⟩
  have hrd6 := hsv.rd
  obtain ⟨sa6, sc6, rfl⟩ := hsv.shape
  obtain ⟨ra6, rc6, rfl⟩ := hrec.shape
  have N32 := read0 w6 X3 q 9 S3 5 (by decide) hps5.dn hps6.d
  clear hsv hrec N31 N16b N12
  go_wp2_with (go_at_call 32; refine N32.mono ?_; rintro e w7 ⟨rfl, hpg⟩)
  have h14 : ((pageOf S3.P 5).drop 0).take 14 = snB [104, 105] := by
    rcases hps6.pp.sn with ⟨h0, _⟩ | h0
    · cases h0
    · rw [List.drop_zero, ← cutB_page _ _ _ (by decide)]; exact h0
  have hb05 : Below w.heap.size w w6 := (hb03.trans (hb4.mono hb03.size)).trans ((hb5.mono (Nat.le_trans hb03.size hb4.size)).trans (hb6.mono (Nat.le_trans hb03.size (Nat.le_trans hb4.size hb5.size))))
  have hb07 : Below w.heap.size w w7 := hb05.trans (hpg.below.mono hb05.size)
  have hblk := hpg.block
  have hrd7 : Sl.RdA w7 (.slice sa6 2 sc6) [104, 105] := Sl.RdA.on hrd6 hpg.below
  obtain ⟨fh, hfh⟩ : ∃ s : ByteArray, s = ⟨(snB [104, 105]).toArray⟩ := ⟨_, rfl⟩
  have hcx : ∀ W' : World, W'.heap[w6.heap.size]? = some (.cells (byteCells (pageOf S3.P 5)).toArray 85 (0, 0)) → (convert 30 9 (.slice (some ⟨w6.heap.size, 0, none⟩) 14 256)).run Try.prog W' = .ok (.string fh) W' := fun W' hW' => by
    rw [hfh]
    apply convA
    have e14 : (snB [104, 105]).length = 14 := by rw [snB_length]; rfl
    have := sl_range (c := 256) (range_cut hW' 0 14) (by rw [h14, e14]; decide)
    rw [h14, e14] at this
    exact this
  have hcx2 : ∀ W' : World, Sl.RdA W' (.slice sa6 2 sc6) [104, 105] → (convert 30 9 (.slice sa6 2 sc6)).run Try.prog W' = .ok (.string ⟨#[104, 105]⟩) W' := fun W' hW' => convA hW'
  have hS : w7.drew.heap[w6.heap.size]? = some (.cells (byteCells (pageOf S3.P 5)).toArray 85 (0, 0)) ∧ Sl.RdA w7.drew (.slice sa6 2 sc6) [104, 105] := ⟨hblk, hrd7⟩
  refine wp_region_held (S := fun W' => W'.heap[w6.heap.size]? = some (.cells (byteCells (pageOf S3.P 5)).toArray 85 (0, 0)) ∧ Sl.RdA W' (.slice sa6 2 sc6) [104, 105]) hmix ?_
  show wpAnyH _ _ _ _ _ _ _ _ w7.drew
  clear hrd6 N32 kc
  refine wpAnyH_take (i := 0) (v := .int .i64 0) rfl (by kernel_rfl) (by kernel_rfl) (by kernel_rfl) (fun _ _ _ h => h) (.inl ⟨by rfl, fun W' hW' => ?_⟩) hS ?_
  · obtain ⟨q1, q2⟩ := hW'
    have hcv := hcx W' q1
    have hcv2 := hcx2 W' q2
    clear q1 q2
    go_simp
  simp only [Act.put, List.getElem_toArray, List.getElem_cons_succ, List.getElem_cons_zero, List.setIfInBounds_toArray, List.set_cons_succ, List.set_cons_zero]
  refine wpAnyH_take (i := 1) (v := .bool true) rfl (by kernel_rfl) (by kernel_rfl) (by kernel_rfl) (fun _ _ _ h => h) (.inl ⟨by rfl, fun W' hW' => ?_⟩) hS ?_
  · obtain ⟨q1, q2⟩ := hW'
    have hcv := hcx W' q1
    have hcv2 := hcx2 W' q2
    clear q1 q2
    go_simp
  simp only [Act.put, List.getElem_toArray, List.getElem_cons_succ, List.getElem_cons_zero, List.setIfInBounds_toArray, List.set_cons_succ, List.set_cons_zero]
  refine wpAnyH_take (i := 2) (v := .bool true) rfl (by kernel_rfl) (by kernel_rfl) (by kernel_rfl) (fun _ _ _ h => h) (.inl ⟨by rfl, fun W' hW' => ?_⟩) hS ?_
  · obtain ⟨q1, q2⟩ := hW'
    have hcv := hcx W' q1
    have hcv2 := hcx2 W' q2
    clear q1 q2
    go_simp
  simp only [Act.put, List.getElem_toArray, List.getElem_cons_succ, List.getElem_cons_zero, List.setIfInBounds_toArray, List.set_cons_succ, List.set_cons_zero]
  refine wpAnyH_take (i := 3) (v := .int .i64 0) rfl (by kernel_rfl) (by kernel_rfl) (by kernel_rfl) (fun _ _ _ h => h) (.inl ⟨by rfl, fun W' hW' => ?_⟩) hS ?_
  · obtain ⟨q1, q2⟩ := hW'
    have hcv := hcx W' q1
    have hcv2 := hcx2 W' q2
    clear q1 q2
    go_simp
  simp only [Act.put, List.getElem_toArray, List.getElem_cons_succ, List.getElem_cons_zero, List.setIfInBounds_toArray, List.set_cons_succ, List.set_cons_zero]
  refine wpAnyH_take (i := 4) (v := .bool true) rfl (by kernel_rfl) (by kernel_rfl) (by kernel_rfl) (fun _ _ _ h => h) (.inl ⟨by rfl, fun W' hW' => ?_⟩) hS ?_
  · obtain ⟨q1, q2⟩ := hW'
    have hcv := hcx W' q1
    have hcv2 := hcx2 W' q2
    clear q1 q2
    go_simp
  simp only [Act.put, List.getElem_toArray, List.getElem_cons_succ, List.getElem_cons_zero, List.setIfInBounds_toArray, List.set_cons_succ, List.set_cons_zero]
  refine wpAnyH_take (i := 5) (v := .bool true) rfl (by kernel_rfl) (by kernel_rfl) (by kernel_rfl) (fun _ _ _ h => h) (.inl ⟨by rfl, fun W' hW' => ?_⟩) hS ?_
  · obtain ⟨q1, q2⟩ := hW'
    have hcv := hcx W' q1
    have hcv2 := hcx2 W' q2
    clear q1 q2
    go_simp
  simp only [Act.put, List.getElem_toArray, List.getElem_cons_succ, List.getElem_cons_zero, List.setIfInBounds_toArray, List.set_cons_succ, List.set_cons_zero]
  refine wpAnyH_take (i := 6) (v := .bool true) rfl (by kernel_rfl) (by kernel_rfl) (by kernel_rfl) (fun _ _ _ h => h) (.inl ⟨by rfl, fun W' hW' => ?_⟩) hS ?_
  · obtain ⟨q1, q2⟩ := hW'
    have hcv := hcx W' q1
    have hcv2 := hcx2 W' q2
    clear q1 q2
    go_simp
  simp only [Act.put, List.getElem_toArray, List.getElem_cons_succ, List.getElem_cons_zero, List.setIfInBounds_toArray, List.set_cons_succ, List.set_cons_zero]
  refine wpAnyH_take (i := 7) (v := .slice sa6 2 sc6) rfl (by kernel_rfl) (by kernel_rfl) (by kernel_rfl) (fun _ _ _ h => h) (.inl ⟨by rfl, fun W' hW' => ?_⟩) hS ?_
  · obtain ⟨q1, q2⟩ := hW'
    have hcv := hcx W' q1
    have hcv2 := hcx2 W' q2
    clear q1 q2
    go_simp
  simp only [Act.put, List.getElem_toArray, List.getElem_cons_succ, List.getElem_cons_zero, List.setIfInBounds_toArray, List.set_cons_succ, List.set_cons_zero]
  refine wpAnyH_take (i := 8) (v := .string ⟨#[104, 105]⟩) rfl (by kernel_rfl) (by kernel_rfl) (by kernel_rfl) (fun _ _ _ h => h) (.inl ⟨by rfl, fun W' hW' => ?_⟩) hS ?_
  · obtain ⟨q1, q2⟩ := hW'
    have hcv := hcx W' q1
    have hcv2 := hcx2 W' q2
    clear q1 q2
    go_simp
  simp only [Act.put, List.getElem_toArray, List.getElem_cons_succ, List.getElem_cons_zero, List.setIfInBounds_toArray, List.set_cons_succ, List.set_cons_zero]
  refine wpAnyH_take (i := 9) (v := .bool true) rfl (by kernel_rfl) (by kernel_rfl) (by kernel_rfl) (fun _ _ _ h => h) (.inl ⟨by rfl, fun W' hW' => ?_⟩) hS ?_
  · obtain ⟨q1, q2⟩ := hW'
    have hcv := hcx W' q1
    have hcv2 := hcx2 W' q2
    clear q1 q2
    go_simp
  simp only [Act.put, List.getElem_toArray, List.getElem_cons_succ, List.getElem_cons_zero, List.setIfInBounds_toArray, List.set_cons_succ, List.set_cons_zero]
  refine wpAnyH_take (i := 10) (v := .bool true) rfl (by kernel_rfl) (by kernel_rfl) (by kernel_rfl) (fun _ _ _ h => h) (.inl ⟨by rfl, fun W' hW' => ?_⟩) hS ?_
  · obtain ⟨q1, q2⟩ := hW'
    have hcv := hcx W' q1
    have hcv2 := hcx2 W' q2
    clear q1 q2
    go_simp
  simp only [Act.put, List.getElem_toArray, List.getElem_cons_succ, List.getElem_cons_zero, List.setIfInBounds_toArray, List.set_cons_succ, List.set_cons_zero]
  refine wpAnyH_take (i := 11) (v := .bool true) rfl (by kernel_rfl) (by kernel_rfl) (by kernel_rfl) (fun _ _ _ h => h) (.inl ⟨by rfl, fun W' hW' => ?_⟩) hS ?_
  · obtain ⟨q1, q2⟩ := hW'
    have hcv := hcx W' q1
    have hcv2 := hcx2 W' q2
    clear q1 q2
    go_simp
  simp only [Act.put, List.getElem_toArray, List.getElem_cons_succ, List.getElem_cons_zero, List.setIfInBounds_toArray, List.set_cons_succ, List.set_cons_zero]
  refine wpAnyH_take (i := 12) (v := .slice ra6 0 rc6) rfl (by kernel_rfl) (by kernel_rfl) (by kernel_rfl) (fun _ _ _ h => h) (.inl ⟨by rfl, fun W' hW' => ?_⟩) hS ?_
  · obtain ⟨q1, q2⟩ := hW'
    have hcv := hcx W' q1
    have hcv2 := hcx2 W' q2
    clear q1 q2
    go_simp
  simp only [Act.put, List.getElem_toArray, List.getElem_cons_succ, List.getElem_cons_zero, List.setIfInBounds_toArray, List.set_cons_succ, List.set_cons_zero]
  refine wpAnyH_take (i := 13) (v := .int .i64 0) rfl (by kernel_rfl) (by kernel_rfl) (by kernel_rfl) (fun _ _ _ h => h) (.inl ⟨by rfl, fun W' hW' => ?_⟩) hS ?_
  · obtain ⟨q1, q2⟩ := hW'
    have hcv := hcx W' q1
    have hcv2 := hcx2 W' q2
    clear q1 q2
    go_simp
  simp only [Act.put, List.getElem_toArray, List.getElem_cons_succ, List.getElem_cons_zero, List.setIfInBounds_toArray, List.set_cons_succ, List.set_cons_zero]
  refine wpAnyH_take (i := 14) (v := .bool true) rfl (by kernel_rfl) (by kernel_rfl) (by kernel_rfl) (fun _ _ _ h => h) (.inl ⟨by rfl, fun W' hW' => ?_⟩) hS ?_
  · obtain ⟨q1, q2⟩ := hW'
    have hcv := hcx W' q1
    have hcv2 := hcx2 W' q2
    clear q1 q2
    go_simp
  simp only [Act.put, List.getElem_toArray, List.getElem_cons_succ, List.getElem_cons_zero, List.setIfInBounds_toArray, List.set_cons_succ, List.set_cons_zero]
  refine wpAnyH_take (i := 15) (v := .bool true) rfl (by kernel_rfl) (by kernel_rfl) (by kernel_rfl) (fun _ _ _ h => h) (.inl ⟨by rfl, fun W' hW' => ?_⟩) hS ?_
  · obtain ⟨q1, q2⟩ := hW'
    have hcv := hcx W' q1
    have hcv2 := hcx2 W' q2
    clear q1 q2
    go_simp
  simp only [Act.put, List.getElem_toArray, List.getElem_cons_succ, List.getElem_cons_zero, List.setIfInBounds_toArray, List.set_cons_succ, List.set_cons_zero]
  refine wpAnyH_take (i := 16) (v := .bool true) rfl (by kernel_rfl) (by kernel_rfl) (by kernel_rfl) (fun _ _ _ h => h) (.inl ⟨by rfl, fun W' hW' => ?_⟩) hS ?_
  · obtain ⟨q1, q2⟩ := hW'
    have hcv := hcx W' q1
    have hcv2 := hcx2 W' q2
    clear q1 q2
    go_simp
  simp only [Act.put, List.getElem_toArray, List.getElem_cons_succ, List.getElem_cons_zero, List.setIfInBounds_toArray, List.set_cons_succ, List.set_cons_zero]
  refine wpAnyH_take (i := 17) (v := .slice (some ⟨w6.heap.size, 0, none⟩) 256 256) rfl (by kernel_rfl) (by kernel_rfl) (by kernel_rfl) (fun _ _ _ h => h) (.inl ⟨by rfl, fun W' hW' => ?_⟩) hS ?_
  · obtain ⟨q1, q2⟩ := hW'
    have hcv := hcx W' q1
    have hcv2 := hcx2 W' q2
    clear q1 q2
    go_simp
  simp only [Act.put, List.getElem_toArray, List.getElem_cons_succ, List.getElem_cons_zero, List.setIfInBounds_toArray, List.set_cons_succ, List.set_cons_zero]
  refine wpAnyH_take (i := 18) (v := .slice (some ⟨w6.heap.size, 0, none⟩) 14 256) rfl (by kernel_rfl) (by kernel_rfl) (by kernel_rfl) (fun _ _ _ h => h) (.inl ⟨by rfl, fun W' hW' => ?_⟩) hS ?_
  · obtain ⟨q1, q2⟩ := hW'
    have hcv := hcx W' q1
    have hcv2 := hcx2 W' q2
    clear q1 q2
    go_simp
  simp only [Act.put, List.getElem_toArray, List.getElem_cons_succ, List.getElem_cons_zero, List.setIfInBounds_toArray, List.set_cons_succ, List.set_cons_zero]
  refine wpAnyH_take (i := 19) (v := .string fh) rfl (by kernel_rfl) (by kernel_rfl) (by kernel_rfl) (fun _ _ _ h => h) (.inl ⟨by rfl, fun W' hW' => ?_⟩) hS ?_
  · obtain ⟨q1, q2⟩ := hW'
    have hcv := hcx W' q1
    have hcv2 := hcx2 W' q2
    clear q1 q2
    go_simp
  simp only [Act.put, List.getElem_toArray, List.getElem_cons_succ, List.getElem_cons_zero, List.setIfInBounds_toArray, List.set_cons_succ, List.set_cons_zero]
  have hk12 : (convert 30 30 (.slice (some ⟨w7.heap.size, 0, none⟩) 2 2)).run Try.prog (w7.alloc (.cells #[.int .u8 104, .int .u8 105] 5)).drew = .ok (.slice (some ⟨w7.heap.size, 0, none⟩) 2 2) (w7.alloc (.cells #[.int .u8 104, .int .u8 105] 5 (2, 3))).drew :=
    Lib.run_convert_bytes_const (P := Try.prog) w7.drew 30 5 #[.int .u8 104, .int .u8 105] 2 2 Try.underlying30 Try.underlying5
  have hbal : ∀ fr, Below w7.heap.size w7 (w7.alloc (.cells #[.int .u8 104, .int .u8 105] 5 fr)).drew := fun fr => ((Below.refl _ w7).alloc (Nat.le_refl _) _).trans ⟨rfl, rfl, rfl, Nat.le_refl _, fun _ _ => rfl⟩
  have hba : ∀ (W' : World), Below w7.heap.size w7 W' → W'.heap[w6.heap.size]? = some (.cells (byteCells (pageOf S3.P 5)).toArray 85 (0, 0)) ∧ Sl.RdA W' (.slice sa6 2 sc6) [104, 105] := fun W' hW' => ⟨(hW'.block _ (Array.getElem?_eq_some_iff.1 hblk).1).trans hblk, Sl.RdA.on hrd7 hW'⟩
  refine wpAnyH_one (i := 20) (by kernel_rfl) rfl (by rfl) (fun K hK => ?_)
  go_simp
  refine hK _ _ (hba _ (hbal _)) ?_
  clear hK K
  refine wpAnyH_one (i := 21) (by kernel_rfl) rfl (by rfl) (fun K hK => ?_)
  go_simp
  obtain ⟨w8, hw8⟩ : ∃ w8, w8 = (w7.alloc (.cells #[.int .u8 104, .int .u8 105] 5 (2, 3))).drew := ⟨_, rfl⟩
  have hrd8 : Sl.RdA w8 (.slice (some ⟨w7.heap.size, 0, none⟩) 2 2) [104, 105] := by rw [hw8]; exact hi_rd w7.drew
  have hb8 : Below w7.heap.size w7 w8 := by rw [hw8]; exact hbal _
  rw [← hw8]
  clear hw8 hk12
  refine hK _ _ (hba _ hb8) ?_
  clear hK K
  have N33 := sframe_any w8 _ [104, 105] hrd8 (by decide)
  refine wpAnyH_one (i := 22) (by kernel_rfl) rfl (by rfl) (fun K hK => ?_)
  go_simp
  refine N33.mono ?_
  rintro e w9 ⟨v9, rfl, ho9, hb9⟩
  have hb79 : Below w7.heap.size w7 w9 := hb8.trans (hb9.mono hb8.size)
  have hcv9 : (convert 30 9 v9).run Try.prog w9 = .ok (.string fh) w9 := by rw [hfh]; exact convA (.inl (Sl.Own.rd ho9))
  show K _ _
  refine hK _ _ (hba _ hb79) ?_
  clear hK K
  refine wpAnyH_one (i := 23) (by kernel_rfl) rfl (by rfl) (fun K hK => ?_)
  go_simp
  refine hK _ _ (hba _ hb79) ?_
  clear hK K
  have hS := hba _ hb79
  refine wpAnyH_take (i := 24) (v := .bool true) rfl (by kernel_rfl) (by kernel_rfl) (by kernel_rfl) (fun _ _ _ h => h) (.inl ⟨by rfl, fun W' hW' => ?_⟩) hS ?_
  · obtain ⟨q1, q2⟩ := hW'
    have hcv := hcx W' q1
    have hcv2 := hcx2 W' q2
    clear q1 q2
    go_simp
  simp only [Act.put, List.getElem_toArray, List.getElem_cons_succ, List.getElem_cons_zero, List.setIfInBounds_toArray, List.set_cons_succ, List.set_cons_zero]
  refine wpAnyH_take (i := 25) (v := .bool true) rfl (by kernel_rfl) (by kernel_rfl) (by kernel_rfl) (fun _ _ _ h => h) (.inl ⟨by rfl, fun W' hW' => ?_⟩) hS ?_
  · obtain ⟨q1, q2⟩ := hW'
    have hcv := hcx W' q1
    have hcv2 := hcx2 W' q2
    clear q1 q2
    go_simp
  simp only [Act.put, List.getElem_toArray, List.getElem_cons_succ, List.getElem_cons_zero, List.setIfInBounds_toArray, List.set_cons_succ, List.set_cons_zero]
  refine wpAnyH_take (i := 26) (v := .bool true) rfl (by kernel_rfl) (by kernel_rfl) (by kernel_rfl) (fun _ _ _ h => h) (.inl ⟨by rfl, fun W' hW' => ?_⟩) hS ?_
  · obtain ⟨q1, q2⟩ := hW'
    have hcv := hcx W' q1
    have hcv2 := hcx2 W' q2
    clear q1 q2
    go_simp
  simp only [Act.put, List.getElem_toArray, List.getElem_cons_succ, List.getElem_cons_zero, List.setIfInBounds_toArray, List.set_cons_succ, List.set_cons_zero]
  refine wpAnyH_done (by kernel_rfl) ?_ _
  go_wp2
  go_ret
  exact ⟨rfl, hb07.trans (hb79.mono hb07.size)⟩
end Go.Proofs.Ythgkkmcpmhfehaa

namespace Go.Proofs.Ythgkkmcpmhfehaa
open Go.RowKit Go.Lib Go.Shelf
set_option maxRecDepth 100000

structure PA (w0 wr : World) (X : Nat → Prop) (p t q n : Nat) (S : DS) (half : Nat) (b : List UInt8) (rs : List (List UInt8)) : Prop where
  ps : PS wr X p t q n S half b rs
  bel : Below w0.heap.size w0 wr
  xa : ∀ k, X k → w0.heap.size ≤ k
  pa : w0.heap.size ≤ p
  ta : w0.heap.size ≤ t
  ar : S.armed = 0
theorem PA.on {w0 w w' : World} {X : Nat → Prop} {p t q n : Nat} {S : DS} {half : Nat} {b : List UInt8} {rs : List (List UInt8)} (h : PA w0 w X p t q n S half b rs) (hb : Below w.heap.size w w') : PA w0 w' X p t q n S half b rs :=
  ⟨h.ps.below hb, h.bel.trans (hb.mono h.bel.size), h.xa, h.pa, h.ta, h.ar⟩

theorem append_pa (w0 w : World) (X : Nat → Prop) (p t q n : Nat) (S : DS) (half : Nat) (b : List UInt8) (rs : List (List UInt8)) (h : PA w0 w X p t q n S half b rs) (hops : S.ops ≤ 100000) (hn : rs.length ≤ 5000) (r : List UInt8) (v : Value) (hr : Sl.RdA w v r) (hrl : r.length ≤ 65536) (hpl : tot rs + (12 + r.length) ≤ (spanN n - takesN b.length) * 256) :
    Calls Try.prog 14 #[.pointer (some ⟨p, 0, none⟩), v] w fun e w' => e = .returned (.int .i64 0) ∧ ∃ X' S', PA w0 w' X' p t q n S' half b (rs ++ [r]) ∧ S'.ops ≤ S.ops + (r.length / 256 + 6) ∧ (∀ k, k < (firstN n half + takesN b.length) * 256 + tot rs ∨ (firstN n half + spanN n) * 256 ≤ k → S'.P[k]? = S.P[k]?) ∧ (∀ k, X' k → X k ∨ w.heap.size ≤ k) ∧ Step (fun k => X k ∨ k = t) (fun k => X' k ∨ k = t) w w' := by
  refine (append_ps w X p t q n S half b rs h.ps hops hn r v hr hrl hpl).mono ?_
  rintro e w' ⟨X', S', k1, k2, k3, k4, k5, k6, ⟨rfl, k7, k8⟩ | ⟨_, k7, _⟩⟩
  · refine ⟨rfl, X', S', ⟨k7, h.bel.trans (k2.below (fun k hk => ?_) h.bel.size), fun k hk => ?_, h.pa, h.ta, k8 h.ar⟩, k5, k6, k3, k2⟩
    · rcases hk with hk | hk
      · exact h.xa k hk
      · rw [hk]; exact h.ta
    · rcases k3 k hk with hk | hk
      · exact h.xa k hk
      · exact Nat.le_trans h.bel.size hk
  · exact absurd h.ar k7
theorem append_pafull (w0 w : World) (X : Nat → Prop) (p t q n : Nat) (S : DS) (half : Nat) (b : List UInt8) (rs : List (List UInt8)) (h : PA w0 w X p t q n S half b rs) (r : List UInt8) (a : Option Addr) (fc : Nat) (hrl : r.length ≤ 65536) (hpl : (spanN n - takesN b.length) * 256 < tot rs + (12 + r.length)) :
    Calls Try.prog 14 #[.pointer (some ⟨p, 0, none⟩), .slice a r.length fc] w fun e w' => e = .returned (.int .i64 22) ∧ PA w0 w' X p t q n S half b rs := by
  refine (append_psfull w X p t q n S half b rs h.ps r a fc hrl hpl).mono ?_
  rintro e w' ⟨rfl, hb⟩
  exact ⟨rfl, h.on hb⟩
theorem save_pa (w0 w : World) (X : Nat → Prop) (p t q n : Nat) (S : DS) (half : Nat) (b : List UInt8) (rs : List (List UInt8)) (h : PA w0 w X p t q n S half b rs) (hops : S.ops ≤ 80000) (b' : List UInt8) (v : Value) (hb : Sl.RdA w v b') (hl : b'.length ≤ 1048576) (htk : takesN b'.length < spanN n) :
    Calls Try.prog 16 #[.pointer (some ⟨p, 0, none⟩), v] w fun e w' => e = .returned (.int .i64 0) ∧ ∃ X' S' t', PA w0 w' X' p t' q n S' (1 - half) b' [] ∧ S'.ops = S.ops + (takesN b'.length + 4) ∧ (∀ j, 256 ≤ j → j < firstN n (1 - half) * 256 ∨ (firstN n (1 - half) + spanN n) * 256 ≤ j → S'.P[j]? = S.P[j]?) ∧ (∀ k, X' k → X k ∨ w.heap.size ≤ k) ∧ w.heap.size ≤ t' ∧ Step (fun k => X k ∨ k = p) (fun k => X' k ∨ k = p) w w' := by
  refine (save_ps w X p t q n S half b rs h.ps hops b' v hb hl htk).mono ?_
  rintro e w' ⟨X', S', k1, k2, k3, k4, k5, ⟨rfl, ⟨t', k6, k7⟩, k8, k9, k10⟩ | ⟨_, k7, _⟩⟩
  · refine ⟨rfl, X', S', t', ⟨k7, h.bel.trans (k2.below (fun k hk => ?_) h.bel.size), fun k hk => ?_, h.pa, Nat.le_trans h.bel.size k6, k9 h.ar⟩, k8, k10, k3, k6, k2⟩
    · rcases hk with hk | hk
      · exact h.xa k hk
      · rw [hk]; exact h.pa
    · rcases k3 k hk with hk | hk
      · exact h.xa k hk
      · exact Nat.le_trans h.bel.size hk
  · exact absurd h.ar k7
theorem save_palong (w0 w : World) (X : Nat → Prop) (p t q n : Nat) (S : DS) (half : Nat) (b : List UInt8) (rs : List (List UInt8)) (h : PA w0 w X p t q n S half b rs) (hn1 : 1 ≤ n) (b' : List UInt8) (va : Option Addr) (vc : Nat) (hl : b'.length ≤ 1099511627776) (htk : ¬ takesN b'.length < spanN n) :
    Calls Try.prog 16 #[.pointer (some ⟨p, 0, none⟩), .slice va b'.length vc] w fun e w' => e = .returned (.int .i64 3) ∧ PA w0 w' X p t q n S half b rs ∧ Below w.heap.size w w' := by
  refine (save_long w X p q n S half _ 0 h.ps.d h.ps.pr hn1 b' va vc hl htk).mono ?_
  rintro e w' ⟨rfl, hb⟩
  exact ⟨rfl, h.on hb, hb⟩
theorem count_pa (w0 w : World) (X : Nat → Prop) (p t q n : Nat) (S : DS) (half : Nat) (b : List UInt8) (rs : List (List UInt8)) (h : PA w0 w X p t q n S half b rs) :
    Calls Try.prog 28 #[.pointer (some ⟨p, 0, none⟩)] w fun e w' => e = .returned (.int .i64 (rs.length : Int)) ∧ w' = w := pcount_any w p q half t _ _ _ _ _ 0 h.ps.pr h.ps.tp
theorem ops_pa (w0 w : World) (X : Nat → Prop) (p t q n : Nat) (S : DS) (half : Nat) (b : List UInt8) (rs : List (List UInt8)) (h : PA w0 w X p t q n S half b rs) :
    Calls Try.prog 31 #[.pointer (some ⟨q, 0, none⟩)] w fun e w' => e = .returned (.int .i64 (S.ops : Int)) ∧ w' = w := ops_any w X q n S h.ps.d
/-- Opened anew: another pair beside it. -/
theorem open_pa (w0 w : World) (X : Nat → Prop) (p t q n : Nat) (S : DS) (half : Nat) (b : List UInt8) (rs : List (List UInt8)) (h : PA w0 w X p t q n S half b rs) (hn : 5 ≤ n) (hrs : rs.length ≤ 5000) :
    Calls Try.prog 12 #[.pointer (some ⟨q, 0, none⟩)] w fun e w' => ∃ v1 v2 p' t', e = .returned (.tuple #[.pointer (some ⟨p', 0, none⟩), v1, v2, .int .i64 0]) ∧ w.heap.size ≤ p' ∧ w.heap.size ≤ t' ∧ SnV w' w.heap.size v1 b ∧ Recs w' w.heap.size v2 rs ∧ PA w0 w' X p t q n S half b rs ∧ PA w0 w' X p' t' q n S half b rs ∧ Below w.heap.size w w' := by
  refine (popen_any w X q n S h.ps.dn h.ps.wz h.ps.d hn half b rs hrs h.ps.pp).mono ?_
  rintro e w' ⟨hb, v1, v2, p', t', rfl, h1, h2, h3, h4, h5⟩
  exact ⟨v1, v2, p', t', rfl, h1, h2, h3, h4, h.on hb, ⟨h5, h.bel.trans (hb.mono h.bel.size), h.xa, Nat.le_trans h.bel.size h1, Nat.le_trans h.bel.size h2, h.ar⟩, hb⟩
/-- Opened on a new drum. -/
theorem first_pa (w0 w : World) (X : Nat → Prop) (q n : Nat) (S : DS) (h : Drum w X q n S) (hpp : PP S.P n 0 [] []) (hW : S.W = []) (har : S.armed = 0) (hdn : S.down = false) (hb : Below w0.heap.size w0 w) (hX : ∀ k, X k → w0.heap.size ≤ k) (hn : 5 ≤ n) :
    Calls Try.prog 12 #[.pointer (some ⟨q, 0, none⟩)] w fun e w' => ∃ v1 v2 p t, e = .returned (.tuple #[.pointer (some ⟨p, 0, none⟩), v1, v2, .int .i64 0]) ∧ (∃ a c, v1 = .slice a 0 c) ∧ (∃ a c, v2 = .slice a 0 c) ∧ PA w0 w' X p t q n S 0 [] [] := by
  refine (popen_any w X q n S hdn hW h hn 0 [] [] (by decide) hpp).mono ?_
  rintro e w' ⟨hb', v1, v2, p', t', rfl, h1, h2, h3, h4, h5⟩
  exact ⟨v1, v2, p', t', rfl, h3.shape, h4.shape, h5, hb.trans (hb'.mono hb.size), hX, Nat.le_trans hb.size h1, Nat.le_trans hb.size h2, har⟩
end Go.Proofs.Ythgkkmcpmhfehaa

namespace Go.Proofs.Ythgkkmcpmhfehaa
open Go.RowKit Go.Lib Go.Shelf
set_option maxRecDepth 100000

/-- Bytes that were handed in, or of their own, apart from what moves. -/
def BV (w wr : World) (Z : Nat → Prop) (u : Value) (r : List UInt8) : Prop :=
  Sl.RdA w u r ∨ ∃ g o c full, u = .slice (some ⟨g, o, none⟩) r.length c ∧ w.heap.size ≤ g ∧ ¬ Z g ∧ r.length ≤ c ∧ wr.heap[g]? = some (.cells full 5 (0, 0)) ∧ wr.rangeAt g o (byteCells r)
theorem BV.on {w wr wr' : World} {Z Z' Y Y' : Nat → Prop} {u : Value} {r : List UInt8} (h : BV w wr Z u r) (hs : Step Y Y' wr wr') (hy : ∀ k, Y k → Z k) (hz : ∀ k, Z' k → Z k ∨ wr.heap.size ≤ k) : BV w wr' Z' u r := by
  rcases h with h | ⟨g, o, c, full, h1, h2, h3, h4, h5, h6⟩
  · exact .inl h
  · have hlt : g < wr.heap.size := (Array.getElem?_eq_some_iff.1 h5).1
    have hb := hs.block g hlt (fun hyg => h3 (hy g hyg))
    refine .inr ⟨g, o, c, full, h1, h2, fun hx' => ?_, h4, hb.trans h5, fun j x hj => ?_⟩
    · rcases hz g hx' with h' | h'
      · exact h3 h'
      · omega
    · rw [← h6 j x hj]
      simp only [World.cell?, hb]
theorem BV.rd {w wr : World} {Z : Nat → Prop} {u : Value} {r : List UInt8} (h : BV w wr Z u r) (hb : Below w.heap.size w wr) : Sl.RdA wr u r := by
  rcases h with h | ⟨g, o, c, full, rfl, _, _, h4, _, h6⟩
  · exact Sl.RdA.on h hb
  · exact sl_range h6 h4
theorem BV.shape {w wr : World} {Z : Nat → Prop} {u : Value} {r : List UInt8} (h : BV w wr Z u r) : ∃ a c, u = .slice a r.length c := by
  rcases h with h | ⟨g, o, c, full, rfl, _⟩
  · exact h.len
  · exact ⟨_, _, rfl⟩
/-- A list of such. -/
def LZ (w wr : World) (Z : Nat → Prop) (v : Value) (rs : List (List UInt8)) : Prop :=
  ∃ vals : List Value, wr.ownsRow 0 30 1 v rs.length vals ∧ (∀ k, v.ownBlock = some k → w.heap.size ≤ k ∧ ¬ Z k) ∧ ∀ (i : Nat) (r : List UInt8), rs[i]? = some r → ∃ u, vals[i]? = some u ∧ BV w wr Z u r
theorem LZ.nil (w wr : World) (Z : Nat → Prop) : LZ w wr Z (.slice none 0 0) [] := ⟨[], World.ownsRow_nil _ _ _ _, ⟨(fun k hk => by cases hk), fun i r h => by simp at h⟩⟩
theorem LZ.lt {w wr : World} {Z : Nat → Prop} {v : Value} {rs : List (List UInt8)} (h : LZ w wr Z v rs) : ∀ k, v.ownBlock = some k → k < wr.heap.size := fun k hk => by
  obtain ⟨vals, ho, _⟩ := h
  obtain ⟨c, hc⟩ := own_ne ho hk
  exact (Array.getElem?_eq_some_iff.1 hc).1
theorem LZ.shape {w wr : World} {Z : Nat → Prop} {v : Value} {rs : List (List UInt8)} (h : LZ w wr Z v rs) : ∃ a c, v = .slice a rs.length c := by
  obtain ⟨vals, ho, _⟩ := h
  rcases ho.2 with ⟨rfl, h0⟩ | ⟨g, cap, cur, rfl, _⟩
  · rw [h0]; exact ⟨_, _, rfl⟩
  · exact ⟨_, _, rfl⟩
theorem LZ.on {w wr wr' : World} {Z Z' Y Y' : Nat → Prop} {v : Value} {rs : List (List UInt8)} (h : LZ w wr Z v rs) (hs : Step Y Y' wr wr') (hy : ∀ k, Y k → Z k) (hz : ∀ k, Z' k → Z k ∨ wr.heap.size ≤ k) : LZ w wr' Z' v rs := by
  have hlt := h.lt
  obtain ⟨vals, ho, hb, hr⟩ := h
  refine ⟨vals, ownsRow_block ho (fun k hk => hs.block k (hlt k hk) (fun hyk => (hb k hk).2 (hy k hyk))), fun k hk => ⟨(hb k hk).1, fun hx' => ?_⟩, fun i r hi => ?_⟩
  · rcases hz k hx' with h' | h'
    · exact (hb k hk).2 h'
    · have := hlt k hk; omega
  · obtain ⟨u, h1, h2⟩ := hr i r hi
    exact ⟨u, h1, h2.on hs hy hz⟩
theorem own_cell' {w : World} {v : Value} {n : Nat} {xs : List Value} {i : Nat} {u : Value} (ho : w.ownsRow 0 30 1 v n xs) (hu : xs[i]? = some u) (hi : i < n) : ∃ g c, v = .slice (some ⟨g, 0, none⟩) n c ∧ w.cell? ⟨g, i, none⟩ = some u := by
  rcases ho.2 with ⟨_, h0⟩ | ⟨g, cap, cur, rfl, _, hg, _, _, _, ht⟩
  · omega
  · refine ⟨g, cap, rfl, ?_⟩
    have e : (cur.toList.take (n * 1))[i]? = xs[i]? := by rw [ht]
    rw [List.getElem?_take_of_lt (by omega), hu] at e
    simp only [World.cell?, hg]
    simpa using e
theorem LZ.rdl {w wr : World} {Z : Nat → Prop} {v : Value} {rs : List (List UInt8)} (h : LZ w wr Z v rs) (hb : Below w.heap.size w wr) : RdL wr v rs := by
  obtain ⟨a, c, rfl⟩ := h.shape
  obtain ⟨vals, ho, _, hr⟩ := h
  refine ⟨a, c, rfl, fun i r hi => ?_⟩
  obtain ⟨u, hu, he⟩ := hr i r hi
  obtain ⟨g, c', h1, h2⟩ := own_cell' ho hu (List.getElem?_eq_some_iff.1 hi).1
  cases h1
  exact ⟨g, 0, u, rfl, by rw [Nat.zero_add]; exact h2, he.rd hb⟩
theorem Recs.lz {w wr : World} {Z : Nat → Prop} {B : Nat} {v : Value} {rs : List (List UInt8)} (h : Recs wr B v rs) (hB : w.heap.size ≤ B) (hZ : ∀ (k : Nat) (c : Array Value) (e : TypeId), B ≤ k → (e = 5 ∨ e = 30) → wr.heap[k]? = some (.cells c e (0, 0)) → ¬ Z k) : LZ w wr Z v rs := by
  obtain ⟨vals, ho, hb, hr⟩ := h
  refine ⟨vals, ho, fun k hk => ⟨Nat.le_trans hB (hb k hk), ?_⟩, fun i r hi => ?_⟩
  · obtain ⟨c, hc⟩ := own_ne ho hk
    exact hZ k c 30 (hb k hk) (.inr rfl) hc
  · obtain ⟨u, hu, g, rfl, h1, h2⟩ := hr i r hi
    exact ⟨_, hu, .inr ⟨g, 0, r.length, _, rfl, by omega, hZ g _ 5 h1 (.inl rfl) h2, Nat.le_refl _, h2, range_of_block h2⟩⟩
theorem SnV.bv {w wr : World} {Z : Nat → Prop} {B : Nat} {v : Value} {b : List UInt8} (h : SnV wr B v b) (hB : w.heap.size ≤ B) (hZ : ∀ (k : Nat) (c : Array Value) (e : TypeId), B ≤ k → (e = 5 ∨ e = 30) → wr.heap[k]? = some (.cells c e (0, 0)) → ¬ Z k) : BV w wr Z v b := by
  rcases h with ⟨rfl, rfl⟩ | ⟨g, c, full, rfl, h1, h2, h3, h4⟩
  · exact .inl (.inl (.inl ⟨rfl, rfl⟩))
  · exact .inr ⟨g, 12, c, full, rfl, by omega, hZ g _ 5 h1 (.inl rfl) h3, h2, h3, h4⟩
theorem BV.one {w wr : World} {Z : Nat → Prop} {u : Value} {r : List UInt8} (h : BV w wr Z u r) : u.oneCell' = true := by
  obtain ⟨a, c, rfl⟩ := h.shape; rfl
theorem LZ.push {w w1 w2 : World} {Z : Nat → Prop} {v v1 u : Value} {rs : List (List UInt8)} {r : List UInt8} {g1 : Nat} {xs : List Value} (hw : w.heap.size ≤ w1.heap.size) (hZ : ∀ k, Z k → k < w1.heap.size)
    (ho : w1.ownsRow 0 30 1 v rs.length xs) (hb : ∀ k, v.ownBlock = some k → w.heap.size ≤ k ∧ ¬ Z k) (hr : ∀ (i : Nat) (r : List UInt8), rs[i]? = some r → ∃ u, xs[i]? = some u ∧ BV w w1 Z u r) (hu : BV w w1 Z u r)
    (hp : Pushed w1 w2 30 v v1 rs.length xs u g1) : LZ w w2 Z v1 (rs ++ [r]) := by
  have hxl : xs.length = rs.length := by have := ho.1; omega
  have hst : ∀ {u r}, BV w w1 Z u r → BV w w2 Z u r := fun {u r} h => by
    rcases h with h2 | ⟨g, o, c, full, e1, e2, e3, e4, e5, e6⟩
    · exact .inl h2
    · have hb := hp.step.block g (Array.getElem?_eq_some_iff.1 e5).1 (fun hk => by
        obtain ⟨c, hc⟩ := own_ne ho hk
        exact ne_type hc e5 (by decide) rfl)
      refine .inr ⟨g, o, c, full, e1, e2, e3, e4, hb.trans e5, fun j x hj => ?_⟩
      rw [← e6 j x hj]
      simp only [World.cell?, hb]
  refine ⟨xs ++ [u], by rw [List.length_append]; exact hp.own, fun k hk => ?_, fun i r' hi => ?_⟩
  · rw [hp.at1] at hk
    cases hk
    rcases hp.old with h | h
    · exact hb _ h
    · exact ⟨by omega, fun hx => by have := hZ _ hx; omega⟩
  · by_cases hlt : i < rs.length
    · rw [List.getElem?_append_left hlt] at hi
      obtain ⟨u', h1, h2⟩ := hr i r' hi
      exact ⟨u', by rw [List.getElem?_append_left (by omega)]; exact h1, hst h2⟩
    · have hi' : i = rs.length := by
        have := (List.getElem?_eq_some_iff.1 hi).1
        simp at this; omega
      subst hi'
      rw [List.getElem?_append_right (Nat.le_refl _), Nat.sub_self] at hi
      cases hi
      exact ⟨u, by rw [List.getElem?_append_right (by omega), hxl, Nat.sub_self]; rfl, hst hu⟩

/-- All of a list behind a list of the call's own. -/
theorem appL {ops : Array Oper} {rest : List Oper} {o : Oper} {a : Act} {Q : Exit → Act → World → Prop} (hgd : o.guard = none) (s x : Operand)
    (ho : o.op = .call { callee := .builtin .append, args := #[s, x], argTypes := #[31, 31] }) (B : Nat) (v vx : Value) (xs lx : List Value) (n m : Nat) (w : World)
    (hs : a.eval s = v) (hown : w.ownsRow B 30 1 v n xs) (hx : a.eval x = vx) (hsrc : w.ownsRow 0 30 1 vx m lx) (hone : ∀ u ∈ lx, u.oneCell' = true) (hn : n ≤ 5000) (hm : m ≤ 5000) (hB : B ≤ w.heap.size)
    (h : ∀ v' w', w'.ownsRow B 30 1 v' (n + m) (xs ++ lx) → Below B w w' → wpList Try.prog ops Q rest (a.put o.dst v') w') :
    wpList Try.prog ops Q (o :: rest) a w := by
  obtain ⟨i0, hi, hz0, hz1, hz2⟩ := info_parts info22
  rcases hsrc with ⟨hl, ⟨rfl, rfl⟩ | ⟨g, cap, cur, rfl, _, hg, hc, hmx, hsz, ht⟩⟩
  · obtain rfl : lx = [] := List.length_eq_zero_iff.1 (by omega)
    refine wpList_append_own_none hgd s x 31 ho B 30 i0 1 Try.underlying31 hi v n xs hs hown hx ?_
    exact h v w (by simpa using hown) (Below.refl _ _)
  · refine wpList_append_own _ hgd s x 31 ho B 30 i0 (.slice none 0 0) 1 24 Try.underlying31 hi hz0 hz1 hz2 rfl (by decide) v n xs hs hown ⟨g, 0, none⟩ m cap lx hx (by omega) ?_ hone (by unfold maxLen; omega) (by omega) hB ?_
    · intro j u hj
      have hjl := (List.getElem?_eq_some_iff.1 hj).1
      have e : (cur.toList.take (m * 1))[j]? = lx[j]? := by rw [ht]
      rw [List.getElem?_take_of_lt (by omega), hj] at e
      rw [Addr.add_lit, Nat.zero_add]
      simp only [World.cell?, hg]
      simpa using e
    · intro v' w' h1 h2 _
      exact h v' w' h1 ((Below.refl B w).grown h2 hB (fun k hk => (World.ownsRow.lt hown k hk).1))

/-- A slice of steps that came in. -/
def RdSt (w : World) (v : Value) (n : Nat) : Prop := ∃ (a : Option Addr) (c : Nat), v = .slice a n c ∧ ∀ k, k < n → ∃ (b o : Nat) (s : Bool) (u : Value) (r : List UInt8) (x y : Int), a = some ⟨b, o, none⟩ ∧ w.cell? ⟨b, o + k * 4, none⟩ = some (.bool s) ∧ w.cell? ⟨b, o + k * 4 + 1, none⟩ = some u ∧ Sl.RdA w u r ∧ w.cell? ⟨b, o + k * 4 + 2, none⟩ = some (.int .i64 x) ∧ w.cell? ⟨b, o + k * 4 + 3, none⟩ = some (.int .i64 y) ∧ (-9223372036854775808 ≤ x ∧ x < 9223372036854775808) ∧ (-9223372036854775808 ≤ y ∧ y < 9223372036854775808)
end Go.Proofs.Ythgkkmcpmhfehaa

namespace Go.Proofs.Ythgkkmcpmhfehaa
open Go.ChangeShapes Go.WideShapes Go.ChangeAt Go.RowKit Go.Lib Go.Deep
set_option maxRecDepth 100000

theorem cells59 : Try.prog.cellsOf 59 = 4 := by kernel_rfl
theorem cells30 : Try.prog.cellsOf 30 = 1 := by kernel_rfl
theorem cells4 : Try.prog.cellsOf 4 = 1 := by kernel_rfl
theorem cells3 : Try.prog.cellsOf 3 = 1 := by kernel_rfl

theorem step_cells {H : Type} {enc : TypeId × Value → H} {W : World} {a : Addr} {cs : List Value} {fuel : Nat} {x : DataW H × List MemPlace}
    (hc : W.cells? 0 a (Try.prog.cellsOf 59) = some cs) (h : DataW.trod enc Try.prog W 0 (fun _ => true) true fuel 59 cs = some x) :
    ∃ (b o : Nat) (s : Bool) (u : Value) (r : List UInt8) (y z : Int), a = ⟨b, o, none⟩ ∧ W.cell? ⟨b, o, none⟩ = some (.bool s) ∧ W.cell? ⟨b, o + 1, none⟩ = some u ∧ Sl.RdA W u r ∧ W.cell? ⟨b, o + 2, none⟩ = some (.int .i64 y) ∧ W.cell? ⟨b, o + 3, none⟩ = some (.int .i64 z) ∧
      (-9223372036854775808 ≤ y ∧ y < 9223372036854775808) ∧ (-9223372036854775808 ≤ z ∧ z < 9223372036854775808) := by
  obtain ⟨xs, n, _, rfl, hl, hlen, hf⟩ := DataW.trod_struct Try.underlying59 h
  rw [cells59] at hc hl
  match xs, hlen with
  | [y0, y1, y2, y3], _ =>
    have t0 : DataW.trod enc Try.prog W 0 (fun _ => true) true n 4 ((cs.drop 0).take (Try.prog.cellsOf 4)) = some y0 := by simpa using hf 0 _ rfl
    have t1 : DataW.trod enc Try.prog W 0 (fun _ => true) true n 30 ((cs.drop 1).take (Try.prog.cellsOf 30)) = some y1 := by simpa using hf 1 _ rfl
    have t2 : DataW.trod enc Try.prog W 0 (fun _ => true) true n 3 ((cs.drop 2).take (Try.prog.cellsOf 3)) = some y2 := by simpa using hf 2 _ rfl
    have t3 : DataW.trod enc Try.prog W 0 (fun _ => true) true n 3 ((cs.drop 3).take (Try.prog.cellsOf 3)) = some y3 := by simpa using hf 3 _ rfl
    match cs, hl with
    | [c0, c1, c2, c3], _ =>
      simp only [cells3, cells4, cells30, List.drop, List.take] at t0 t1 t2 t3
      obtain ⟨s, e0, _⟩ := DataW.trod_bool Try.underlying4 t0
      obtain ⟨u, r, e1, hr⟩ := bytes_trod t1
      obtain ⟨y, e2, _, wy⟩ := DataW.trod_int Try.underlying3 t2
      obtain ⟨z, e3, _, wz⟩ := DataW.trod_int Try.underlying3 t3
      simp only [List.cons.injEq, and_true] at e0 e1 e2 e3
      subst e0 e1 e2 e3
      obtain ⟨b, o, sp⟩ := a
      obtain ⟨_, _, hh⟩ := World.cells?_some hc
      have h0 := hh 0 (by omega)
      have h1 := hh 1 (by omega)
      have h2 := hh 2 (by omega)
      have h3 := hh 3 (by omega)
      simp only [Addr.add, List.getElem?_cons_zero, List.getElem?_cons_succ] at h0 h1 h2 h3
      have hsp : sp = none := by simpa [Addr.add] using World.cell?_spot h0
      subst hsp
      have by' := bounds_i64 wy
      have bz' := bounds_i64 wz
      exact ⟨b, o, s, _, r, y, z, rfl, h0, h1, hr, h2, h3, ⟨by omega, by omega⟩, ⟨by omega, by omega⟩⟩

theorem rd_steps {H : Type} {enc : TypeId × Value → H} {W : World} {a : Option Addr} {n c : Nat} {d : DataW H} {p : List MemPlace}
    (h : DataW.Trod enc Try.prog W 0 (fun _ => true) true 57 (.slice a n c) d p) : RdSt W (.slice a n c) n := by
  obtain ⟨fuel, hf⟩ := h
  rcases open_slice Try.underlying57 hf with ⟨hcs, _⟩ | ⟨x, l, cp, m, f, D, Pl, hcs, _, hl, hm, hmm, hx, hel⟩
  · simp [Value.cells] at hcs
    obtain ⟨rfl, rfl, rfl⟩ := hcs
    exact ⟨_, _, rfl, fun k hk => by omega⟩
  · simp [Value.cells] at hcs
    obtain ⟨rfl, rfl, rfl⟩ := hcs
    have hmc : m = c := by simpa using hmm
    subst hmc
    have key : ∀ i, i < n → ∃ (b o : Nat) (s : Bool) (u : Value) (r : List UInt8) (y z : Int), x.add (i * 4) = ⟨b, o, none⟩ ∧ W.cell? ⟨b, o, none⟩ = some (.bool s) ∧ W.cell? ⟨b, o + 1, none⟩ = some u ∧ Sl.RdA W u r ∧ W.cell? ⟨b, o + 2, none⟩ = some (.int .i64 y) ∧ W.cell? ⟨b, o + 3, none⟩ = some (.int .i64 z) ∧
      (-9223372036854775808 ≤ y ∧ y < 9223372036854775808) ∧ (-9223372036854775808 ≤ z ∧ z < 9223372036854775808) := fun i hi => by
      obtain ⟨cs', h1, h2⟩ := hel i (by omega)
      have := step_cells h1 h2
      rwa [cells59] at this
    refine ⟨_, _, rfl, fun k hk => ?_⟩
    obtain ⟨b, o, _, _, _, _, _, e0, _⟩ := key 0 (by omega)
    have ex : x = ⟨b, o, none⟩ := by simpa [Addr.add] using e0
    subst ex
    obtain ⟨b', o', s, u, r, y, z, e, g⟩ := key k hk
    rw [Addr.add_lit] at e
    cases e
    exact ⟨b, o, s, u, r, y, z, rfl, g⟩
end Go.Proofs.Ythgkkmcpmhfehaa

namespace Go.Proofs.Ythgkkmcpmhfehaa
open Go.RowKit Go.Lib Go.Shelf
set_option maxRecDepth 100000

theorem wpAnyH_two {P : Program} {md : Region.Mode} {ops : Array Oper} {Q : Exit → Act → World → Prop} {S : World → Prop} {i j : Nat} {o o' : Oper} {fuel : Nat} {listed : Array Bool} {a : Act} {w : World} (hr : Region.ready md ops listed = [i, j]) (ho : ops[i]? = some o) (hw : Region.wanted o (yielded ops a.tmps) = true) (ho' : ops[j]? = some o') (hw' : Region.wanted o' (yielded ops a.tmps) = true)
    (h : ∀ K : Act → World → Prop, (∀ a' w', S w' → wpAnyH P md ops Q S fuel (listed.setIfInBounds i true) a' w' → K a' w') → o.wp P a w K Q)
    (h' : ∀ K : Act → World → Prop, (∀ a' w', S w' → wpAnyH P md ops Q S fuel (listed.setIfInBounds j true) a' w' → K a' w') → o'.wp P a w K Q) : wpAnyH P md ops Q S (fuel + 1) listed a w :=
  wpAnyH_all hr (by simp) (fun k hk => by
    simp only [List.mem_cons, List.not_mem_nil, or_false] at hk
    rcases hk with rfl | rfl
    · unfold wpOp
      simp only [ho]
      rw [if_pos hw]
      exact .inl (h _ (fun _ _ h1 h2 => ⟨h1, h2⟩))
    · unfold wpOp
      simp only [ho']
      rw [if_pos hw']
      exact .inl (h' _ (fun _ _ h1 h2 => ⟨h1, h2⟩)))

theorem wp_appL {o : Oper} {a : Act} {K : Act → World → Prop} {Q : Exit → Act → World → Prop} (s x : Operand)
    (ho : o.op = .call { callee := .builtin .append, args := #[s, x], argTypes := #[31, 31] }) (B : Nat) (v vx : Value) (xs lx : List Value) (n m : Nat) (w : World)
    (hs : a.eval s = v) (hown : w.ownsRow B 30 1 v n xs) (hx : a.eval x = vx) (hsrc : w.ownsRow 0 30 1 vx m lx) (hone : ∀ u ∈ lx, u.oneCell' = true) (hn : n ≤ 5000) (hm : m ≤ 5000) (hB : B ≤ w.heap.size)
    (h : ∀ v' w', w'.ownsRow B 30 1 v' (n + m) (xs ++ lx) → Below B w w' → (∀ k, k < w.heap.size → v.ownBlock ≠ some k → w'.heap[k]? = w.heap[k]?) → K (a.put o.dst v') w') : o.wp Try.prog a w K Q := by
  obtain ⟨i0, hi, hz0, hz1, hz2⟩ := info_parts info22
  rcases hsrc with ⟨hl, ⟨rfl, rfl⟩ | ⟨g, cap, cur, rfl, _, hg, hc, hmx, hsz, ht⟩⟩
  · obtain rfl : lx = [] := List.length_eq_zero_iff.1 (by omega)
    have hrun := run_append_owned_none (P := Try.prog) (w := w) B 31 o.type 30 i0 1 Try.underlying31 hi v n xs hown
    unfold Oper.wp
    simp [execOp, ho, resolve, invoke, builtin, hs, hx, hrun, Result.andThen]
    exact h v w (by simpa using hown) (Below.refl _ _) (fun _ _ _ => rfl)
  · refine wp_append_own w s x 31 ho B 30 i0 (.slice none 0 0) 1 24 Try.underlying31 hi hz0 hz1 hz2 rfl (by decide) v n xs hs hown ⟨g, 0, none⟩ m cap lx hx (by omega) ?_ hone (by unfold maxLen; omega) (by omega) hB ?_
    · intro j u hj
      have hjl := (List.getElem?_eq_some_iff.1 hj).1
      have e : (cur.toList.take (m * 1))[j]? = lx[j]? := by rw [ht]
      rw [List.getElem?_take_of_lt (by omega), hj] at e
      rw [Addr.add_lit, Nat.zero_add]
      simp only [World.cell?, hg]
      simpa using e
    · intro v' w' h1 h2 _
      exact h v' w' h1 ((Below.refl B w).grown h2 hB (fun k hk => (World.ownsRow.lt hown k hk).1)) (fun k hk hne => h2.block k hk (fun e' => hne e'.symm))
/-- A row with one element, just built. -/
theorem own_one {w : World} {g : Nat} {u : Value} (hg : w.heap[g]? = some (.cells #[u] 30 (0, 0))) : w.ownsRow 0 30 1 (.slice (some ⟨g, 0, none⟩) 1 1) 1 [u] :=
  ⟨rfl, .inr ⟨g, 1, _, rfl, Nat.zero_le _, hg, Nat.le_refl _, by decide, rfl, rfl⟩⟩
theorem own_no {w : World} {B g : Nat} (hB : B ≤ g) (hg : w.heap[g]? = some (.cells #[] 30 (0, 0))) : w.ownsRow B 30 1 (.slice (some ⟨g, 0, none⟩) 0 0) 0 [] :=
  ⟨rfl, .inr ⟨g, 0, _, rfl, hB, hg, Nat.le_refl _, by decide, rfl, rfl⟩⟩
theorem own_on {w w' : World} {B : Nat} {v : Value} {n : Nat} {xs : List Value} (h : w.ownsRow B 30 1 v n xs) (hb : Below w.heap.size w w') : w'.ownsRow B 30 1 v n xs :=
  ownsRow_block h (fun k hk => hb.block k (by
    obtain ⟨c, hc⟩ := own_ne (ownsRow_base h (Nat.zero_le _)) hk
    exact (Array.getElem?_eq_some_iff.1 hc).1))

/-- A fresh copy of a list of records, with one more. -/
theorem LZ.copied {w w3 wc : World} {Z : Nat → Prop} {v' u : Value} {rs : List (List UInt8)} {y : List UInt8} {vals : List Value} (hw : w.heap.size ≤ w3.heap.size) (hZ : ∀ k, Z k → k < w3.heap.size)
    (hlen : vals.length = rs.length) (hr : ∀ (i : Nat) (r : List UInt8), rs[i]? = some r → ∃ u, vals[i]? = some u ∧ BV w w3 Z u r) (hu : Sl.RdA w u y)
    (ho : wc.ownsRow w3.heap.size 30 1 v' (rs.length + 1) (vals ++ [u])) (hb : Below w3.heap.size w3 wc) : LZ w wc Z v' (rs ++ [y]) := by
  refine ⟨vals ++ [u], by rw [List.length_append]; exact ownsRow_base ho (Nat.zero_le _), fun k hk => ?_, fun i r hi => ?_⟩
  · rcases ho.2 with ⟨rfl, h0⟩ | ⟨g, cap, cur, rfl, hB, _⟩
    · cases hk
    · have e : k = g := by cases hk; rfl
      subst e
      exact ⟨by omega, fun hz => by have := hZ _ hz; omega⟩
  · by_cases hlt : i < rs.length
    · rw [List.getElem?_append_left hlt] at hi
      obtain ⟨u', h1, h2⟩ := hr i r hi
      exact ⟨u', by rw [List.getElem?_append_left (by omega)]; exact h1, h2.on (Y := fun _ => False) (Y' := fun _ => False) (Step.of_below hb) (fun _ h => h.elim) (fun _ h => .inl h)⟩
    · have hi' : i = rs.length := by
        have := (List.getElem?_eq_some_iff.1 hi).1
        simp at this; omega
      subst hi'
      rw [List.getElem?_append_right (Nat.le_refl _), Nat.sub_self] at hi
      cases hi
      exact ⟨u, by rw [List.getElem?_append_right (by omega), hlen, Nat.sub_self]; rfl, .inl hu⟩
end Go.Proofs.Ythgkkmcpmhfehaa

namespace Go.Proofs.Ythgkkmcpmhfehaa
open Go.RowKit Go.Lib Go.Shelf
set_option maxRecDepth 100000

theorem ob_eq {g k n c : Nat} (h : (Value.slice (some ⟨g, 0, none⟩) n c).ownBlock = some k) : g = k := by cases h; rfl

/-- What moves with a pair. -/
def ZP (X : Nat → Prop) (p t : Nat) : Nat → Prop := fun k => X k ∨ k = p ∨ k = t

/-- Behind a call that may have lost the power. -/
structure Mid (w w' : World) (p q gx : Nat) (xrow : Array Value) (armed0 : Prop) (half : Nat) (b : List UInt8) (rs : List (List UInt8)) (b1 : List UInt8) (rs1 : List (List UInt8)) (vs vr v12 v13 : Value) (code : Int) (ops : Nat) (X' : Nat → Prop) (t' : Nat) (S' : DS) : Prop where
  d : Drum w' X' q 201 S'
  bel : Below w.heap.size w w'
  xa : ∀ k, X' k → w.heap.size ≤ k
  wz : S'.W = []
  ops : S'.ops ≤ ops
  ta : w.heap.size ≤ t'
  x : w'.heap[gx]? = some (.cells xrow 59 (0, 0))
  xz : ¬ ZP X' p t' gx
  s : BV w w' (ZP X' p t') vs b
  r : LZ w w' (ZP X' p t') vr rs
  s1 : BV w w' (ZP X' p t') v13 b1
  r1 : LZ w w' (ZP X' p t') v12 rs1
  c : (code = 0 ∧ ∃ half', PS w' X' p t' q 201 S' half' b1 rs1) ∨ (code = 20 ∧ armed0 ∧ S'.armed = 0 ∧ S'.down = true ∧ ∃ half' b' rs', PP S'.P 201 half' b' rs' ∧ ((b' = b ∧ rs' = rs) ∨ (b' = b1 ∧ rs' = rs1)))

set_option maxHeartbeats 16000000 in
theorem loses_any (w : World) (v1 : Value) (n1 : Nat) (h1 : RdSt w v1 n1) :
    Calls Try.prog 4 #[v1] w fun e w' => e = .returned (.bool true) ∧ Below w.heap.size w w' := by
  obtain ⟨a1, c1, rfl, hr1⟩ := h1
  have HR1 : Hid _ := hr1
  clear hr1
  have hmix : Try.prog.follows .mixedOrders = true := by kernel_rfl
  have hnot : ∀ (b : Bool) (w : World), (Op.unary .not (.bool b)).run Try.prog w = .ok (.bool (!b)) w := fun _ _ => rfl
  go_enter Try.func4, Try.ntmps4
  go_wp2_with fail
  refine (wakes_any w).mono ?_
  rintro e w0 ⟨rfl, hb0⟩
  by_cases hbig : 40 < n1
  · have h' : (40 : Int) < (n1 : Int) := by omega
    go_wp2_with fail
    go_ret
    exact ⟨rfl, hb0⟩
  have i1 : ¬ (40 : Int) < (n1 : Int) := by omega
  have hn1 : n1 ≤ 40 := by omega
  clear hbig
  have N10 := new_open w0 201 (by decide) (by decide)
  go_wp2_with fail
  refine N10.mono ?_
  rintro e w1 ⟨X0, q, S0, rfl, hdr0, hpp0, hW0, hops0, har0, hdn0, hb1, hX0⟩
  have hb01 : Below w.heap.size w w1 := hb0.trans (hb1.mono hb0.size)
  have N12 := first_pa w w1 X0 q 201 S0 hdr0 hpp0 hW0 har0 hdn0 hb01 (fun k hk => Nat.le_trans hb0.size (hX0 k hk)) (by decide)
  clear N10 i1
  go_wp2_with fail
  refine N12.mono ?_
  rintro e w2 ⟨v1, v2, p, t, rfl, ⟨sa6, sc6, rfl⟩, ⟨ra6, rc6, rfl⟩, hpa⟩
  clear N12 hb01 hdr0 hpp0 hW0 har0 hdn0 hX0 hb1 hb0
  go_wp2_with fail
  go_loopw [40, 4, 7, 8, 9] (fun i vp ve vs vr wr => ∃ (j p t : Nat) (X : Nat → Prop) (S : DS) (half : Nat) (b : List UInt8) (rs : List (List UInt8)) (ec : Int), j ≤ n1 ∧ i = .int .i64 j ∧ vp = .pointer (some ⟨p, 0, none⟩) ∧ ve = .int .i64 ec ∧ PS wr X p t q 201 S half b rs ∧ S.armed = 0 ∧ w.heap.size ≤ p ∧ w.heap.size ≤ t ∧ BV w wr (ZP X p t) vs b ∧ LZ w wr (ZP X p t) vr rs ∧ b.length ≤ 500 ∧ rs.length ≤ j ∧ tot rs ≤ 512 * j ∧ S.ops ≤ 20 * j ∧ Below w.heap.size w wr ∧ (∀ k, X k → w.heap.size ≤ k)) (fun i _ _ _ _ _ => n1 - (RowKit.intOf i).toNat)
  case atStart => exact ⟨0, p, t, X0, S0, 0, [], [], 0, by omega, rfl, rfl, rfl, hpa.ps, hpa.ar, hpa.pa, hpa.ta, .inl (.inl (.inl ⟨rfl, rfl⟩)), LZ.nil _ _ _, by simp, by simp, by simp [tot], by omega, hpa.bel, hpa.xa⟩
  case round =>
    clear hpa hops0
    obtain ⟨j, p, t, X, S, half, b, rs, ec, hj, rfl, rfl, rfl, hps, har, hpw, htw, hbv, hlz, hbl, hrl, htot, hops, hb, hX⟩ := hrel
    by_cases hlt : j < n1
    · obtain ⟨xb, xo, xs, xu, y, zx, zy, hae, q0, q1, q2, q3, q4, q5, q6⟩ := HR1.out j hlt
      cases hae
      have e0 : wr.cell? ⟨xb, xo + j * 4, none⟩ = some (.bool xs) := (hb.cell (p := ⟨xb, xo + j * 4, none⟩) (World.block_lt_of_cell? w _ q0)).trans q0
      have e1 : wr.cell? ⟨xb, xo + j * 4 + 1, none⟩ = some xu := (hb.cell (p := ⟨xb, xo + j * 4 + 1, none⟩) (World.block_lt_of_cell? w _ q1)).trans q1
      have e2 : wr.cell? ⟨xb, xo + j * 4 + 2, none⟩ = some (.int .i64 zx) := (hb.cell (p := ⟨xb, xo + j * 4 + 2, none⟩) (World.block_lt_of_cell? w _ q3)).trans q3
      have e3 : wr.cell? ⟨xb, xo + j * 4 + 3, none⟩ = some (.int .i64 zy) := (hb.cell (p := ⟨xb, xo + j * 4 + 3, none⟩) (World.block_lt_of_cell? w _ q4)).trans q4
      obtain ⟨ua, uc, rfl⟩ := q2.len
      obtain ⟨sa, sc, rfl⟩ := hbv.shape
      obtain ⟨ra, rc, rfl⟩ := hlz.shape
      have Q2 : Hid _ := q2
      clear q0 q1 q2 q3 q4
      by_cases hbig : 500 < y.length
      · have hbig' : (500 : Int) < (y.length : Int) := by omega
        go_wp2_with fail
        go_ret
        exact ⟨rfl, hb.alloc hb.size _⟩
      have hbig' : ¬ (500 : Int) < (y.length : Int) := by omega
      go_upto_region 16 with fail
      have hyl : y.length ≤ 500 := by omega
      have hbx : Below wr.heap.size wr (wr.alloc (.cells #[.bool xs, .slice ua y.length uc, .int .i64 zx, .int .i64 zy] 59)) := (Below.refl _ _).alloc (Nat.le_refl _) _
      have hgx : (wr.alloc (.cells #[.bool xs, .slice ua y.length uc, .int .i64 zx, .int .i64 zy] 59)).heap[wr.heap.size]? = some (.cells #[.bool xs, .slice ua y.length uc, .int .i64 zx, .int .i64 zy] 59 (0, 0)) := heap_alloc_new wr _
      have hzl : ∀ k, ZP X p t k → k < wr.heap.size := fun k hk => by
        rcases hk with hk | rfl | rfl
        · exact hps.d.xlt k hk
        · exact hps.pr.lt
        · exact hps.tp.lt
      have hb1 : Below w.heap.size w (wr.alloc (.cells #[.bool xs, .slice ua y.length uc, .int .i64 zx, .int .i64 zy] 59)) := hb.trans (hbx.mono hb.size)
      have hps1 := hps.below hbx
      have hbv1 := hbv.on (Y := fun _ => False) (Y' := fun _ => False) (Step.of_below hbx) (fun _ h => h.elim) (fun _ h => .inl h)
      have hlz1 := hlz.on (Y := fun _ => False) (Y' := fun _ => False) (Step.of_below hbx) (fun _ h => h.elim) (fun _ h => .inl h)
      have hwx := hb.size
      clear hps hbv hlz hb hbx e0 e1 e2 e3
      generalize wr.heap.size = gx at *
      generalize wr.alloc (.cells #[.bool xs, .slice ua y.length uc, .int .i64 zx, .int .i64 zy] 59) = wx at *
      have gl : gx < wx.heap.size := (Array.getElem?_eq_some_iff.1 hgx).1
      have x2 : wx.cell? ⟨gx, 2, none⟩ = some (.int .i64 zx) := by rw [cell_of_row _ _ _ _ _ _ hgx]; rfl
      have x3 : wx.cell? ⟨gx, 3, none⟩ = some (.int .i64 zy) := by rw [cell_of_row _ _ _ _ _ _ hgx]; rfl
      have N18 := arm_any wx X q 201 S zx zy q5.1 q5.2 q6.1 q6.2 hps1.d
      go_upto_region 17 with (go_at_call 18; refine N18.mono ?_; rintro e w3 ⟨rfl, hd3, hst3⟩)
      have hps3 : PS w3 X p t q 201 { S with armed := zx.toNat, keep := zy } half b rs := ⟨hd3, hps1.pr.on (hst3.block p hps1.pr.lt hps1.np), hps1.tp.on (hst3.block t hps1.tp.lt hps1.nt), hps1.np, hps1.nt, hps1.pp, hps1.dn, hps1.wz⟩
      have hb3 : Below w.heap.size w w3 := hb1.trans (hst3.below hX hb1.size)
      have hbv3 := hbv1.on (Z' := ZP X p t) hst3 (fun k h => .inl h) (fun k h => .inl h)
      have hlz3 := hlz1.on (Z' := ZP X p t) hst3 (fun k h => .inl h) (fun k h => .inl h)
      have hgx3 := (hst3.block gx gl (fun h => by have := hzl gx (.inl h); omega)).trans hgx
      have hzl3 : ∀ k, ZP X p t k → k < gx := hzl
      have ga : zx < 1 → ({ S with armed := zx.toNat, keep := zy } : DS).armed = 0 := fun h => by show zx.toNat = 0; omega
      have go : ({ S with armed := zx.toNat, keep := zy } : DS).ops ≤ 20 * j := hops
      generalize ({ S with armed := zx.toNat, keep := zy } : DS) = S3 at *
      have gl3 : gx < w3.heap.size := (Array.getElem?_eq_some_iff.1 hgx3).1
      clear N18 hst3 hd3 hps1 hbv1 hlz1 hb1 hgx x2 x3 gl hops har hzl q5 q6
      obtain ⟨vals, ho3, hbk3, hrr3⟩ := hlz3
      have hvl : vals.length = rs.length := by have := ho3.1; omega
      have hone : ∀ u ∈ vals, u.oneCell' = true := fun u hu => by
        obtain ⟨i, hi⟩ := List.mem_iff_getElem?.1 hu
        have hil : i < rs.length := by rw [← hvl]; exact (List.getElem?_eq_some_iff.1 hi).1
        obtain ⟨u', h1, h2⟩ := hrr3 i _ (List.getElem?_eq_getElem hil)
        rw [h1] at hi
        cases hi
        exact h2.one
      go_cut [12] (fun v12 wc => Hid (wc.ownsRow w3.heap.size 30 1 v12 (rs.length + 1) (vals ++ [.slice ua y.length uc]) ∧ Below w3.heap.size w3 wc))
      case first =>
        have hS : w3.drew.cell? ⟨gx, 1, none⟩ = some (.slice ua y.length uc) := by
          show w3.cell? ⟨gx, 1, none⟩ = _
          rw [cell_of_row _ _ _ _ _ _ hgx3]; rfl
        have hkeep : ∀ W' : World, Below w3.heap.size w3 W' → W'.cell? ⟨gx, 1, none⟩ = some (.slice ua y.length uc) := fun W' hW' => by
          rw [hW'.cell (p := ⟨gx, 1, none⟩) gl3]; exact hS
        have hd0 : Below w3.heap.size w3 w3.drew := ⟨rfl, rfl, rfl, Nat.le_refl _, fun _ _ => rfl⟩
        have hsz0 : w3.drew.heap.size = w3.heap.size := rfl
        generalize hWD : w3.drew = wd at *
        refine wp_region_held (S := fun W' => W'.cell? ⟨gx, 1, none⟩ = some (.slice ua y.length uc)) hmix ?_
        show wpAnyH _ _ _ _ _ _ _ _ w3.drew
        rw [hWD]
        clear hWD
        refine wpAnyH_take (i := 1) (v := .slice ra rs.length rc) rfl (by kernel_rfl) (by kernel_rfl) (by kernel_rfl) (fun _ _ _ h => h) (.inl ⟨by rfl, fun W' hW' => ?_⟩) hS ?_
        · have hW' : W'.cell? ⟨gx, 1, none⟩ = some (.slice ua y.length uc) := hW'
          go_simp
        simp only [Act.put, List.getElem_toArray, List.getElem_cons_succ, List.getElem_cons_zero, List.setIfInBounds_toArray, List.set_cons_succ, List.set_cons_zero]
        refine wpAnyH_take (i := 3) (v := .pointer (some ⟨gx, 1, none⟩)) rfl (by kernel_rfl) (by kernel_rfl) (by kernel_rfl) (fun _ _ _ h => h) (.inl ⟨by rfl, fun W' hW' => ?_⟩) hS ?_
        · have hW' : W'.cell? ⟨gx, 1, none⟩ = some (.slice ua y.length uc) := hW'
          go_simp
        simp only [Act.put, List.getElem_toArray, List.getElem_cons_succ, List.getElem_cons_zero, List.setIfInBounds_toArray, List.set_cons_succ, List.set_cons_zero]
        refine wpAnyH_take (i := 4) (v := .slice ua y.length uc) rfl (by kernel_rfl) (by kernel_rfl) (by kernel_rfl) (fun _ _ _ h => h) (.inl ⟨by rfl, fun W' hW' => ?_⟩) hS ?_
        · have hW' : W'.cell? ⟨gx, 1, none⟩ = some (.slice ua y.length uc) := hW'
          go_simp
        simp only [Act.put, List.getElem_toArray, List.getElem_cons_succ, List.getElem_cons_zero, List.setIfInBounds_toArray, List.set_cons_succ, List.set_cons_zero]
        refine wpAnyH_two (i := 0) (j := 5) (by kernel_rfl) rfl (by rfl) rfl (by rfl) (fun K hK => ?_) (fun K hK => ?_)
        · go_simp
          have hbA : Below w3.heap.size w3 (wd.alloc (.cells #[] 30)) := hd0.alloc (by rw [hsz0]; exact Nat.le_refl _) _
          have hgA : (wd.alloc (.cells #[] 30)).heap[wd.heap.size]? = some (.cells #[] 30 (0, 0)) := heap_alloc_new wd _
          rw [hsz0] at hgA
          generalize wd.alloc (.cells #[] 30) = wA at *
          refine hK _ _ (hkeep _ hbA) ?_
          clear hK K
          refine wpAnyH_two (i := 2) (j := 5) (by kernel_rfl) rfl (by rfl) rfl (by rfl) (fun K hK => ?_) (fun K hK => ?_)
          · refine wp_appL (.tmp 54) (.tmp 55) rfl w3.heap.size _ _ [] vals 0 rs.length wA rfl (own_no (Nat.le_refl _) hgA) rfl (own_on ho3 hbA) hone (by omega) (by omega) hbA.size ?_
            intro v56 w56 ho56 hb56 hk56
            rw [Nat.zero_add, List.nil_append] at ho56
            have hb056 : Below w3.heap.size w3 w56 := hbA.trans hb56
            refine hK _ _ (hkeep _ hb056) ?_
            clear hK K
            simp only [Act.put, List.getElem_toArray, List.getElem_cons_succ, List.getElem_cons_zero, List.setIfInBounds_toArray, List.set_cons_succ, List.set_cons_zero]
            refine wpAnyH_one (i := 5) (by kernel_rfl) rfl (by rfl) (fun K hK => ?_)
            go_simp
            have hbB : Below w3.heap.size w3 (w56.alloc (.cells #[.slice ua y.length uc] 30)) := hb056.alloc hb056.size _
            have hbB' : Below w56.heap.size w56 (w56.alloc (.cells #[.slice ua y.length uc] 30)) := (Below.refl _ _).alloc (Nat.le_refl _) _
            have hgB : (w56.alloc (.cells #[.slice ua y.length uc] 30)).heap[w56.heap.size]? = some (.cells #[.slice ua y.length uc] 30 (0, 0)) := heap_alloc_new w56 _
            generalize w56.alloc (.cells #[.slice ua y.length uc] 30) = wB at *
            refine hK _ _ (hkeep _ hbB) ?_
            clear hK K
            refine wpAnyH_one (i := 6) (by kernel_rfl) rfl (by rfl) (fun K hK => ?_)
            refine wp_appL (.tmp 56) (.tmp 59) rfl w3.heap.size _ _ vals [.slice ua y.length uc] rs.length 1 wB rfl (own_on ho56 hbB') rfl (own_one hgB) (fun u hu => by obtain rfl := List.mem_singleton.1 hu; rfl) (by omega) (by omega) hbB.size ?_
            intro v60 w60 ho60 hb60 _
            have hb060 : Below w3.heap.size w3 w60 := hbB.trans hb60
            refine hK _ _ (hkeep _ hb060) ?_
            clear hK K
            simp only [Act.put, List.getElem_toArray, List.getElem_cons_succ, List.getElem_cons_zero, List.setIfInBounds_toArray, List.set_cons_succ, List.set_cons_zero]
            have hS := hkeep _ hb060
            refine wpAnyH_take (i := 7) (v := v60) rfl (by kernel_rfl) (by kernel_rfl) (by kernel_rfl) (fun _ _ _ h => h) (.inl ⟨by rfl, fun W' hW' => ?_⟩) hS ?_
            · have hW' : W'.cell? ⟨gx, 1, none⟩ = some (.slice ua y.length uc) := hW'
              go_simp
            simp only [Act.put, List.getElem_toArray, List.getElem_cons_succ, List.getElem_cons_zero, List.setIfInBounds_toArray, List.set_cons_succ, List.set_cons_zero]
            refine wpAnyH_done (by kernel_rfl) ?_ _
            go_wp2_with fail
            go_meet
            exact ⟨ho60, hb060⟩
          · go_simp
            have hbB : Below w3.heap.size w3 (wA.alloc (.cells #[.slice ua y.length uc] 30)) := hbA.alloc hbA.size _
            have hbB' : Below wA.heap.size wA (wA.alloc (.cells #[.slice ua y.length uc] 30)) := (Below.refl _ _).alloc (Nat.le_refl _) _
            have hgB : (wA.alloc (.cells #[.slice ua y.length uc] 30)).heap[wA.heap.size]? = some (.cells #[.slice ua y.length uc] 30 (0, 0)) := heap_alloc_new wA _
            have hgA2 : (wA.alloc (.cells #[.slice ua y.length uc] 30)).heap[w3.heap.size]? = some (.cells #[] 30 (0, 0)) := (hbB'.block _ (Array.getElem?_eq_some_iff.1 hgA).1).trans hgA
            generalize wA.alloc (.cells #[.slice ua y.length uc] 30) = wB at *
            have hlA : w3.heap.size < wA.heap.size := by have := (Array.getElem?_eq_some_iff.1 hgA).1; omega
            refine hK _ _ (hkeep _ hbB) ?_
            clear hK K
            refine wpAnyH_one (i := 2) (by kernel_rfl) rfl (by rfl) (fun K hK => ?_)
            refine wp_appL (.tmp 54) (.tmp 55) rfl w3.heap.size (.slice (some ⟨w3.heap.size, 0, none⟩) 0 0) _ [] vals 0 rs.length wB rfl (own_no (Nat.le_refl _) hgA2) rfl (own_on ho3 hbB) hone (by omega) (by omega) hbB.size ?_
            intro v56 w56 ho56 hb56 hk56
            rw [Nat.zero_add, List.nil_append] at ho56
            have hb056 : Below w3.heap.size w3 w56 := hbB.trans hb56
            have hgB6 : w56.heap[wA.heap.size]? = some (.cells #[.slice ua y.length uc] 30 (0, 0)) := (hk56 _ (Array.getElem?_eq_some_iff.1 hgB).1 (fun e => absurd (ob_eq e) (by omega))).trans hgB
            refine hK _ _ (hkeep _ hb056) ?_
            clear hK K
            simp only [Act.put, List.getElem_toArray, List.getElem_cons_succ, List.getElem_cons_zero, List.setIfInBounds_toArray, List.set_cons_succ, List.set_cons_zero]
            refine wpAnyH_one (i := 6) (by kernel_rfl) rfl (by rfl) (fun K hK => ?_)
            refine wp_appL (.tmp 56) (.tmp 59) rfl w3.heap.size _ _ vals [.slice ua y.length uc] rs.length 1 w56 rfl ho56 rfl (own_one hgB6) (fun u hu => by obtain rfl := List.mem_singleton.1 hu; rfl) (by omega) (by omega) hb056.size ?_
            intro v60 w60 ho60 hb60 _
            have hb060 : Below w3.heap.size w3 w60 := hb056.trans hb60
            refine hK _ _ (hkeep _ hb060) ?_
            clear hK K
            simp only [Act.put, List.getElem_toArray, List.getElem_cons_succ, List.getElem_cons_zero, List.setIfInBounds_toArray, List.set_cons_succ, List.set_cons_zero]
            have hS := hkeep _ hb060
            refine wpAnyH_take (i := 7) (v := v60) rfl (by kernel_rfl) (by kernel_rfl) (by kernel_rfl) (fun _ _ _ h => h) (.inl ⟨by rfl, fun W' hW' => ?_⟩) hS ?_
            · have hW' : W'.cell? ⟨gx, 1, none⟩ = some (.slice ua y.length uc) := hW'
              go_simp
            simp only [Act.put, List.getElem_toArray, List.getElem_cons_succ, List.getElem_cons_zero, List.setIfInBounds_toArray, List.set_cons_succ, List.set_cons_zero]
            refine wpAnyH_done (by kernel_rfl) ?_ _
            go_wp2_with fail
            go_meet
            exact ⟨ho60, hb060⟩
        · go_simp
          have hbA : Below w3.heap.size w3 (wd.alloc (.cells #[.slice ua y.length uc] 30)) := hd0.alloc (by rw [hsz0]; exact Nat.le_refl _) _
          have hgB : (wd.alloc (.cells #[.slice ua y.length uc] 30)).heap[wd.heap.size]? = some (.cells #[.slice ua y.length uc] 30 (0, 0)) := heap_alloc_new wd _
          rw [hsz0] at hgB
          generalize wd.alloc (.cells #[.slice ua y.length uc] 30) = wA at *
          refine hK _ _ (hkeep _ hbA) ?_
          clear hK K
          refine wpAnyH_one (i := 0) (by kernel_rfl) rfl (by rfl) (fun K hK => ?_)
          go_simp
          have hbB : Below w3.heap.size w3 (wA.alloc (.cells #[] 30)) := hbA.alloc hbA.size _
          have hbB' : Below wA.heap.size wA (wA.alloc (.cells #[] 30)) := (Below.refl _ _).alloc (Nat.le_refl _) _
          have hgA : (wA.alloc (.cells #[] 30)).heap[wA.heap.size]? = some (.cells #[] 30 (0, 0)) := heap_alloc_new wA _
          have hgB2 : (wA.alloc (.cells #[] 30)).heap[w3.heap.size]? = some (.cells #[.slice ua y.length uc] 30 (0, 0)) := (hbB'.block _ (Array.getElem?_eq_some_iff.1 hgB).1).trans hgB
          have hlA : w3.heap.size < wA.heap.size := (Array.getElem?_eq_some_iff.1 hgB).1
          generalize wA.alloc (.cells #[] 30) = wB at *
          refine hK _ _ (hkeep _ hbB) ?_
          clear hK K
          refine wpAnyH_one (i := 2) (by kernel_rfl) rfl (by rfl) (fun K hK => ?_)
          refine wp_appL (.tmp 54) (.tmp 55) rfl w3.heap.size (.slice (some ⟨wA.heap.size, 0, none⟩) 0 0) _ [] vals 0 rs.length wB rfl (own_no (Nat.le_of_lt hlA) hgA) rfl (own_on ho3 hbB) hone (by omega) (by omega) hbB.size ?_
          intro v56 w56 ho56 hb56 hk56
          rw [Nat.zero_add, List.nil_append] at ho56
          have hb056 : Below w3.heap.size w3 w56 := hbB.trans hb56
          have hgB6 : w56.heap[w3.heap.size]? = some (.cells #[.slice ua y.length uc] 30 (0, 0)) := (hk56 _ (Array.getElem?_eq_some_iff.1 hgB2).1 (fun e => absurd (ob_eq e) (by omega))).trans hgB2
          refine hK _ _ (hkeep _ hb056) ?_
          clear hK K
          simp only [Act.put, List.getElem_toArray, List.getElem_cons_succ, List.getElem_cons_zero, List.setIfInBounds_toArray, List.set_cons_succ, List.set_cons_zero]
          refine wpAnyH_one (i := 6) (by kernel_rfl) rfl (by rfl) (fun K hK => ?_)
          refine wp_appL (.tmp 56) (.tmp 59) rfl w3.heap.size _ _ vals [.slice ua y.length uc] rs.length 1 w56 rfl ho56 rfl (own_one hgB6) (fun u hu => by obtain rfl := List.mem_singleton.1 hu; rfl) (by omega) (by omega) hb056.size ?_
          intro v60 w60 ho60 hb60 _
          have hb060 : Below w3.heap.size w3 w60 := hb056.trans hb60
          refine hK _ _ (hkeep _ hb060) ?_
          clear hK K
          simp only [Act.put, List.getElem_toArray, List.getElem_cons_succ, List.getElem_cons_zero, List.setIfInBounds_toArray, List.set_cons_succ, List.set_cons_zero]
          have hS := hkeep _ hb060
          refine wpAnyH_take (i := 7) (v := v60) rfl (by kernel_rfl) (by kernel_rfl) (by kernel_rfl) (fun _ _ _ h => h) (.inl ⟨by rfl, fun W' hW' => ?_⟩) hS ?_
          · have hW' : W'.cell? ⟨gx, 1, none⟩ = some (.slice ua y.length uc) := hW'
            go_simp
          simp only [Act.put, List.getElem_toArray, List.getElem_cons_succ, List.getElem_cons_zero, List.setIfInBounds_toArray, List.set_cons_succ, List.set_cons_zero]
          refine wpAnyH_done (by kernel_rfl) ?_ _
          go_wp2_with fail
          go_meet
          exact ⟨ho60, hb060⟩
      case rest =>
        obtain ⟨ho12, hbc⟩ := hcut.out
        clear hcut
        have hlzn := LZ.copied (y := y) hb3.size (fun k hk => Nat.lt_trans (hzl3 k hk) gl3) hvl hrr3 Q2.out ho12 hbc
        obtain ⟨na, nc, rfl⟩ := hlzn.shape
        have hlen1 : (rs ++ [y]).length = rs.length + 1 := by simp
        rw [hlen1] at hlzn ⊢
        have hlz3 : LZ w w3 (ZP X p t) (.slice ra rs.length rc) rs := ⟨vals, ho3, hbk3, hrr3⟩
        have hpsc := hps3.below hbc
        have hbvc := hbv3.on (Y := fun _ => False) (Y' := fun _ => False) (Step.of_below hbc) (fun _ h => h.elim) (fun _ h => .inl h)
        have hlzc := hlz3.on (Y := fun _ => False) (Y' := fun _ => False) (Step.of_below hbc) (fun _ h => h.elim) (fun _ h => .inl h)
        have hbwc : Below w.heap.size w wc := hb3.trans (hbc.mono hb3.size)
        have hgxc := (hbc.block gx gl3).trans hgx3
        have glc : gx < wc.heap.size := (Array.getElem?_eq_some_iff.1 hgxc).1
        have HN : Hid _ := hlzn
        have HV : Hid _ := hbvc
        have HL : Hid _ := hlzc
        clear hlzn hbvc hlzc hlz3 hbv3 hps3 hb3 hgx3 hbc ho12 ho3 hbk3 hrr3 hone hvl gl3
        have x0 : wc.cell? ⟨gx, 0, none⟩ = some (.bool xs) := by rw [cell_of_row _ _ _ _ _ _ hgxc]; rfl
        have x1 : wc.cell? ⟨gx, 1, none⟩ = some (.slice ua y.length uc) := by rw [cell_of_row _ _ _ _ _ _ hgxc]; rfl
        have hsp : spanN 201 = 100 := rfl
        have htb : takesN b.length ≤ 2 := by unfold takesN; omega
        have hty : takesN y.length ≤ 2 := by unfold takesN; omega
        have hzz : ¬ ZP X p t gx := fun h => by have := hzl3 gx h; omega
        go_upto_if 63 with fail
        go_cut [7, 12, 13] (fun v7 v12 v13 w' => ∃ (code : Int) (b1 : List UInt8) (rs1 : List (List UInt8)) (X' : Nat → Prop) (t' : Nat) (S' : DS), v7 = .int .i64 code ∧ b1.length ≤ 500 ∧ rs1.length ≤ j + 1 ∧ tot rs1 ≤ 512 * (j + 1) ∧ Hid (Mid w w' p q gx #[.bool xs, .slice ua y.length uc, .int .i64 zx, .int .i64 zy] (S3.armed ≠ 0) half b rs b1 rs1 (.slice sa b.length sc) (.slice ra rs.length rc) v12 v13 code (20 * (j + 1)) X' t' S'))
        case first =>
          have hops3 : S3.ops ≤ 20 * j := go
          cases xs with
          | true =>
            have x1m : ∀ m, (wc.drewN m).cell? ⟨gx, 1, none⟩ = some (.slice ua y.length uc) := fun m => x1
            go_upto_region 20 with fail
            go_quiet (fail)
            have hbq : Below wc.heap.size wc (wc.drewN nq) := ⟨rfl, rfl, rfl, Nat.le_refl _, fun _ _ => rfl⟩
            have x1q := x1m nq
            have hpq := hpsc.below hbq
            have hbwq : Below w.heap.size w (wc.drewN nq) := hbwc.trans (hbq.mono hbwc.size)
            have hgq := (hbq.block gx glc).trans hgxc
            have hsq : (wc.drewN nq).heap.size = wc.heap.size := rfl
            have HVq : Hid (BV w (wc.drewN nq) (ZP X p t) (.slice sa b.length sc) b) := BV.on HV.out (Step.of_below (X := fun _ => False) hbq) (fun _ h => h.elim) (fun _ h => .inl h)
            have HLq : Hid (LZ w (wc.drewN nq) (ZP X p t) (.slice ra rs.length rc) rs) := LZ.on HL.out (Step.of_below (X := fun _ => False) hbq) (fun _ h => h.elim) (fun _ h => .inl h)
            clear x1m x1 x0 HV HL HN hpsc hgxc hbwc hbq
            generalize wc.drewN nq = wq at *
            have N16 := save_ps wq X p t q 201 S3 half b rs hpq (by omega) y _ (Sl.RdA.on Q2.out hbwq) (by omega) (by rw [hsp]; omega)
            go_wp2_with fail
            refine N16.mono ?_
            rintro e w5 ⟨X5, S5, k1, k2, k3, k4, k5, k7⟩
            have hcode : ∃ c : Int, e = .returned (.int .i64 c) := by
              rcases k7 with h' | h'
              · exact ⟨_, h'.1⟩
              · exact ⟨_, h'.1⟩
            obtain ⟨c0, rfl⟩ := hcode
            have hyz : ∀ k, (X k ∨ k = p) → ZP X p t k := fun k hk => by
              rcases hk with hk | hk
              · exact .inl hk
              · exact .inr (.inl hk)
            obtain ⟨t5, ht5w, hzz5, hcc⟩ : ∃ t5, w.heap.size ≤ t5 ∧ (∀ k, ZP X5 p t5 k → ZP X p t k ∨ wq.heap.size ≤ k) ∧ ((c0 = 0 ∧ ∃ half', PS w5 X5 p t5 q 201 S5 half' y []) ∨ (c0 = 20 ∧ S3.armed ≠ 0 ∧ S5.armed = 0 ∧ S5.down = true ∧ ∃ half' b' rs', PP S5.P 201 half' b' rs' ∧ ((b' = b ∧ rs' = rs) ∨ (b' = y ∧ rs' = [])))) := by
              rcases k7 with ⟨e1, ⟨t', e2, e3⟩, _⟩ | ⟨e1, e2, e3, e4, e5⟩
              · refine ⟨t', Nat.le_trans hbwq.size e2, fun k hk => ?_, .inl ⟨by cases e1; rfl, _, e3⟩⟩
                rcases hk with hk | hk | hk
                · exact (k3 k hk).imp .inl id
                · exact .inl (.inr (.inl hk))
                · exact .inr (by rw [hk]; exact e2)
              · refine ⟨t, htw, fun k hk => ?_, .inr ⟨by cases e1; rfl, e2, e3, e4, ?_⟩⟩
                · rcases hk with hk | hk
                  · exact (k3 k hk).imp .inl id
                  · exact .inl (.inr hk)
                · rcases e5 with e5 | e5
                  · exact ⟨_, b, rs, e5, .inl ⟨rfl, rfl⟩⟩
                  · exact ⟨_, y, [], e5, .inr ⟨rfl, rfl⟩⟩
            have glq : gx < wq.heap.size := (Array.getElem?_eq_some_iff.1 hgq).1
            have hb5 : Below w.heap.size w w5 := hbwq.trans (k2.below (fun k hk => by
              rcases hk with hk | hk
              · exact hX k hk
              · rw [hk]; exact hpw) hbwq.size)
            have hmid : Mid w w5 p q gx #[.bool true, .slice ua y.length uc, .int .i64 zx, .int .i64 zy] (S3.armed ≠ 0) half b rs y [] (.slice sa b.length sc) (.slice ra rs.length rc) (.slice none 0 0) (.slice ua y.length uc) c0 (20 * (j + 1)) X5 t5 S5 := by
              refine ⟨k1, hb5, fun k hk => ?_, k4, by omega, ht5w, (k2.block gx glq (fun h => hzz (hyz gx h))).trans hgq, fun h => ?_, BV.on HVq.out k2 hyz hzz5, LZ.on HLq.out k2 hyz hzz5, .inl Q2.out, LZ.nil _ _ _, hcc⟩
              · rcases k3 k hk with hk | hk
                · exact hX k hk
                · exact Nat.le_trans hbwq.size hk
              · rcases hzz5 gx h with h | h
                · exact hzz h
                · omega
            have HMid : Hid _ := hmid
            clear hmid k7 k1 k2 k3 k4 k5 N16 hcc
            go_wp2_with fail
            go_meet
            exact ⟨c0, y, [], X5, t5, S5, rfl, hyl, by simp, by simp [tot], HMid.out⟩
          | false =>
            have hpl : tot rs + (12 + y.length) ≤ (spanN 201 - takesN b.length) * 256 := by rw [hsp]; omega
            have N14 := append_ps wc X p t q 201 S3 half b rs hpsc (by omega) (by omega) y _ (Sl.RdA.on Q2.out hbwc) (by omega) hpl
            go_wp2_with fail
            refine N14.mono ?_
            rintro e w5 ⟨X5, S5, k1, k2, k3, k4, k5, k6, k7⟩
            have hcode : ∃ c : Int, e = .returned (.int .i64 c) := by
              rcases k7 with h' | h'
              · exact ⟨_, h'.1⟩
              · exact ⟨_, h'.1⟩
            obtain ⟨c0, rfl⟩ := hcode
            have hyz : ∀ k, (X k ∨ k = t) → ZP X p t k := fun k hk => by
              rcases hk with hk | hk
              · exact .inl hk
              · exact .inr (.inr hk)
            have hzz5 : ∀ k, ZP X5 p t k → ZP X p t k ∨ wc.heap.size ≤ k := fun k hk => by
              rcases hk with hk | hk
              · exact (k3 k hk).imp .inl id
              · exact .inl (.inr hk)
            have hmid : Mid w w5 p q gx #[.bool false, .slice ua y.length uc, .int .i64 zx, .int .i64 zy] (S3.armed ≠ 0) half b rs b (rs ++ [y]) (.slice sa b.length sc) (.slice ra rs.length rc) (.slice na (rs.length + 1) nc) (.slice sa b.length sc) c0 (20 * (j + 1)) X5 t S5 := by
              refine ⟨k1, hbwc.trans (k2.below (fun k hk => ?_) hbwc.size), fun k hk => ?_, k4, by omega, htw, (k2.block gx glc (fun h => hzz (hyz gx h))).trans hgxc, fun h => ?_, BV.on HV.out k2 hyz hzz5, LZ.on HL.out k2 hyz hzz5, BV.on HV.out k2 hyz hzz5, LZ.on HN.out k2 hyz hzz5, ?_⟩
              · rcases hk with hk | hk
                · exact hX k hk
                · rw [hk]; exact htw
              · rcases k3 k hk with hk | hk
                · exact hX k hk
                · exact Nat.le_trans hbwc.size hk
              · rcases hzz5 gx h with h | h
                · exact hzz h
                · omega
              · rcases k7 with ⟨e1, e2, _⟩ | ⟨e1, e2, e3, e4, e5⟩
                · exact .inl ⟨by cases e1; rfl, half, e2⟩
                · refine .inr ⟨by cases e1; rfl, e2, e3, e4, ?_⟩
                  rcases e5 with e5 | e5
                  · exact ⟨half, b, rs, e5, .inl ⟨rfl, rfl⟩⟩
                  · exact ⟨half, b, rs ++ [y], e5, .inr ⟨rfl, rfl⟩⟩
            have HMid : Hid _ := hmid
            clear hmid k7 k1 k2 k3 k4 k5 k6 N14
            go_wp2_with fail
            go_meet
            exact ⟨c0, b, rs ++ [y], X5, t, S5, rfl, hbl, by rw [List.length_append]; simp; omega, by rw [tot_snoc]; omega, HMid.out⟩
        case rest =>
          obtain ⟨code, b1, rs1, X5, t5, S5, rfl, hb1l, hr1l, htot1, HMi⟩ := hcut
          have hm : Mid w wc p q gx #[.bool xs, .slice ua y.length uc, .int .i64 zx, .int .i64 zy] (S3.armed ≠ 0) half b rs b1 rs1 (.slice sa b.length sc) (.slice ra rs.length rc) _ _ code (20 * (j + 1)) X5 t5 S5 := HMi.out
          obtain ⟨s1a, s1c, hs1⟩ := hm.s1.shape
          obtain ⟨r1a, r1c, hr1⟩ := hm.r1.shape
          rw [hs1, hr1] at hm
          subst hs1 hr1
          clear HMi HN HV HL hpsc hgxc hbwc x0 x1 hlen1
          have hmc := hm.c
          rcases hmc with ⟨rfl, half', hps5⟩ | ⟨rfl, ha0, ha5, hd5, half', b', rs', hpp5, hwho⟩
          · have N18 := arm_any wc X5 q 201 S5 0 0 (by decide) (by decide) (by decide) (by decide) hm.d
            have HM : Hid _ := hm
            clear hm
            go_wp2_with fail
            refine N18.mono ?_
            rintro e w6 ⟨rfl, hd6, hst6⟩
            obtain ⟨S6, hS6⟩ : ∃ S6, S6 = ({ S5 with armed := (0 : Int).toNat, keep := 0 } : DS) := ⟨_, rfl⟩
            rw [← hS6] at hd6
            have hps6 : PS w6 X5 p t5 q 201 S6 half' b1 rs1 := ⟨hd6, hps5.pr.on (hst6.block p hps5.pr.lt hps5.np), hps5.tp.on (hst6.block t5 hps5.tp.lt hps5.nt), hps5.np, hps5.nt, by rw [hS6]; exact hps5.pp, by rw [hS6]; exact hps5.dn, by rw [hS6]; exact hps5.wz⟩
            have q1 : S6.armed = 0 := by rw [hS6]; rfl
            have q2 : S6.ops ≤ 20 * (j + 1) := by rw [hS6]; exact HM.out.ops
            clear hS6 N18 hd6
            have hfin : Hid (Below w.heap.size w w6 ∧ BV w w6 (ZP X5 p t5) (.slice s1a b1.length s1c) b1 ∧ LZ w w6 (ZP X5 p t5) (.slice r1a rs1.length r1c) rs1) := by
              have : Below w.heap.size w w6 ∧ BV w w6 (ZP X5 p t5) (.slice s1a b1.length s1c) b1 ∧ LZ w w6 (ZP X5 p t5) (.slice r1a rs1.length r1c) rs1 :=
                ⟨HM.out.bel.trans (hst6.below HM.out.xa HM.out.bel.size), HM.out.s1.on hst6 (fun k h => .inl h) (fun k h => .inl h), HM.out.r1.on hst6 (fun k h => .inl h) (fun k h => .inl h)⟩
              exact this
            have HPS : Hid _ := hps6
            clear hps6 hps5 hst6
            go_wp2_with fail
            go_roundw
            case rel => exact ⟨j + 1, p, t5, X5, S6, half', b1, rs1, 0, by omega, by go_num, rfl, rfl, HPS.out, q1, hpw, HM.out.ta, hfin.out.2.1, hfin.out.2.2, hb1l, hr1l, htot1, q2, hfin.out.1, HM.out.xa⟩
            case measure => simp [RowKit.intOf]; omega
          · have hzx : ¬ zx < 1 := fun h => ha0 (ga h)
            have x2 : wc.cell? ⟨gx, 2, none⟩ = some (.int .i64 zx) := by rw [cell_of_row _ _ _ _ _ _ hm.x]; rfl
            have N30 := down_any wc X5 q 201 S5 hm.d
            rw [hd5] at N30
            have N22 := on_any wc X5 q 201 S5 hm.d
            have HM : Hid _ := hm
            clear hm
            go_wp2_with (first | (go_at_call 30; refine N30.mono ?_; rintro e w9 ⟨rfl, hw9⟩; have hw9 := hw9.symm; subst hw9))
            refine N22.mono ?_
            rintro e w6 ⟨rfl, hd6, hst6⟩
            obtain ⟨S6, hS6⟩ : ∃ S6, S6 = ({ S5 with down := false } : DS) := ⟨_, rfl⟩
            rw [← hS6] at hd6
            have q0 : S6.P = S5.P := by rw [hS6]
            have q1 : S6.armed = 0 := by rw [hS6]; exact ha5
            have q2 : S6.ops ≤ 20 * (j + 1) := by rw [hS6]; exact HM.out.ops
            have q3 : S6.down = false := by rw [hS6]
            have q4 : S6.W = [] := by rw [hS6]; exact HM.out.wz
            clear hS6 N22 N30 x2
            rw [← q0] at hpp5
            have hlens : b'.length ≤ 500 ∧ rs'.length ≤ j + 1 ∧ tot rs' ≤ 512 * (j + 1) := by
              rcases hwho with ⟨rfl, rfl⟩ | ⟨rfl, rfl⟩
              · exact ⟨hbl, by omega, by omega⟩
              · exact ⟨hb1l, hr1l, htot1⟩
            obtain ⟨hbl', hrl', htot'⟩ := hlens
            have N12 := popen_any w6 X5 q 201 S6 q3 q4 hd6 (by decide) half' b' rs' (by omega) hpp5
            have hb6 : Below w.heap.size w w6 := HM.out.bel.trans (hst6.below HM.out.xa HM.out.bel.size)
            have hxl6 := hd6.xlt
            have HW6 : Hid (BV w w6 (ZP X5 p t5) (.slice sa b.length sc) b ∧ LZ w w6 (ZP X5 p t5) (.slice ra rs.length rc) rs ∧ BV w w6 (ZP X5 p t5) (.slice s1a b1.length s1c) b1 ∧ LZ w w6 (ZP X5 p t5) (.slice r1a rs1.length r1c) rs1) := by
              have : BV w w6 (ZP X5 p t5) (.slice sa b.length sc) b ∧ LZ w w6 (ZP X5 p t5) (.slice ra rs.length rc) rs ∧ BV w w6 (ZP X5 p t5) (.slice s1a b1.length s1c) b1 ∧ LZ w w6 (ZP X5 p t5) (.slice r1a rs1.length r1c) rs1 :=
                ⟨HM.out.s.on hst6 (fun k h => .inl h) (fun k h => .inl h), HM.out.r.on hst6 (fun k h => .inl h) (fun k h => .inl h), HM.out.s1.on hst6 (fun k h => .inl h) (fun k h => .inl h), HM.out.r1.on hst6 (fun k h => .inl h) (fun k h => .inl h)⟩
              exact this
            have hxa5 := HM.out.xa
            clear HM hst6 hd6 hpp5
            go_wp2_with fail
            refine N12.mono ?_
            rintro e w7 ⟨hb67, vb, vl, p7, t7, rfl, hp7, ht7, hsv, hrec, hps7⟩
            have hb7 : Below w.heap.size w w7 := hb6.trans (hb67.mono hb6.size)
            have hZ7 : ∀ (k : Nat) (c : Array Value) (e : TypeId), w6.heap.size ≤ k → (e = 5 ∨ e = 30) → w7.heap[k]? = some (.cells c e (0, 0)) → ¬ ZP X5 p7 t7 k := fun k c e hk he hc hz => by
              rcases hz with hz | hz | hz
              · have := hxl6 k hz; omega
              · exact ne_type hc (hz ▸ hps7.pr.b) (by rcases he with rfl | rfl <;> decide) rfl
              · exact ne_type hc (hz ▸ hps7.tp.b) (by rcases he with rfl | rfl <;> decide) rfl
            have hbv7 : BV w w7 (ZP X5 p7 t7) vb b' := hsv.bv hb6.size hZ7
            have hlz7 : LZ w w7 (ZP X5 p7 t7) vl rs' := hrec.lz hb6.size hZ7
            obtain ⟨ba, bc, rfl⟩ := hsv.shape
            obtain ⟨la, lc, rfl⟩ := hrec.shape
            obtain ⟨u1, u2, u3, u4⟩ := HW6.out
            have hst67 : Step (fun _ => False) (fun _ => False) w6 w7 := Step.of_below hb67
            have r1 : Sl.RdA w7 (.slice sa b.length sc) b := (u1.on (Z' := ZP X5 p t5) hst67 (fun _ h => h.elim) (fun _ h => .inl h)).rd hb7
            have r2 : RdL w7 (.slice ra rs.length rc) rs := (u2.on (Z' := ZP X5 p t5) hst67 (fun _ h => h.elim) (fun _ h => .inl h)).rdl hb7
            have r3 : Sl.RdA w7 (.slice s1a b1.length s1c) b1 := (u3.on (Z' := ZP X5 p t5) hst67 (fun _ h => h.elim) (fun _ h => .inl h)).rd hb7
            have r4 : RdL w7 (.slice r1a rs1.length r1c) rs1 := (u4.on (Z' := ZP X5 p t5) hst67 (fun _ h => h.elim) (fun _ h => .inl h)).rdl hb7
            have hdm : ∀ m, Below w7.heap.size w7 (w7.drewN m) := fun m => ⟨rfl, rfl, rfl, Nat.le_refl _, fun _ _ => rfl⟩
            have g1 : ∀ m, (convert 30 9 (.slice sa b.length sc)).run Try.prog (w7.drewN m) = .ok (.string ⟨b.toArray⟩) (w7.drewN m) := fun m => convA (Sl.RdA.on r1 (hdm m))
            have g3 : ∀ m, (convert 30 9 (.slice s1a b1.length s1c)).run Try.prog (w7.drewN m) = .ok (.string ⟨b1.toArray⟩) (w7.drewN m) := fun m => convA (Sl.RdA.on r3 (hdm m))
            have g5 : ∀ m, (convert 30 9 (.slice ba b'.length bc)).run Try.prog (w7.drewN m) = .ok (.string ⟨b'.toArray⟩) (w7.drewN m) := fun m => convA (Sl.RdA.on hsv.rd (hdm m))
            have N23a : ∀ m, Calls Try.prog 23 #[.slice la rs'.length lc, .slice ra rs.length rc] (w7.drewN m) fun e w' => e = .returned (.bool (decide (rs' = rs))) ∧ ∃ k, w' = (w7.drewN m).drewN k := fun m => alike_any (w7.drewN m) _ _ rs' rs (hrec.rdl.on (hdm m)) (r2.on (hdm m)) (by omega) (by omega)
            have N23b : ∀ m, Calls Try.prog 23 #[.slice la rs'.length lc, .slice r1a rs1.length r1c] (w7.drewN m) fun e w' => e = .returned (.bool (decide (rs' = rs1))) ∧ ∃ k, w' = (w7.drewN m).drewN k := fun m => alike_any (w7.drewN m) _ _ rs' rs1 (hrec.rdl.on (hdm m)) (r4.on (hdm m)) (by omega) (by omega)
            have hse1 := str_beq b' b
            have hse2 := str_beq b' b1
            have HBV7 : Hid _ := hbv7
            have HLZ7 : Hid _ := hlz7
            have HPS7 : Hid _ := hps7
            have HWHO : Hid _ := hwho
            clear hbv7 hlz7 hps7 hsv hrec r1 r2 r3 r4 u1 u2 u3 u4 HW6 hZ7 hst67 hwho N12
            have G1 : Hid _ := g1
            have G3 : Hid _ := g3
            have G5 : Hid _ := g5
            have HS1 : Hid _ := hse1
            have HS2 : Hid _ := hse2
            clear g1 g3 g5 hse1 hse2
            go_upto_region 32 with fail
            go_cut [18] (fun v18 wq => v18 = .bool (decide (b' = b ∧ rs' = rs)) ∧ ∃ m, wq = w7.drewN m)
            case first =>
              have k1 : (convert 30 9 (.slice sa b.length sc)).run Try.prog (w7) = .ok (.string ⟨b.toArray⟩) (w7) := G1.out 0
              have k5 : (convert 30 9 (.slice ba b'.length bc)).run Try.prog (w7) = .ok (.string ⟨b'.toArray⟩) (w7) := G5.out 0
              have hse := HS1.out
              have NN := N23a 0
              clear N23a N23b
              generalize (⟨b'.toArray⟩ : ByteArray) = c' at *
              generalize (⟨b.toArray⟩ : ByteArray) = c at *
              by_cases hbb : b' = b
              · have hq : (c'.toList == c.toList) = true := by rw [hse]; exact decide_eq_true hbb
                have HBB : Hid _ := hbb
                clear hse hbb
                go_wp2_with fail
                refine NN.mono ?_
                rintro e w8 ⟨rfl, kq, hw8⟩
                have hdd : decide (rs' = rs) = decide (b' = b ∧ rs' = rs) := by simp [HBB.out]
                have HDD : Hid _ := hdd
                have HW8 : Hid _ := hw8
                clear NN hdd hw8
                generalize decide (rs' = rs) = dd at HDD ⊢
                go_wp2_with fail
                go_meet
                exact ⟨by rw [HDD.out], 0 + kq, by rw [HW8.out]; simp [World.drewN]⟩
              · have hq : (c'.toList == c.toList) = false := by rw [hse]; exact decide_eq_false hbb
                clear hse
                have hdd : false = decide (b' = b ∧ rs' = rs) := by simp [hbb]
                have HDD : Hid _ := hdd
                clear NN hbb hdd
                go_wp2_with fail
                go_meet
                exact ⟨by rw [← HDD.out], 0, rfl⟩
            case rest =>
              obtain ⟨rfl, m1, rfl⟩ := hcut
              obtain ⟨d1, hD1⟩ : ∃ d1, decide (b' = b ∧ rs' = rs) = d1 := ⟨_, rfl⟩
              rw [hD1]
              have HD1 : Hid (decide (b' = b ∧ rs' = rs) = d1) := hD1
              clear hD1
              go_upto_region 33 with fail
              go_cut [19] (fun v18 wq => v18 = .bool (decide (b' = b1 ∧ rs' = rs1)) ∧ ∃ m, wq = w7.drewN m)
              case first =>
                have k1 : (convert 30 9 (.slice s1a b1.length s1c)).run Try.prog (w7.drewN m1) = .ok (.string ⟨b1.toArray⟩) (w7.drewN m1) := G3.out m1
                have k5 : (convert 30 9 (.slice ba b'.length bc)).run Try.prog (w7.drewN m1) = .ok (.string ⟨b'.toArray⟩) (w7.drewN m1) := G5.out m1
                have hse := HS2.out
                have NN := N23b m1
                clear N23a N23b
                generalize (⟨b'.toArray⟩ : ByteArray) = c' at *
                generalize (⟨b1.toArray⟩ : ByteArray) = c at *
                by_cases hbb : b' = b1
                · have hq : (c'.toList == c.toList) = true := by rw [hse]; exact decide_eq_true hbb
                  have HBB : Hid _ := hbb
                  clear hse hbb
                  go_wp2_with fail
                  refine NN.mono ?_
                  rintro e w8 ⟨rfl, kq, hw8⟩
                  have hdd : decide (rs' = rs1) = decide (b' = b1 ∧ rs' = rs1) := by simp [HBB.out]
                  have HDD : Hid _ := hdd
                  have HW8 : Hid _ := hw8
                  clear NN hdd hw8
                  generalize decide (rs' = rs1) = dd at HDD ⊢
                  go_wp2_with fail
                  go_meet
                  exact ⟨by rw [HDD.out], m1 + kq, by rw [HW8.out]; simp [World.drewN, Nat.add_assoc]⟩
                · have hq : (c'.toList == c.toList) = false := by rw [hse]; exact decide_eq_false hbb
                  clear hse
                  have hdd : false = decide (b' = b1 ∧ rs' = rs1) := by simp [hbb]
                  have HDD : Hid _ := hdd
                  clear NN hbb hdd
                  go_wp2_with fail
                  go_meet
                  exact ⟨by rw [← HDD.out], m1, rfl⟩
              case rest =>
                obtain ⟨rfl, m2, rfl⟩ := hcut
                have hor : d1 = true ∨ decide (b' = b1 ∧ rs' = rs1) = true := by
                  rcases HWHO.out with h | h
                  · exact .inl (by rw [← HD1.out]; exact decide_eq_true h)
                  · exact .inr (decide_eq_true h)
                have hbd : Below w7.heap.size w7 (w7.drewN m2) := ⟨rfl, rfl, rfl, Nat.le_refl _, fun _ _ => rfl⟩
                have hst2 : Step (fun _ => False) (fun _ => False) w7 (w7.drewN m2) := Step.of_below hbd
                have hf1 : PS (w7.drewN m2) X5 p7 t7 q 201 S6 half' b' rs' := PS.below HPS7.out hbd
                have hf2 : BV w (w7.drewN m2) (ZP X5 p7 t7) (.slice ba b'.length bc) b' := BV.on HBV7.out hst2 (fun _ h => h.elim) (fun _ h => .inl h)
                have hf3 : LZ w (w7.drewN m2) (ZP X5 p7 t7) (.slice la rs'.length lc) rs' := LZ.on HLZ7.out hst2 (fun _ h => h.elim) (fun _ h => .inl h)
                have hf4 : Below w.heap.size w (w7.drewN m2) := hb7.trans (hbd.mono hb7.size)
                have F1 : Hid _ := hf1
                have F2 : Hid _ := hf2
                have F3 : Hid _ := hf3
                clear hf1 hf2 hf3 hst2 hbd HPS7 HBV7 HLZ7 HWHO N23a N23b G1 G3 G5 HS1 HS2
                generalize w7.drewN m2 = w8 at *
                clear HD1
                generalize decide (b' = b1 ∧ rs' = rs1) = d2 at *
                have hp7w : w.heap.size ≤ p7 := Nat.le_trans hb6.size hp7
                have ht7w : w.heap.size ≤ t7 := Nat.le_trans hb6.size ht7
                cases d1 with
                | true =>
                  go_wp2_with fail
                  exact ⟨⟨j + 1, p7, t7, X5, S6, half', b', rs', 20, by omega, by go_num, rfl, rfl, F1.out, q1, hp7w, ht7w, F2.out, F3.out, hbl', hrl', htot', q2, hf4, hxa5⟩, by simp [RowKit.intOf]; omega⟩
                | false =>
                  have hd2 : d2 = true := by rcases hor with h | h; cases h; exact h
                  subst hd2
                  go_wp2_with fail
                  exact ⟨⟨j + 1, p7, t7, X5, S6, half', b', rs', 20, by omega, by go_num, rfl, rfl, F1.out, q1, hp7w, ht7w, F2.out, F3.out, hbl', hrl', htot', q2, hf4, hxa5⟩, by simp [RowKit.intOf]; omega⟩
    · have N12 := popen_any wr X q 201 S hps.dn hps.wz hps.d (by decide) half b rs (by omega) hps.pp
      obtain ⟨sa, sc, rfl⟩ := hbv.shape
      obtain ⟨ra, rc, rfl⟩ := hlz.shape
      go_wp2_with fail
      refine N12.mono ?_
      rintro e w7 ⟨hb67, vb, vl, p7, t7, rfl, hp7, ht7, hsv, hrec, _⟩
      have hb7 : Below w.heap.size w w7 := hb.trans (hb67.mono hb.size)
      have hst67 : Step (fun _ => False) (fun _ => False) wr w7 := Step.of_below hb67
      have r1 : Sl.RdA w7 (.slice sa b.length sc) b := (hbv.on (Z' := ZP X p t) hst67 (fun _ h => h.elim) (fun _ h => .inl h)).rd hb7
      have r2 : RdL w7 (.slice ra rs.length rc) rs := (hlz.on (Z' := ZP X p t) hst67 (fun _ h => h.elim) (fun _ h => .inl h)).rdl hb7
      have hps7 := hps.below hb67
      obtain ⟨ba, bc, rfl⟩ := hsv.shape
      obtain ⟨la, lc, rfl⟩ := hrec.shape
      have k1 := convA r1
      have k5 := convA hsv.rd
      have N23 := alike_any w7 _ _ rs rs hrec.rdl r2 (by omega) (by omega)
      rw [decide_eq_true (rfl : rs = rs)] at N23
      have hse := str_beq b b
      rw [decide_eq_true (rfl : b = b)] at hse
      generalize (⟨b.toArray⟩ : ByteArray) = c' at *
      clear hbv hlz hps hsv hrec r1 r2 hst67 N12
      go_wp2_with fail
      refine N23.mono ?_
      rintro e w8 ⟨rfl, kq, hw8⟩
      have hb8' : Below w7.heap.size w7 w8 := by rw [hw8]; exact ⟨rfl, rfl, rfl, Nat.le_refl _, fun _ _ => rfl⟩
      have hb8 : Below w.heap.size w w8 := hb7.trans (hb8'.mono hb7.size)
      have hps8 := hps7.below hb8'
      have N28 := pcount_any w8 p q half t _ _ _ _ _ 0 hps8.pr hps8.tp
      clear hw8 hb8' N23 hps7 hps8
      go_wp2_with (go_at_call 28; refine N28.mono ?_; rintro e w9 ⟨rfl, hw9⟩; have hw9 := hw9.symm; subst hw9)
      go_ret
      exact ⟨rfl, hb8⟩
end Go.Proofs.Ythgkkmcpmhfehaa

namespace Go.Proofs.Ythgkkmcpmhfehaa
open Go.ChangeShapes Go.WideShapes Go.ChangeAt Go.RowKit Go.Lib
set_option maxRecDepth 100000

theorem loses_contract (H : Type) (enc : TypeId × Value → H) (W : World) (base : Nat) (args : Array Value) (ds gs : List (DataW H)) (before : List MemPlace)
    (hval : ∀ (j : Nat) t v, Try.f4.params[j]? = some t → args[j]? = some v → Value.okWide Try.prog W .any base t v)
    (hW : DataW.Whole enc Try.prog Try.f4.params.toList Rows.pairLosesSpec.vars false W args.toList ds gs before)
    (hsz0 : (DataW.weightsEach Try.prog (Try.f4.params.toList ++ Rows.pairLosesSpec.plain.varTypes Try.prog) (ds ++ gs)).all (· ≤ reachBytes) = true) :
    Calls Try.prog 4 args W fun e W' => ∃ v, e = .returned v ∧ Rows.pairLosesSpec.post enc Try.prog Try.f4 false true false false W args v W' := by
  have hW' := hW
  obtain ⟨p, q, hA0, hV, rfl, hfz, hnd⟩ := hW
  have hA : DataW.TrodAll enc Try.prog W 0 (fun _ => true) true Try.f4.params.toList args.toList ds p := hA0
  have hsz := hsz0
  rw [Try.params4] at hA hval hsz
  obtain ⟨v0, vs0, d0, ds0, p0, q0, hargs, rfl, rfl, h0, r0⟩ := trodAll_cons hA
  obtain ⟨rfl, rfl, rfl⟩ := trodAll_nil r0
  obtain rfl : args = #[v0] := by cases args; simp_all
  obtain ⟨rfl, rfl⟩ := trodVars_none hV
  obtain ⟨a0, len0, cap0, rfl⟩ := okWide_slice Try.underlying57 (hval 0 57 v0 rfl rfl)
  have lt0 : ∀ x ∈ p0, x.block < W.heap.size := by obtain ⟨m, hm⟩ := h0; exact DataW.trod_lt m _ _ _ hm
  have hr0 := rd_steps h0
  refine (loses_any W _ _ hr0).mono fun e W' ⟨he, bel⟩ => ?_
  subst he
  exact ⟨_, rfl, _, _, _, [], _, [], hW', trodAll_mk1 (shut_bool Try.underlying4 _), (trodAll_cons_mk (Below.trod laidOut (by kernel_rfl) (of_decide_eq_true (by kernel_rfl)) h0 bel lt0) trodAll_mk0), rfl, bel.frame _, fun h => by cases h⟩

set_option maxRecDepth 100000 in
theorem loses_lifted (os : Os) (started : os.Started) (H : Type) (enc : TypeId × Value → H) :
    ReturnsInHanded {} Try.checked os 4 .any (Rows.pairLosesSpec.pre6 enc Try.prog Try.f4 Rows.pairLosesRow.domain false) (Rows.pairLosesSpec.post enc Try.prog Try.f4 false true false false) := by
  refine returnsInHanded_of_change_sized (C := Try.checked) own started (by kernel_rfl) Try.func4
    (ChangeSpec.witness6 (enc := enc) (C := Try.checked) false ⟨#[], #[.slice none 0 0], []⟩ 8 (by kernel_rfl) (by kernel_rfl) (by kernel_rfl) (by kernel_rfl)) ?_
  intro W base args ds gs before hval hW _ hsz _
  exact loses_contract H enc W base args ds gs before hval hW hsz

theorem pairLoses_said : Rows.PairLosesSaid :=
  OpenClaim.holds_of_wide 4 Try.f4 rfl rfl rfl rfl rfl rfl rfl ⟨rfl, rfl, rfl, rfl, rfl⟩ rfl rfl rfl rfl rfl (by kernel_rfl) Try.func4 (by kernel_rfl)
    (of_decide_eq_true (by kernel_rfl)) (by unfold Func.isWrapper; first | (rw [if_pos (by decide +kernel)]; kernel_rfl) | (rw [if_neg (by decide +kernel)]; exact ⟨rfl, rfl⟩))
    (fun os started H enc _ => loses_lifted os started H enc)
#print axioms pairLoses_said
end Go.Proofs.Ythgkkmcpmhfehaa
