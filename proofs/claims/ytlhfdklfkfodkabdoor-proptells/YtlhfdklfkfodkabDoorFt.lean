
/- What the library's FormatFloat answers of 0.1 and of 1e21. -/
import Derived.Test.YtlhfdklfkfodkabDoorEf
import Derived.Deep.QuietTactic
import Derived.Deep.Cut
import Derived.OrdersHeld
import Derived.Shelf.RegionOpen
import Derived.Lib.AppendIntMem
set_option maxRecDepth 100000
namespace Go.Proofs.YtlhfdklfkfodkabDoor.Ff
open Go.RowKit Go.Lib Go.Sort

/-- What the listed variables give. -/
structure Vars (w : World) : Prop where
  opt : w.cell? ⟨2, 0, none⟩ = some (.bool true)
  tab : Lib.TabIs Tryd.prog w "internal/strconv.uint64pow10" .u64 Lib.pow10Tab
  a0 : w.cell? ⟨5, 730, none⟩ = some (.int .u64 12800000000000000000)
  a1 : w.cell? ⟨5, 731, none⟩ = some (.int .u64 0)
  b0 : w.cell? ⟨5, 686, none⟩ = some (.int .u64 12089258196146291748)
  b1 : w.cell? ⟨5, 687, none⟩ = some (.int .u64 17307473159717249708)

theorem below_cell {w w' : World} (h : Below w.heap.size w w') {p : Addr} {v : Value} (hc : w.cell? p = some v) : w'.cell? p = some v := by
  rw [h.cell (World.block_lt_of_cell? w _ hc)]; exact hc
theorem tabIs_below {w w' : World} (h : Below w.heap.size w w') (ht : Lib.TabIs Tryd.prog w "internal/strconv.uint64pow10" .u64 Lib.pow10Tab) : Lib.TabIs Tryd.prog w' "internal/strconv.uint64pow10" .u64 Lib.pow10Tab :=
  (Lib.tabBelow_of_tabIs ht) w' h
theorem Vars.on {w w' : World} (hv : Vars w) (h : Below w.heap.size w w') : Vars w' := by
  exact ⟨below_cell h hv.opt, tabIs_below h hv.tab, below_cell h hv.a0, below_cell h hv.a1, below_cell h hv.b0, below_cell h hv.b1⟩

theorem hmix : Tryd.prog.follows .mixedOrders = true := by kernel_rfl
theorem wpAnyH_one {P : Program} {md : Region.Mode} {ops : Array Oper} {Q : Exit → Act → World → Prop} {S : World → Prop} {i : Nat} {o : Oper} {fuel : Nat} {listed : Array Bool} {a : Act} {w : World} (hr : Region.ready md ops listed = [i]) (ho : ops[i]? = some o) (hw : Region.wanted o (yielded ops a.tmps) = true)
    (h : ∀ K : Act → World → Prop, (∀ a' w', S w' → wpAnyH P md ops Q S fuel (listed.setIfInBounds i true) a' w' → K a' w') → o.wp P a w K Q) : wpAnyH P md ops Q S (fuel + 1) listed a w :=
  wpAnyH_all hr (by simp) (fun j hj => by
    simp only [List.mem_singleton] at hj
    subst hj
    unfold wpOp
    simp only [ho]
    rw [if_pos hw]
    exact .inl (h _ (fun _ _ h1 h2 => ⟨h1, h2⟩)))
theorem nd16 : Lib.nDigits 1000000000000000 = 16 := Lib.nDigits_unique 15 _ (by decide) (by decide)
theorem Trims.unique {u nd k j : Nat} (h : Trims u nd k) (h' : Trims u nd j) : k = j := by
  obtain ⟨a, b, c⟩ := h
  obtain ⟨a', b', c'⟩ := h'
  rcases Nat.lt_trichotomy k j with h1 | h1 | h1
  · rcases c' with c' | c'
    · omega
    · exact absurd (by have := b (j - 1) (by omega) (by omega); rwa [show nd - 1 - (j - 1) = nd - j by omega] at this) c'
  · exact h1
  · rcases c with c | c
    · omega
    · exact absurd (by have := b' (k - 1) (by omega) (by omega); rwa [show nd - 1 - (k - 1) = nd - k by omega] at this) c
theorem trims15 : Trims 1000000000000000 16 1 := by
  refine ⟨by omega, fun t h1 h2 => ?_, .inr (by decide)⟩
  have : ∀ t : Fin 16, 1 ≤ t.val → dg 1000000000000000 (16 - 1 - t.val) = 48 := by decide
  exact this ⟨t, h2⟩ h1
theorem Own.stays {w w' : World} {B q : Nat} {v : Value} {l : List UInt8} (h : Own w B v l) (hg : w.grownBy w' (some q)) (hne : v.ownBlock ≠ some q) : Own w' B v l := by
  refine World.ownsRow.kept h hg ?_
  cases e : v.ownBlock with
  | none => simp
  | some k => exact .inr fun e' => hne (by rw [e, e'])
theorem Own.on {w w' : World} {B : Nat} {v : Value} {l : List UInt8} (h : Own w B v l) (hb : Below w.heap.size w w') : Own w' B v l :=
  World.ownsRow.kept h (⟨hb.os, hb.tape, hb.output, hb.size, fun k hk _ => hb.block k hk⟩ : w.grownBy w' none) (by cases e : v.ownBlock <;> simp)
theorem Own.lt {w : World} {B : Nat} {v : Value} {l : List UInt8} (h : Own w B v l) : v.ownBlock ≠ some w.heap.size := fun e => by
  have := (World.ownsRow.lt h _ e).2; omega

@[go_sem] theorem fb1a : bits .and .i64 1019 2047 = 1019 := by decide
@[go_sem] theorem fb1b : bits .and .u64 4591870180066957722 4503599627370495 = 2702159776422298 := by decide
@[go_sem] theorem fb1c : bits .or .u64 2702159776422298 4503599627370496 = 7205759403792794 := by decide
@[go_sem] theorem fb1d : Lib.bitLen 7205759403792794 = 53 := by decide

set_option maxHeartbeats 4000000 in
theorem ftoa1_any (w : World) (B : Nat) (v : Value) (hO : Own w B v []) (hB : B ≤ w.heap.size) (hv : Vars w) :
    Calls Tryd.prog 38 #[v, .float .f64 4591870180066957722, .int .u8 103, .int .i64 (-1)] w fun e w' =>
      ∃ v', e = .returned v' ∧ Own w' B v' [48, 46, 49] ∧ Below B w w' := by
  have HV : Hid (Vars w) := hv
  have HO : Hid (Own w B v []) := hO
  have HB : Hid (B ≤ w.heap.size) := hB
  clear hv hO hB
  go_enter Tryd.func38, Tryd.ntmps38
  go_upto_region 14 with fail
  go_quiet (fail)
  go_wp2_with fail
  refine (Tryd.bits_Len64 7205759403792794 _ (by omega) (by omega)).mono ?_
  rintro e w1 ⟨rfl, rfl⟩
  go_wp2_with fail
  generalize hW : (w.drewN nq).alloc _ = W1
  have hb1 : Below w.heap.size w W1 := by
    rw [← hW]; exact (below_drewN (Below.refl _ w) nq).alloc (by simp) _
  have hs1 : W1.heap.size = w.heap.size + 1 := by rw [← hW]; simp
  have hq1 : W1.heap[w.heap.size]? = some (.cells (List.replicate 32 (Value.int .u8 0)).toArray 78 (0, 0)) := by rw [← hW]; simp [World.alloc]
  clear hW
  have hv1 := HV.out.on hb1
  refine (short1_any W1 hv1.a0 hv1.a1).mono ?_
  rintro e w2 ⟨rfl, hb2⟩
  have hq2 : w2.heap[w.heap.size]? = some (.cells (List.replicate 32 (Value.int .u8 0)).toArray 78 (0, 0)) := by rw [hb2.block _ (by omega)]; exact hq1
  have hv2 := hv1.on hb2
  have hs2 := hb2.size
  have hb02 : Below w.heap.size w w2 := hb1.trans (hb2.mono (by omega))
  clear hq1 hv1 hb1 hb2
  have hND := Tryd.internal_strconv_numDigits 1000000000000000 (by omega) (by omega)
  have hSD := fun (W : World) h => setDigits_any W w.heap.size 1000000000000000 16 (-16) _ 78 h rfl (by omega) (by omega) (by omega) (by omega) (by omega)
  rw [nd16] at hND
  have HN : Hid (∀ (w : World), Lib.TabIs Tryd.prog w "internal/strconv.uint64pow10" .u64 Lib.pow10Tab → Calls Tryd.prog 34 #[.int .u64 1000000000000000] w fun e w' => e = .returned (.int .i64 16) ∧ w' = w) := hND
  have HS : Hid (∀ (W : World), W.heap[w.heap.size]? = some (.cells (List.replicate 32 (Value.int .u8 0)).toArray 78 (0, 0)) → Calls Tryd.prog 50 #[.slice (some ⟨w.heap.size, 0, none⟩) 32 32, .int .u64 1000000000000000, .int .i64 (-16), .int .i64 16] W fun e w' =>
      ∃ k : Nat, e = .returned (.tuple #[.int .i64 (0), .int .i64 k]) ∧ Trims 1000000000000000 16 k ∧ Digs w' w.heap.size 1000000000000000 16 ∧ W.grownBy w' (some w.heap.size)) := hSD
  clear hND hSD
  go_upto_region 38 with fail
  refine wp_region_held (S := fun _ => True) hmix ?_
  show wpAnyH _ _ _ _ _ _ _ _ w2.drew
  have hS : (fun _ : World => True) w2.drew := trivial
  refine wpAnyH_take (i := 0) (v := .slice (some ⟨w.heap.size, 0, none⟩) 32 32) rfl (by kernel_rfl) (by kernel_rfl) (by kernel_rfl) (fun _ _ _ h => h) (.inl ⟨by rfl, fun W' hW' => ?_⟩) hS ?_
  · go_simp
  dsimp only [Act.put]
  refine wpAnyH_take (i := 1) (v := .int .u64 1000000000000000) rfl (by kernel_rfl) (by kernel_rfl) (by kernel_rfl) (fun _ _ _ h => h) (.inl ⟨by rfl, fun W' hW' => ?_⟩) hS ?_
  · go_simp
  dsimp only [Act.put]
  refine wpAnyH_take (i := 2) (v := .int .i64 (-16)) rfl (by kernel_rfl) (by kernel_rfl) (by kernel_rfl) (fun _ _ _ h => h) (.inl ⟨by rfl, fun W' hW' => ?_⟩) hS ?_
  · go_simp
  dsimp only [Act.put]
  refine wpAnyH_take (i := 3) (v := .int .u64 1000000000000000) rfl (by kernel_rfl) (by kernel_rfl) (by kernel_rfl) (fun _ _ _ h => h) (.inl ⟨by rfl, fun W' hW' => ?_⟩) hS ?_
  · go_simp
  dsimp only [Act.put]
  have hv3 : Vars w2.drew := hv2.on (Below.drew (Below.refl _ w2))
  refine wpAnyH_one (i := 4) (by kernel_rfl) rfl (by rfl) (fun K hK => ?_)
  go_simp
  refine (HN.out _ hv3.tab).mono ?_
  rintro e w3 ⟨rfl, rfl⟩
  show K _ _
  refine hK _ _ trivial ?_
  clear hK K
  have hq3 : w2.drew.heap[w.heap.size]? = some (.cells (List.replicate 32 (Value.int .u8 0)).toArray 78 (0, 0)) := hq2
  refine wpAnyH_one (i := 5) (by kernel_rfl) rfl (by rfl) (fun K hK => ?_)
  go_simp
  refine (HS.out _ hq3).mono ?_
  rintro e w4 ⟨k, rfl, hT, hD, hG⟩
  obtain rfl := Trims.unique hT trims15
  show K _ _
  refine hK _ _ trivial ?_
  clear hK K hT
  refine wpAnyH_take (i := 6) (v := .tuple #[.int .i64 (0), .int .i64 1]) rfl (by kernel_rfl) (by kernel_rfl) (by kernel_rfl) (fun _ _ _ h => h) (.inl ⟨by rfl, fun W' hW' => ?_⟩) trivial ?_
  · go_simp
  dsimp only [Act.put]
  refine wpAnyH_take (i := 7) (v := .int .i64 (0)) rfl (by kernel_rfl) (by kernel_rfl) (by kernel_rfl) (fun _ _ _ h => h) (.inl ⟨by rfl, fun W' hW' => ?_⟩) trivial ?_
  · go_simp
  dsimp only [Act.put]
  refine wpAnyH_take (i := 8) (v := .int .i64 1) rfl (by kernel_rfl) (by kernel_rfl) (by kernel_rfl) (fun _ _ _ h => h) (.inl ⟨by rfl, fun W' hW' => ?_⟩) trivial ?_
  · go_simp
  dsimp only [Act.put]
  refine wpAnyH_take (i := 9) (v := .int .i64 (0)) rfl (by kernel_rfl) (by kernel_rfl) (by kernel_rfl) (fun _ _ _ h => h) (.inl ⟨by rfl, fun W' hW' => ?_⟩) trivial ?_
  · go_simp
  dsimp only [Act.put]
  refine wpAnyH_take (i := 10) (v := .int .i64 1) rfl (by kernel_rfl) (by kernel_rfl) (by kernel_rfl) (fun _ _ _ h => h) (.inl ⟨by rfl, fun W' hW' => ?_⟩) trivial ?_
  · go_simp
  dsimp only [Act.put]
  refine wpAnyH_done (by kernel_rfl) ?_ _
  have hd0 := hD 0 (by omega)
  have hdg : ((dg 1000000000000000 (16 - 1 - 0)).toNat : Int) = 49 := by decide
  rw [hdg] at hd0
  have hO4 : OwnQ w4 B w.heap.size v [] := by
    have h2 := HO.out.on hb02
    have h3 : Own w2.drew B v [] := h2.on (Below.drew (Below.refl _ w2))
    have hg := hG.size
    have hdw : w2.drew.heap.size = w2.heap.size := rfl
    have := HB.out
    exact ⟨h3.stays hG HO.out.lt, by omega, HO.out.lt, by omega⟩
  have hb4 : Below B w w4 := by
    have hdw : w2.drew.heap.size = w2.heap.size := rfl
    have := HB.out
    exact (hb02.mono HB.out).trans ((Below.drew (Below.refl B w2)).grown hG (by omega) (by intro k hk; cases hk; exact HB.out))
  clear hD hG hdg hv3 hv2 hq2 hq3 hs2 hs1 hb02 HN HS
  go_wp2_with fail
  refine (efg1_any w4 B w.heap.size v hO4 hd0).mono ?_
  rintro e w5 ⟨v5, rfl, ho5, hb5⟩
  go_wp2
  go_ret
  exact ⟨_, rfl, ho5, hb4.trans hb5⟩
@[go_sem] theorem fb2a : bits .and .i64 1092 2047 = 1092 := by decide
@[go_sem] theorem fb2b : bits .and .u64 4921056587992461136 4503599627370495 = 3125794903879504 := by decide
@[go_sem] theorem fb2c : bits .or .u64 3125794903879504 4503599627370496 = 7629394531250000 := by decide
@[go_sem] theorem fb2d : Lib.bitLen 7629394531250000 = 53 := by decide

set_option maxHeartbeats 4000000 in
theorem ftoa2_any (w : World) (B : Nat) (v : Value) (hO : Own w B v []) (hB : B ≤ w.heap.size) (hv : Vars w) :
    Calls Tryd.prog 38 #[v, .float .f64 4921056587992461136, .int .u8 103, .int .i64 (-1)] w fun e w' =>
      ∃ v', e = .returned v' ∧ Own w' B v' [49, 101, 43, 50, 49] ∧ Below B w w' := by
  have HV : Hid (Vars w) := hv
  have HO : Hid (Own w B v []) := hO
  have HB : Hid (B ≤ w.heap.size) := hB
  clear hv hO hB
  go_enter Tryd.func38, Tryd.ntmps38
  go_upto_region 14 with fail
  go_quiet (fail)
  go_wp2_with fail
  refine (Tryd.bits_Len64 7629394531250000 _ (by omega) (by omega)).mono ?_
  rintro e w1 ⟨rfl, rfl⟩
  go_wp2_with fail
  generalize hW : (w.drewN nq).alloc _ = W1
  have hb1 : Below w.heap.size w W1 := by
    rw [← hW]; exact (below_drewN (Below.refl _ w) nq).alloc (by simp) _
  have hs1 : W1.heap.size = w.heap.size + 1 := by rw [← hW]; simp
  have hq1 : W1.heap[w.heap.size]? = some (.cells (List.replicate 32 (Value.int .u8 0)).toArray 78 (0, 0)) := by rw [← hW]; simp [World.alloc]
  clear hW
  have hv1 := HV.out.on hb1
  refine (short2_any W1 hv1.b0 hv1.b1).mono ?_
  rintro e w2 ⟨rfl, hb2⟩
  have hq2 : w2.heap[w.heap.size]? = some (.cells (List.replicate 32 (Value.int .u8 0)).toArray 78 (0, 0)) := by rw [hb2.block _ (by omega)]; exact hq1
  have hv2 := hv1.on hb2
  have hs2 := hb2.size
  have hb02 : Below w.heap.size w w2 := hb1.trans (hb2.mono (by omega))
  clear hq1 hv1 hb1 hb2
  have hND := Tryd.internal_strconv_numDigits 1000000000000000 (by omega) (by omega)
  have hSD := fun (W : World) h => setDigits_any W w.heap.size 1000000000000000 16 (6) _ 78 h rfl (by omega) (by omega) (by omega) (by omega) (by omega)
  rw [nd16] at hND
  have HN : Hid (∀ (w : World), Lib.TabIs Tryd.prog w "internal/strconv.uint64pow10" .u64 Lib.pow10Tab → Calls Tryd.prog 34 #[.int .u64 1000000000000000] w fun e w' => e = .returned (.int .i64 16) ∧ w' = w) := hND
  have HS : Hid (∀ (W : World), W.heap[w.heap.size]? = some (.cells (List.replicate 32 (Value.int .u8 0)).toArray 78 (0, 0)) → Calls Tryd.prog 50 #[.slice (some ⟨w.heap.size, 0, none⟩) 32 32, .int .u64 1000000000000000, .int .i64 (6), .int .i64 16] W fun e w' =>
      ∃ k : Nat, e = .returned (.tuple #[.int .i64 (22), .int .i64 k]) ∧ Trims 1000000000000000 16 k ∧ Digs w' w.heap.size 1000000000000000 16 ∧ W.grownBy w' (some w.heap.size)) := hSD
  clear hND hSD
  go_upto_region 38 with fail
  refine wp_region_held (S := fun _ => True) hmix ?_
  show wpAnyH _ _ _ _ _ _ _ _ w2.drew
  have hS : (fun _ : World => True) w2.drew := trivial
  refine wpAnyH_take (i := 0) (v := .slice (some ⟨w.heap.size, 0, none⟩) 32 32) rfl (by kernel_rfl) (by kernel_rfl) (by kernel_rfl) (fun _ _ _ h => h) (.inl ⟨by rfl, fun W' hW' => ?_⟩) hS ?_
  · go_simp
  dsimp only [Act.put]
  refine wpAnyH_take (i := 1) (v := .int .u64 1000000000000000) rfl (by kernel_rfl) (by kernel_rfl) (by kernel_rfl) (fun _ _ _ h => h) (.inl ⟨by rfl, fun W' hW' => ?_⟩) hS ?_
  · go_simp
  dsimp only [Act.put]
  refine wpAnyH_take (i := 2) (v := .int .i64 (6)) rfl (by kernel_rfl) (by kernel_rfl) (by kernel_rfl) (fun _ _ _ h => h) (.inl ⟨by rfl, fun W' hW' => ?_⟩) hS ?_
  · go_simp
  dsimp only [Act.put]
  refine wpAnyH_take (i := 3) (v := .int .u64 1000000000000000) rfl (by kernel_rfl) (by kernel_rfl) (by kernel_rfl) (fun _ _ _ h => h) (.inl ⟨by rfl, fun W' hW' => ?_⟩) hS ?_
  · go_simp
  dsimp only [Act.put]
  have hv3 : Vars w2.drew := hv2.on (Below.drew (Below.refl _ w2))
  refine wpAnyH_one (i := 4) (by kernel_rfl) rfl (by rfl) (fun K hK => ?_)
  go_simp
  refine (HN.out _ hv3.tab).mono ?_
  rintro e w3 ⟨rfl, rfl⟩
  show K _ _
  refine hK _ _ trivial ?_
  clear hK K
  have hq3 : w2.drew.heap[w.heap.size]? = some (.cells (List.replicate 32 (Value.int .u8 0)).toArray 78 (0, 0)) := hq2
  refine wpAnyH_one (i := 5) (by kernel_rfl) rfl (by rfl) (fun K hK => ?_)
  go_simp
  refine (HS.out _ hq3).mono ?_
  rintro e w4 ⟨k, rfl, hT, hD, hG⟩
  obtain rfl := Trims.unique hT trims15
  show K _ _
  refine hK _ _ trivial ?_
  clear hK K hT
  refine wpAnyH_take (i := 6) (v := .tuple #[.int .i64 (22), .int .i64 1]) rfl (by kernel_rfl) (by kernel_rfl) (by kernel_rfl) (fun _ _ _ h => h) (.inl ⟨by rfl, fun W' hW' => ?_⟩) trivial ?_
  · go_simp
  dsimp only [Act.put]
  refine wpAnyH_take (i := 7) (v := .int .i64 (22)) rfl (by kernel_rfl) (by kernel_rfl) (by kernel_rfl) (fun _ _ _ h => h) (.inl ⟨by rfl, fun W' hW' => ?_⟩) trivial ?_
  · go_simp
  dsimp only [Act.put]
  refine wpAnyH_take (i := 8) (v := .int .i64 1) rfl (by kernel_rfl) (by kernel_rfl) (by kernel_rfl) (fun _ _ _ h => h) (.inl ⟨by rfl, fun W' hW' => ?_⟩) trivial ?_
  · go_simp
  dsimp only [Act.put]
  refine wpAnyH_take (i := 9) (v := .int .i64 (22)) rfl (by kernel_rfl) (by kernel_rfl) (by kernel_rfl) (fun _ _ _ h => h) (.inl ⟨by rfl, fun W' hW' => ?_⟩) trivial ?_
  · go_simp
  dsimp only [Act.put]
  refine wpAnyH_take (i := 10) (v := .int .i64 1) rfl (by kernel_rfl) (by kernel_rfl) (by kernel_rfl) (fun _ _ _ h => h) (.inl ⟨by rfl, fun W' hW' => ?_⟩) trivial ?_
  · go_simp
  dsimp only [Act.put]
  refine wpAnyH_done (by kernel_rfl) ?_ _
  have hd0 := hD 0 (by omega)
  have hdg : ((dg 1000000000000000 (16 - 1 - 0)).toNat : Int) = 49 := by decide
  rw [hdg] at hd0
  have hO4 : OwnQ w4 B w.heap.size v [] := by
    have h2 := HO.out.on hb02
    have h3 : Own w2.drew B v [] := h2.on (Below.drew (Below.refl _ w2))
    have hg := hG.size
    have hdw : w2.drew.heap.size = w2.heap.size := rfl
    have := HB.out
    exact ⟨h3.stays hG HO.out.lt, by omega, HO.out.lt, by omega⟩
  have hb4 : Below B w w4 := by
    have hdw : w2.drew.heap.size = w2.heap.size := rfl
    have := HB.out
    exact (hb02.mono HB.out).trans ((Below.drew (Below.refl B w2)).grown hG (by omega) (by intro k hk; cases hk; exact HB.out))
  clear hD hG hdg hv3 hv2 hq2 hq3 hs2 hs1 hb02 HN HS
  go_wp2_with fail
  refine (efg2_any w4 B w.heap.size v hO4 hd0).mono ?_
  rintro e w5 ⟨v5, rfl, ho5, hb5⟩
  go_wp2
  go_ret
  exact ⟨_, rfl, ho5, hb4.trans hb5⟩
end Go.Proofs.YtlhfdklfkfodkabDoor.Ff
