/- core.find and core.has, over rows of several cells. Conditions: those that each row states. -/
import Derived.Test.YtnpikgakpmkipabGreatDoorZ04
import Derived.Test.YtnpikgakpmkipabGreatDoorZ12
import Derived.WalkKit
import Derived.Defers
import Derived.Recover
import Derived.WalkLawsBesides
import Derived.Test.YtnpikgakpmkipabGreatDoorZ10
namespace Go.Proofs.YtnpikgakpmkipabGreatDoor
open Go.RowKit Go.Lib
set_option maxRecDepth 100000
set_option linter.unusedSimpArgs false
set_option linter.unusedVariables false
def HaR {α : Type} (p : Nat) (zs : Zs α) (cmp : α → Int) (e : Ending) : Prop := ∃ b : Bool, e = .returned (.bool b) ∧ (b = true ↔ ∃ hi : p < zs.length, cmp (zs[p]).2 = 0)
theorem har_mk {α : Type} {p : Nat} {zs : Zs α} {cmp : α → Int} {b : Bool} (h : b = true ↔ ∃ hi : p < zs.length, cmp (zs[p]).2 = 0) : HaR p zs cmp (.returned (.bool b)) := ⟨b, rfl, h⟩
theorem findQ {α : Type} (w : World) (a : Option Addr) (n c : Nat) (zs : Zs α) (R : List Value → α → Prop) (h : RdZ 7 R w (.slice a n c) zs) (hn : zs.length = n) (hbig : n ≤ 1000000) (t0 t1 t2 t3 t4 t5 t6 : Value) (ht : t0.oneCell' = true ∧ t1.oneCell' = true ∧ t2.oneCell' = true ∧ t3.oneCell' = true ∧ t4.oneCell' = true ∧ t5.oneCell' = true ∧ t6.oneCell' = true) (f : FuncId) (ef : ∀ args w, (callFunc f args).run Tryz.prog w = .ok (.enter f args) w)
  (cmp : α → Int) (hC : ∀ W z, z ∈ zs → Calls Tryz.prog f #[.agg z.1.toArray, .agg #[t0, t1, t2, t3, t4, t5, t6]] W fun e w' => e = .returned (.int .i64 (cmp z.2)) ∧ Bw W w') (p : Nat) (hp : p ≤ n) (hlo : ∀ i (hi : i < zs.length), i < p → cmp (zs[i]).2 < 0) (hhi : ∀ i (hi : i < zs.length), p ≤ i → ¬ cmp (zs[i]).2 < 0) :
  Calls Tryz.prog 110 #[.slice a n c, .agg #[t0, t1, t2, t3, t4, t5, t6], .func (.func f) #[] #[]] w fun e w' => BsR p zs cmp e ∧ Bw w w' := by
 have b0 := (Below.refl w.heap.size w).alloc (Nat.le_refl _) (.cells #[t0, t1, t2, t3, t4, t5, t6] 82)
 have k0 := Blk.new w #[t0, t1, t2, t3, t4, t5, t6] 82
 go_enter Tryz.func110, Tryz.ntmps110
 go_upto_region 1 with fail
 generalize w.alloc (.cells #[t0, t1, t2, t3, t4, t5, t6] 82) = w1 at *
 have HB := bsQ w1 a n c zs R (h.on b0) hn hbig t0 t1 t2 t3 t4 t5 t6 ht f ef cmp hC p hp hlo hhi
 go_wp2_with (refine wpList_load_row rfl 82 (.tmp 4) rfl w.heap.size rfl 82 _ (0, 0) _ k0.h Tryz.underlying82 rfl (by kernel_rfl) ?_)
 refine HB.mono ?_
 rintro e w2 ⟨⟨b, rfl, hb⟩, b2⟩
 have HR : Hid (b = true ↔ ∃ hi : p < zs.length, cmp (zs[p]).2 = 0) := hb
 clear hb HB h hC hlo hhi k0
 go_wp2_with fail
 go_ret2
 exact ⟨bsr_mk HR.out, nxt b0 b2⟩
theorem findB {α : Type} (w : World) (a : Option Addr) (n c : Nat) (zs : Zs α) (R : List Value → α → Prop) (h : RdZ 2 R w (.slice a n c) zs) (hn : zs.length = n) (hbig : n ≤ 1000000) (t0 t1 : Value) (ht : t0.oneCell' = true ∧ t1.oneCell' = true) (f : FuncId) (ef : ∀ args w, (callFunc f args).run Tryz.prog w = .ok (.enter f args) w)
  (cmp : α → Int) (hC : ∀ W z, z ∈ zs → Calls Tryz.prog f #[.agg z.1.toArray, .agg #[t0, t1]] W fun e w' => e = .returned (.int .i64 (cmp z.2)) ∧ Bw W w') (p : Nat) (hp : p ≤ n) (hlo : ∀ i (hi : i < zs.length), i < p → cmp (zs[i]).2 < 0) (hhi : ∀ i (hi : i < zs.length), p ≤ i → ¬ cmp (zs[i]).2 < 0) :
  Calls Tryz.prog 187 #[.slice a n c, .agg #[t0, t1], .func (.func f) #[] #[]] w fun e w' => BsR p zs cmp e ∧ Bw w w' := by
 have b0 := (Below.refl w.heap.size w).alloc (Nat.le_refl _) (.cells #[t0, t1] 43)
 have k0 := Blk.new w #[t0, t1] 43
 go_enter Tryz.func187, Tryz.ntmps187
 go_upto_region 1 with fail
 generalize w.alloc (.cells #[t0, t1] 43) = w1 at *
 have HB := bsP2 (.inl rfl) w1 a n c zs R (h.on b0) hn hbig t0 t1 ht f ef cmp hC p hp hlo hhi
 go_wp2_with (refine wpList_load_row rfl 43 (.tmp 4) rfl w.heap.size rfl 43 _ (0, 0) _ k0.h Tryz.underlying43 rfl (by kernel_rfl) ?_)
 refine HB.mono ?_
 rintro e w2 ⟨⟨b, rfl, hb⟩, b2⟩
 have HR : Hid (b = true ↔ ∃ hi : p < zs.length, cmp (zs[p]).2 = 0) := hb
 clear hb HB h hC hlo hhi k0
 go_wp2_with fail
 go_ret2
 exact ⟨bsr_mk HR.out, nxt b0 b2⟩
theorem findS {α : Type} (w : World) (a : Option Addr) (n c : Nat) (zs : Zs α) (R : List Value → α → Prop) (h : RdZ 5 R w (.slice a n c) zs) (hn : zs.length = n) (hbig : n ≤ 1000000) (t0 t1 t2 t3 t4 : Value) (ht : t0.oneCell' = true ∧ t1.oneCell' = true ∧ t2.oneCell' = true ∧ t3.oneCell' = true ∧ t4.oneCell' = true) (f : FuncId) (ef : ∀ args w, (callFunc f args).run Tryz.prog w = .ok (.enter f args) w)
  (cmp : α → Int) (hC : ∀ W z, z ∈ zs → Calls Tryz.prog f #[.agg z.1.toArray, .agg #[t0, t1, t2, t3, t4]] W fun e w' => e = .returned (.int .i64 (cmp z.2)) ∧ Bw W w') (p : Nat) (hp : p ≤ n) (hlo : ∀ i (hi : i < zs.length), i < p → cmp (zs[i]).2 < 0) (hhi : ∀ i (hi : i < zs.length), p ≤ i → ¬ cmp (zs[i]).2 < 0) :
  Calls Tryz.prog 135 #[.slice a n c, .agg #[t0, t1, t2, t3, t4], .func (.func f) #[] #[]] w fun e w' => BsR p zs cmp e ∧ Bw w w' := by
 have b0 := (Below.refl w.heap.size w).alloc (Nat.le_refl _) (.cells #[t0, t1, t2, t3, t4] 85)
 have k0 := Blk.new w #[t0, t1, t2, t3, t4] 85
 go_enter Tryz.func135, Tryz.ntmps135
 go_upto_region 1 with fail
 generalize w.alloc (.cells #[t0, t1, t2, t3, t4] 85) = w1 at *
 have HB := bsP5 (.inl rfl) w1 a n c zs R (h.on b0) hn hbig t0 t1 t2 t3 t4 ht f ef cmp hC p hp hlo hhi
 go_wp2_with (refine wpList_load_row rfl 85 (.tmp 4) rfl w.heap.size rfl 85 _ (0, 0) _ k0.h Tryz.underlying85 rfl (by kernel_rfl) ?_)
 refine HB.mono ?_
 rintro e w2 ⟨⟨b, rfl, hb⟩, b2⟩
 have HR : Hid (b = true ↔ ∃ hi : p < zs.length, cmp (zs[p]).2 = 0) := hb
 clear hb HB h hC hlo hhi k0
 go_wp2_with fail
 go_ret2
 exact ⟨bsr_mk HR.out, nxt b0 b2⟩
theorem findM {α : Type} (w : World) (a : Option Addr) (n c : Nat) (zs : Zs α) (R : List Value → α → Prop) (h : RdZ 5 R w (.slice a n c) zs) (hn : zs.length = n) (hbig : n ≤ 1000000) (t0 t1 t2 t3 t4 : Value) (ht : t0.oneCell' = true ∧ t1.oneCell' = true ∧ t2.oneCell' = true ∧ t3.oneCell' = true ∧ t4.oneCell' = true) (f : FuncId) (ef : ∀ args w, (callFunc f args).run Tryz.prog w = .ok (.enter f args) w)
  (cmp : α → Int) (hC : ∀ W z, z ∈ zs → Calls Tryz.prog f #[.agg z.1.toArray, .agg #[t0, t1, t2, t3, t4]] W fun e w' => e = .returned (.int .i64 (cmp z.2)) ∧ Bw W w') (p : Nat) (hp : p ≤ n) (hlo : ∀ i (hi : i < zs.length), i < p → cmp (zs[i]).2 < 0) (hhi : ∀ i (hi : i < zs.length), p ≤ i → ¬ cmp (zs[i]).2 < 0) :
  Calls Tryz.prog 251 #[.slice a n c, .agg #[t0, t1, t2, t3, t4], .func (.func f) #[] #[]] w fun e w' => BsR p zs cmp e ∧ Bw w w' := by
 have b0 := (Below.refl w.heap.size w).alloc (Nat.le_refl _) (.cells #[t0, t1, t2, t3, t4] 33)
 have k0 := Blk.new w #[t0, t1, t2, t3, t4] 33
 go_enter Tryz.func251, Tryz.ntmps251
 go_upto_region 1 with fail
 generalize w.alloc (.cells #[t0, t1, t2, t3, t4] 33) = w1 at *
 have HB := bsP5 (.inr rfl) w1 a n c zs R (h.on b0) hn hbig t0 t1 t2 t3 t4 ht f ef cmp hC p hp hlo hhi
 go_wp2_with (refine wpList_load_row rfl 33 (.tmp 4) rfl w.heap.size rfl 33 _ (0, 0) _ k0.h Tryz.underlying33 rfl (by kernel_rfl) ?_)
 refine HB.mono ?_
 rintro e w2 ⟨⟨b, rfl, hb⟩, b2⟩
 have HR : Hid (b = true ↔ ∃ hi : p < zs.length, cmp (zs[p]).2 = 0) := hb
 clear hb HB h hC hlo hhi k0
 go_wp2_with fail
 go_ret2
 exact ⟨bsr_mk HR.out, nxt b0 b2⟩
theorem findC {α : Type} (w : World) (a : Option Addr) (n c : Nat) (zs : Zs α) (R : List Value → α → Prop) (h : RdZ 2 R w (.slice a n c) zs) (hn : zs.length = n) (hbig : n ≤ 1000000) (t0 t1 : Value) (ht : t0.oneCell' = true ∧ t1.oneCell' = true) (f : FuncId) (ef : ∀ args w, (callFunc f args).run Tryz.prog w = .ok (.enter f args) w)
  (cmp : α → Int) (hC : ∀ W z, z ∈ zs → Calls Tryz.prog f #[.agg z.1.toArray, .agg #[t0, t1]] W fun e w' => e = .returned (.int .i64 (cmp z.2)) ∧ Bw W w') (p : Nat) (hp : p ≤ n) (hlo : ∀ i (hi : i < zs.length), i < p → cmp (zs[i]).2 < 0) (hhi : ∀ i (hi : i < zs.length), p ≤ i → ¬ cmp (zs[i]).2 < 0) :
  Calls Tryz.prog 129 #[.slice a n c, .agg #[t0, t1], .func (.func f) #[] #[]] w fun e w' => BsR p zs cmp e ∧ Bw w w' := by
 have b0 := (Below.refl w.heap.size w).alloc (Nat.le_refl _) (.cells #[t0, t1] 88)
 have k0 := Blk.new w #[t0, t1] 88
 go_enter Tryz.func129, Tryz.ntmps129
 go_upto_region 1 with fail
 generalize w.alloc (.cells #[t0, t1] 88) = w1 at *
 have HB := bsP2 (.inr rfl) w1 a n c zs R (h.on b0) hn hbig t0 t1 ht f ef cmp hC p hp hlo hhi
 go_wp2_with (refine wpList_load_row rfl 88 (.tmp 4) rfl w.heap.size rfl 88 _ (0, 0) _ k0.h Tryz.underlying88 rfl (by kernel_rfl) ?_)
 refine HB.mono ?_
 rintro e w2 ⟨⟨b, rfl, hb⟩, b2⟩
 have HR : Hid (b = true ↔ ∃ hi : p < zs.length, cmp (zs[p]).2 = 0) := hb
 clear hb HB h hC hlo hhi k0
 go_wp2_with fail
 go_ret2
 exact ⟨bsr_mk HR.out, nxt b0 b2⟩
theorem hasQ {α : Type} (w : World) (a : Option Addr) (n c : Nat) (zs : Zs α) (R : List Value → α → Prop) (h : RdZ 7 R w (.slice a n c) zs) (hn : zs.length = n) (hbig : n ≤ 1000000) (t0 t1 t2 t3 t4 t5 t6 : Value) (ht : t0.oneCell' = true ∧ t1.oneCell' = true ∧ t2.oneCell' = true ∧ t3.oneCell' = true ∧ t4.oneCell' = true ∧ t5.oneCell' = true ∧ t6.oneCell' = true) (f : FuncId) (ef : ∀ args w, (callFunc f args).run Tryz.prog w = .ok (.enter f args) w)
  (cmp : α → Int) (hC : ∀ W z, z ∈ zs → Calls Tryz.prog f #[.agg z.1.toArray, .agg #[t0, t1, t2, t3, t4, t5, t6]] W fun e w' => e = .returned (.int .i64 (cmp z.2)) ∧ Bw W w') (p : Nat) (hp : p ≤ n) (hlo : ∀ i (hi : i < zs.length), i < p → cmp (zs[i]).2 < 0) (hhi : ∀ i (hi : i < zs.length), p ≤ i → ¬ cmp (zs[i]).2 < 0) :
  Calls Tryz.prog 114 #[.slice a n c, .agg #[t0, t1, t2, t3, t4, t5, t6], .func (.func f) #[] #[]] w fun e w' => HaR p zs cmp e ∧ Bw w w' := by
 have b0 := (Below.refl w.heap.size w).alloc (Nat.le_refl _) (.cells #[t0, t1, t2, t3, t4, t5, t6] 82)
 have k0 := Blk.new w #[t0, t1, t2, t3, t4, t5, t6] 82
 go_enter Tryz.func114, Tryz.ntmps114
 go_upto_region 1 with fail
 generalize w.alloc (.cells #[t0, t1, t2, t3, t4, t5, t6] 82) = w1 at *
 have HB := findQ w1 a n c zs R (h.on b0) hn hbig t0 t1 t2 t3 t4 t5 t6 ht f ef cmp hC p hp hlo hhi
 go_wp2_with (refine wpList_load_row rfl 82 (.tmp 4) rfl w.heap.size rfl 82 _ (0, 0) _ k0.h Tryz.underlying82 rfl (by kernel_rfl) ?_)
 refine HB.mono ?_
 rintro e w2 ⟨⟨b, rfl, hb⟩, b2⟩
 have HR : Hid (b = true ↔ ∃ hi : p < zs.length, cmp (zs[p]).2 = 0) := hb
 clear hb HB h hC hlo hhi k0
 go_wp2_with fail
 go_ret
 exact ⟨har_mk HR.out, nxt b0 b2⟩
theorem hasB {α : Type} (w : World) (a : Option Addr) (n c : Nat) (zs : Zs α) (R : List Value → α → Prop) (h : RdZ 2 R w (.slice a n c) zs) (hn : zs.length = n) (hbig : n ≤ 1000000) (t0 t1 : Value) (ht : t0.oneCell' = true ∧ t1.oneCell' = true) (f : FuncId) (ef : ∀ args w, (callFunc f args).run Tryz.prog w = .ok (.enter f args) w)
  (cmp : α → Int) (hC : ∀ W z, z ∈ zs → Calls Tryz.prog f #[.agg z.1.toArray, .agg #[t0, t1]] W fun e w' => e = .returned (.int .i64 (cmp z.2)) ∧ Bw W w') (p : Nat) (hp : p ≤ n) (hlo : ∀ i (hi : i < zs.length), i < p → cmp (zs[i]).2 < 0) (hhi : ∀ i (hi : i < zs.length), p ≤ i → ¬ cmp (zs[i]).2 < 0) :
  Calls Tryz.prog 122 #[.slice a n c, .agg #[t0, t1], .func (.func f) #[] #[]] w fun e w' => HaR p zs cmp e ∧ Bw w w' := by
 have b0 := (Below.refl w.heap.size w).alloc (Nat.le_refl _) (.cells #[t0, t1] 43)
 have k0 := Blk.new w #[t0, t1] 43
 go_enter Tryz.func122, Tryz.ntmps122
 go_upto_region 1 with fail
 generalize w.alloc (.cells #[t0, t1] 43) = w1 at *
 have HB := findB w1 a n c zs R (h.on b0) hn hbig t0 t1 ht f ef cmp hC p hp hlo hhi
 go_wp2_with (refine wpList_load_row rfl 43 (.tmp 4) rfl w.heap.size rfl 43 _ (0, 0) _ k0.h Tryz.underlying43 rfl (by kernel_rfl) ?_)
 refine HB.mono ?_
 rintro e w2 ⟨⟨b, rfl, hb⟩, b2⟩
 have HR : Hid (b = true ↔ ∃ hi : p < zs.length, cmp (zs[p]).2 = 0) := hb
 clear hb HB h hC hlo hhi k0
 go_wp2_with fail
 go_ret
 exact ⟨har_mk HR.out, nxt b0 b2⟩
theorem hasS {α : Type} (w : World) (a : Option Addr) (n c : Nat) (zs : Zs α) (R : List Value → α → Prop) (h : RdZ 5 R w (.slice a n c) zs) (hn : zs.length = n) (hbig : n ≤ 1000000) (t0 t1 t2 t3 t4 : Value) (ht : t0.oneCell' = true ∧ t1.oneCell' = true ∧ t2.oneCell' = true ∧ t3.oneCell' = true ∧ t4.oneCell' = true) (f : FuncId) (ef : ∀ args w, (callFunc f args).run Tryz.prog w = .ok (.enter f args) w)
  (cmp : α → Int) (hC : ∀ W z, z ∈ zs → Calls Tryz.prog f #[.agg z.1.toArray, .agg #[t0, t1, t2, t3, t4]] W fun e w' => e = .returned (.int .i64 (cmp z.2)) ∧ Bw W w') (p : Nat) (hp : p ≤ n) (hlo : ∀ i (hi : i < zs.length), i < p → cmp (zs[i]).2 < 0) (hhi : ∀ i (hi : i < zs.length), p ≤ i → ¬ cmp (zs[i]).2 < 0) :
  Calls Tryz.prog 133 #[.slice a n c, .agg #[t0, t1, t2, t3, t4], .func (.func f) #[] #[]] w fun e w' => HaR p zs cmp e ∧ Bw w w' := by
 have b0 := (Below.refl w.heap.size w).alloc (Nat.le_refl _) (.cells #[t0, t1, t2, t3, t4] 85)
 have k0 := Blk.new w #[t0, t1, t2, t3, t4] 85
 go_enter Tryz.func133, Tryz.ntmps133
 go_upto_region 1 with fail
 generalize w.alloc (.cells #[t0, t1, t2, t3, t4] 85) = w1 at *
 have HB := findS w1 a n c zs R (h.on b0) hn hbig t0 t1 t2 t3 t4 ht f ef cmp hC p hp hlo hhi
 go_wp2_with (refine wpList_load_row rfl 85 (.tmp 4) rfl w.heap.size rfl 85 _ (0, 0) _ k0.h Tryz.underlying85 rfl (by kernel_rfl) ?_)
 refine HB.mono ?_
 rintro e w2 ⟨⟨b, rfl, hb⟩, b2⟩
 have HR : Hid (b = true ↔ ∃ hi : p < zs.length, cmp (zs[p]).2 = 0) := hb
 clear hb HB h hC hlo hhi k0
 go_wp2_with fail
 go_ret
 exact ⟨har_mk HR.out, nxt b0 b2⟩
theorem list1 {l : List Value} (h : l.length = 1) : ∃ v0, l = [v0] := by
 match l, h with
 | [v0], _ => exact ⟨v0, rfl⟩
theorem el1_at {α : Type} {R : List Value → α → Prop} {w : World} {a : Option Addr} {n c : Nat} {zs : Zs α} (h : RdZ 1 R w (.slice a n c) zs) {i : Nat} (hi : i < zs.length) :
  ∃ b o v0, a = some ⟨b, o, none⟩ ∧ (zs[i]).1 = [v0] ∧ R [v0] (zs[i]).2 ∧ v0.oneCell' = true ∧ ∀ W, Bw w W → W.cell? ⟨b, o + i, none⟩ = some v0 := by
 obtain ⟨b, o, c', e, hc⟩ := h.some (by omega)
 obtain ⟨rfl, _, _⟩ : a = some ⟨b, o, none⟩ ∧ n = zs.length ∧ c = c' := by
  injection e with e1 e2 e3
  exact ⟨e1, e2, e3⟩
 obtain ⟨hk, hR⟩ := h.2 _ (List.getElem_mem hi)
 have h1 := h.cells hi
 obtain ⟨v0, hv⟩ : ∃ v0, (zs[i]).1 = [v0] := list1 hk.1
 rw [hv] at h1 hR hk
 refine ⟨b, o, v0, rfl, hv, hR, hk.2 _ (by simp), fun W hb => ?_⟩
 have h2 := h1 0 v0 rfl
 simp only [Nat.mul_one, Nat.add_zero] at h2
 rw [hb.cell (World.block_lt_of_cell? w _ h2), h2]
set_option maxHeartbeats 4000000 in
theorem bsN {α : Type} (w : World) (a : Option Addr) (n c : Nat) (zs : Zs α) (R : List Value → α → Prop) (h : RdZ 1 R w (.slice a n c) zs) (hn : zs.length = n) (hbig : n ≤ 1000000) (t0 : Value) (f : FuncId) (ef : ∀ args w, (callFunc f args).run Tryz.prog w = .ok (.enter f args) w)
  (cmp : α → Int) (hC : ∀ W z v0, z ∈ zs → z.1 = [v0] → Calls Tryz.prog f #[v0, t0] W fun e w' => e = .returned (.int .i64 (cmp z.2)) ∧ Bw W w') (p : Nat) (hp : p ≤ n) (hlo : ∀ i (hi : i < zs.length), i < p → cmp (zs[i]).2 < 0) (hhi : ∀ i (hi : i < zs.length), p ≤ i → ¬ cmp (zs[i]).2 < 0) :
  Calls Tryz.prog 254 #[.slice a n c, t0, .func (.func f) #[] #[]] w fun e w' => BsR p zs cmp e ∧ Bw w w' := by
 have HI : Hid (RdZ 1 R w (.slice a n c) zs) := h
 have NI : Hid (zs.length = n) := hn
 have HLO : Hid (∀ i (hi : i < zs.length), i < p → cmp (zs[i]).2 < 0) := hlo
 have HHI : Hid (∀ i (hi : i < zs.length), p ≤ i → ¬ cmp (zs[i]).2 < 0) := hhi
 clear h hn hlo hhi
 go_enter Tryz.func254, Tryz.ntmps254
 go_wp2_with fail
 go_loopg [9, 10, 11] n (fun gg s9 s10 _ wr => ∃ lo hi : Nat, lo ≤ p ∧ p ≤ hi ∧ hi ≤ n ∧ hi - lo ≤ gg ∧ s9 = .int .i64 lo ∧ s10 = .int .i64 hi ∧ Hid (Bw w wr))
 case atStart => exact ⟨0, n, Nat.zero_le _, hp, Nat.le_refl _, by omega, rfl, rfl, Below.refl _ _⟩
 case round =>
  obtain ⟨lo, hi, hlo, hhi, hin, hg, rfl, rfl, HS⟩ := hrel
  obtain ⟨wt, hwt⟩ : ∃ W, W = wr := ⟨_, rfl⟩
  subst hwt
  by_cases hlt : lo < hi
  ·have hltz : (lo : Int) < (hi : Int) := by omega
   obtain ⟨m, hm⟩ : ∃ m, m = (lo + hi) / 2 := ⟨_, rfl⟩
   have hm1 : lo ≤ m := by omega
   have hm2 : m < hi := by omega
   have hmn : m < n := by omega
   have hmI : ((lo : Int) + (hi : Int)) / 2 = (m : Int) := by omega
   have hmnz : (m : Int) < (n : Int) := by omega
   have hmz : m < zs.length := by rw [NI.out]; exact hmn
   have HL : Hid (cmp (zs[m]).2 < 0 → m + 1 ≤ p) := fun hc => by
    rcases Nat.lt_or_ge m p with h2 | h2
    ·exact h2
    ·exact absurd hc (by have := HHI.out m hmz h2; omega)
   have HG : Hid (¬ cmp (zs[m]).2 < 0 → p ≤ m) := fun hc => by
    rcases Nat.lt_or_ge m p with h2 | h2
    ·exact absurd (HLO.out m hmz h2) (by omega)
    ·exact h2
   obtain ⟨b, o, v0, rfl, hz1, _, hone, hcl⟩ := el1_at HI.out (i := m) hmz
   have hCm := fun W => hC W (zs[m]) v0 (List.getElem_mem hmz) hz1
   have HCL : Hid _ := hcl
   generalize cmp (zs[m]).2 = cz at *
   clear hz1 hm hcl
   by_cases hcz : cz < 0
   ·have H6 : Hid (m + 1 ≤ p) := HL.out hcz
    clear HL HG
    have c0 := HCL.out wt HS.out
    go_wp2_with fail
    refine (hCm _).mono ?_
    rintro e w2 ⟨rfl, b2⟩
    have HS2 : Hid (Bw w w2) := nxt HS.out b2
    clear HS b2 hCm c0
    go_wp2_with fail
    go_roundg (hi - (m + 1))
    case measure => omega
    case rel => exact ⟨m + 1, hi, H6.out, hhi, hin, by omega, by go_num, rfl, HS2.out⟩
   ·have H6 : Hid (p ≤ m) := HG.out hcz
    clear HL HG
    have c0 := HCL.out wt HS.out
    go_wp2_with fail
    refine (hCm _).mono ?_
    rintro e w2 ⟨rfl, b2⟩
    have HS2 : Hid (Bw w w2) := nxt HS.out b2
    clear HS b2 hCm c0
    go_wp2_with fail
    go_roundg (m - lo)
    case measure => omega
    case rel => exact ⟨lo, m, hlo, H6.out, by omega, by omega, rfl, rfl, HS2.out⟩
  ·have hltz : ¬ (lo : Int) < (hi : Int) := by omega
   obtain rfl : lo = p := by omega
   obtain rfl : hi = lo := by omega
   by_cases hl : hi < n
   ·have hlz : (hi : Int) < (n : Int) := by omega
    have hmz : hi < zs.length := by rw [NI.out]; exact hl
    obtain ⟨b, o, v0, rfl, hz1, _, hone, hcl⟩ := el1_at HI.out (i := hi) hmz
    have hCm := fun W => hC W (zs[hi]) v0 (List.getElem_mem hmz) hz1
    have HCL : Hid _ := hcl
    have HZ : Hid (∀ cz, cz = cmp (zs[hi]).2 → ∀ b : Bool, b = (cz == 0) → (b = true ↔ ∃ hi' : hi < zs.length, cmp (zs[hi]).2 = 0)) := fun cz e b eb => by
     rw [eb, e]
     simp [hmz]
    obtain ⟨cz, hcz⟩ : ∃ cz, cz = cmp (zs[hi]).2 := ⟨_, rfl⟩
    have HZ2 : Hid (∀ b : Bool, b = (cz == 0) → (b = true ↔ ∃ hi' : hi < zs.length, cmp (zs[hi]).2 = 0)) := HZ.out cz hcz
    rw [← hcz] at hCm
    clear hz1 hcz HZ hcl
    have c0 := HCL.out wt HS.out
    go_wp2_with fail
    refine (hCm _).mono ?_
    rintro e w2 ⟨rfl, b2⟩
    have hS2 : Bw w w2 := nxt HS.out b2
    clear HS b2 hCm c0
    go_wp2_with fail
    go_ret2
    exact ⟨bsr_mk (HZ2.out _ rfl), hS2⟩
   ·have hlz : ¬ (hi : Int) < (n : Int) := by omega
    have HN : Hid ((false = true ↔ ∃ hi' : hi < zs.length, cmp (zs[hi]).2 = 0)) := by
     show _ ↔ _
     constructor
     ·intro h
      cases h
     ·rintro ⟨h, _⟩
      rw [NI.out] at h
      exact absurd h hl
    have hS2 := HS.out
    go_wp2_with fail
    go_ret2
    exact ⟨bsr_mk HN.out, hS2⟩
theorem findN {α : Type} (w : World) (a : Option Addr) (n c : Nat) (zs : Zs α) (R : List Value → α → Prop) (h : RdZ 1 R w (.slice a n c) zs) (hn : zs.length = n) (hbig : n ≤ 1000000) (t0 : Value) (f : FuncId) (ef : ∀ args w, (callFunc f args).run Tryz.prog w = .ok (.enter f args) w)
  (cmp : α → Int) (hC : ∀ W z v0, z ∈ zs → z.1 = [v0] → Calls Tryz.prog f #[v0, t0] W fun e w' => e = .returned (.int .i64 (cmp z.2)) ∧ Bw W w') (p : Nat) (hp : p ≤ n) (hlo : ∀ i (hi : i < zs.length), i < p → cmp (zs[i]).2 < 0) (hhi : ∀ i (hi : i < zs.length), p ≤ i → ¬ cmp (zs[i]).2 < 0) :
  Calls Tryz.prog 203 #[.slice a n c, t0, .func (.func f) #[] #[]] w fun e w' => BsR p zs cmp e ∧ Bw w w' := by
 have HB := bsN w a n c zs R h hn hbig t0 f ef cmp hC p hp hlo hhi
 go_enter Tryz.func203, Tryz.ntmps203
 go_wp2_with fail
 refine HB.mono ?_
 rintro e w2 ⟨⟨b, rfl, hb⟩, b2⟩
 have HR : Hid (b = true ↔ ∃ hi : p < zs.length, cmp (zs[p]).2 = 0) := hb
 clear hb HB h hC hlo hhi
 go_wp2_with fail
 go_ret2
 exact ⟨bsr_mk HR.out, b2⟩
theorem hasN {α : Type} (w : World) (a : Option Addr) (n c : Nat) (zs : Zs α) (R : List Value → α → Prop) (h : RdZ 1 R w (.slice a n c) zs) (hn : zs.length = n) (hbig : n ≤ 1000000) (t0 : Value) (f : FuncId) (ef : ∀ args w, (callFunc f args).run Tryz.prog w = .ok (.enter f args) w)
  (cmp : α → Int) (hC : ∀ W z v0, z ∈ zs → z.1 = [v0] → Calls Tryz.prog f #[v0, t0] W fun e w' => e = .returned (.int .i64 (cmp z.2)) ∧ Bw W w') (p : Nat) (hp : p ≤ n) (hlo : ∀ i (hi : i < zs.length), i < p → cmp (zs[i]).2 < 0) (hhi : ∀ i (hi : i < zs.length), p ≤ i → ¬ cmp (zs[i]).2 < 0) :
  Calls Tryz.prog 191 #[.slice a n c, t0, .func (.func f) #[] #[]] w fun e w' => HaR p zs cmp e ∧ Bw w w' := by
 have HB := findN w a n c zs R h hn hbig t0 f ef cmp hC p hp hlo hhi
 go_enter Tryz.func191, Tryz.ntmps191
 go_wp2_with fail
 refine HB.mono ?_
 rintro e w2 ⟨⟨b, rfl, hb⟩, b2⟩
 have HR : Hid (b = true ↔ ∃ hi : p < zs.length, cmp (zs[p]).2 = 0) := hb
 clear hb HB h hC hlo hhi
 go_wp2_with fail
 go_ret
 exact ⟨har_mk HR.out, b2⟩
def gup (n : Int) : List PanicEntry := [{ v := .iface 37 (.int .i64 n), recovered := false }]
theorem insist_ok (w : World) (n : Int) : Calls Tryz.prog 111 #[.bool true, .int .i64 n] w fun e w' => e = .returned (.tuple #[]) ∧ w' = w := by
 go_enter Tryz.func111, Tryz.ntmps111
 go_wp2
 go_end0
 exact ⟨rfl, rfl⟩
theorem insist_no (w : World) (n : Int) : Calls Tryz.prog 111 #[.bool false, .int .i64 n] w fun e w' => e = .panicked (gup n) ∧ w' = w := by
 go_enter Tryz.func111, Tryz.ntmps111
 go_wp2
 exact ⟨rfl, rfl, rfl⟩
theorem assert37 (n : Int) (w : World) : (Instr.typeAssert (.iface 37 (.int .i64 n)) 20 37 true).run Tryz.prog w = .ok (.tuple #[.int .i64 n, .bool true]) w := by
 simp [Instr.typeAssert, Sem.run_bind, underlying, Tryz.underlying37, Result.andThen]
set_option maxRecDepth 100000 in
theorem catch_p (p : Addr) (x : Value) (n : Int) (w : World) (hc : w.cell? p = some x) (hx : x = .int .i64 0) (hz : w.frozen? p = false) :
  CallsD Tryz.prog 89 #[.pointer (some p)] (.panicking (gup n)) w fun e u' w' =>
   e = .returned (.tuple #[]) ∧ u' = .panicking [{ v := .iface 37 (.int .i64 n), recovered := true }] ∧ w' = w.setCell p (.int .i64 n) := by
 subst hx
 refine callsD_of_wpS Tryz.func89 rfl fun c₀ cs hu => ?_
 apply wpS_seq
 apply wpS_region
 simp [wpOpsS, go_sem, recoverD, hu, Tryz.ntmps89, Exit.thenS, gup]
 refine wpS_of_wp ?_
 simp only [Array.replicate_succ, Array.replicate_zero, List.push_toArray, List.append_toArray, List.nil_append, List.cons_append, List.setIfInBounds_toArray, List.set_cons_succ, List.set_cons_zero]
 have hta := assert37
 go_wp2
 simp [bodyPostS, results, Tryz.results89]
theorem catch_i (p : Addr) (w : World) :
  CallsD Tryz.prog 89 #[.pointer (some p)] .returning w fun e u' w' => e = .returned (.tuple #[]) ∧ u' = .returning ∧ w' = w := by
 refine callsD_of_wpS Tryz.func89 rfl fun c₀ cs hu => ?_
 apply wpS_seq
 apply wpS_region
 simp [wpOpsS, go_sem, recoverD, hu, Tryz.ntmps89, Exit.thenS]
 refine wpS_of_wp ?_
 simp only [Array.replicate_succ, Array.replicate_zero, List.push_toArray, List.append_toArray, List.nil_append, List.cons_append, List.setIfInBounds_toArray, List.set_cons_succ, List.set_cons_zero]
 go_wp2
 cases c₀
 simp_all [bodyPostS, results, Tryz.results89]
theorem guarded_any (f : Nat) (eg : ∀ args w, (callFunc f args).run Tryz.prog w = .ok (.enter f args) w) (cap : Array Value) (w : World) (A : World → Prop) (G : Int → World → Prop)
  (hc : Calls Tryz.prog f cap (w.alloc (.cells #[.int .i64 0] 37)) fun e w2 => (w2.cell? ⟨w.heap.size, 0, none⟩ = some (.int .i64 0) ∧ w2.frozen? ⟨w.heap.size, 0, none⟩ = false) ∧
   ((e = .returned (.tuple #[]) ∧ A w2) ∨ (∃ n, e = .panicked (gup n) ∧ G n w2))) :
  Calls Tryz.prog 33 #[.func (.func f) #[] cap] w fun e w' => (e = .returned (.int .i64 0) ∧ ∃ w2, A w2 ∧ w' = w2.setCell ⟨w.heap.size, 0, none⟩ (.int .i64 0)) ∨
   (∃ n, e = .returned (.int .i64 n) ∧ ∃ w2, G n w2 ∧ w' = w2.setCell ⟨w.heap.size, 0, none⟩ (.int .i64 n)) := by
 have hmf : ∀ (fn : Fn) (first cap : Array Value) (w : World), (Instr.makeFunc fn first cap).run Tryz.prog w = .ok (.func fn first cap) w := fun _ _ _ _ => rfl
 go_enter_defers Tryz.func33, Tryz.ntmps33
 go_wp2_with fail
 refine hc.mono ?_
 rintro e w2 ⟨⟨c0, z0⟩, ⟨rfl, hA⟩ | ⟨n, rfl, hG⟩⟩
 ·go_wp2
  refine leaves_cons (f := 89) (args := #[.pointer (some ⟨w.heap.size, 0, none⟩)]) (by simp) (by simp [go_sem]) ?_
  refine (catch_i ⟨w.heap.size, 0, none⟩ _).mono ?_
  rintro e u' w'' ⟨rfl, rfl, rfl⟩
  have e1 := World.cell?_setCell_same _ _ (Value.int .i64 0) c0
  simp only [Leaves, settle, results, Tryz.results33]
  refine ⟨.int .i64 0, by simp [go_sem, e1], .inl ⟨rfl, w2, hA, rfl⟩⟩
 ·refine leaves_cons (f := 89) (args := #[.pointer (some ⟨w.heap.size, 0, none⟩)]) (by simp) (by simp [go_sem]) ?_
  refine (catch_p ⟨w.heap.size, 0, none⟩ _ n _ c0 rfl z0).mono ?_
  rintro e u' w'' ⟨rfl, rfl, rfl⟩
  have e1 := World.cell?_setCell_same _ _ (Value.int .i64 n) c0
  change Leaves Tryz.prog Tryz.f33 _ _ [] .returning _
  simp only [Leaves, results, Tryz.results33]
  refine ⟨.int .i64 n, by simp [go_sem, e1], .inr ⟨n, rfl, w2, hG, rfl⟩⟩
end Go.Proofs.YtnpikgakpmkipabGreatDoor
namespace Go.Proofs.YtnpikgakpmkipabGreatDoor
open Go.RowKit Go.Lib
set_option maxRecDepth 100000
def KI (ty ts kk fi fo fd bb : Nat) (zv : Value) : Prop := (ty = 82 ∧ ts = 24 ∧ kk = 7 ∧ fi = 184 ∧ fo = 243 ∧ fd = 185 ∧ bb = 96 ∧ zv = .agg #[.string ⟨#[]⟩, .bool false, .int .i64 0, .int .i64 0, .int .i64 0, .slice none 0 0, .slice none 0 0]) ∨ (ty = 43 ∧ ts = 25 ∧ kk = 2 ∧ fi = 188 ∧ fo = 246 ∧ fd = 190 ∧ bb = 32 ∧ zv = .agg #[.string ⟨#[]⟩, .string ⟨#[]⟩]) ∨ (ty = 85 ∧ ts = 26 ∧ kk = 5 ∧ fi = 207 ∧ fo = 255 ∧ fd = 138 ∧ bb = 48 ∧ zv = .agg #[.int .i64 0, .int .i64 0, .string ⟨#[]⟩, .int .i64 0, .bool false]) ∨ (ty = 33 ∧ ts = 27 ∧ kk = 5 ∧ fi = 253 ∧ fo = 278 ∧ fd = 252 ∧ bb = 72 ∧ zv = .agg #[.string ⟨#[]⟩, .string ⟨#[]⟩, .slice none 0 0, .bool false, .int .i64 0]) ∨ (ty = 88 ∧ ts = 28 ∧ kk = 2 ∧ fi = 250 ∧ fo = 275 ∧ fd = 206 ∧ bb = 40 ∧ zv = .agg #[.string ⟨#[]⟩, .slice none 0 0]) ∨ (ty = 3 ∧ ts = 86 ∧ kk = 1 ∧ fi = 249 ∧ fo = 273 ∧ fd = 204 ∧ bb = 8 ∧ zv = .int .i64 0)
section
variable {ty ts kk fi fo fd bb : Nat} {zv : Value} (hI : KI ty ts kk fi fo fd bb zv)
include hI
theorem KI.inf : (Tryz.prog.info? ty).map (fun i => (i.zero, i.size, i.bytes)) = some (some zv, kk, bb) := by
 rcases hI with ⟨rfl, rfl, rfl, rfl, rfl, rfl, rfl, rfl⟩ | ⟨rfl, rfl, rfl, rfl, rfl, rfl, rfl, rfl⟩ | ⟨rfl, rfl, rfl, rfl, rfl, rfl, rfl, rfl⟩ | ⟨rfl, rfl, rfl, rfl, rfl, rfl, rfl, rfl⟩ | ⟨rfl, rfl, rfl, rfl, rfl, rfl, rfl, rfl⟩ | ⟨rfl, rfl, rfl, rfl, rfl, rfl, rfl, rfl⟩ <;> kernel_rfl
theorem KI.us : Tryz.prog.underlying ts = some (.slice ty) := by
 rcases hI with ⟨rfl, rfl, rfl, rfl, rfl, rfl, rfl, rfl⟩ | ⟨rfl, rfl, rfl, rfl, rfl, rfl, rfl, rfl⟩ | ⟨rfl, rfl, rfl, rfl, rfl, rfl, rfl, rfl⟩ | ⟨rfl, rfl, rfl, rfl, rfl, rfl, rfl, rfl⟩ | ⟨rfl, rfl, rfl, rfl, rfl, rfl, rfl, rfl⟩ | ⟨rfl, rfl, rfl, rfl, rfl, rfl, rfl, rfl⟩ <;> kernel_rfl
theorem KI.sz : (Tryz.prog.info? ty).map (·.size) = some kk := by
 rcases hI with ⟨rfl, rfl, rfl, rfl, rfl, rfl, rfl, rfl⟩ | ⟨rfl, rfl, rfl, rfl, rfl, rfl, rfl, rfl⟩ | ⟨rfl, rfl, rfl, rfl, rfl, rfl, rfl, rfl⟩ | ⟨rfl, rfl, rfl, rfl, rfl, rfl, rfl, rfl⟩ | ⟨rfl, rfl, rfl, rfl, rfl, rfl, rfl, rfl⟩ | ⟨rfl, rfl, rfl, rfl, rfl, rfl, rfl, rfl⟩ <;> kernel_rfl
theorem KI.zr : ∀ w, (zeroValue ty).run Tryz.prog w = .ok zv w := by
 rcases hI with ⟨rfl, rfl, rfl, rfl, rfl, rfl, rfl, rfl⟩ | ⟨rfl, rfl, rfl, rfl, rfl, rfl, rfl, rfl⟩ | ⟨rfl, rfl, rfl, rfl, rfl, rfl, rfl, rfl⟩ | ⟨rfl, rfl, rfl, rfl, rfl, rfl, rfl, rfl⟩ | ⟨rfl, rfl, rfl, rfl, rfl, rfl, rfl, rfl⟩ | ⟨rfl, rfl, rfl, rfl, rfl, rfl, rfl, rfl⟩ <;> (intro w; kernel_rfl)
theorem KI.cs : zv.cells.size = kk := by
 rcases hI with ⟨rfl, rfl, rfl, rfl, rfl, rfl, rfl, rfl⟩ | ⟨rfl, rfl, rfl, rfl, rfl, rfl, rfl, rfl⟩ | ⟨rfl, rfl, rfl, rfl, rfl, rfl, rfl, rfl⟩ | ⟨rfl, rfl, rfl, rfl, rfl, rfl, rfl, rfl⟩ | ⟨rfl, rfl, rfl, rfl, rfl, rfl, rfl, rfl⟩ | ⟨rfl, rfl, rfl, rfl, rfl, rfl, rfl, rfl⟩ <;> rfl
theorem KI.one : ∀ u ∈ zv.cells.toList, u.oneCell' = true := by
 rcases hI with ⟨rfl, rfl, rfl, rfl, rfl, rfl, rfl, rfl⟩ | ⟨rfl, rfl, rfl, rfl, rfl, rfl, rfl, rfl⟩ | ⟨rfl, rfl, rfl, rfl, rfl, rfl, rfl, rfl⟩ | ⟨rfl, rfl, rfl, rfl, rfl, rfl, rfl, rfl⟩ | ⟨rfl, rfl, rfl, rfl, rfl, rfl, rfl, rfl⟩ | ⟨rfl, rfl, rfl, rfl, rfl, rfl, rfl, rfl⟩ <;> simp [Value.cells, Value.oneCell']
theorem KI.pos : 0 < kk := by
 rcases hI with ⟨rfl, rfl, rfl, rfl, rfl, rfl, rfl, rfl⟩ | ⟨rfl, rfl, rfl, rfl, rfl, rfl, rfl, rfl⟩ | ⟨rfl, rfl, rfl, rfl, rfl, rfl, rfl, rfl⟩ | ⟨rfl, rfl, rfl, rfl, rfl, rfl, rfl, rfl⟩ | ⟨rfl, rfl, rfl, rfl, rfl, rfl, rfl, rfl⟩ | ⟨rfl, rfl, rfl, rfl, rfl, rfl, rfl, rfl⟩ <;> decide
theorem KI.k : kk = 1 ∨ kk = 2 ∨ kk = 5 ∨ kk = 7 := by
 rcases hI with ⟨rfl, rfl, rfl, rfl, rfl, rfl, rfl, rfl⟩ | ⟨rfl, rfl, rfl, rfl, rfl, rfl, rfl, rfl⟩ | ⟨rfl, rfl, rfl, rfl, rfl, rfl, rfl, rfl⟩ | ⟨rfl, rfl, rfl, rfl, rfl, rfl, rfl, rfl⟩ | ⟨rfl, rfl, rfl, rfl, rfl, rfl, rfl, rfl⟩ | ⟨rfl, rfl, rfl, rfl, rfl, rfl, rfl, rfl⟩ <;> simp
theorem KI.kb : (kk = 7 ∧ bb = 96) ∨ (kk = 2 ∧ bb = 32) ∨ (kk = 5 ∧ bb = 48) ∨ (kk = 5 ∧ bb = 72) ∨ (kk = 2 ∧ bb = 40) ∨ (kk = 1 ∧ bb = 8) := by
 rcases hI with ⟨rfl, rfl, rfl, rfl, rfl, rfl, rfl, rfl⟩ | ⟨rfl, rfl, rfl, rfl, rfl, rfl, rfl, rfl⟩ | ⟨rfl, rfl, rfl, rfl, rfl, rfl, rfl, rfl⟩ | ⟨rfl, rfl, rfl, rfl, rfl, rfl, rfl, rfl⟩ | ⟨rfl, rfl, rfl, rfl, rfl, rfl, rfl, rfl⟩ | ⟨rfl, rfl, rfl, rfl, rfl, rfl, rfl, rfl⟩ <;> simp
theorem KI.ov (w : World) (lb cb : Nat) {bv g : Nat} (hne : bv ≠ g) {c1 c2 : Array Value} (kv : Blk w bv c1 ty) (kg : Blk w g c2 ty) (h0 : c2.size ≠ 0) (i : Nat) : (callFunc fo #[.slice (some ⟨bv, 0, none⟩) 1 1, .slice (some ⟨g, i * kk, none⟩) lb cb]).run Tryz.prog w = .ok (.value (.bool false)) w := by
 rcases hI with ⟨rfl, rfl, rfl, rfl, rfl, rfl, rfl, rfl⟩ | ⟨rfl, rfl, rfl, rfl, rfl, rfl, rfl, rfl⟩ | ⟨rfl, rfl, rfl, rfl, rfl, rfl, rfl, rfl⟩ | ⟨rfl, rfl, rfl, rfl, rfl, rfl, rfl, rfl⟩ | ⟨rfl, rfl, rfl, rfl, rfl, rfl, rfl, rfl⟩ | ⟨rfl, rfl, rfl, rfl, rfl, rfl, rfl, rfl⟩
 ·rw [run_callFunc_extern Tryz.func243 (by kernel_rfl) (by kernel_rfl) (by kernel_rfl) (e := Extern.SlicesOverlaps.overlaps #[24, 24] #[4]) (by kernel_rfl), Lib.run_overlaps_apart w 24 4 82 Tryz.underlying24 7 (fun w => by kernel_rfl) ⟨bv, 0, none⟩ ⟨g, i * 7, none⟩ 1 1 lb cb hne 82 82 _ _ kv.shape kg.shape h0 (kv.frozen 0) (kv.frozen _)]
  rfl
 ·rw [run_callFunc_extern Tryz.func246 (by kernel_rfl) (by kernel_rfl) (by kernel_rfl) (e := Extern.SlicesOverlaps.overlaps #[25, 25] #[4]) (by kernel_rfl), Lib.run_overlaps_apart w 25 4 43 Tryz.underlying25 2 (fun w => by kernel_rfl) ⟨bv, 0, none⟩ ⟨g, i * 2, none⟩ 1 1 lb cb hne 43 43 _ _ kv.shape kg.shape h0 (kv.frozen 0) (kv.frozen _)]
  rfl
 ·rw [run_callFunc_extern Tryz.func255 (by kernel_rfl) (by kernel_rfl) (by kernel_rfl) (e := Extern.SlicesOverlaps.overlaps #[26, 26] #[4]) (by kernel_rfl), Lib.run_overlaps_apart w 26 4 85 Tryz.underlying26 5 (fun w => by kernel_rfl) ⟨bv, 0, none⟩ ⟨g, i * 5, none⟩ 1 1 lb cb hne 85 85 _ _ kv.shape kg.shape h0 (kv.frozen 0) (kv.frozen _)]
  rfl
 ·rw [run_callFunc_extern Tryz.func278 (by kernel_rfl) (by kernel_rfl) (by kernel_rfl) (e := Extern.SlicesOverlaps.overlaps #[27, 27] #[4]) (by kernel_rfl), Lib.run_overlaps_apart w 27 4 33 Tryz.underlying27 5 (fun w => by kernel_rfl) ⟨bv, 0, none⟩ ⟨g, i * 5, none⟩ 1 1 lb cb hne 33 33 _ _ kv.shape kg.shape h0 (kv.frozen 0) (kv.frozen _)]
  rfl
 ·rw [run_callFunc_extern Tryz.func275 (by kernel_rfl) (by kernel_rfl) (by kernel_rfl) (e := Extern.SlicesOverlaps.overlaps #[28, 28] #[4]) (by kernel_rfl), Lib.run_overlaps_apart w 28 4 88 Tryz.underlying28 2 (fun w => by kernel_rfl) ⟨bv, 0, none⟩ ⟨g, i * 2, none⟩ 1 1 lb cb hne 88 88 _ _ kv.shape kg.shape h0 (kv.frozen 0) (kv.frozen _)]
  rfl
 ·rw [run_callFunc_extern Tryz.func273 (by kernel_rfl) (by kernel_rfl) (by kernel_rfl) (e := Extern.SlicesOverlaps.overlaps #[86, 86] #[4]) (by kernel_rfl), Lib.run_overlaps_apart w 86 4 3 Tryz.underlying86 1 (fun w => by kernel_rfl) ⟨bv, 0, none⟩ ⟨g, i * 1, none⟩ 1 1 lb cb hne 3 3 _ _ kv.shape kg.shape h0 (kv.frozen 0) (kv.frozen _)]
  rfl
end
theorem wpl_appG {α : Type} {ty ts kk fi fo fd bb : Nat} {zv : Value} (hI : KI ty ts kk fi fo fd bb zv) {ops : Array Oper} {rest : List Oper} {o : Oper} {a : Act} {Q : Exit → Act → World → Prop} (hgd : o.guard = none) (s x : Operand)
  (ho : o.op = .call { callee := .builtin .append, args := #[s, x], argTypes := #[ts, ts] }) (B : Nat) (v : Value) (zs : Zs α) (R : List Value → α → Prop) (w : World)
  (hs : a.eval s = v) (hown : OwnZ ty kk R w B v zs) (b c : Nat) (z : List Value × α) (hx : a.eval x = .slice (some ⟨b, 0, none⟩) 1 c) (hz : (z.1.length = kk ∧ ∀ u ∈ z.1, u.oneCell' = true) ∧ R z.1 z.2)
  (hsrc : ∀ j u, z.1[j]? = some u → w.cell? ⟨b, j, none⟩ = some u) (hn : zs.length ≤ 100000) (hB : B ≤ w.heap.size)
  (h : ∀ v' w', OwnZ ty kk R w' B v' (zs ++ [z]) → w.grownBy w' v.ownBlock → wpList Tryz.prog ops Q rest (a.put o.dst v') w') : wpList Tryz.prog ops Q (o :: rest) a w := by
 obtain ⟨i0, hi, hz0, hz1, hz2⟩ := info_parts hI.inf
 refine wpList_plain hgd fun _ hK => wp_append_own _ s x ts ho B ty i0 zv kk bb hI.us hi hz0 hz1 hz2 hI.cs hI.pos v zs.length (cellsZ zs) hs hown.1 ⟨b, 0, none⟩ 1 c z.1 hx (by rw [hz.1.1, Nat.one_mul]) ?_ hz.1.2 (by unfold maxLen; (rcases hI.kb with ⟨rfl, rfl⟩ | ⟨rfl, rfl⟩ | ⟨rfl, rfl⟩ | ⟨rfl, rfl⟩ | ⟨rfl, rfl⟩ | ⟨rfl, rfl⟩ <;> omega)) (by rcases hI.kb with ⟨rfl, rfl⟩ | ⟨rfl, rfl⟩ | ⟨rfl, rfl⟩ | ⟨rfl, rfl⟩ | ⟨rfl, rfl⟩ | ⟨rfl, rfl⟩ <;> omega) hB ?_
 ·intro j u hj
  rw [Addr.add_lit, Nat.zero_add]
  exact hsrc j u hj
 ·intro v' w' h1 h2 _
  refine hK _ _ (h v' w' ⟨?_, ?_⟩ h2)
  ·rw [cellsZ_app, List.length_append]
   simpa [cellsZ] using h1
  ·intro y hy
   rcases List.mem_append.1 hy with hy | hy
   ·exact hown.2 y hy
   ·rw [List.mem_singleton.1 hy]
    exact hz
theorem ownG_some {α : Type} {ty ts kk fi fo fd bb : Nat} {zv : Value} (hI : KI ty ts kk fi fo fd bb zv) {w : World} {B : Nat} {v : Value} {zs : Zs α} {R : List Value → α → Prop} (h : OwnZ ty kk R w B v zs) (h0 : 0 < zs.length) :
  ∃ g cap cur, v = .slice (some ⟨g, 0, none⟩) zs.length cap ∧ B ≤ g ∧ Blk w g cur ty ∧ zs.length ≤ cap ∧ cap ≤ maxLen ∧ cur.size = cap * kk ∧ cur.toList.take (zs.length * kk) = cellsZ zs := by
 obtain ⟨_, h1 | ⟨g, cap, cur, hv, hb, hg, hc, hm, hs, ht⟩⟩ := h.1
 ·rcases hI.k with rfl | rfl | rfl | rfl <;> omega
 ·exact ⟨g, cap, cur, hv, hb, ⟨hg⟩, hc, hm, hs, ht⟩
end Go.Proofs.YtnpikgakpmkipabGreatDoor
namespace Go.Proofs.YtnpikgakpmkipabGreatDoor
open Go.RowKit Go.Lib
set_option maxRecDepth 100000
set_option maxHeartbeats 2000000 in
theorem delG_any {α : Type} {ty ts kk fi fo fd bb : Nat} {zv : Value} (hI : KI ty ts kk fi fo fd bb zv) (w : World) (B : Nat) (v : Value) (zs : Zs α) (R : List Value → α → Prop) (h : OwnZ ty kk R w B v zs) (i j : Nat) (hij : j = i + 1) (hi : i < zs.length) (hn : zs.length ≤ 1000000) :
  Calls Tryz.prog fd #[v, .int .i64 i, .int .i64 (j : Nat)] w fun e w' => ∃ v', e = .returned v' ∧ OwnZ ty kk R w' B v' (zs.take i ++ zs.drop j) ∧ w.grownBy w' v.ownBlock ∧ v'.ownBlock = v.ownBlock := by
 obtain ⟨g, cap, cur, rfl, hBg, kg, hc, hm, hs, ht⟩ := ownG_some hI h (by rcases hI.k with rfl | rfl | rfl | rfl <;> omega)
 obtain ⟨i0, hi0, hz0, hz1, hz2⟩ := info_parts hI.inf
 have hk : ∀ z ∈ zs, z.1.length = kk := fun z hz => (h.2 z hz).1.1
 have hcl := cellsZ_len hk
 have hkd : ∀ z ∈ zs.drop j, z.1.length = kk := fun z hz => hk z (List.mem_of_mem_drop hz)
 have hnl : (cellsZ (zs.drop j)).length = (zs.length - j) * kk := by rw [cellsZ_len hkd, List.length_drop]
 have hcell : ∀ t u, (cellsZ (zs.drop j))[t]? = some u → w.drew.cell? ⟨g, j * kk + t, none⟩ = some u := fun t u hu => by
  show w.cell? _ = _
  rw [kg.cell, ← hu, ← cellsZ_drop hk, List.getElem?_drop, ← ht]
  have ht2 : j * kk + t < zs.length * kk := by
   have := (List.getElem?_eq_some_iff.1 hu).1
   rw [hnl] at this
   rcases hI.k with rfl | rfl | rfl | rfl <;> omega
  rw [List.getElem?_take_of_lt ht2]
  simp
 have hone : ∀ u ∈ cellsZ (zs.drop j), u.oneCell' = true := fun u hu => by
  obtain ⟨z, hz, hu⟩ := List.mem_flatMap.1 hu
  exact (h.2 z (List.mem_of_mem_drop hz)).1.2 u hu
 obtain ⟨A, hA, hsrc⟩ : ∃ A : Addr, (if cap = j then some (⟨g, 0, none⟩ : Addr) else some ⟨g, j * kk, none⟩) = some A ∧ Hid (∀ t u, (cellsZ (zs.drop j))[t]? = some u → w.drew.cell? (A.add t) = some u) := by
  by_cases e : cap = j
  ·refine ⟨⟨g, 0, none⟩, by simp [e], fun t u hu => ?_⟩
   have h0 : zs.drop j = [] := List.drop_eq_nil_of_le (by rcases hI.k with rfl | rfl | rfl | rfl <;> omega)
   rw [h0] at hu
   simp [cellsZ] at hu
  ·refine ⟨⟨g, j * kk, none⟩, by simp [e], fun t u hu => ?_⟩
   rw [Addr.add_lit]
   exact hcell t u hu
 have HN : Hid ((cellsZ (zs.drop j)).length = (zs.length - j) * kk) := hnl
 have HO : Hid (∀ u ∈ cellsZ (zs.drop j), u.oneCell' = true) := hone
 have HZ : Hid (∀ z ∈ zs, (z.1.length = kk ∧ ∀ u ∈ z.1, u.oneCell' = true) ∧ R z.1 z.2) := h.2
 have HT : Hid (cur.toList.take (zs.length * kk) = cellsZ zs) := ht
 have HK : Hid (∀ z ∈ zs, z.1.length = kk) := hk
 have HS : Hid (cur.size = cap * kk) := hs
 obtain ⟨news, hnews⟩ : ∃ news, cellsZ (zs.drop j) = news := ⟨_, rfl⟩
 rw [hnews] at hsrc HN HO
 have HW : Hid (cellsZ (zs.drop j) = news) := hnews
 have kd : Blk w.drew g cur ty := ⟨kg.h⟩
 have k1 := kd.row (cur.toList.take (i * kk) ++ news ++ cur.toList.drop (i * kk + news.length)).toArray
 obtain ⟨W1, hW1⟩ : ∃ W1, w.drew.setRow g (cur.toList.take (i * kk) ++ news ++ cur.toList.drop (i * kk + news.length)).toArray = W1 := ⟨_, rfl⟩
 rw [hW1] at k1
 have g1 : w.grownBy W1 (some g) := by
  rw [← hW1]
  exact ⟨rfl, rfl, rfl, (grown_setRow w.drew g _).size, fun k hk hne => (grown_setRow w.drew g _).block k hk hne⟩
 have HW1 : Hid (w.drew.setRow g (cur.toList.take (i * kk) ++ news ++ cur.toList.drop (i * kk + news.length)).toArray = W1) := hW1
 have hsz : (cur.toList.take (i * kk) ++ news ++ cur.toList.drop (i * kk + news.length)).toArray.size = cap * kk := by
  have := HN.out
  have : i * kk + (zs.length - j) * kk ≤ cap * kk := by rcases hI.k with rfl | rfl | rfl | rfl <;> omega
  simp
  rcases hI.k with rfl | rfl | rfl | rfl <;> omega
 obtain ⟨zz, hzz, hclr⟩ := run_clear_row (P := Tryz.prog) W1 ts ty 0 zv hI.us hI.zr hI.one g ((zs.length - 1) * kk) 1 (cap - (zs.length - 1)) (by rcases hI.k with rfl | rfl | rfl | rfl <;> omega) _ k1.h (by rw [hsz, hI.cs]; (rcases hI.k with rfl | rfl | rfl | rfl <;> omega))
 have k2 := k1.row (((cur.toList.take (i * kk) ++ news ++ cur.toList.drop (i * kk + news.length)).toArray.toList.take ((zs.length - 1) * kk) ++ zz ++ (cur.toList.take (i * kk) ++ news ++ cur.toList.drop (i * kk + news.length)).toArray.toList.drop ((zs.length - 1) * kk + zz.length)).toArray)
 obtain ⟨W2, hW2⟩ : ∃ W2, W1.setRow g (((cur.toList.take (i * kk) ++ news ++ cur.toList.drop (i * kk + news.length)).toArray.toList.take ((zs.length - 1) * kk) ++ zz ++ (cur.toList.take (i * kk) ++ news ++ cur.toList.drop (i * kk + news.length)).toArray.toList.drop ((zs.length - 1) * kk + zz.length)).toArray) = W2 := ⟨_, rfl⟩
 rw [hW2] at k2 hclr
 have g2 : W1.grownBy W2 (some g) := by rw [← hW2]; exact grown_setRow W1 g _
 have hfin : OwnZ ty kk R W2 B (.slice (some ⟨g, 0, none⟩) (zs.length - 1) cap) (zs.take i ++ zs.drop j) := by
  have hlen : (zs.take i ++ zs.drop j).length = zs.length - 1 := by simp; (rcases hI.k with rfl | rfl | rfl | rfl <;> omega)
  have hks : ∀ z ∈ zs.take i ++ zs.drop j, z ∈ zs := fun z hz => by
   rcases List.mem_append.1 hz with hz | hz
   ·exact List.mem_of_mem_take hz
   ·exact List.mem_of_mem_drop hz
  refine ⟨⟨by rw [cellsZ_len (fun z hz => HK.out z (hks z hz)), hlen], .inr ⟨g, cap, _, by rw [hlen], hBg, k2.h, by rcases hI.k with rfl | rfl | rfl | rfl <;> omega, hm, ?_, ?_⟩⟩, fun z hz => HZ.out z (hks z hz)⟩
  ·simp only [List.size_toArray, List.length_append, List.length_take, List.length_drop, Array.length_toList] at hsz ⊢
   have e7 : zv.cells.size = kk := hI.cs
   rw [e7] at hzz
   simp only [hsz]
   rcases hI.k with rfl | rfl | rfl | rfl <;> omega
  ·rw [hlen]
   have h1 := HN.out
   have hci : (cur.toList.take (i * kk)).length = i * kk := by rw [List.length_take, Array.length_toList, HS.out]; (rcases hI.k with rfl | rfl | rfl | rfl <;> omega)
   have hl2 : (zs.length - 1) * kk = (cur.toList.take (i * kk) ++ news).length := by rw [List.length_append, hci, h1]; (rcases hI.k with rfl | rfl | rfl | rfl <;> omega)
   rw [List.toList_toArray, List.append_assoc, List.take_append_of_le_length (by rw [List.length_take, List.toList_toArray, List.length_append]; (rcases hI.k with rfl | rfl | rfl | rfl <;> omega)), List.take_take, Nat.min_self, List.toList_toArray, hl2, List.take_left' rfl, cellsZ_app]
   congr 1
   ·rw [← cellsZ_take HK.out, ← HT.out, List.take_take]
    congr 1
    rcases hI.k with rfl | rfl | rfl | rfl <;> omega
   ·exact HW.out.symm
 obtain ⟨n, hnn⟩ : ∃ n, zs.length = n := ⟨_, rfl⟩
 have hgg := gb_trans g1 g2
 have hsp : i * kk + news.length ≤ cur.size := by rw [HN.out, HS.out]; (rcases hI.k with rfl | rfl | rfl | rfl <;> omega)
 rw [hnn] at hi hn hc hclr hfin HN ⊢
 clear hnews hone hnl hcell hk hcl hkd ht hs kg h k1 hW1 hW2 k2 g1 g2 hsz hzz HT HK HS HZ HW hnn
 have e1 : i + (n - j) = n - 1 := by rcases hI.k with rfl | rfl | rfl | rfl <;> omega
 have hi0' : i < j := by rcases hI.k with rfl | rfl | rfl | rfl <;> omega
 have hi1 : j ≤ n := by rcases hI.k with rfl | rfl | rfl | rfl <;> omega
 have hi2 : i ≤ cap := by rcases hI.k with rfl | rfl | rfl | rfl <;> omega
 have hi3 : j ≤ cap := by rcases hI.k with rfl | rfl | rfl | rfl <;> omega
 have hne : ¬ ((i : Int) = (j : Int)) := by rcases hI.k with rfl | rfl | rfl | rfl <;> omega
 have mixed := hmix
 have E1 : Hid (i + (n - j) = n - 1) := e1
 clear hij e1
 have hI' := hI
 rcases hI with ⟨rfl, rfl, rfl, rfl, rfl, rfl, rfl, rfl⟩ | ⟨rfl, rfl, rfl, rfl, rfl, rfl, rfl, rfl⟩ | ⟨rfl, rfl, rfl, rfl, rfl, rfl, rfl, rfl⟩ | ⟨rfl, rfl, rfl, rfl, rfl, rfl, rfl, rfl⟩ | ⟨rfl, rfl, rfl, rfl, rfl, rfl, rfl, rfl⟩ | ⟨rfl, rfl, rfl, rfl, rfl, rfl, rfl, rfl⟩
 all_goals
  try simp only [Nat.mul_one] at hA hclr
  first | go_enter Tryz.func185, Tryz.ntmps185 | go_enter Tryz.func190, Tryz.ntmps190 | go_enter Tryz.func138, Tryz.ntmps138 | go_enter Tryz.func252, Tryz.ntmps252 | go_enter Tryz.func206, Tryz.ntmps206 | go_enter Tryz.func204, Tryz.ntmps204
  go_wp2_with fail
  go_region_law_o (refine step_app_row rfl (.tmp 22) (.tmp 25) _ rfl _ i0 _ hI'.us hi0 hz1 g i cap cur kd (by simp [Act.eval, Act.put]) A (n - j) (cap - j) news (by simp [Act.eval, Act.put]) HN.out hsrc.out HO.out (by omega) hsp ?_; rw [HW1.out])
  have e1 := E1.out
  simp only [e1]
  have hn1 : n - 1 ≤ n := by omega
  have hn2 : n - (n - 1) = 1 := by omega
  go_wp2
  go_ret
  exact ⟨_, rfl, hfin, hgg, rfl⟩
theorem insG_end {α : Type} {ty ts kk fi fo fd bb : Nat} {zv : Value} (hI : KI ty ts kk fi fo fd bb zv) (w : World) (B : Nat) (v : Value) (zs : Zs α) (R : List Value → α → Prop) (h : OwnZ ty kk R w B v zs) (hn : zs.length ≤ 1000) (hB : B ≤ w.heap.size) (bv : Nat) (z : List Value × α) (hz : (z.1.length = kk ∧ ∀ u ∈ z.1, u.oneCell' = true) ∧ R z.1 z.2) (kv : Blk w bv z.1.toArray ty) :
  Calls Tryz.prog fi #[v, .int .i64 zs.length, .slice (some ⟨bv, 0, none⟩) 1 1] w fun e w' => ∃ v', e = .returned v' ∧ OwnZ ty kk R w' B v' (zs ++ [z]) ∧ w.grownBy w' v.ownBlock := by
 obtain ⟨a, c, hv⟩ := h.rd.len
 have hc : zs.length ≤ c := by
  obtain ⟨_, ⟨e, h0⟩ | ⟨g, cap, cur, e, _, _, h2, _⟩⟩ := h.1
  ·rcases hI.k with rfl | rfl | rfl | rfl <;> omega
  ·rw [hv] at e
   injection e with _ _ e3
   rcases hI.k with rfl | rfl | rfl | rfl <;> omega
 have HR : Hid (OwnZ ty kk R w B v zs) := h
 have HS : Hid (∀ j u, z.1[j]? = some u → w.cell? ⟨bv, j, none⟩ = some u) := fun j u hu => by rw [kv.cell j]; simpa using hu
 have HV : Hid (v = .slice a zs.length c) := hv
 obtain ⟨n, hnn⟩ : ∃ n, zs.length = n := ⟨_, rfl⟩
 rw [hv]
 rw [hnn] at hn hc ⊢
 have HN : Hid (zs.length = n) := hnn
 clear h hv hnn kv
 have hI' := hI
 rcases hI with ⟨rfl, rfl, rfl, rfl, rfl, rfl, rfl, rfl⟩ | ⟨rfl, rfl, rfl, rfl, rfl, rfl, rfl, rfl⟩ | ⟨rfl, rfl, rfl, rfl, rfl, rfl, rfl, rfl⟩ | ⟨rfl, rfl, rfl, rfl, rfl, rfl, rfl, rfl⟩ | ⟨rfl, rfl, rfl, rfl, rfl, rfl, rfl, rfl⟩ | ⟨rfl, rfl, rfl, rfl, rfl, rfl, rfl, rfl⟩
 all_goals
  first | go_enter Tryz.func184, Tryz.ntmps184 | go_enter Tryz.func188, Tryz.ntmps188 | go_enter Tryz.func207, Tryz.ntmps207 | go_enter Tryz.func253, Tryz.ntmps253 | go_enter Tryz.func250, Tryz.ntmps250 | go_enter Tryz.func249, Tryz.ntmps249
  go_wp2_with (at_builtin; refine wpl_appG hI' rfl (.tmp 23) (.tmp 24) rfl B (.slice a n c) zs R w rfl (by have := HR.out; rw [HV.out, HN.out] at this; exact this) bv 1 z rfl hz HS.out (by rw [HN.out]; omega) hB ?_)
  all_goals
   intro v' w' h1 h2
   go_wp2_with fail
   go_ret
   refine ⟨_, rfl, h1, ?_⟩
   cases a <;> exact h2
set_option maxHeartbeats 4000000 in
theorem insG_room {α : Type} {ty ts kk fi fo fd bb : Nat} {zv : Value} (hI : KI ty ts kk fi fo fd bb zv) (w : World) (B : Nat) (zs : Zs α) (R : List Value → α → Prop) (g cap n i j : Nat) (cur : Array Value) (hBg : B ≤ g) (kg : Blk w g cur ty) (hm : cap ≤ maxLen) (hs : cur.size = cap * kk) (ht : cur.toList.take (zs.length * kk) = cellsZ zs) (hR : ∀ z ∈ zs, (z.1.length = kk ∧ ∀ u ∈ z.1, u.oneCell' = true) ∧ R z.1 z.2)
  (hnn : zs.length = n) (hi : i < n) (hj : j = n + 1) (hroom : j ≤ cap) (hn : n ≤ 1000) (bv : Nat) (z : List Value × α) (hz : (z.1.length = kk ∧ ∀ u ∈ z.1, u.oneCell' = true) ∧ R z.1 z.2) (kv : Blk w bv z.1.toArray ty) (hne : bv ≠ g) :
  Calls Tryz.prog fi #[.slice (some ⟨g, 0, none⟩) n cap, .int .i64 i, .slice (some ⟨bv, 0, none⟩) 1 1] w fun e w' => ∃ v', e = .returned v' ∧ OwnZ ty kk R w' B v' (zs.take i ++ z :: zs.drop i) ∧ w.grownBy w' (some g) := by
 have hk : ∀ y ∈ zs, y.1.length = kk := fun y hy => (hR y hy).1.1
 have hkd : ∀ y ∈ zs.drop i, y.1.length = kk := fun y hy => hk y (List.mem_of_mem_drop hy)
 have hdl : (cellsZ (zs.drop i)).length = (n - i) * kk := by rw [cellsZ_len hkd, List.length_drop, hnn]
 have h1d : ∀ u ∈ cellsZ (zs.drop i), u.oneCell' = true := fun u hu => by
  obtain ⟨y, hy, hu⟩ := List.mem_flatMap.1 hu
  exact (hR y (List.mem_of_mem_drop hy)).1.2 u hu
 have hsd : ∀ t u, (cellsZ (zs.drop i))[t]? = some u → w.cell? ⟨g, i * kk + t, none⟩ = some u := fun t u hu => by
  rw [kg.cell, ← hu, ← cellsZ_drop hk, List.getElem?_drop, ← ht]
  have ht2 : i * kk + t < zs.length * kk := by
   have := (List.getElem?_eq_some_iff.1 hu).1
   rw [hdl] at this
   rcases hI.k with rfl | rfl | rfl | rfl <;> omega
  rw [List.getElem?_take_of_lt ht2]
  simp
 have kd : Blk w.drew g cur ty := ⟨kg.h⟩
 have kvd : Blk w.drew bv z.1.toArray ty := ⟨kv.h⟩
 have hszk : (Tryz.prog.info? ty).map (·.size) = some kk := hI.sz
 have hcp1 := run_copy_rowk w.drew ts ts 3 ty kk g ((i + 1) * kk) (j - (i + 1)) (cap - (i + 1)) ⟨g, i * kk, none⟩ (j - i) (cap - i) (n - i) cur ty (cellsZ (zs.drop i)) hI.us hszk kd (by simp only [Nat.min_def]; split <;> omega) hdl (fun t u hu => by rw [Addr.add_lit]; exact hsd t u hu) (by rw [hdl, hs]; (rcases hI.k with rfl | rfl | rfl | rfl <;> omega)) h1d
 have k1 := kd.row (cur.toList.take ((i + 1) * kk) ++ cellsZ (zs.drop i) ++ cur.toList.drop ((i + 1) * kk + (cellsZ (zs.drop i)).length)).toArray
 have kv1 := kvd.rowO (g' := g) hne (cur.toList.take ((i + 1) * kk) ++ cellsZ (zs.drop i) ++ cur.toList.drop ((i + 1) * kk + (cellsZ (zs.drop i)).length)).toArray
 have hsz1 : (cur.toList.take ((i + 1) * kk) ++ cellsZ (zs.drop i) ++ cur.toList.drop ((i + 1) * kk + (cellsZ (zs.drop i)).length)).toArray.size = cap * kk := by
  simp
  rcases hI.k with rfl | rfl | rfl | rfl <;> omega
 obtain ⟨W1, hW1⟩ : ∃ W1, w.drew.setRow g (cur.toList.take ((i + 1) * kk) ++ cellsZ (zs.drop i) ++ cur.toList.drop ((i + 1) * kk + (cellsZ (zs.drop i)).length)).toArray = W1 := ⟨_, rfl⟩
 have g1 : w.grownBy W1 (some g) := by
  rw [← hW1]
  exact ⟨rfl, rfl, rfl, (grown_setRow w.drew g _).size, fun k hk hne => (grown_setRow w.drew g _).block k hk hne⟩
 rw [hW1] at k1 kv1 hcp1
 obtain ⟨C1, hC1⟩ : ∃ C1, (cur.toList.take ((i + 1) * kk) ++ cellsZ (zs.drop i) ++ cur.toList.drop ((i + 1) * kk + (cellsZ (zs.drop i)).length)).toArray = C1 := ⟨_, rfl⟩
 rw [hC1] at k1 hsz1
 have hcp2 := run_copy_rowk W1 ts ts 3 ty kk g (i * kk) (j - i) (cap - i) ⟨bv, 0, none⟩ 1 1 1 C1 ty z.1 hI.us hszk k1 (by simp only [Nat.min_def]; split <;> omega) (by rw [hz.1.1, Nat.one_mul]) (fun t u hu => by rw [Addr.add_lit, Nat.zero_add, kv1.cell]; simpa using hu) (by rw [hz.1.1, hsz1]; (rcases hI.k with rfl | rfl | rfl | rfl <;> omega)) hz.1.2
 have k2 := k1.row (C1.toList.take (i * kk) ++ z.1 ++ C1.toList.drop (i * kk + z.1.length)).toArray
 obtain ⟨W2, hW2⟩ : ∃ W2, W1.setRow g (C1.toList.take (i * kk) ++ z.1 ++ C1.toList.drop (i * kk + z.1.length)).toArray = W2 := ⟨_, rfl⟩
 have g2 : W1.grownBy W2 (some g) := by rw [← hW2]; exact grown_setRow W1 g _
 rw [hW2] at k2 hcp2
 have hfin : OwnZ ty kk R W2 B (.slice (some ⟨g, 0, none⟩) j cap) (zs.take i ++ z :: zs.drop i) := by
  have hlen : (zs.take i ++ z :: zs.drop i).length = j := by simp; (rcases hI.k with rfl | rfl | rfl | rfl <;> omega)
  have hks : ∀ y ∈ zs.take i ++ z :: zs.drop i, (y.1.length = kk ∧ ∀ u ∈ y.1, u.oneCell' = true) ∧ R y.1 y.2 := fun y hy => by
   rcases List.mem_append.1 hy with hy | hy
   ·exact hR y (List.mem_of_mem_take hy)
   ·rcases List.mem_cons.1 hy with rfl | hy
    ·exact hz
    ·exact hR y (List.mem_of_mem_drop hy)
  refine ⟨⟨by rw [cellsZ_len (fun y hy => (hks y hy).1.1), hlen], .inr ⟨g, cap, _, by rw [hlen], hBg, k2.h, by rcases hI.k with rfl | rfl | rfl | rfl <;> omega, hm, ?_, ?_⟩⟩, hks⟩
  ·have := hz.1.1
   simp
   rcases hI.k with rfl | rfl | rfl | rfl <;> omega
  ·rw [hlen]
   have hzk := hz.1.1
   have hci : (cur.toList.take (i * kk)).length = i * kk := by rw [List.length_take, Array.length_toList, hs]; (rcases hI.k with rfl | rfl | rfl | rfl <;> omega)
   have e1 : C1.toList.take (i * kk) = cur.toList.take (i * kk) := by
    rw [← hC1, List.toList_toArray, List.append_assoc, List.take_append_of_le_length (by rw [List.length_take, Array.length_toList, hs]; (rcases hI.k with rfl | rfl | rfl | rfl <;> omega)), List.take_take]
    congr 1
    rcases hI.k with rfl | rfl | rfl | rfl <;> omega
   have e2 : (C1.toList.drop (i * kk + z.1.length)).take ((n - i) * kk) = cellsZ (zs.drop i) := by
    have hl1 : (cur.toList.take ((i + 1) * kk)).length = i * kk + z.1.length := by rw [List.length_take, Array.length_toList, hs, hzk]; (rcases hI.k with rfl | rfl | rfl | rfl <;> omega)
    rw [← hC1, List.toList_toArray, List.append_assoc, ← hl1, List.drop_left' rfl, ← hdl, List.take_left' rfl]
   have hl3 : j * kk = (C1.toList.take (i * kk) ++ z.1).length + (n - i) * kk := by rw [List.length_append, e1, hci, hzk]; (rcases hI.k with rfl | rfl | rfl | rfl <;> omega)
   rw [List.toList_toArray, hl3, List.take_append, List.take_of_length_le (by rcases hI.k with rfl | rfl | rfl | rfl <;> omega), show (C1.toList.take (i * kk) ++ z.1).length + (n - i) * kk - (C1.toList.take (i * kk) ++ z.1).length = (n - i) * kk by rcases hI.k with rfl | rfl | rfl | rfl <;> omega, e2, e1, cellsZ_app]
   have e3 : cur.toList.take (i * kk) = cellsZ (zs.take i) := by
    rw [← cellsZ_take hk, ← ht, List.take_take]
    congr 1
    rcases hI.k with rfl | rfl | rfl | rfl <;> omega
   rw [e3, List.append_assoc]
   rfl
 have hgg := gb_trans g1 g2
 have hov : ∀ lb cb, (callFunc fo #[.slice (some ⟨bv, 0, none⟩) 1 1, .slice (some ⟨g, (i + 1) * kk, none⟩) lb cb]).run Tryz.prog w = .ok (.value (.bool false)) w := fun lb cb => by
  exact hI.ov w lb cb hne kv kg (by rw [hs]; (rcases hI.k with rfl | rfl | rfl | rfl <;> omega)) (i + 1)
 have HJ : Hid (j = n + 1) := hj
 have e1 : ((n : Int) + 1) = (j : Int) := by rcases hI.k with rfl | rfl | rfl | rfl <;> omega
 have e2 : (n : Nat) + 1 = j := hj.symm
 have hz2 : ¬ ((i : Int) = (n : Int)) := by rcases hI.k with rfl | rfl | rfl | rfl <;> omega
 have hz3 : ¬ ((cap : Int) < (j : Int)) := by rcases hI.k with rfl | rfl | rfl | rfl <;> omega
 have hi1 : i ≤ n := by rcases hI.k with rfl | rfl | rfl | rfl <;> omega
 have hi2 : i + 1 ≤ j := by rcases hI.k with rfl | rfl | rfl | rfl <;> omega
 have hi3 : ¬ (cap = i + 1) := by rcases hI.k with rfl | rfl | rfl | rfl <;> omega
 have hi4 : ¬ (cap = i) := by rcases hI.k with rfl | rfl | rfl | rfl <;> omega
 have hi5 : i ≤ j := by rcases hI.k with rfl | rfl | rfl | rfl <;> omega
 have hw1 : IntKind.i64.wrap ((i : Int) + 1) = (i : Int) + 1 := by rw [IntKind.wrap_i64]; (rcases hI.k with rfl | rfl | rfl | rfl <;> omega)
 have htn : ((i : Int) + 1).toNat = i + 1 := by rcases hI.k with rfl | rfl | rfl | rfl <;> omega
 have hb1 : (0 : Int) ≤ (i : Int) + 1 := by rcases hI.k with rfl | rfl | rfl | rfl <;> omega
 have hb5 : (i : Int) + 1 ≤ (j : Int) := by rcases hI.k with rfl | rfl | rfl | rfl <;> omega
 have hb6 : (i : Int) ≤ (j : Int) := by rcases hI.k with rfl | rfl | rfl | rfl <;> omega
 have HC1 : Hid ((Builtin.copy_ #[ts, ts] 3 #[.slice (some ⟨g, (i + 1) * kk, none⟩) (j - (i + 1)) (cap - (i + 1)), .slice (some ⟨g, i * kk, none⟩) (j - i) (cap - i)]).run Tryz.prog w.drew = .ok (goInt ((n - i : Nat) : Int)) W1) := hcp1
 have HC2 : Hid ((Builtin.copy_ #[ts, ts] 3 #[.slice (some ⟨g, i * kk, none⟩) (j - i) (cap - i), .slice (some ⟨bv, 0, none⟩) 1 1]).run Tryz.prog W1 = .ok (goInt 1) W2) := hcp2
 have mixed := hmix
 clear hcp1 hcp2 hk hkd hdl h1d hsd kd kvd k1 kv1 hsz1 hW1 hW2 hC1 k2 g1 g2 hszk hR ht kg kv hz hj
 have hI' := hI
 rcases hI with ⟨rfl, rfl, rfl, rfl, rfl, rfl, rfl, rfl⟩ | ⟨rfl, rfl, rfl, rfl, rfl, rfl, rfl, rfl⟩ | ⟨rfl, rfl, rfl, rfl, rfl, rfl, rfl, rfl⟩ | ⟨rfl, rfl, rfl, rfl, rfl, rfl, rfl, rfl⟩ | ⟨rfl, rfl, rfl, rfl, rfl, rfl, rfl, rfl⟩ | ⟨rfl, rfl, rfl, rfl, rfl, rfl, rfl, rfl⟩
 all_goals
  try simp only [Nat.mul_one] at HC1 HC2 hov
  first | go_enter Tryz.func184, Tryz.ntmps184 | go_enter Tryz.func188, Tryz.ntmps188 | go_enter Tryz.func207, Tryz.ntmps207 | go_enter Tryz.func253, Tryz.ntmps253 | go_enter Tryz.func250, Tryz.ntmps250 | go_enter Tryz.func249, Tryz.ntmps249
  go_wp2_with (simp only [hov])
  go_region_law_o (refine step_copy_runI rfl (.tmp 73) (.tmp 76) _ _ rfl _ _ (by simp [Act.eval, Act.put]) (by simp [Act.eval, Act.put]) HC1.out ?_)
  go_wp2_with (refine wpList_copy_runI _ rfl (.tmp 80) (.tmp 81) _ _ rfl _ _ rfl rfl HC2.out ?_)
  go_ret
  exact ⟨_, rfl, hfin, hgg⟩
end Go.Proofs.YtnpikgakpmkipabGreatDoor
