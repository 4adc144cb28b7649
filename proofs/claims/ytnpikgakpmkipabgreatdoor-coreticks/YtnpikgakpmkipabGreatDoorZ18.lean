/- core.enter and core.leave over rows of 7 cells. Conditions: those that each row states. -/
import Derived.Test.YtnpikgakpmkipabGreatDoorZ04
import Derived.Test.YtnpikgakpmkipabGreatDoorZ14
import Derived.Test.YtnpikgakpmkipabGreatDoorZ15
import Derived.Test.YtnpikgakpmkipabGreatDoorZ17
namespace Go.Proofs.YtnpikgakpmkipabGreatDoor
open Go.RowKit Go.Lib
set_option maxRecDepth 100000
set_option linter.unusedSimpArgs false
set_option linter.unusedVariables false
set_option maxHeartbeats 2000000 in
theorem enQ {α : Type} (w : World) (B : Nat) (hB : B ≤ w.heap.size) (a : Option Addr) (n c : Nat) (zs : Zs α) (R : List Value → α → Prop) (h : OwnZ 82 7 R w B (.slice a n c) zs) (hn : zs.length = n) (hbig : n ≤ 1000) (t0 t1 t2 t3 t4 t5 t6 : Value) (ht : t0.oneCell' = true ∧ t1.oneCell' = true ∧ t2.oneCell' = true ∧ t3.oneCell' = true ∧ t4.oneCell' = true ∧ t5.oneCell' = true ∧ t6.oneCell' = true) (f : FuncId) (ef : ∀ args w, (callFunc f args).run Tryz.prog w = .ok (.enter f args) w)
  (cmp : α → Int) (hC : ∀ W z, z ∈ zs → Calls Tryz.prog f #[.agg z.1.toArray, .agg #[t0, t1, t2, t3, t4, t5, t6]] W fun e w' => e = .returned (.int .i64 (cmp z.2)) ∧ Bw W w') (p : Nat) (hp : p ≤ n) (hlo : ∀ i (hi : i < zs.length), i < p → cmp (zs[i]).2 < 0) (hhi : ∀ i (hi : i < zs.length), p ≤ i → ¬ cmp (zs[i]).2 < 0) (x : α) (hx : R [t0, t1, t2, t3, t4, t5, t6] x) (most : Int) :
  Calls Tryz.prog 113 #[.slice a n c, .agg #[t0, t1, t2, t3, t4, t5, t6], .func (.func f) #[] #[], .int .i64 most] w fun e w' => EnR 82 7 R w B (.slice a n c) zs p cmp most ([t0, t1, t2, t3, t4, t5, t6], x) e w' := by
 have b0 := (Below.refl w.heap.size w).alloc (Nat.le_refl _) (.cells #[t0, t1, t2, t3, t4, t5, t6] 82)
 have k0 := Blk.new w #[t0, t1, t2, t3, t4, t5, t6] 82
 have h0 := h.keep (Kt.of_below b0)
 have hlt := World.ownsRow.lt h.1
 go_enter Tryz.func113, Tryz.ntmps113
 go_upto_region 1 with fail
 generalize w.alloc (.cells #[t0, t1, t2, t3, t4, t5, t6] 82) = w1 at *
 have HB := findQ w1 a n c zs R h0.rd hn (by omega) t0 t1 t2 t3 t4 t5 t6 ht f ef cmp hC p hp hlo hhi
 go_wp2_with (refine wpList_load_row rfl 82 (.tmp 5) rfl w.heap.size rfl 82 _ (0, 0) _ k0.h Tryz.underlying82 rfl (by kernel_rfl) ?_)
 refine HB.mono ?_
 rintro e w2 ⟨⟨b, rfl, hb⟩, b2⟩
 have HR : Hid (b = true ↔ There p zs cmp) := hb
 have k2 := k0.on b2
 have h2 := h0.keep (Kt.of_below b2)
 have b02 := nxt b0 b2
 have HO : Hid (OwnZ 82 7 R w2 B (.slice a n c) zs ∧ R [t0, t1, t2, t3, t4, t5, t6] x ∧ zs.length = n) := ⟨h2, hx, hn⟩
 have HLT : Hid (∀ g, (Value.slice a n c).ownBlock = some g → B ≤ g ∧ g < w.heap.size) := hlt
 clear hb HB h hC hlo hhi k0 h0 h2 b0 b2 hx hn hlt
 cases b with
 | true =>
  have HT : Hid (There p zs cmp) := HR.out.1 rfl
  have hpl : p < zs.length := HT.out.1
  obtain ⟨g, cap, cur, ev, hBg, kg, hc1, hc2, hcs, _⟩ := ownG_some kiQ HO.out.1 (by omega)
  injection ev with e1 e2 e3
  subst e1 e3
  clear e2
  have hpn : (p : Int) < (n : Int) := by have := HO.out.2.2; omega
  have hgw : g < w.heap.size := (HLT.out g rfl).2
  have hfit : p * 7 + 7 ≤ cur.size := by
   rw [hcs]
   have : p * 7 + 7 ≤ c * 7 := by rw [← Nat.succ_mul]; exact Nat.mul_le_mul_right 7 (by omega)
   exact this
  clear HR
  go_wp2_with (first | (refine wpList_load_row rfl 82 (.tmp 5) rfl w.heap.size rfl 82 _ (0, 0) _ k2.h Tryz.underlying82 rfl (by kernel_rfl) ?_) | (refine wpl_putAt rfl (.tmp 22) (.tmp 21) rfl g (p * 7) _ rfl rfl kg (by kernel_rfl) (by simpa using hfit) (by simp [ht.1, ht.2.1, ht.2.2.1, ht.2.2.2.1, ht.2.2.2.2.1, ht.2.2.2.2.2.1, ht.2.2.2.2.2.2]) ?_))
  intro w3 k3 g3 s3
  have k3' : Blk w3 g (cur.toList.take (p * 7) ++ [t0, t1, t2, t3, t4, t5, t6] ++ cur.toList.drop (p * 7 + 7)).toArray 82 := by simpa using k3
  have OS := own_set HO.out.1 HO.out.2.2 kg hpl ([t0, t1, t2, t3, t4, t5, t6], x) ⟨⟨rfl, by simp [ht.1, ht.2.1, ht.2.2.1, ht.2.2.2.1, ht.2.2.2.2.1, ht.2.2.2.2.2.1, ht.2.2.2.2.2.2]⟩, HO.out.2.1⟩ k3'
  have hgg : w.grownBy w3 (some g) := gb_trans (gb_below b02 _) g3
  clear k3 k3' g3 s3 kg
  go_wp2_with fail
  go_ret
  exact .inl ⟨HT.out, rfl, OS, hgg⟩
 | false =>
  have HT : Hid (¬ There p zs cmp) := fun h => by have := HR.out.2 h; cases this
  clear HR
  by_cases hm : (n : Int) < most
  ·have HM : Hid ((zs.length : Int) < most) := by show (zs.length : Int) < most; rw [HO.out.2.2]; exact hm
   have hmd : decide ((n : Int) < most) = true := by simp [hm]
   have HI1 := insist_ok w2 34
   go_wp2_with fail
   refine HI1.mono ?_
   rintro e w3 ⟨rfl, h3⟩
   rw [h3]
   clear h3 w3
   have b3 := (Below.refl w2.heap.size w2).alloc (Nat.le_refl _) (.cells #[t0, t1, t2, t3, t4, t5, t6] 82)
   have kN := Blk.new w2 #[t0, t1, t2, t3, t4, t5, t6] 82
   have oN := HO.out.1.keep (Kt.of_below b3)
   have hne : (Value.slice a n c).ownBlock ≠ some w2.heap.size := fun e => by have := (HLT.out _ e).2; have := b02.size; omega
   have HIN := insG_any kiQ (w2.alloc (.cells #[t0, t1, t2, t3, t4, t5, t6] 82)) B (Nat.le_trans hB (Nat.le_trans b02.size b3.size)) (.slice a n c) zs R oN p (by rw [HO.out.2.2]; exact hp) (by rw [HO.out.2.2]; exact hbig) w2.heap.size ([t0, t1, t2, t3, t4, t5, t6], x) ⟨⟨rfl, by simp [ht.1, ht.2.1, ht.2.2.1, ht.2.2.2.1, ht.2.2.2.2.1, ht.2.2.2.2.2.1, ht.2.2.2.2.2.2]⟩, HO.out.2.1⟩ kN hne
   have hgb : w.grownBy (w2.alloc (.cells #[t0, t1, t2, t3, t4, t5, t6] 82)) (Value.slice a n c).ownBlock := gb_trans (gb_below b02 _) (gb_below b3 _)
   clear HI1 b3 kN oN hne
   go_wp2_with (refine wpList_load_row rfl 82 (.tmp 5) rfl w.heap.size rfl 82 _ (0, 0) _ k2.h Tryz.underlying82 rfl (by kernel_rfl) ?_)
   refine HIN.mono ?_
   rintro e w4 ⟨v4, rfl, o4, g4⟩
   have hgg := gb_trans hgb g4
   clear HIN g4 hgb
   go_wp2_with fail
   go_ret
   exact .inr (.inl ⟨HT.out, HM.out, _, rfl, o4, hgg⟩)
  ·have HM : Hid (¬ (zs.length : Int) < most) := by show ¬ (zs.length : Int) < most; rw [HO.out.2.2]; exact hm
   have hmd : decide ((n : Int) < most) = false := by simp; omega
   have HI1 := insist_no w2 34
   go_wp2_with fail
   refine HI1.mono ?_
   rintro e w3 ⟨rfl, h3⟩
   rw [h3]
   exact ⟨rfl, .inr (.inr ⟨HT.out, by have := HM.out; omega, rfl, b02⟩)⟩
theorem leQ {α : Type} (w : World) (B : Nat) (hB : B ≤ w.heap.size) (a : Option Addr) (n c : Nat) (zs : Zs α) (R : List Value → α → Prop) (h : OwnZ 82 7 R w B (.slice a n c) zs) (hn : zs.length = n) (hbig : n ≤ 1000) (t0 t1 t2 t3 t4 t5 t6 : Value) (ht : t0.oneCell' = true ∧ t1.oneCell' = true ∧ t2.oneCell' = true ∧ t3.oneCell' = true ∧ t4.oneCell' = true ∧ t5.oneCell' = true ∧ t6.oneCell' = true) (f : FuncId) (ef : ∀ args w, (callFunc f args).run Tryz.prog w = .ok (.enter f args) w)
  (cmp : α → Int) (hC : ∀ W z, z ∈ zs → Calls Tryz.prog f #[.agg z.1.toArray, .agg #[t0, t1, t2, t3, t4, t5, t6]] W fun e w' => e = .returned (.int .i64 (cmp z.2)) ∧ Bw W w') (p : Nat) (hp : p ≤ n) (hlo : ∀ i (hi : i < zs.length), i < p → cmp (zs[i]).2 < 0) (hhi : ∀ i (hi : i < zs.length), p ≤ i → ¬ cmp (zs[i]).2 < 0) :
  Calls Tryz.prog 115 #[.slice a n c, .agg #[t0, t1, t2, t3, t4, t5, t6], .func (.func f) #[] #[]] w fun e w' => LeR 82 7 R w B (.slice a n c) zs p cmp e w' := by
 have b0 := (Below.refl w.heap.size w).alloc (Nat.le_refl _) (.cells #[t0, t1, t2, t3, t4, t5, t6] 82)
 have k0 := Blk.new w #[t0, t1, t2, t3, t4, t5, t6] 82
 have h0 := h.keep (Kt.of_below b0)
 go_enter Tryz.func115, Tryz.ntmps115
 go_upto_region 1 with fail
 generalize w.alloc (.cells #[t0, t1, t2, t3, t4, t5, t6] 82) = w1 at *
 have HB := findQ w1 a n c zs R h0.rd hn (by omega) t0 t1 t2 t3 t4 t5 t6 ht f ef cmp hC p hp hlo hhi
 go_wp2_with (refine wpList_load_row rfl 82 (.tmp 4) rfl w.heap.size rfl 82 _ (0, 0) _ k0.h Tryz.underlying82 rfl (by kernel_rfl) ?_)
 refine HB.mono ?_
 rintro e w2 ⟨⟨b, rfl, hb⟩, b2⟩
 have HR : Hid (b = true ↔ There p zs cmp) := hb
 have h2 := h0.keep (Kt.of_below b2)
 have b02 := nxt b0 b2
 have HO : Hid (OwnZ 82 7 R w2 B (.slice a n c) zs ∧ zs.length = n) := ⟨h2, hn⟩
 clear hb HB h hC hlo hhi k0 h0 h2 b0 b2 hn
 cases b with
 | true =>
  have HT : Hid (There p zs cmp) := HR.out.1 rfl
  have hpl : p < zs.length := HT.out.1
  have HD := delG_any kiQ w2 B (.slice a n c) zs R HO.out.1 p (p + 1) rfl hpl (by rw [HO.out.2]; omega)
  have hp1 : ((p + 1 : Nat) : Int) = (p : Int) + 1 := by omega
  rw [hp1] at HD
  clear HR
  go_wp2_with fail
  refine HD.mono ?_
  rintro e w3 ⟨v3, rfl, o3, g3, _⟩
  have hgg : w.grownBy w3 (Value.slice a n c).ownBlock := gb_trans (gb_below b02 _) g3
  clear HD g3
  go_wp2_with fail
  go_ret
  exact .inl ⟨HT.out, _, rfl, o3, hgg⟩
 | false =>
  have HT : Hid (¬ There p zs cmp) := fun h => by have := HR.out.2 h; cases this
  clear HR
  go_wp2_with fail
  go_ret
  exact .inr ⟨HT.out, rfl, b02⟩
set_option maxHeartbeats 2000000 in
theorem enB {α : Type} (w : World) (B : Nat) (hB : B ≤ w.heap.size) (a : Option Addr) (n c : Nat) (zs : Zs α) (R : List Value → α → Prop) (h : OwnZ 43 2 R w B (.slice a n c) zs) (hn : zs.length = n) (hbig : n ≤ 1000) (t0 t1 : Value) (ht : t0.oneCell' = true ∧ t1.oneCell' = true) (f : FuncId) (ef : ∀ args w, (callFunc f args).run Tryz.prog w = .ok (.enter f args) w)
  (cmp : α → Int) (hC : ∀ W z, z ∈ zs → Calls Tryz.prog f #[.agg z.1.toArray, .agg #[t0, t1]] W fun e w' => e = .returned (.int .i64 (cmp z.2)) ∧ Bw W w') (p : Nat) (hp : p ≤ n) (hlo : ∀ i (hi : i < zs.length), i < p → cmp (zs[i]).2 < 0) (hhi : ∀ i (hi : i < zs.length), p ≤ i → ¬ cmp (zs[i]).2 < 0) (x : α) (hx : R [t0, t1] x) (most : Int) :
  Calls Tryz.prog 120 #[.slice a n c, .agg #[t0, t1], .func (.func f) #[] #[], .int .i64 most] w fun e w' => EnR 43 2 R w B (.slice a n c) zs p cmp most ([t0, t1], x) e w' := by
 have b0 := (Below.refl w.heap.size w).alloc (Nat.le_refl _) (.cells #[t0, t1] 43)
 have k0 := Blk.new w #[t0, t1] 43
 have h0 := h.keep (Kt.of_below b0)
 have hlt := World.ownsRow.lt h.1
 go_enter Tryz.func120, Tryz.ntmps120
 go_upto_region 1 with fail
 generalize w.alloc (.cells #[t0, t1] 43) = w1 at *
 have HB := findB w1 a n c zs R h0.rd hn (by omega) t0 t1 ht f ef cmp hC p hp hlo hhi
 go_wp2_with (refine wpList_load_row rfl 43 (.tmp 5) rfl w.heap.size rfl 43 _ (0, 0) _ k0.h Tryz.underlying43 rfl (by kernel_rfl) ?_)
 refine HB.mono ?_
 rintro e w2 ⟨⟨b, rfl, hb⟩, b2⟩
 have HR : Hid (b = true ↔ There p zs cmp) := hb
 have k2 := k0.on b2
 have h2 := h0.keep (Kt.of_below b2)
 have b02 := nxt b0 b2
 have HO : Hid (OwnZ 43 2 R w2 B (.slice a n c) zs ∧ R [t0, t1] x ∧ zs.length = n) := ⟨h2, hx, hn⟩
 have HLT : Hid (∀ g, (Value.slice a n c).ownBlock = some g → B ≤ g ∧ g < w.heap.size) := hlt
 clear hb HB h hC hlo hhi k0 h0 h2 b0 b2 hx hn hlt
 cases b with
 | true =>
  have HT : Hid (There p zs cmp) := HR.out.1 rfl
  have hpl : p < zs.length := HT.out.1
  obtain ⟨g, cap, cur, ev, hBg, kg, hc1, hc2, hcs, _⟩ := ownG_some kiB HO.out.1 (by omega)
  injection ev with e1 e2 e3
  subst e1 e3
  clear e2
  have hpn : (p : Int) < (n : Int) := by have := HO.out.2.2; omega
  have hgw : g < w.heap.size := (HLT.out g rfl).2
  have hfit : p * 2 + 2 ≤ cur.size := by
   rw [hcs]
   have : p * 2 + 2 ≤ c * 2 := by rw [← Nat.succ_mul]; exact Nat.mul_le_mul_right 2 (by omega)
   exact this
  clear HR
  go_wp2_with (first | (refine wpList_load_row rfl 43 (.tmp 5) rfl w.heap.size rfl 43 _ (0, 0) _ k2.h Tryz.underlying43 rfl (by kernel_rfl) ?_) | (refine wpl_putAt rfl (.tmp 22) (.tmp 21) rfl g (p * 2) _ rfl rfl kg (by kernel_rfl) (by simpa using hfit) (by simp [ht.1, ht.2]) ?_))
  intro w3 k3 g3 s3
  have k3' : Blk w3 g (cur.toList.take (p * 2) ++ [t0, t1] ++ cur.toList.drop (p * 2 + 2)).toArray 43 := by simpa using k3
  have OS := own_set HO.out.1 HO.out.2.2 kg hpl ([t0, t1], x) ⟨⟨rfl, by simp [ht.1, ht.2]⟩, HO.out.2.1⟩ k3'
  have hgg : w.grownBy w3 (some g) := gb_trans (gb_below b02 _) g3
  clear k3 k3' g3 s3 kg
  go_wp2_with fail
  go_ret
  exact .inl ⟨HT.out, rfl, OS, hgg⟩
 | false =>
  have HT : Hid (¬ There p zs cmp) := fun h => by have := HR.out.2 h; cases this
  clear HR
  by_cases hm : (n : Int) < most
  ·have HM : Hid ((zs.length : Int) < most) := by show (zs.length : Int) < most; rw [HO.out.2.2]; exact hm
   have hmd : decide ((n : Int) < most) = true := by simp [hm]
   have HI1 := insist_ok w2 34
   go_wp2_with fail
   refine HI1.mono ?_
   rintro e w3 ⟨rfl, h3⟩
   rw [h3]
   clear h3 w3
   have b3 := (Below.refl w2.heap.size w2).alloc (Nat.le_refl _) (.cells #[t0, t1] 43)
   have kN := Blk.new w2 #[t0, t1] 43
   have oN := HO.out.1.keep (Kt.of_below b3)
   have hne : (Value.slice a n c).ownBlock ≠ some w2.heap.size := fun e => by have := (HLT.out _ e).2; have := b02.size; omega
   have HIN := insG_any kiB (w2.alloc (.cells #[t0, t1] 43)) B (Nat.le_trans hB (Nat.le_trans b02.size b3.size)) (.slice a n c) zs R oN p (by rw [HO.out.2.2]; exact hp) (by rw [HO.out.2.2]; exact hbig) w2.heap.size ([t0, t1], x) ⟨⟨rfl, by simp [ht.1, ht.2]⟩, HO.out.2.1⟩ kN hne
   have hgb : w.grownBy (w2.alloc (.cells #[t0, t1] 43)) (Value.slice a n c).ownBlock := gb_trans (gb_below b02 _) (gb_below b3 _)
   clear HI1 b3 kN oN hne
   go_wp2_with (refine wpList_load_row rfl 43 (.tmp 5) rfl w.heap.size rfl 43 _ (0, 0) _ k2.h Tryz.underlying43 rfl (by kernel_rfl) ?_)
   refine HIN.mono ?_
   rintro e w4 ⟨v4, rfl, o4, g4⟩
   have hgg := gb_trans hgb g4
   clear HIN g4 hgb
   go_wp2_with fail
   go_ret
   exact .inr (.inl ⟨HT.out, HM.out, _, rfl, o4, hgg⟩)
  ·have HM : Hid (¬ (zs.length : Int) < most) := by show ¬ (zs.length : Int) < most; rw [HO.out.2.2]; exact hm
   have hmd : decide ((n : Int) < most) = false := by simp; omega
   have HI1 := insist_no w2 34
   go_wp2_with fail
   refine HI1.mono ?_
   rintro e w3 ⟨rfl, h3⟩
   rw [h3]
   exact ⟨rfl, .inr (.inr ⟨HT.out, by have := HM.out; omega, rfl, b02⟩)⟩
theorem leB {α : Type} (w : World) (B : Nat) (hB : B ≤ w.heap.size) (a : Option Addr) (n c : Nat) (zs : Zs α) (R : List Value → α → Prop) (h : OwnZ 43 2 R w B (.slice a n c) zs) (hn : zs.length = n) (hbig : n ≤ 1000) (t0 t1 : Value) (ht : t0.oneCell' = true ∧ t1.oneCell' = true) (f : FuncId) (ef : ∀ args w, (callFunc f args).run Tryz.prog w = .ok (.enter f args) w)
  (cmp : α → Int) (hC : ∀ W z, z ∈ zs → Calls Tryz.prog f #[.agg z.1.toArray, .agg #[t0, t1]] W fun e w' => e = .returned (.int .i64 (cmp z.2)) ∧ Bw W w') (p : Nat) (hp : p ≤ n) (hlo : ∀ i (hi : i < zs.length), i < p → cmp (zs[i]).2 < 0) (hhi : ∀ i (hi : i < zs.length), p ≤ i → ¬ cmp (zs[i]).2 < 0) :
  Calls Tryz.prog 123 #[.slice a n c, .agg #[t0, t1], .func (.func f) #[] #[]] w fun e w' => LeR 43 2 R w B (.slice a n c) zs p cmp e w' := by
 have b0 := (Below.refl w.heap.size w).alloc (Nat.le_refl _) (.cells #[t0, t1] 43)
 have k0 := Blk.new w #[t0, t1] 43
 have h0 := h.keep (Kt.of_below b0)
 go_enter Tryz.func123, Tryz.ntmps123
 go_upto_region 1 with fail
 generalize w.alloc (.cells #[t0, t1] 43) = w1 at *
 have HB := findB w1 a n c zs R h0.rd hn (by omega) t0 t1 ht f ef cmp hC p hp hlo hhi
 go_wp2_with (refine wpList_load_row rfl 43 (.tmp 4) rfl w.heap.size rfl 43 _ (0, 0) _ k0.h Tryz.underlying43 rfl (by kernel_rfl) ?_)
 refine HB.mono ?_
 rintro e w2 ⟨⟨b, rfl, hb⟩, b2⟩
 have HR : Hid (b = true ↔ There p zs cmp) := hb
 have h2 := h0.keep (Kt.of_below b2)
 have b02 := nxt b0 b2
 have HO : Hid (OwnZ 43 2 R w2 B (.slice a n c) zs ∧ zs.length = n) := ⟨h2, hn⟩
 clear hb HB h hC hlo hhi k0 h0 h2 b0 b2 hn
 cases b with
 | true =>
  have HT : Hid (There p zs cmp) := HR.out.1 rfl
  have hpl : p < zs.length := HT.out.1
  have HD := delG_any kiB w2 B (.slice a n c) zs R HO.out.1 p (p + 1) rfl hpl (by rw [HO.out.2]; omega)
  have hp1 : ((p + 1 : Nat) : Int) = (p : Int) + 1 := by omega
  rw [hp1] at HD
  clear HR
  go_wp2_with fail
  refine HD.mono ?_
  rintro e w3 ⟨v3, rfl, o3, g3, _⟩
  have hgg : w.grownBy w3 (Value.slice a n c).ownBlock := gb_trans (gb_below b02 _) g3
  clear HD g3
  go_wp2_with fail
  go_ret
  exact .inl ⟨HT.out, _, rfl, o3, hgg⟩
 | false =>
  have HT : Hid (¬ There p zs cmp) := fun h => by have := HR.out.2 h; cases this
  clear HR
  go_wp2_with fail
  go_ret
  exact .inr ⟨HT.out, rfl, b02⟩
set_option maxHeartbeats 2000000 in
theorem enS {α : Type} (w : World) (B : Nat) (hB : B ≤ w.heap.size) (a : Option Addr) (n c : Nat) (zs : Zs α) (R : List Value → α → Prop) (h : OwnZ 85 5 R w B (.slice a n c) zs) (hn : zs.length = n) (hbig : n ≤ 1000) (t0 t1 t2 t3 t4 : Value) (ht : t0.oneCell' = true ∧ t1.oneCell' = true ∧ t2.oneCell' = true ∧ t3.oneCell' = true ∧ t4.oneCell' = true) (f : FuncId) (ef : ∀ args w, (callFunc f args).run Tryz.prog w = .ok (.enter f args) w)
  (cmp : α → Int) (hC : ∀ W z, z ∈ zs → Calls Tryz.prog f #[.agg z.1.toArray, .agg #[t0, t1, t2, t3, t4]] W fun e w' => e = .returned (.int .i64 (cmp z.2)) ∧ Bw W w') (p : Nat) (hp : p ≤ n) (hlo : ∀ i (hi : i < zs.length), i < p → cmp (zs[i]).2 < 0) (hhi : ∀ i (hi : i < zs.length), p ≤ i → ¬ cmp (zs[i]).2 < 0) (x : α) (hx : R [t0, t1, t2, t3, t4] x) (most : Int) :
  Calls Tryz.prog 134 #[.slice a n c, .agg #[t0, t1, t2, t3, t4], .func (.func f) #[] #[], .int .i64 most] w fun e w' => EnR 85 5 R w B (.slice a n c) zs p cmp most ([t0, t1, t2, t3, t4], x) e w' := by
 have b0 := (Below.refl w.heap.size w).alloc (Nat.le_refl _) (.cells #[t0, t1, t2, t3, t4] 85)
 have k0 := Blk.new w #[t0, t1, t2, t3, t4] 85
 have h0 := h.keep (Kt.of_below b0)
 have hlt := World.ownsRow.lt h.1
 go_enter Tryz.func134, Tryz.ntmps134
 go_upto_region 1 with fail
 generalize w.alloc (.cells #[t0, t1, t2, t3, t4] 85) = w1 at *
 have HB := findS w1 a n c zs R h0.rd hn (by omega) t0 t1 t2 t3 t4 ht f ef cmp hC p hp hlo hhi
 go_wp2_with (refine wpList_load_row rfl 85 (.tmp 5) rfl w.heap.size rfl 85 _ (0, 0) _ k0.h Tryz.underlying85 rfl (by kernel_rfl) ?_)
 refine HB.mono ?_
 rintro e w2 ⟨⟨b, rfl, hb⟩, b2⟩
 have HR : Hid (b = true ↔ There p zs cmp) := hb
 have k2 := k0.on b2
 have h2 := h0.keep (Kt.of_below b2)
 have b02 := nxt b0 b2
 have HO : Hid (OwnZ 85 5 R w2 B (.slice a n c) zs ∧ R [t0, t1, t2, t3, t4] x ∧ zs.length = n) := ⟨h2, hx, hn⟩
 have HLT : Hid (∀ g, (Value.slice a n c).ownBlock = some g → B ≤ g ∧ g < w.heap.size) := hlt
 clear hb HB h hC hlo hhi k0 h0 h2 b0 b2 hx hn hlt
 cases b with
 | true =>
  have HT : Hid (There p zs cmp) := HR.out.1 rfl
  have hpl : p < zs.length := HT.out.1
  obtain ⟨g, cap, cur, ev, hBg, kg, hc1, hc2, hcs, _⟩ := ownG_some kiS HO.out.1 (by omega)
  injection ev with e1 e2 e3
  subst e1 e3
  clear e2
  have hpn : (p : Int) < (n : Int) := by have := HO.out.2.2; omega
  have hgw : g < w.heap.size := (HLT.out g rfl).2
  have hfit : p * 5 + 5 ≤ cur.size := by
   rw [hcs]
   have : p * 5 + 5 ≤ c * 5 := by rw [← Nat.succ_mul]; exact Nat.mul_le_mul_right 5 (by omega)
   exact this
  clear HR
  go_wp2_with (first | (refine wpList_load_row rfl 85 (.tmp 5) rfl w.heap.size rfl 85 _ (0, 0) _ k2.h Tryz.underlying85 rfl (by kernel_rfl) ?_) | (refine wpl_putAt rfl (.tmp 22) (.tmp 21) rfl g (p * 5) _ rfl rfl kg (by kernel_rfl) (by simpa using hfit) (by simp [ht.1, ht.2.1, ht.2.2.1, ht.2.2.2.1, ht.2.2.2.2]) ?_))
  intro w3 k3 g3 s3
  have k3' : Blk w3 g (cur.toList.take (p * 5) ++ [t0, t1, t2, t3, t4] ++ cur.toList.drop (p * 5 + 5)).toArray 85 := by simpa using k3
  have OS := own_set HO.out.1 HO.out.2.2 kg hpl ([t0, t1, t2, t3, t4], x) ⟨⟨rfl, by simp [ht.1, ht.2.1, ht.2.2.1, ht.2.2.2.1, ht.2.2.2.2]⟩, HO.out.2.1⟩ k3'
  have hgg : w.grownBy w3 (some g) := gb_trans (gb_below b02 _) g3
  clear k3 k3' g3 s3 kg
  go_wp2_with fail
  go_ret
  exact .inl ⟨HT.out, rfl, OS, hgg⟩
 | false =>
  have HT : Hid (¬ There p zs cmp) := fun h => by have := HR.out.2 h; cases this
  clear HR
  by_cases hm : (n : Int) < most
  ·have HM : Hid ((zs.length : Int) < most) := by show (zs.length : Int) < most; rw [HO.out.2.2]; exact hm
   have hmd : decide ((n : Int) < most) = true := by simp [hm]
   have HI1 := insist_ok w2 34
   go_wp2_with fail
   refine HI1.mono ?_
   rintro e w3 ⟨rfl, h3⟩
   rw [h3]
   clear h3 w3
   have b3 := (Below.refl w2.heap.size w2).alloc (Nat.le_refl _) (.cells #[t0, t1, t2, t3, t4] 85)
   have kN := Blk.new w2 #[t0, t1, t2, t3, t4] 85
   have oN := HO.out.1.keep (Kt.of_below b3)
   have hne : (Value.slice a n c).ownBlock ≠ some w2.heap.size := fun e => by have := (HLT.out _ e).2; have := b02.size; omega
   have HIN := insG_any kiS (w2.alloc (.cells #[t0, t1, t2, t3, t4] 85)) B (Nat.le_trans hB (Nat.le_trans b02.size b3.size)) (.slice a n c) zs R oN p (by rw [HO.out.2.2]; exact hp) (by rw [HO.out.2.2]; exact hbig) w2.heap.size ([t0, t1, t2, t3, t4], x) ⟨⟨rfl, by simp [ht.1, ht.2.1, ht.2.2.1, ht.2.2.2.1, ht.2.2.2.2]⟩, HO.out.2.1⟩ kN hne
   have hgb : w.grownBy (w2.alloc (.cells #[t0, t1, t2, t3, t4] 85)) (Value.slice a n c).ownBlock := gb_trans (gb_below b02 _) (gb_below b3 _)
   clear HI1 b3 kN oN hne
   go_wp2_with (refine wpList_load_row rfl 85 (.tmp 5) rfl w.heap.size rfl 85 _ (0, 0) _ k2.h Tryz.underlying85 rfl (by kernel_rfl) ?_)
   refine HIN.mono ?_
   rintro e w4 ⟨v4, rfl, o4, g4⟩
   have hgg := gb_trans hgb g4
   clear HIN g4 hgb
   go_wp2_with fail
   go_ret
   exact .inr (.inl ⟨HT.out, HM.out, _, rfl, o4, hgg⟩)
  ·have HM : Hid (¬ (zs.length : Int) < most) := by show ¬ (zs.length : Int) < most; rw [HO.out.2.2]; exact hm
   have hmd : decide ((n : Int) < most) = false := by simp; omega
   have HI1 := insist_no w2 34
   go_wp2_with fail
   refine HI1.mono ?_
   rintro e w3 ⟨rfl, h3⟩
   rw [h3]
   exact ⟨rfl, .inr (.inr ⟨HT.out, by have := HM.out; omega, rfl, b02⟩)⟩
set_option maxHeartbeats 2000000 in
theorem enM {α : Type} (w : World) (B : Nat) (hB : B ≤ w.heap.size) (a : Option Addr) (n c : Nat) (zs : Zs α) (R : List Value → α → Prop) (h : OwnZ 33 5 R w B (.slice a n c) zs) (hn : zs.length = n) (hbig : n ≤ 1000) (t0 t1 t2 t3 t4 : Value) (ht : t0.oneCell' = true ∧ t1.oneCell' = true ∧ t2.oneCell' = true ∧ t3.oneCell' = true ∧ t4.oneCell' = true) (f : FuncId) (ef : ∀ args w, (callFunc f args).run Tryz.prog w = .ok (.enter f args) w)
  (cmp : α → Int) (hC : ∀ W z, z ∈ zs → Calls Tryz.prog f #[.agg z.1.toArray, .agg #[t0, t1, t2, t3, t4]] W fun e w' => e = .returned (.int .i64 (cmp z.2)) ∧ Bw W w') (p : Nat) (hp : p ≤ n) (hlo : ∀ i (hi : i < zs.length), i < p → cmp (zs[i]).2 < 0) (hhi : ∀ i (hi : i < zs.length), p ≤ i → ¬ cmp (zs[i]).2 < 0) (x : α) (hx : R [t0, t1, t2, t3, t4] x) (most : Int) :
  Calls Tryz.prog 200 #[.slice a n c, .agg #[t0, t1, t2, t3, t4], .func (.func f) #[] #[], .int .i64 most] w fun e w' => EnR 33 5 R w B (.slice a n c) zs p cmp most ([t0, t1, t2, t3, t4], x) e w' := by
 have b0 := (Below.refl w.heap.size w).alloc (Nat.le_refl _) (.cells #[t0, t1, t2, t3, t4] 33)
 have k0 := Blk.new w #[t0, t1, t2, t3, t4] 33
 have h0 := h.keep (Kt.of_below b0)
 have hlt := World.ownsRow.lt h.1
 go_enter Tryz.func200, Tryz.ntmps200
 go_upto_region 1 with fail
 generalize w.alloc (.cells #[t0, t1, t2, t3, t4] 33) = w1 at *
 have HB := findM w1 a n c zs R h0.rd hn (by omega) t0 t1 t2 t3 t4 ht f ef cmp hC p hp hlo hhi
 go_wp2_with (refine wpList_load_row rfl 33 (.tmp 5) rfl w.heap.size rfl 33 _ (0, 0) _ k0.h Tryz.underlying33 rfl (by kernel_rfl) ?_)
 refine HB.mono ?_
 rintro e w2 ⟨⟨b, rfl, hb⟩, b2⟩
 have HR : Hid (b = true ↔ There p zs cmp) := hb
 have k2 := k0.on b2
 have h2 := h0.keep (Kt.of_below b2)
 have b02 := nxt b0 b2
 have HO : Hid (OwnZ 33 5 R w2 B (.slice a n c) zs ∧ R [t0, t1, t2, t3, t4] x ∧ zs.length = n) := ⟨h2, hx, hn⟩
 have HLT : Hid (∀ g, (Value.slice a n c).ownBlock = some g → B ≤ g ∧ g < w.heap.size) := hlt
 clear hb HB h hC hlo hhi k0 h0 h2 b0 b2 hx hn hlt
 cases b with
 | true =>
  have HT : Hid (There p zs cmp) := HR.out.1 rfl
  have hpl : p < zs.length := HT.out.1
  obtain ⟨g, cap, cur, ev, hBg, kg, hc1, hc2, hcs, _⟩ := ownG_some kiM HO.out.1 (by omega)
  injection ev with e1 e2 e3
  subst e1 e3
  clear e2
  have hpn : (p : Int) < (n : Int) := by have := HO.out.2.2; omega
  have hgw : g < w.heap.size := (HLT.out g rfl).2
  have hfit : p * 5 + 5 ≤ cur.size := by
   rw [hcs]
   have : p * 5 + 5 ≤ c * 5 := by rw [← Nat.succ_mul]; exact Nat.mul_le_mul_right 5 (by omega)
   exact this
  clear HR
  go_wp2_with (first | (refine wpList_load_row rfl 33 (.tmp 5) rfl w.heap.size rfl 33 _ (0, 0) _ k2.h Tryz.underlying33 rfl (by kernel_rfl) ?_) | (refine wpl_putAt rfl (.tmp 22) (.tmp 21) rfl g (p * 5) _ rfl rfl kg (by kernel_rfl) (by simpa using hfit) (by simp [ht.1, ht.2.1, ht.2.2.1, ht.2.2.2.1, ht.2.2.2.2]) ?_))
  intro w3 k3 g3 s3
  have k3' : Blk w3 g (cur.toList.take (p * 5) ++ [t0, t1, t2, t3, t4] ++ cur.toList.drop (p * 5 + 5)).toArray 33 := by simpa using k3
  have OS := own_set HO.out.1 HO.out.2.2 kg hpl ([t0, t1, t2, t3, t4], x) ⟨⟨rfl, by simp [ht.1, ht.2.1, ht.2.2.1, ht.2.2.2.1, ht.2.2.2.2]⟩, HO.out.2.1⟩ k3'
  have hgg : w.grownBy w3 (some g) := gb_trans (gb_below b02 _) g3
  clear k3 k3' g3 s3 kg
  go_wp2_with fail
  go_ret
  exact .inl ⟨HT.out, rfl, OS, hgg⟩
 | false =>
  have HT : Hid (¬ There p zs cmp) := fun h => by have := HR.out.2 h; cases this
  clear HR
  by_cases hm : (n : Int) < most
  ·have HM : Hid ((zs.length : Int) < most) := by show (zs.length : Int) < most; rw [HO.out.2.2]; exact hm
   have hmd : decide ((n : Int) < most) = true := by simp [hm]
   have HI1 := insist_ok w2 34
   go_wp2_with fail
   refine HI1.mono ?_
   rintro e w3 ⟨rfl, h3⟩
   rw [h3]
   clear h3 w3
   have b3 := (Below.refl w2.heap.size w2).alloc (Nat.le_refl _) (.cells #[t0, t1, t2, t3, t4] 33)
   have kN := Blk.new w2 #[t0, t1, t2, t3, t4] 33
   have oN := HO.out.1.keep (Kt.of_below b3)
   have hne : (Value.slice a n c).ownBlock ≠ some w2.heap.size := fun e => by have := (HLT.out _ e).2; have := b02.size; omega
   have HIN := insG_any kiM (w2.alloc (.cells #[t0, t1, t2, t3, t4] 33)) B (Nat.le_trans hB (Nat.le_trans b02.size b3.size)) (.slice a n c) zs R oN p (by rw [HO.out.2.2]; exact hp) (by rw [HO.out.2.2]; exact hbig) w2.heap.size ([t0, t1, t2, t3, t4], x) ⟨⟨rfl, by simp [ht.1, ht.2.1, ht.2.2.1, ht.2.2.2.1, ht.2.2.2.2]⟩, HO.out.2.1⟩ kN hne
   have hgb : w.grownBy (w2.alloc (.cells #[t0, t1, t2, t3, t4] 33)) (Value.slice a n c).ownBlock := gb_trans (gb_below b02 _) (gb_below b3 _)
   clear HI1 b3 kN oN hne
   go_wp2_with (refine wpList_load_row rfl 33 (.tmp 5) rfl w.heap.size rfl 33 _ (0, 0) _ k2.h Tryz.underlying33 rfl (by kernel_rfl) ?_)
   refine HIN.mono ?_
   rintro e w4 ⟨v4, rfl, o4, g4⟩
   have hgg := gb_trans hgb g4
   clear HIN g4 hgb
   go_wp2_with fail
   go_ret
   exact .inr (.inl ⟨HT.out, HM.out, _, rfl, o4, hgg⟩)
  ·have HM : Hid (¬ (zs.length : Int) < most) := by show ¬ (zs.length : Int) < most; rw [HO.out.2.2]; exact hm
   have hmd : decide ((n : Int) < most) = false := by simp; omega
   have HI1 := insist_no w2 34
   go_wp2_with fail
   refine HI1.mono ?_
   rintro e w3 ⟨rfl, h3⟩
   rw [h3]
   exact ⟨rfl, .inr (.inr ⟨HT.out, by have := HM.out; omega, rfl, b02⟩)⟩
theorem leM {α : Type} (w : World) (B : Nat) (hB : B ≤ w.heap.size) (a : Option Addr) (n c : Nat) (zs : Zs α) (R : List Value → α → Prop) (h : OwnZ 33 5 R w B (.slice a n c) zs) (hn : zs.length = n) (hbig : n ≤ 1000) (t0 t1 t2 t3 t4 : Value) (ht : t0.oneCell' = true ∧ t1.oneCell' = true ∧ t2.oneCell' = true ∧ t3.oneCell' = true ∧ t4.oneCell' = true) (f : FuncId) (ef : ∀ args w, (callFunc f args).run Tryz.prog w = .ok (.enter f args) w)
  (cmp : α → Int) (hC : ∀ W z, z ∈ zs → Calls Tryz.prog f #[.agg z.1.toArray, .agg #[t0, t1, t2, t3, t4]] W fun e w' => e = .returned (.int .i64 (cmp z.2)) ∧ Bw W w') (p : Nat) (hp : p ≤ n) (hlo : ∀ i (hi : i < zs.length), i < p → cmp (zs[i]).2 < 0) (hhi : ∀ i (hi : i < zs.length), p ≤ i → ¬ cmp (zs[i]).2 < 0) :
  Calls Tryz.prog 199 #[.slice a n c, .agg #[t0, t1, t2, t3, t4], .func (.func f) #[] #[]] w fun e w' => LeR 33 5 R w B (.slice a n c) zs p cmp e w' := by
 have b0 := (Below.refl w.heap.size w).alloc (Nat.le_refl _) (.cells #[t0, t1, t2, t3, t4] 33)
 have k0 := Blk.new w #[t0, t1, t2, t3, t4] 33
 have h0 := h.keep (Kt.of_below b0)
 go_enter Tryz.func199, Tryz.ntmps199
 go_upto_region 1 with fail
 generalize w.alloc (.cells #[t0, t1, t2, t3, t4] 33) = w1 at *
 have HB := findM w1 a n c zs R h0.rd hn (by omega) t0 t1 t2 t3 t4 ht f ef cmp hC p hp hlo hhi
 go_wp2_with (refine wpList_load_row rfl 33 (.tmp 4) rfl w.heap.size rfl 33 _ (0, 0) _ k0.h Tryz.underlying33 rfl (by kernel_rfl) ?_)
 refine HB.mono ?_
 rintro e w2 ⟨⟨b, rfl, hb⟩, b2⟩
 have HR : Hid (b = true ↔ There p zs cmp) := hb
 have h2 := h0.keep (Kt.of_below b2)
 have b02 := nxt b0 b2
 have HO : Hid (OwnZ 33 5 R w2 B (.slice a n c) zs ∧ zs.length = n) := ⟨h2, hn⟩
 clear hb HB h hC hlo hhi k0 h0 h2 b0 b2 hn
 cases b with
 | true =>
  have HT : Hid (There p zs cmp) := HR.out.1 rfl
  have hpl : p < zs.length := HT.out.1
  have HD := delG_any kiM w2 B (.slice a n c) zs R HO.out.1 p (p + 1) rfl hpl (by rw [HO.out.2]; omega)
  have hp1 : ((p + 1 : Nat) : Int) = (p : Int) + 1 := by omega
  rw [hp1] at HD
  clear HR
  go_wp2_with fail
  refine HD.mono ?_
  rintro e w3 ⟨v3, rfl, o3, g3, _⟩
  have hgg : w.grownBy w3 (Value.slice a n c).ownBlock := gb_trans (gb_below b02 _) g3
  clear HD g3
  go_wp2_with fail
  go_ret
  exact .inl ⟨HT.out, _, rfl, o3, hgg⟩
 | false =>
  have HT : Hid (¬ There p zs cmp) := fun h => by have := HR.out.2 h; cases this
  clear HR
  go_wp2_with fail
  go_ret
  exact .inr ⟨HT.out, rfl, b02⟩
set_option maxHeartbeats 2000000 in
theorem enC {α : Type} (w : World) (B : Nat) (hB : B ≤ w.heap.size) (a : Option Addr) (n c : Nat) (zs : Zs α) (R : List Value → α → Prop) (h : OwnZ 88 2 R w B (.slice a n c) zs) (hn : zs.length = n) (hbig : n ≤ 1000) (t0 t1 : Value) (ht : t0.oneCell' = true ∧ t1.oneCell' = true) (f : FuncId) (ef : ∀ args w, (callFunc f args).run Tryz.prog w = .ok (.enter f args) w)
  (cmp : α → Int) (hC : ∀ W z, z ∈ zs → Calls Tryz.prog f #[.agg z.1.toArray, .agg #[t0, t1]] W fun e w' => e = .returned (.int .i64 (cmp z.2)) ∧ Bw W w') (p : Nat) (hp : p ≤ n) (hlo : ∀ i (hi : i < zs.length), i < p → cmp (zs[i]).2 < 0) (hhi : ∀ i (hi : i < zs.length), p ≤ i → ¬ cmp (zs[i]).2 < 0) (x : α) (hx : R [t0, t1] x) (most : Int) :
  Calls Tryz.prog 193 #[.slice a n c, .agg #[t0, t1], .func (.func f) #[] #[], .int .i64 most] w fun e w' => EnR 88 2 R w B (.slice a n c) zs p cmp most ([t0, t1], x) e w' := by
 have b0 := (Below.refl w.heap.size w).alloc (Nat.le_refl _) (.cells #[t0, t1] 88)
 have k0 := Blk.new w #[t0, t1] 88
 have h0 := h.keep (Kt.of_below b0)
 have hlt := World.ownsRow.lt h.1
 go_enter Tryz.func193, Tryz.ntmps193
 go_upto_region 1 with fail
 generalize w.alloc (.cells #[t0, t1] 88) = w1 at *
 have HB := findC w1 a n c zs R h0.rd hn (by omega) t0 t1 ht f ef cmp hC p hp hlo hhi
 go_wp2_with (refine wpList_load_row rfl 88 (.tmp 5) rfl w.heap.size rfl 88 _ (0, 0) _ k0.h Tryz.underlying88 rfl (by kernel_rfl) ?_)
 refine HB.mono ?_
 rintro e w2 ⟨⟨b, rfl, hb⟩, b2⟩
 have HR : Hid (b = true ↔ There p zs cmp) := hb
 have k2 := k0.on b2
 have h2 := h0.keep (Kt.of_below b2)
 have b02 := nxt b0 b2
 have HO : Hid (OwnZ 88 2 R w2 B (.slice a n c) zs ∧ R [t0, t1] x ∧ zs.length = n) := ⟨h2, hx, hn⟩
 have HLT : Hid (∀ g, (Value.slice a n c).ownBlock = some g → B ≤ g ∧ g < w.heap.size) := hlt
 clear hb HB h hC hlo hhi k0 h0 h2 b0 b2 hx hn hlt
 cases b with
 | true =>
  have HT : Hid (There p zs cmp) := HR.out.1 rfl
  have hpl : p < zs.length := HT.out.1
  obtain ⟨g, cap, cur, ev, hBg, kg, hc1, hc2, hcs, _⟩ := ownG_some kiC HO.out.1 (by omega)
  injection ev with e1 e2 e3
  subst e1 e3
  clear e2
  have hpn : (p : Int) < (n : Int) := by have := HO.out.2.2; omega
  have hgw : g < w.heap.size := (HLT.out g rfl).2
  have hfit : p * 2 + 2 ≤ cur.size := by
   rw [hcs]
   have : p * 2 + 2 ≤ c * 2 := by rw [← Nat.succ_mul]; exact Nat.mul_le_mul_right 2 (by omega)
   exact this
  clear HR
  go_wp2_with (first | (refine wpList_load_row rfl 88 (.tmp 5) rfl w.heap.size rfl 88 _ (0, 0) _ k2.h Tryz.underlying88 rfl (by kernel_rfl) ?_) | (refine wpl_putAt rfl (.tmp 22) (.tmp 21) rfl g (p * 2) _ rfl rfl kg (by kernel_rfl) (by simpa using hfit) (by simp [ht.1, ht.2]) ?_))
  intro w3 k3 g3 s3
  have k3' : Blk w3 g (cur.toList.take (p * 2) ++ [t0, t1] ++ cur.toList.drop (p * 2 + 2)).toArray 88 := by simpa using k3
  have OS := own_set HO.out.1 HO.out.2.2 kg hpl ([t0, t1], x) ⟨⟨rfl, by simp [ht.1, ht.2]⟩, HO.out.2.1⟩ k3'
  have hgg : w.grownBy w3 (some g) := gb_trans (gb_below b02 _) g3
  clear k3 k3' g3 s3 kg
  go_wp2_with fail
  go_ret
  exact .inl ⟨HT.out, rfl, OS, hgg⟩
 | false =>
  have HT : Hid (¬ There p zs cmp) := fun h => by have := HR.out.2 h; cases this
  clear HR
  by_cases hm : (n : Int) < most
  ·have HM : Hid ((zs.length : Int) < most) := by show (zs.length : Int) < most; rw [HO.out.2.2]; exact hm
   have hmd : decide ((n : Int) < most) = true := by simp [hm]
   have HI1 := insist_ok w2 34
   go_wp2_with fail
   refine HI1.mono ?_
   rintro e w3 ⟨rfl, h3⟩
   rw [h3]
   clear h3 w3
   have b3 := (Below.refl w2.heap.size w2).alloc (Nat.le_refl _) (.cells #[t0, t1] 88)
   have kN := Blk.new w2 #[t0, t1] 88
   have oN := HO.out.1.keep (Kt.of_below b3)
   have hne : (Value.slice a n c).ownBlock ≠ some w2.heap.size := fun e => by have := (HLT.out _ e).2; have := b02.size; omega
   have HIN := insG_any kiC (w2.alloc (.cells #[t0, t1] 88)) B (Nat.le_trans hB (Nat.le_trans b02.size b3.size)) (.slice a n c) zs R oN p (by rw [HO.out.2.2]; exact hp) (by rw [HO.out.2.2]; exact hbig) w2.heap.size ([t0, t1], x) ⟨⟨rfl, by simp [ht.1, ht.2]⟩, HO.out.2.1⟩ kN hne
   have hgb : w.grownBy (w2.alloc (.cells #[t0, t1] 88)) (Value.slice a n c).ownBlock := gb_trans (gb_below b02 _) (gb_below b3 _)
   clear HI1 b3 kN oN hne
   go_wp2_with (refine wpList_load_row rfl 88 (.tmp 5) rfl w.heap.size rfl 88 _ (0, 0) _ k2.h Tryz.underlying88 rfl (by kernel_rfl) ?_)
   refine HIN.mono ?_
   rintro e w4 ⟨v4, rfl, o4, g4⟩
   have hgg := gb_trans hgb g4
   clear HIN g4 hgb
   go_wp2_with fail
   go_ret
   exact .inr (.inl ⟨HT.out, HM.out, _, rfl, o4, hgg⟩)
  ·have HM : Hid (¬ (zs.length : Int) < most) := by show ¬ (zs.length : Int) < most; rw [HO.out.2.2]; exact hm
   have hmd : decide ((n : Int) < most) = false := by simp; omega
   have HI1 := insist_no w2 34
   go_wp2_with fail
   refine HI1.mono ?_
   rintro e w3 ⟨rfl, h3⟩
   rw [h3]
   exact ⟨rfl, .inr (.inr ⟨HT.out, by have := HM.out; omega, rfl, b02⟩)⟩
theorem leC {α : Type} (w : World) (B : Nat) (hB : B ≤ w.heap.size) (a : Option Addr) (n c : Nat) (zs : Zs α) (R : List Value → α → Prop) (h : OwnZ 88 2 R w B (.slice a n c) zs) (hn : zs.length = n) (hbig : n ≤ 1000) (t0 t1 : Value) (ht : t0.oneCell' = true ∧ t1.oneCell' = true) (f : FuncId) (ef : ∀ args w, (callFunc f args).run Tryz.prog w = .ok (.enter f args) w)
  (cmp : α → Int) (hC : ∀ W z, z ∈ zs → Calls Tryz.prog f #[.agg z.1.toArray, .agg #[t0, t1]] W fun e w' => e = .returned (.int .i64 (cmp z.2)) ∧ Bw W w') (p : Nat) (hp : p ≤ n) (hlo : ∀ i (hi : i < zs.length), i < p → cmp (zs[i]).2 < 0) (hhi : ∀ i (hi : i < zs.length), p ≤ i → ¬ cmp (zs[i]).2 < 0) :
  Calls Tryz.prog 132 #[.slice a n c, .agg #[t0, t1], .func (.func f) #[] #[]] w fun e w' => LeR 88 2 R w B (.slice a n c) zs p cmp e w' := by
 have b0 := (Below.refl w.heap.size w).alloc (Nat.le_refl _) (.cells #[t0, t1] 88)
 have k0 := Blk.new w #[t0, t1] 88
 have h0 := h.keep (Kt.of_below b0)
 go_enter Tryz.func132, Tryz.ntmps132
 go_upto_region 1 with fail
 generalize w.alloc (.cells #[t0, t1] 88) = w1 at *
 have HB := findC w1 a n c zs R h0.rd hn (by omega) t0 t1 ht f ef cmp hC p hp hlo hhi
 go_wp2_with (refine wpList_load_row rfl 88 (.tmp 4) rfl w.heap.size rfl 88 _ (0, 0) _ k0.h Tryz.underlying88 rfl (by kernel_rfl) ?_)
 refine HB.mono ?_
 rintro e w2 ⟨⟨b, rfl, hb⟩, b2⟩
 have HR : Hid (b = true ↔ There p zs cmp) := hb
 have h2 := h0.keep (Kt.of_below b2)
 have b02 := nxt b0 b2
 have HO : Hid (OwnZ 88 2 R w2 B (.slice a n c) zs ∧ zs.length = n) := ⟨h2, hn⟩
 clear hb HB h hC hlo hhi k0 h0 h2 b0 b2 hn
 cases b with
 | true =>
  have HT : Hid (There p zs cmp) := HR.out.1 rfl
  have hpl : p < zs.length := HT.out.1
  have HD := delG_any kiC w2 B (.slice a n c) zs R HO.out.1 p (p + 1) rfl hpl (by rw [HO.out.2]; omega)
  have hp1 : ((p + 1 : Nat) : Int) = (p : Int) + 1 := by omega
  rw [hp1] at HD
  clear HR
  go_wp2_with fail
  refine HD.mono ?_
  rintro e w3 ⟨v3, rfl, o3, g3, _⟩
  have hgg : w.grownBy w3 (Value.slice a n c).ownBlock := gb_trans (gb_below b02 _) g3
  clear HD g3
  go_wp2_with fail
  go_ret
  exact .inl ⟨HT.out, _, rfl, o3, hgg⟩
 | false =>
  have HT : Hid (¬ There p zs cmp) := fun h => by have := HR.out.2 h; cases this
  clear HR
  go_wp2_with fail
  go_ret
  exact .inr ⟨HT.out, rfl, b02⟩
theorem enL_map {α β : Type} {o : β → β → Int} (f : α → β) (y : α) (l : List α) : (enL (fun a b => o (f a) (f b)) y l).map f = enL o (f y) (l.map f) := by
 simp [enL, List.filter_map, Function.comp_def]
theorem leL_map {α β : Type} {o : β → β → Int} (f : α → β) (y : α) (l : List α) : (leL (fun a b => o (f a) (f b)) y l).map f = leL o (f y) (l.map f) := by
 simp [leL, List.filter_map, Function.comp_def]
theorem hasL_map {α β : Type} {o : β → β → Int} (f : α → β) (y : α) (l : List α) : hasL (fun a b => o (f a) (f b)) y l = hasL o (f y) (l.map f) := by
 simp [hasL, Function.comp_def]
theorem inc_map {α β : Type} {o : β → β → Int} (f : α → β) {l : List α} : Inc o (l.map f) ↔ Inc (fun a b => o (f a) (f b)) l := List.pairwise_map
structure Plc {α : Type} (o : α → α → Int) (x : α) (zs : Zs α) (p : Nat) : Prop where
 le : p ≤ zs.length
 lo : ∀ i (hi : i < zs.length), i < p → o (zs[i]).2 x < 0
 hi : ∀ i (hi : i < zs.length), p ≤ i → ¬ o (zs[i]).2 x < 0
theorem plc_any {α : Type} {o : α → α → Int} (ho : LinO o) (x : α) {zs : Zs α} (hl : Inc o (zs.map (·.2))) : ∃ p, Plc o x zs p := by
 obtain ⟨p, h1, h2, h3⟩ := place_any ho x hl
 simp only [List.length_map, List.getElem_map] at h1 h2 h3
 exact ⟨p, h1, h2, h3⟩
theorem enr_of {α : Type} {o : α → α → Int} (ho : LinO o) {e k : Nat} {R : List Value → α → Prop} {w w' : World} {B p : Nat} {v : Value} {zs : Zs α} {most : Int} {ys : List Value} {x : α} {r : Ending} (hl : Inc o (zs.map (·.2))) (hp : Plc o x zs p) (h : EnR e k R w B v zs p (fun z => o z x) most (ys, x) r w') :
  (∃ v', enE o most x (zs.map (·.2)) = .ok ((enL (fun a b => o a.2 b.2) (ys, x) zs).map (·.2)) ∧ r = .returned v' ∧ OwnZ e k R w' B v' (enL (fun a b => o a.2 b.2) (ys, x) zs) ∧ w.grownBy w' v.ownBlock) ∨
  (enE o most x (zs.map (·.2)) = .error 34 ∧ r = .panicked (gup 34) ∧ Bw w w') := by
 have ho2 : LinO (fun a b : List Value × α => o a.2 b.2) := linO_key ho Prod.snd
 have hl2 : Inc (fun a b : List Value × α => o a.2 b.2) zs := (inc_map Prod.snd).1 hl
 have hm : hasL o x (zs.map (·.2)) = hasL (fun a b : List Value × α => o a.2 b.2) (ys, x) zs := (hasL_map Prod.snd (ys, x) zs).symm
 have hE : ∀ hh : (hasL o x (zs.map (·.2)) || decide (((zs.map (·.2)).length : Int) < most)) = true, enE o most x (zs.map (·.2)) = .ok ((enL (fun a b => o a.2 b.2) (ys, x) zs).map (·.2)) := fun hh => by
  unfold enE
  rw [hh, enL_map Prod.snd (ys, x) zs]
  rfl
 rcases h with ⟨⟨h1, h1'⟩, h2, h3, h4⟩ | ⟨h1, h2, v', h3, h4, h5⟩ | ⟨h1, h2, h3, h4⟩
 ·refine .inl ⟨v, hE ?_, h2, ?_, h4⟩
  ·rw [hm, has_there (o := fun a b : List Value × α => o a.2 b.2) (x := (ys, x)) h1 h1']
   rfl
  ·rw [← en_there ho2 (x := (ys, x)) hl2 hp.lo hp.hi h1 h1' (ho2.refl (ys, x))]
   exact h3
 ·refine .inl ⟨v', hE ?_, h3, ?_, h5⟩
  ·simp [h2]
  ·rw [← en_gone ho2 (x := (ys, x)) hl2 hp.le hp.lo hp.hi h1]
   exact h4
 ·refine .inr ⟨?_, h3, h4⟩
  unfold enE
  rw [hm, (at_gone ho2 (x := (ys, x)) hl2 hp.le hp.lo hp.hi h1).2]
  simp [ins, h2]
theorem ler_of {α : Type} {o : α → α → Int} (ho : LinO o) {e k : Nat} {R : List Value → α → Prop} {w w' : World} {B p : Nat} {v : Value} {zs : Zs α} {y : List Value × α} {r : Ending} (hz : OwnZ e k R w B v zs) (hl : Inc o (zs.map (·.2))) (hp : Plc o y.2 zs p) (h : LeR e k R w B v zs p (fun z => o z y.2) r w') :
  ∃ v', r = .returned v' ∧ OwnZ e k R w' B v' (leL (fun a b => o a.2 b.2) y zs) ∧ w.grownBy w' v.ownBlock := by
 have ho2 : LinO (fun a b : List Value × α => o a.2 b.2) := linO_key ho Prod.snd
 have hl2 : Inc (fun a b : List Value × α => o a.2 b.2) zs := (inc_map Prod.snd).1 hl
 rcases h with ⟨⟨h1, h1'⟩, v', h2, h3, h4⟩ | ⟨h1, h2, h3⟩
 ·refine ⟨v', h2, ?_, h4⟩
  rw [← le_there ho2 (x := y) hl2 hp.lo hp.hi h1 h1']
  exact h3
 ·refine ⟨v, h2, ?_, gb_below h3 _⟩
  rw [leL_none (at_gone ho2 (x := y) hl2 hp.le hp.lo hp.hi h1).2]
  exact hz.keep (.of_below h3)
theorem har_of {α : Type} {o : α → α → Int} (ho : LinO o) {p : Nat} {zs : Zs α} {x : α} {r : Ending} (hl : Inc o (zs.map (·.2))) (hp : Plc o x zs p) (h : HaR p zs (fun z => o z x) r) : r = .returned (.bool (hasL o x (zs.map (·.2)))) := by
 obtain ⟨b, rfl, hb⟩ := h
 have h1 : (∃ hi : p < (zs.map (·.2)).length, o (zs.map (·.2))[p] x = 0) ↔ hasL o x (zs.map (·.2)) = true := has_iff ho hl (by simpa using hp.le) (fun i hi h => by simpa using hp.lo i (by simpa using hi) h) (fun i hi h => by simpa using hp.hi i (by simpa using hi) h)
 simp only [List.length_map, List.getElem_map] at h1
 rw [h1] at hb
 cases b <;> cases hc : hasL o x (zs.map (·.2)) <;> simp_all
theorem bsr_of {α : Type} {o : α → α → Int} (ho : LinO o) {p : Nat} {zs : Zs α} {x : α} {r : Ending} (hl : Inc o (zs.map (·.2))) (hp : Plc o x zs p) (h : BsR p zs (fun z => o z x) r) : r = .returned (.tuple #[.int .i64 (p : Nat), .bool (hasL o x (zs.map (·.2)))]) ∧ (hasL o x (zs.map (·.2)) = true ↔ ∃ hi : p < zs.length, o (zs[p]).2 x = 0) := by
 obtain ⟨b, rfl, hb⟩ := h
 have h1 : (∃ hi : p < (zs.map (·.2)).length, o (zs.map (·.2))[p] x = 0) ↔ hasL o x (zs.map (·.2)) = true := has_iff ho hl (by simpa using hp.le) (fun i hi h => by simpa using hp.lo i (by simpa using hi) h) (fun i hi h => by simpa using hp.hi i (by simpa using hi) h)
 simp only [List.length_map, List.getElem_map] at h1
 refine ⟨?_, h1.symm⟩
 rw [h1] at hb
 cases b <;> cases hc : hasL o x (zs.map (·.2)) <;> simp_all
def EnA {α : Type} (O : World → Nat → Value → List α → Prop) (o : α → α → Int) (most : Int) (w : World) (B : Nat) (v : Value) (x : α) (l : List α) (e : Ending) (w' : World) : Prop :=
 (∃ v', enE o most x l = .ok (enL o x l) ∧ e = .returned v' ∧ O w' B v' (enL o x l) ∧ w.grownBy w' v.ownBlock) ∨ (enE o most x l = .error 34 ∧ e = .panicked (gup 34) ∧ Bw w w')
def LeA {α : Type} (O : World → Nat → Value → List α → Prop) (o : α → α → Int) (w : World) (B : Nat) (v : Value) (x : α) (l : List α) (e : Ending) (w' : World) : Prop :=
 ∃ v', e = .returned v' ∧ O w' B v' (leL o x l) ∧ w.grownBy w' v.ownBlock
theorem enQs (w : World) (B : Nat) (hB : B ≤ w.heap.size) (v : Value) (l : List Que) (h : OQc w B v l) (hi : Inc oQ l) (hn : l.length ≤ 1000) (vq : Value) (q : Que) (hq : OwnQ w B vq q) :
  Calls Tryz.prog 113 #[v, vq, .func (.func 63) #[] #[], .int .i64 16] w fun e w' => EnA OQc oQ 16 w B v q l e w' := by
 obtain ⟨zs, rfl, hz⟩ := h
 obtain ⟨a, c, rfl⟩ := hz.rd.len
 rw [List.length_map] at hn
 obtain ⟨p, hp⟩ := plc_any linQ q hi
 have hq0 := hq
 obtain ⟨iv, hv, rfl, h1, h2⟩ := hq
 obtain ⟨ia, ic, ei⟩ := h1.rd.len
 obtain ⟨ja, jc, ej⟩ := h2.rd.len
 refine (enQ w B hB a zs.length c zs _ hz rfl hn (tx q.name) (.bool q.dur) (.int .i64 q.depth) (.int .i64 q.seq) (.int .i64 q.tag) iv hv ⟨rfl, rfl, rfl, rfl, rfl, by rw [ei]; rfl, by rw [ej]; rfl⟩ 63 e63 (fun z => oQ z q) (fun W z hm => cQ W (OwnQ.rd (hz.2 z hm).2) hq0.rd) p hp.le hp.lo hp.hi q hq0 16).mono ?_
 intro e w' hr
 rcases enr_of linQ hi hp hr with ⟨v', h3, h4, h5, h6⟩ | h3
 ·have kt : ∀ t, t ≠ 82 → Kt t w w' := fun t ht => .of_grown hz.1 h6 ht
  rw [enL_map Prod.snd] at h3
  exact .inl ⟨v', h3, h4, ⟨_, enL_map Prod.snd _ zs, h5.imp fun ys x h => OwnQ.keep h (kt _ (by decide)) (kt _ (by decide)) (kt _ (by decide))⟩, h6⟩
 ·exact .inr h3
theorem leQs (w : World) (B : Nat) (hB : B ≤ w.heap.size) (v : Value) (l : List Que) (h : OQc w B v l) (hi : Inc oQ l) (hn : l.length ≤ 1000) (n : List UInt8) :
  Calls Tryz.prog 115 #[v, .agg #[tx n, .bool false, .int .i64 0, .int .i64 0, .int .i64 0, .slice none 0 0, .slice none 0 0], .func (.func 63) #[] #[]] w fun e w' => LeA OQc oQ w B v (newQ n false 0) l e w' := by
 obtain ⟨zs, rfl, hz⟩ := h
 obtain ⟨a, c, rfl⟩ := hz.rd.len
 rw [List.length_map] at hn
 obtain ⟨p, hp⟩ := plc_any linQ (newQ n false 0) hi
 have hq0 := own_new w B n false 0
 refine (leQ w B hB a zs.length c zs _ hz rfl hn _ _ _ _ _ _ _ ⟨rfl, rfl, rfl, rfl, rfl, rfl, rfl⟩ 63 e63 (fun z => oQ z (newQ n false 0)) (fun W z hm => cQ W (OwnQ.rd (hz.2 z hm).2) hq0.rd) p hp.le hp.lo hp.hi).mono ?_
 intro e w' hr
 obtain ⟨v', h4, h5, h6⟩ := ler_of (y := ([], newQ n false 0)) linQ hz hi hp hr
 have kt : ∀ t, t ≠ 82 → Kt t w w' := fun t ht => .of_grown hz.1 h6 ht
 exact ⟨v', h4, ⟨_, leL_map Prod.snd _ zs, h5.imp fun ys x h => OwnQ.keep h (kt _ (by decide)) (kt _ (by decide)) (kt _ (by decide))⟩, h6⟩
theorem enBs (w : World) (B : Nat) (hB : B ≤ w.heap.size) (v : Value) (l : List Bnd) (h : OBc w B v l) (hi : Inc oB l) (hn : l.length ≤ 1000) (x : Bnd) :
  Calls Tryz.prog 120 #[v, .agg #[tx x.queue, tx x.pat], .func (.func 66) #[] #[], .int .i64 64] w fun e w' => EnA OBc oB 64 w B v x l e w' := by
 obtain ⟨zs, rfl, hz⟩ := h
 obtain ⟨a, c, rfl⟩ := hz.rd.len
 rw [List.length_map] at hn
 obtain ⟨p, hp⟩ := plc_any linB x hi
 have hx : BnR [tx x.queue, tx x.pat] x := rfl
 refine (enB w B hB a zs.length c zs _ hz rfl hn _ _ ⟨rfl, rfl⟩ 66 e66' (fun z => oB z x) (fun W z hm => cB W (hz.2 z hm).2 hx) p hp.le hp.lo hp.hi x hx 64).mono ?_
 intro e w' hr
 rcases enr_of linB hi hp hr with ⟨v', h3, h4, h5, h6⟩ | h3
 ·rw [enL_map Prod.snd] at h3
  exact .inl ⟨v', h3, h4, ⟨_, enL_map Prod.snd _ zs, h5⟩, h6⟩
 ·exact .inr h3
theorem leBs (w : World) (B : Nat) (hB : B ≤ w.heap.size) (v : Value) (l : List Bnd) (h : OBc w B v l) (hi : Inc oB l) (hn : l.length ≤ 1000) (x : Bnd) :
  Calls Tryz.prog 123 #[v, .agg #[tx x.queue, tx x.pat], .func (.func 66) #[] #[]] w fun e w' => LeA OBc oB w B v x l e w' := by
 obtain ⟨zs, rfl, hz⟩ := h
 obtain ⟨a, c, rfl⟩ := hz.rd.len
 rw [List.length_map] at hn
 obtain ⟨p, hp⟩ := plc_any linB x hi
 have hx : BnR [tx x.queue, tx x.pat] x := rfl
 refine (leB w B hB a zs.length c zs _ hz rfl hn _ _ ⟨rfl, rfl⟩ 66 e66' (fun z => oB z x) (fun W z hm => cB W (hz.2 z hm).2 hx) p hp.le hp.lo hp.hi).mono ?_
 intro e w' hr
 obtain ⟨v', h4, h5, h6⟩ := ler_of (y := ([], x)) linB hz hi hp hr
 exact ⟨v', h4, ⟨_, leL_map Prod.snd _ zs, h5⟩, h6⟩
theorem hasBs (w : World) (B : Nat) (v : Value) (l : List Bnd) (h : OBc w B v l) (hi : Inc oB l) (hn : l.length ≤ 1000) (x : Bnd) :
  Calls Tryz.prog 122 #[v, .agg #[tx x.queue, tx x.pat], .func (.func 66) #[] #[]] w fun e w' => e = .returned (.bool (hasL oB x l)) ∧ Bw w w' := by
 obtain ⟨zs, rfl, hz⟩ := h
 obtain ⟨a, c, rfl⟩ := hz.rd.len
 rw [List.length_map] at hn
 obtain ⟨p, hp⟩ := plc_any linB x hi
 have hx : BnR [tx x.queue, tx x.pat] x := rfl
 refine (hasB w a zs.length c zs _ hz.rd rfl (by omega) _ _ ⟨rfl, rfl⟩ 66 e66' (fun z => oB z x) (fun W z hm => cB W (hz.2 z hm).2 hx) p hp.le hp.lo hp.hi).mono ?_
 rintro e w' ⟨hr, b⟩
 exact ⟨har_of linB hi hp hr, b⟩
theorem enSs (w : World) (B : Nat) (hB : B ≤ w.heap.size) (v : Value) (l : List Sbs) (h : OSc w B v l) (hi : Inc oS l) (hn : l.length ≤ 1000) (x : Sbs) :
  Calls Tryz.prog 134 #[v, .agg #[.int .i64 x.conn, .int .i64 x.sub, tx x.queue, .int .i64 x.win, .bool x.auto], .func (.func 70) #[] #[], .int .i64 32] w fun e w' => EnA OSc oS 32 w B v x l e w' := by
 obtain ⟨zs, rfl, hz⟩ := h
 obtain ⟨a, c, rfl⟩ := hz.rd.len
 rw [List.length_map] at hn
 obtain ⟨p, hp⟩ := plc_any linS x hi
 have hx : SbR [.int .i64 x.conn, .int .i64 x.sub, tx x.queue, .int .i64 x.win, .bool x.auto] x := rfl
 refine (enS w B hB a zs.length c zs _ hz rfl hn _ _ _ _ _ ⟨rfl, rfl, rfl, rfl, rfl⟩ 70 e70' (fun z => oS z x) (fun W z hm => cS W (hz.2 z hm).2 hx) p hp.le hp.lo hp.hi x hx 32).mono ?_
 intro e w' hr
 rcases enr_of linS hi hp hr with ⟨v', h3, h4, h5, h6⟩ | h3
 ·rw [enL_map Prod.snd] at h3
  exact .inl ⟨v', h3, h4, ⟨_, enL_map Prod.snd _ zs, h5⟩, h6⟩
 ·exact .inr h3
theorem hasSs (w : World) (B : Nat) (v : Value) (l : List Sbs) (h : OSc w B v l) (hi : Inc oS l) (hn : l.length ≤ 1000) (x : Sbs) :
  Calls Tryz.prog 133 #[v, .agg #[.int .i64 x.conn, .int .i64 x.sub, tx x.queue, .int .i64 x.win, .bool x.auto], .func (.func 70) #[] #[]] w fun e w' => e = .returned (.bool (hasL oS x l)) ∧ Bw w w' := by
 obtain ⟨zs, rfl, hz⟩ := h
 obtain ⟨a, c, rfl⟩ := hz.rd.len
 rw [List.length_map] at hn
 obtain ⟨p, hp⟩ := plc_any linS x hi
 have hx : SbR [.int .i64 x.conn, .int .i64 x.sub, tx x.queue, .int .i64 x.win, .bool x.auto] x := rfl
 refine (hasS w a zs.length c zs _ hz.rd rfl (by omega) _ _ _ _ _ ⟨rfl, rfl, rfl, rfl, rfl⟩ 70 e70' (fun z => oS z x) (fun W z hm => cS W (hz.2 z hm).2 hx) p hp.le hp.lo hp.hi).mono ?_
 rintro e w' ⟨hr, b⟩
 exact ⟨har_of linS hi hp hr, b⟩
theorem enMs (w : World) (B : Nat) (hB : B ≤ w.heap.size) (v : Value) (l : List Msg) (h : OKc w B v l) (hi : Inc oM l) (hn : l.length ≤ 1000) (m : Msg) (pv : Value) (hm : OwnP w B pv m.props) :
  Calls Tryz.prog 200 #[v, .agg (msgV m pv).toArray, .func (.func 75) #[] #[], .int .i64 16] w fun e w' => EnA OKc oM 16 w B v m l e w' := by
 obtain ⟨zs, rfl, hz⟩ := h
 obtain ⟨a, c, rfl⟩ := hz.rd.len
 rw [List.length_map] at hn
 obtain ⟨p, hp⟩ := plc_any linM m hi
 obtain ⟨ia, ic, ei⟩ := hm.shape
 have hx : MsR (OwnP w B) (msgV m pv) m := ⟨pv, rfl, hm⟩
 refine (enM w B hB a zs.length c zs _ hz rfl hn _ _ _ _ _ ⟨rfl, rfl, by rw [ei]; rfl, rfl, rfl⟩ 75 e75' (fun z => oM z m) (fun W z hm => cM W (hz.2 z hm).2 hx) p hp.le hp.lo hp.hi m hx 16).mono ?_
 intro e w' hr
 rcases enr_of linM hi hp hr with ⟨v', h3, h4, h5, h6⟩ | h3
 ·have kt : ∀ t, t ≠ 33 → Kt t w w' := fun t ht => .of_grown hz.1 h6 ht
  rw [enL_map Prod.snd] at h3
  refine .inl ⟨v', h3, h4, ⟨_, enL_map Prod.snd _ zs, h5.imp ?_⟩, h6⟩
  rintro ys x ⟨pv, h7, h8⟩
  exact ⟨pv, h7, h8.keep (kt _ (by decide))⟩
 ·exact .inr h3
theorem leMs (w : World) (B : Nat) (hB : B ≤ w.heap.size) (v : Value) (l : List Msg) (h : OKc w B v l) (hi : Inc oM l) (hn : l.length ≤ 1000) (m : Msg) (pv : Value) (hm : RdP w pv m.props) :
  Calls Tryz.prog 199 #[v, .agg (msgV m pv).toArray, .func (.func 75) #[] #[]] w fun e w' => LeA OKc oM w B v m l e w' := by
 obtain ⟨zs, rfl, hz⟩ := h
 obtain ⟨a, c, rfl⟩ := hz.rd.len
 rw [List.length_map] at hn
 obtain ⟨p, hp⟩ := plc_any linM m hi
 have hx : MsR (RdP w) (msgV m pv) m := ⟨pv, rfl, hm⟩
 refine (leM w B hB a zs.length c zs _ hz rfl hn _ _ _ _ _ ⟨rfl, rfl, hm.one, rfl, rfl⟩ 75 e75' (fun z => oM z m) (fun W z hm => cM W (hz.2 z hm).2 hx) p hp.le hp.lo hp.hi).mono ?_
 intro e w' hr
 obtain ⟨v', h4, h5, h6⟩ := ler_of (y := ([], m)) linM hz hi hp hr
 have kt : ∀ t, t ≠ 33 → Kt t w w' := fun t ht => .of_grown hz.1 h6 ht
 refine ⟨v', h4, ⟨_, leL_map Prod.snd _ zs, h5.imp ?_⟩, h6⟩
 rintro ys x ⟨pv, h7, h8⟩
 exact ⟨pv, h7, h8.keep (kt _ (by decide))⟩
theorem findQs (w : World) (B : Nat) (v : Value) (zs : Zs Que) (hz : OwnZ 82 7 (QuR (OwnQ w B)) w B v zs) (hi : Inc oQ (zs.map (·.2))) (hn : zs.length ≤ 1000) (n : List UInt8) :
  ∃ p, Plc oQ (newQ n false 0) zs p ∧ Calls Tryz.prog 110 #[v, .agg #[tx n, .bool false, .int .i64 0, .int .i64 0, .int .i64 0, .slice none 0 0, .slice none 0 0], .func (.func 63) #[] #[]] w fun e w' =>
   (e = .returned (.tuple #[.int .i64 (p : Nat), .bool (hasNm (zs.map (·.2)) n)]) ∧ (hasNm (zs.map (·.2)) n = true ↔ ∃ hi : p < zs.length, (zs[p]).2.name = n)) ∧ Bw w w' := by
 obtain ⟨a, c, rfl⟩ := hz.rd.len
 obtain ⟨p, hp⟩ := plc_any linQ (newQ n false 0) hi
 have hq0 := own_new w B n false 0
 refine ⟨p, hp, (findQ w a zs.length c zs _ hz.rd rfl (by omega) _ _ _ _ _ _ _ ⟨rfl, rfl, rfl, rfl, rfl, rfl, rfl⟩ 63 e63 (fun z => oQ z (newQ n false 0)) (fun W z hm => cQ W (OwnQ.rd (hz.2 z hm).2) hq0.rd) p hp.le hp.lo hp.hi).mono ?_⟩
 rintro e w' ⟨hr, b⟩
 have hh : hasL oQ (newQ n false 0) (zs.map (·.2)) = hasNm (zs.map (·.2)) n := by
  unfold hasL hasNm
  congr 1
  funext q
  simp [oQ_zero, newQ]
 have := bsr_of linQ hi hp hr
 rw [hh] at this
 refine ⟨⟨this.1, this.2.trans ?_⟩, b⟩
 simp only [oQ_zero, newQ]
theorem hasNs' (w : World) (B : Nat) (v : Value) (l : List Que) (h : OQc w B v l) (hi : Inc oQ l) (hn : l.length ≤ 1000) (n : List UInt8) :
  Calls Tryz.prog 114 #[v, .agg #[tx n, .bool false, .int .i64 0, .int .i64 0, .int .i64 0, .slice none 0 0, .slice none 0 0], .func (.func 63) #[] #[]] w fun e w' => e = .returned (.bool (hasNm l n)) ∧ Bw w w' := by
 obtain ⟨zs, rfl, hz⟩ := h
 rw [List.length_map] at hn
 exact hasName w v _ ⟨zs, rfl, hz.rd.imp fun _ _ h => OwnQ.rd h⟩ ((risB_inc linQ _).2 hi) (by rw [List.length_map]; omega) n
end Go.Proofs.YtnpikgakpmkipabGreatDoor
