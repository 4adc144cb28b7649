/- core.canBe, over rows of several cells. Conditions: those that each row states. -/
import Derived.Test.YtnpikgakpmkipabGreatDoorZ04
import Derived.Test.YtnpikgakpmkipabGreatDoorZ03
import Derived.Test.YtnpikgakpmkipabGreatDoorZ12
import Derived.Test.YtnpikgakpmkipabGreatDoorZ14
import Derived.Test.YtnpikgakpmkipabGreatDoorZ16
import Derived.Test.YtnpikgakpmkipabGreatDoorZ05
namespace Go.Proofs.YtnpikgakpmkipabGreatDoor
open Go.RowKit Go.Lib
set_option maxRecDepth 100000
set_option linter.unusedSimpArgs false
set_option linter.unusedVariables false
set_option maxHeartbeats 4000000 in
theorem canP2 {α : Type} {F : Nat} (hF : F = 65 ∨ F = 78) (w : World) (a : Option Addr) (n c : Nat) (zs : Zs α) (R : List Value → α → Prop) (h : RdZ 2 R w (.slice a n c) zs) (hn : zs.length = n) (hbig : n ≤ 9223372036854775806) (most : Int) (f : FuncId) (ef : ∀ args w, (callFunc f args).run Tryz.prog w = .ok (.enter f args) w) (gg : FuncId) (lb : Array Value) (eg : ∀ args w, (callFunc gg args).run Tryz.prog w = .ok (.enter gg args) w)
  (cmp : α → α → Int) (hC : ∀ W z z', z ∈ zs → z' ∈ zs → Calls Tryz.prog f #[.agg z.1.toArray, .agg z'.1.toArray] W fun e w' => e = .returned (.int .i64 (cmp z.2 z'.2)) ∧ Bw W w')
  (good : α → Bool) (hG : ∀ W z, Bw w W → z ∈ zs → Calls Tryz.prog gg (#[.agg z.1.toArray] ++ lb) W fun e w' => e = .returned (.bool (good z.2)) ∧ Bw W w') :
  Calls Tryz.prog F #[.slice a n c, .int .i64 most, .func (.func f) #[] #[], .func (.func gg) #[] lb] w fun e w' => CaR most cmp good zs e ∧ Bw w w' := by
 have HI : Hid (RdZ 2 R w (.slice a n c) zs) := h
 have NI : Hid (zs.length = n) := hn
 clear h hn
 rcases hF with rfl | rfl
 all_goals
  first | go_enter Tryz.func65, Tryz.ntmps65 | go_enter Tryz.func78, Tryz.ntmps78
  by_cases hm : (n : Int) > most
  ·have HK1 : Hid (false = true ↔ CaP most cmp good zs) := by
    show _ ↔ _
    constructor
    ·intro h
     cases h
    ·rintro ⟨h, _⟩
     rw [NI.out] at h
     omega
   go_wp2_with fail
   go_ret
   exact ⟨car_mk HK1.out, Below.refl _ _⟩
  ·have HM : Hid ((zs.length : Int) ≤ most) := by show (zs.length : Int) ≤ most; rw [NI.out]; omega
   go_wp2_with fail
   go_loopg [17] n (fun gq s17 wr => ∃ i : Nat, i ≤ n ∧ n - i ≤ gq ∧ s17 = .int .i64 i ∧ Hid (CaK cmp good zs i) ∧ Hid (Bw w wr))
   case atStart => exact ⟨0, Nat.zero_le _, by omega, rfl, ⟨fun j hj h => absurd h (by omega), fun j hj h => absurd h (by omega)⟩, Below.refl _ _⟩
   case round =>
    obtain ⟨i, hi, hgq, rfl, HK, HS⟩ := hrel
    obtain ⟨wt, hwt⟩ : ∃ W, W = wr := ⟨_, rfl⟩
    subst hwt
    by_cases hlt : i < n
    ·have hltz : (i : Int) < (n : Int) := by omega
     have hmz : i < zs.length := by rw [NI.out]; exact hlt
     have hGm := fun W hb => hG W (zs[i]) hb (List.getElem_mem hmz)
     obtain ⟨b, o, v0, v1, rfl, hz1, _, hone, hcl⟩ := el2_at HI.out (i := i) hmz
     rw [hz1] at hGm
     obtain ⟨c0, c1⟩ := hcl wt HS.out
     have HGB : Hid (∀ gb, gb = good (zs[i]).2 → (gb = false → (false = true ↔ CaP most cmp good zs))) := fun gb e e2 => by
      constructor
      ·intro h
       cases h
      ·rintro ⟨_, h, _⟩
       have := h i hmz
       rw [← e, e2] at this
       cases this
     obtain ⟨gb, hgb⟩ : ∃ gb, gb = good (zs[i]).2 := ⟨_, rfl⟩
     have HGB2 : Hid (gb = false → (false = true ↔ CaP most cmp good zs)) := HGB.out gb hgb
     have HEB : Hid (gb = good (zs[i]).2) := hgb
     rw [← hgb] at hGm
     clear HGB hgb
     clear hcl
     go_wp2_with (refine wpl_fresh rfl (.tmp 10) (.tmp 21) rfl _ _ rfl rfl (by kernel_rfl) rfl (by simp [hone.1, hone.2]) ?_)
     intro w3 k3 b3 s3
     clear c0 c1
     obtain ⟨gx, egx⟩ : ∃ g, wt.heap.size = g := ⟨_, rfl⟩
     rw [egx] at k3 ⊢
     clear egx
     go_upto_region 6 with fail
     by_cases hi0 : i = 0
     ·have hz0 : ¬ (i : Int) > 0 := by omega
      have hz1' : decide ((0 : Int) < (i : Int)) = false := by simp; omega
      have HI0 : Hid (i = 0) := hi0
      clear hi0
      refine rh (fun W => Bw w W ∧ Bk W gx #[v0, v1]) ?_
      have hS : Bw w w3.drew ∧ Bk w3.drew gx #[v0, v1] := ⟨(nxt HS.out b3).drew, ⟨_, ⟨k3.h⟩⟩⟩
      clear HS b3 k3 s3
      generalize w3.drew = wv at *
      refine tks [0, 1, 2, 3, 4, 5, 6, 7, 8, 9, 10, 11, 12, 13, 14, 15] [.int .i64 i, .bool false, .bool false, undef, undef, undef, undef, undef, undef, undef, undef, undef, .bool false, .bool false, .func (.func gg) #[] lb, .agg #[v0, v1]] 3 ?_ hS ?_
      ·simp only [tkY, tkf]
       refine ⟨.yes ?_, .yes ?_, .yes ?_, .no, .no, .no, .no, .no, .no, .no, .no, .no, .yes ?_, .yes ?_, .yes ?_, .yes ?_, trivial⟩
       all_goals
        intro W' hW'
        have := hW'.2.ce 0
        have := hW'.2.ce 1
        go_simp
        all_goals first | omega | (rw [IntKind.wrap_i64]; omega)
      simp only [tkA, tkf]
      refine ak 16 fun K hK => ?_
      go_simp
      refine (hGm _ hS.1).mono ?_
      rintro e w5 ⟨rfl, b5⟩
      have hS5 : Bw w w5 ∧ Bk w5 gx #[v0, v1] := ⟨nxt hS.1 b5, hS.2.on b5⟩
      show K _ _
      refine hK _ _ hS5 ?_
      clear hK K hS b5
      try simp only [tkf]
      refine tks [17, 18] [.bool (!gb), .bool (!gb)] 0 ?_ hS5 ?_
      ·simp only [tkY, tkf]
       refine ⟨.yes ?_, .yes ?_, trivial⟩
       all_goals
        intro W' hW'
        go_simp
        all_goals first | omega | (rw [IntKind.wrap_i64]; omega)
      simp only [tkA, tkf]
      refine ad ?_
      have HS5 : Hid (Bw w w5) := hS5.1
      clear hS5
      cases gb with
      | true =>
       have HK1 : Hid (CaK cmp good zs (i + 1)) := HK.out.next hmz (by rw [← HEB.out]) (fun h0 => absurd HI0.out (by omega))
       go_wp2_with fail
       go_roundg (n - (i + 1))
       case measure => omega
       case rel => exact ⟨i + 1, by omega, by omega, by go_num, HK1.out, HS5.out⟩
      | false =>
       have HK1 : Hid (false = true ↔ CaP most cmp good zs) := HGB2.out rfl
       go_wp2_with fail
       go_ret
       exact ⟨car_mk HK1.out, HS5.out⟩
     ·obtain ⟨j, hj⟩ : ∃ j, i = j + 1 := ⟨i - 1, by omega⟩
      have hz0 : (i : Int) > 0 := by omega
      have hz1' : decide ((0 : Int) < (i : Int)) = true := by simp; omega
      have hjI : (i : Int) - 1 = (j : Int) := by omega
      have hjn : (j : Int) < (n : Int) := by omega
      have hjz : j < zs.length := by omega
      have hCm := fun W => hC W (zs[j]) (zs[i]) (List.getElem_mem hjz) (List.getElem_mem hmz)
      obtain ⟨b2, o2, u0, u1, e2, hz2, _, hone2, hcl2⟩ := el2_at HI.out (i := j) hjz
      injection e2 with e2
      injection e2 with e2 e3
      subst e2 e3
      have HC2 : Hid _ := hcl2
      rw [hz1, hz2] at hCm
      have HCZ : Hid (∀ cz, cz = cmp (zs[j]).2 (zs[i]).2 → (¬ cz < 0 → (false = true ↔ CaP most cmp good zs))) := fun cz e e2 => by
       constructor
       ·intro h
        cases h
       ·rintro ⟨_, _, h⟩
        have h3 := h j (by omega)
        simp only [← hj] at h3
        rw [← e] at h3
        exact absurd h3 e2
      obtain ⟨cz, hcz⟩ : ∃ cz, cz = cmp (zs[j]).2 (zs[i]).2 := ⟨_, rfl⟩
      have HCZ2 : Hid (¬ cz < 0 → (false = true ↔ CaP most cmp good zs)) := HCZ.out cz hcz
      have HEC : Hid (cz = cmp (zs[j]).2 (zs[i]).2) := hcz
      rw [← hcz] at hCm
      have HJ : Hid (i = j + 1) := hj
      clear HCZ hcz hcl2 hz2 hj hi0
      refine rh (fun W => Bw w W ∧ Bk W gx #[v0, v1]) ?_
      have hS : Bw w w3.drew ∧ Bk w3.drew gx #[v0, v1] := ⟨(nxt HS.out b3).drew, ⟨_, ⟨k3.h⟩⟩⟩
      clear HS b3 k3 s3
      generalize w3.drew = wv at *
      refine tks [0, 1, 2, 3, 4, 5, 6, 7, 8, 9] [.int .i64 i, .bool true, .bool true, .func (.func f) #[] #[], .slice (some ⟨b, o, none⟩) n c, .int .i64 i, .int .i64 j, .pointer (some ⟨b, o + j * 2, none⟩), .agg #[u0, u1], .agg #[v0, v1]] 9 ?_ hS ?_
      ·simp only [tkY, tkf]
       refine ⟨.yes ?_, .yes ?_, .yes ?_, .yes ?_, .yes ?_, .yes ?_, .yes ?_, .yes ?_, .yes ?_, .yes ?_, trivial⟩
       all_goals
        intro W' hW'
        obtain ⟨c0, c1⟩ := HC2.out _ hW'.1
        have := hW'.2.ce 0
        have := hW'.2.ce 1
        go_simp
        all_goals first | omega | (rw [IntKind.wrap_i64]; omega)
      simp only [tkA, tkf]
      refine ak 10 fun K hK => ?_
      go_simp
      refine (hCm _).mono ?_
      rintro e w4 ⟨rfl, b4⟩
      have hS4 : Bw w w4 ∧ Bk w4 gx #[v0, v1] := ⟨nxt hS.1 b4, hS.2.on b4⟩
      show K _ _
      refine hK _ _ hS4 ?_
      clear hK K hS b4 hCm
      try simp only [tkf]
      by_cases hcz : cz < 0
      ·have hcf : decide (0 ≤ cz) = false := by simp; omega
       have hcf2 : ¬ cz ≥ 0 := by omega
       refine tks [11, 12, 13, 14, 15] [.bool false, .bool false, .bool false, .func (.func gg) #[] lb, .agg #[v0, v1]] 3 ?_ hS4 ?_
       ·simp only [tkY, tkf]
        refine ⟨.yes ?_, .yes ?_, .yes ?_, .yes ?_, .yes ?_, trivial⟩
        all_goals
         intro W' hW'
         have := hW'.2.ce 0
         have := hW'.2.ce 1
         go_simp
         all_goals first | omega | (rw [IntKind.wrap_i64]; omega)
       simp only [tkA, tkf]
       refine ak 16 fun K hK => ?_
       go_simp
       refine (hGm _ hS4.1).mono ?_
       rintro e w5 ⟨rfl, b5⟩
       have hS5 : Bw w w5 ∧ Bk w5 gx #[v0, v1] := ⟨nxt hS4.1 b5, hS4.2.on b5⟩
       show K _ _
       refine hK _ _ hS5 ?_
       clear hK K hS4 b5
       try simp only [tkf]
       refine tks [17, 18] [.bool (!gb), .bool (!gb)] 0 ?_ hS5 ?_
       ·simp only [tkY, tkf]
        refine ⟨.yes ?_, .yes ?_, trivial⟩
        all_goals
         intro W' hW'
         go_simp
         all_goals first | omega | (rw [IntKind.wrap_i64]; omega)
       simp only [tkA, tkf]
       refine ad ?_
       have HS5 : Hid (Bw w w5) := hS5.1
       clear hS5
       cases gb with
       | true =>
        have HK1 : Hid (CaK cmp good zs (i + 1)) := HK.out.next hmz (by rw [← HEB.out]) (fun h0 => ⟨j, HJ.out, by rw [← HEC.out]; exact hcz⟩)
        go_wp2_with fail
        go_roundg (n - (i + 1))
        case measure => omega
        case rel => exact ⟨i + 1, by omega, by omega, by go_num, HK1.out, HS5.out⟩
       | false =>
        have HK1 : Hid (false = true ↔ CaP most cmp good zs) := HGB2.out rfl
        go_wp2_with fail
        go_ret
        exact ⟨car_mk HK1.out, HS5.out⟩
      ·have hcf : decide (0 ≤ cz) = true := by simp; omega
       have hcf2 : cz ≥ 0 := by omega
       have HK1 : Hid (false = true ↔ CaP most cmp good zs) := HCZ2.out hcz
       refine tks [11, 12, 13, 14, 15, 16, 17, 18] [.bool true, .bool true, .bool true, undef, undef, undef, undef, .bool true] 0 ?_ hS4 ?_
       ·simp only [tkY, tkf]
        refine ⟨.yes ?_, .yes ?_, .yes ?_, .no, .no, .no, .no, .yes ?_, trivial⟩
        all_goals
         intro W' hW'
         go_simp
         all_goals first | omega | (rw [IntKind.wrap_i64]; omega)
       simp only [tkA, tkf]
       refine ad ?_
       go_wp2_with fail
       go_ret
       exact ⟨car_mk HK1.out, hS4.1⟩
    ·have hltz : ¬ (i : Int) < (n : Int) := by omega
     have HK1 : Hid (CaP most cmp good zs) := by
      refine ⟨HM.out, fun j hj => HK.out.1 j hj (by rw [NI.out] at hj; omega), fun j hj => ?_⟩
      exact HK.out.2 j hj (by rw [NI.out] at hj; omega)
     go_wp2_with fail
     go_ret
     exact ⟨car_mk ⟨fun _ => HK1.out, fun _ => rfl⟩, HS.out⟩
set_option maxHeartbeats 4000000 in
theorem canP5 {α : Type} {F : Nat} (hF : F = 69 ∨ F = 74) (w : World) (a : Option Addr) (n c : Nat) (zs : Zs α) (R : List Value → α → Prop) (h : RdZ 5 R w (.slice a n c) zs) (hn : zs.length = n) (hbig : n ≤ 9223372036854775806) (most : Int) (f : FuncId) (ef : ∀ args w, (callFunc f args).run Tryz.prog w = .ok (.enter f args) w) (gg : FuncId) (lb : Array Value) (eg : ∀ args w, (callFunc gg args).run Tryz.prog w = .ok (.enter gg args) w)
  (cmp : α → α → Int) (hC : ∀ W z z', z ∈ zs → z' ∈ zs → Calls Tryz.prog f #[.agg z.1.toArray, .agg z'.1.toArray] W fun e w' => e = .returned (.int .i64 (cmp z.2 z'.2)) ∧ Bw W w')
  (good : α → Bool) (hG : ∀ W z, Bw w W → z ∈ zs → Calls Tryz.prog gg (#[.agg z.1.toArray] ++ lb) W fun e w' => e = .returned (.bool (good z.2)) ∧ Bw W w') :
  Calls Tryz.prog F #[.slice a n c, .int .i64 most, .func (.func f) #[] #[], .func (.func gg) #[] lb] w fun e w' => CaR most cmp good zs e ∧ Bw w w' := by
 have HI : Hid (RdZ 5 R w (.slice a n c) zs) := h
 have NI : Hid (zs.length = n) := hn
 clear h hn
 rcases hF with rfl | rfl
 all_goals
  first | go_enter Tryz.func69, Tryz.ntmps69 | go_enter Tryz.func74, Tryz.ntmps74
  by_cases hm : (n : Int) > most
  ·have HK1 : Hid (false = true ↔ CaP most cmp good zs) := by
    show _ ↔ _
    constructor
    ·intro h
     cases h
    ·rintro ⟨h, _⟩
     rw [NI.out] at h
     omega
   go_wp2_with fail
   go_ret
   exact ⟨car_mk HK1.out, Below.refl _ _⟩
  ·have HM : Hid ((zs.length : Int) ≤ most) := by show (zs.length : Int) ≤ most; rw [NI.out]; omega
   go_wp2_with fail
   go_loopg [17] n (fun gq s17 wr => ∃ i : Nat, i ≤ n ∧ n - i ≤ gq ∧ s17 = .int .i64 i ∧ Hid (CaK cmp good zs i) ∧ Hid (Bw w wr))
   case atStart => exact ⟨0, Nat.zero_le _, by omega, rfl, ⟨fun j hj h => absurd h (by omega), fun j hj h => absurd h (by omega)⟩, Below.refl _ _⟩
   case round =>
    obtain ⟨i, hi, hgq, rfl, HK, HS⟩ := hrel
    obtain ⟨wt, hwt⟩ : ∃ W, W = wr := ⟨_, rfl⟩
    subst hwt
    by_cases hlt : i < n
    ·have hltz : (i : Int) < (n : Int) := by omega
     have hmz : i < zs.length := by rw [NI.out]; exact hlt
     have hGm := fun W hb => hG W (zs[i]) hb (List.getElem_mem hmz)
     obtain ⟨b, o, v0, v1, v2, v3, v4, rfl, hz1, _, hone, hcl⟩ := el5_at HI.out (i := i) hmz
     rw [hz1] at hGm
     obtain ⟨c0, c1, c2, c3, c4⟩ := hcl wt HS.out
     have HGB : Hid (∀ gb, gb = good (zs[i]).2 → (gb = false → (false = true ↔ CaP most cmp good zs))) := fun gb e e2 => by
      constructor
      ·intro h
       cases h
      ·rintro ⟨_, h, _⟩
       have := h i hmz
       rw [← e, e2] at this
       cases this
     obtain ⟨gb, hgb⟩ : ∃ gb, gb = good (zs[i]).2 := ⟨_, rfl⟩
     have HGB2 : Hid (gb = false → (false = true ↔ CaP most cmp good zs)) := HGB.out gb hgb
     have HEB : Hid (gb = good (zs[i]).2) := hgb
     rw [← hgb] at hGm
     clear HGB hgb
     clear hcl
     go_wp2_with (refine wpl_fresh rfl (.tmp 10) (.tmp 21) rfl _ _ rfl rfl (by kernel_rfl) rfl (by simp [hone.1, hone.2.1, hone.2.2.1, hone.2.2.2.1, hone.2.2.2.2]) ?_)
     intro w3 k3 b3 s3
     clear c0 c1 c2 c3 c4
     obtain ⟨gx, egx⟩ : ∃ g, wt.heap.size = g := ⟨_, rfl⟩
     rw [egx] at k3 ⊢
     clear egx
     go_upto_region 6 with fail
     by_cases hi0 : i = 0
     ·have hz0 : ¬ (i : Int) > 0 := by omega
      have hz1' : decide ((0 : Int) < (i : Int)) = false := by simp; omega
      have HI0 : Hid (i = 0) := hi0
      clear hi0
      refine rh (fun W => Bw w W ∧ Bk W gx #[v0, v1, v2, v3, v4]) ?_
      have hS : Bw w w3.drew ∧ Bk w3.drew gx #[v0, v1, v2, v3, v4] := ⟨(nxt HS.out b3).drew, ⟨_, ⟨k3.h⟩⟩⟩
      clear HS b3 k3 s3
      generalize w3.drew = wv at *
      refine tks [0, 1, 2, 3, 4, 5, 6, 7, 8, 9, 10, 11, 12, 13, 14, 15] [.int .i64 i, .bool false, .bool false, undef, undef, undef, undef, undef, undef, undef, undef, undef, .bool false, .bool false, .func (.func gg) #[] lb, .agg #[v0, v1, v2, v3, v4]] 3 ?_ hS ?_
      ·simp only [tkY, tkf]
       refine ⟨.yes ?_, .yes ?_, .yes ?_, .no, .no, .no, .no, .no, .no, .no, .no, .no, .yes ?_, .yes ?_, .yes ?_, .yes ?_, trivial⟩
       all_goals
        intro W' hW'
        have := hW'.2.ce 0
        have := hW'.2.ce 1
        have := hW'.2.ce 2
        have := hW'.2.ce 3
        have := hW'.2.ce 4
        go_simp
        all_goals first | omega | (rw [IntKind.wrap_i64]; omega)
      simp only [tkA, tkf]
      refine ak 16 fun K hK => ?_
      go_simp
      refine (hGm _ hS.1).mono ?_
      rintro e w5 ⟨rfl, b5⟩
      have hS5 : Bw w w5 ∧ Bk w5 gx #[v0, v1, v2, v3, v4] := ⟨nxt hS.1 b5, hS.2.on b5⟩
      show K _ _
      refine hK _ _ hS5 ?_
      clear hK K hS b5
      try simp only [tkf]
      refine tks [17, 18] [.bool (!gb), .bool (!gb)] 0 ?_ hS5 ?_
      ·simp only [tkY, tkf]
       refine ⟨.yes ?_, .yes ?_, trivial⟩
       all_goals
        intro W' hW'
        go_simp
        all_goals first | omega | (rw [IntKind.wrap_i64]; omega)
      simp only [tkA, tkf]
      refine ad ?_
      have HS5 : Hid (Bw w w5) := hS5.1
      clear hS5
      cases gb with
      | true =>
       have HK1 : Hid (CaK cmp good zs (i + 1)) := HK.out.next hmz (by rw [← HEB.out]) (fun h0 => absurd HI0.out (by omega))
       go_wp2_with fail
       go_roundg (n - (i + 1))
       case measure => omega
       case rel => exact ⟨i + 1, by omega, by omega, by go_num, HK1.out, HS5.out⟩
      | false =>
       have HK1 : Hid (false = true ↔ CaP most cmp good zs) := HGB2.out rfl
       go_wp2_with fail
       go_ret
       exact ⟨car_mk HK1.out, HS5.out⟩
     ·obtain ⟨j, hj⟩ : ∃ j, i = j + 1 := ⟨i - 1, by omega⟩
      have hz0 : (i : Int) > 0 := by omega
      have hz1' : decide ((0 : Int) < (i : Int)) = true := by simp; omega
      have hjI : (i : Int) - 1 = (j : Int) := by omega
      have hjn : (j : Int) < (n : Int) := by omega
      have hjz : j < zs.length := by omega
      have hCm := fun W => hC W (zs[j]) (zs[i]) (List.getElem_mem hjz) (List.getElem_mem hmz)
      obtain ⟨b2, o2, u0, u1, u2, u3, u4, e2, hz2, _, hone2, hcl2⟩ := el5_at HI.out (i := j) hjz
      injection e2 with e2
      injection e2 with e2 e3
      subst e2 e3
      have HC2 : Hid _ := hcl2
      rw [hz1, hz2] at hCm
      have HCZ : Hid (∀ cz, cz = cmp (zs[j]).2 (zs[i]).2 → (¬ cz < 0 → (false = true ↔ CaP most cmp good zs))) := fun cz e e2 => by
       constructor
       ·intro h
        cases h
       ·rintro ⟨_, _, h⟩
        have h3 := h j (by omega)
        simp only [← hj] at h3
        rw [← e] at h3
        exact absurd h3 e2
      obtain ⟨cz, hcz⟩ : ∃ cz, cz = cmp (zs[j]).2 (zs[i]).2 := ⟨_, rfl⟩
      have HCZ2 : Hid (¬ cz < 0 → (false = true ↔ CaP most cmp good zs)) := HCZ.out cz hcz
      have HEC : Hid (cz = cmp (zs[j]).2 (zs[i]).2) := hcz
      rw [← hcz] at hCm
      have HJ : Hid (i = j + 1) := hj
      clear HCZ hcz hcl2 hz2 hj hi0
      refine rh (fun W => Bw w W ∧ Bk W gx #[v0, v1, v2, v3, v4]) ?_
      have hS : Bw w w3.drew ∧ Bk w3.drew gx #[v0, v1, v2, v3, v4] := ⟨(nxt HS.out b3).drew, ⟨_, ⟨k3.h⟩⟩⟩
      clear HS b3 k3 s3
      generalize w3.drew = wv at *
      refine tks [0, 1, 2, 3, 4, 5, 6, 7, 8, 9] [.int .i64 i, .bool true, .bool true, .func (.func f) #[] #[], .slice (some ⟨b, o, none⟩) n c, .int .i64 i, .int .i64 j, .pointer (some ⟨b, o + j * 5, none⟩), .agg #[u0, u1, u2, u3, u4], .agg #[v0, v1, v2, v3, v4]] 9 ?_ hS ?_
      ·simp only [tkY, tkf]
       refine ⟨.yes ?_, .yes ?_, .yes ?_, .yes ?_, .yes ?_, .yes ?_, .yes ?_, .yes ?_, .yes ?_, .yes ?_, trivial⟩
       all_goals
        intro W' hW'
        obtain ⟨c0, c1, c2, c3, c4⟩ := HC2.out _ hW'.1
        have := hW'.2.ce 0
        have := hW'.2.ce 1
        have := hW'.2.ce 2
        have := hW'.2.ce 3
        have := hW'.2.ce 4
        go_simp
        all_goals first | omega | (rw [IntKind.wrap_i64]; omega)
      simp only [tkA, tkf]
      refine ak 10 fun K hK => ?_
      go_simp
      refine (hCm _).mono ?_
      rintro e w4 ⟨rfl, b4⟩
      have hS4 : Bw w w4 ∧ Bk w4 gx #[v0, v1, v2, v3, v4] := ⟨nxt hS.1 b4, hS.2.on b4⟩
      show K _ _
      refine hK _ _ hS4 ?_
      clear hK K hS b4 hCm
      try simp only [tkf]
      by_cases hcz : cz < 0
      ·have hcf : decide (0 ≤ cz) = false := by simp; omega
       have hcf2 : ¬ cz ≥ 0 := by omega
       refine tks [11, 12, 13, 14, 15] [.bool false, .bool false, .bool false, .func (.func gg) #[] lb, .agg #[v0, v1, v2, v3, v4]] 3 ?_ hS4 ?_
       ·simp only [tkY, tkf]
        refine ⟨.yes ?_, .yes ?_, .yes ?_, .yes ?_, .yes ?_, trivial⟩
        all_goals
         intro W' hW'
         have := hW'.2.ce 0
         have := hW'.2.ce 1
         have := hW'.2.ce 2
         have := hW'.2.ce 3
         have := hW'.2.ce 4
         go_simp
         all_goals first | omega | (rw [IntKind.wrap_i64]; omega)
       simp only [tkA, tkf]
       refine ak 16 fun K hK => ?_
       go_simp
       refine (hGm _ hS4.1).mono ?_
       rintro e w5 ⟨rfl, b5⟩
       have hS5 : Bw w w5 ∧ Bk w5 gx #[v0, v1, v2, v3, v4] := ⟨nxt hS4.1 b5, hS4.2.on b5⟩
       show K _ _
       refine hK _ _ hS5 ?_
       clear hK K hS4 b5
       try simp only [tkf]
       refine tks [17, 18] [.bool (!gb), .bool (!gb)] 0 ?_ hS5 ?_
       ·simp only [tkY, tkf]
        refine ⟨.yes ?_, .yes ?_, trivial⟩
        all_goals
         intro W' hW'
         go_simp
         all_goals first | omega | (rw [IntKind.wrap_i64]; omega)
       simp only [tkA, tkf]
       refine ad ?_
       have HS5 : Hid (Bw w w5) := hS5.1
       clear hS5
       cases gb with
       | true =>
        have HK1 : Hid (CaK cmp good zs (i + 1)) := HK.out.next hmz (by rw [← HEB.out]) (fun h0 => ⟨j, HJ.out, by rw [← HEC.out]; exact hcz⟩)
        go_wp2_with fail
        go_roundg (n - (i + 1))
        case measure => omega
        case rel => exact ⟨i + 1, by omega, by omega, by go_num, HK1.out, HS5.out⟩
       | false =>
        have HK1 : Hid (false = true ↔ CaP most cmp good zs) := HGB2.out rfl
        go_wp2_with fail
        go_ret
        exact ⟨car_mk HK1.out, HS5.out⟩
      ·have hcf : decide (0 ≤ cz) = true := by simp; omega
       have hcf2 : cz ≥ 0 := by omega
       have HK1 : Hid (false = true ↔ CaP most cmp good zs) := HCZ2.out hcz
       refine tks [11, 12, 13, 14, 15, 16, 17, 18] [.bool true, .bool true, .bool true, undef, undef, undef, undef, .bool true] 0 ?_ hS4 ?_
       ·simp only [tkY, tkf]
        refine ⟨.yes ?_, .yes ?_, .yes ?_, .no, .no, .no, .no, .yes ?_, trivial⟩
        all_goals
         intro W' hW'
         go_simp
         all_goals first | omega | (rw [IntKind.wrap_i64]; omega)
       simp only [tkA, tkf]
       refine ad ?_
       go_wp2_with fail
       go_ret
       exact ⟨car_mk HK1.out, hS4.1⟩
    ·have hltz : ¬ (i : Int) < (n : Int) := by omega
     have HK1 : Hid (CaP most cmp good zs) := by
      refine ⟨HM.out, fun j hj => HK.out.1 j hj (by rw [NI.out] at hj; omega), fun j hj => ?_⟩
      exact HK.out.2 j hj (by rw [NI.out] at hj; omega)
     go_wp2_with fail
     go_ret
     exact ⟨car_mk ⟨fun _ => HK1.out, fun _ => rfl⟩, HS.out⟩
theorem e64' : ∀ args w, (callFunc 64 args).run Tryz.prog w = .ok (.enter 64 args) w := fun args w => by go_simp
theorem e66' : ∀ args w, (callFunc 66 args).run Tryz.prog w = .ok (.enter 66 args) w := fun args w => by go_simp
theorem e67' : ∀ args w, (callFunc 67 args).run Tryz.prog w = .ok (.enter 67 args) w := fun args w => by go_simp
theorem e70' : ∀ args w, (callFunc 70 args).run Tryz.prog w = .ok (.enter 70 args) w := fun args w => by go_simp
theorem e71' : ∀ args w, (callFunc 71 args).run Tryz.prog w = .ok (.enter 71 args) w := fun args w => by go_simp
theorem e75' : ∀ args w, (callFunc 75 args).run Tryz.prog w = .ok (.enter 75 args) w := fun args w => by go_simp
theorem e76' : ∀ args w, (callFunc 76 args).run Tryz.prog w = .ok (.enter 76 args) w := fun args w => by go_simp
theorem e79' : ∀ args w, (callFunc 79 args).run Tryz.prog w = .ok (.enter 79 args) w := fun args w => by go_simp
theorem e80' : ∀ args w, (callFunc 80 args).run Tryz.prog w = .ok (.enter 80 args) w := fun args w => by go_simp
theorem canQs (w : World) (hv : To.Vars w) (v : Value) (l : List Que) (h : RdL 7 (QuR (RdQ w)) w v l) (hn : l.length ≤ 9223372036854775806) (hs : ∀ q ∈ l, lenQ q ≤ 1000000) :
  Calls Tryz.prog 62 #[v, .int .i64 16, .func (.func 63) #[] #[], .func (.func 64) #[] #[]] w fun e w' => e = .returned (.bool (canL 16 oQ goodQ l)) ∧ Bw w w' := by
 obtain ⟨zs, rfl, hz⟩ := h
 obtain ⟨a, cc, rfl⟩ := hz.len
 rw [List.length_map] at hn
 refine (canQ w a zs.length cc zs _ hz rfl hn 16 63 e63 64 #[] e64' oQ (fun W z z' hm hm' => cQ W (hz.2 z hm).2 (hz.2 z' hm').2) (goodQ) (fun W z bw hm => good_any W (hv.below bw) _ z.2 (RdQ.on (hz.2 z hm).2 bw) (hs _ (List.mem_map.2 ⟨z, hm, rfl⟩)))).mono ?_
 rintro e w' ⟨h1, h2⟩
 exact ⟨car_of h1, h2⟩
theorem canBs (w : World) (hv : To.Vars w) (c : Cor) (qv bv sv kv cv : Value) (g : Nat) (kg : Blk w g #[.int .i64 c.now, qv, bv, sv, kv, cv] 30) (hq : RdL 7 (QuR (RdQ w)) w qv c.queues) (hr : risB oQ c.queues = true) (hb : c.queues.length ≤ 1000000) (v : Value) (l : List Bnd) (h : RdL 2 BnR w v l) (hn : l.length ≤ 9223372036854775806) :
  Calls Tryz.prog 65 #[v, .int .i64 64, .func (.func 66) #[] #[], .func (.func 67) #[] #[.pointer (some ⟨g, 0, none⟩)]] w fun e w' => e = .returned (.bool (canL 64 oB (bndB c.queues) l)) ∧ Bw w w' := by
 obtain ⟨zs, rfl, hz⟩ := h
 obtain ⟨a, cc, rfl⟩ := hz.len
 rw [List.length_map] at hn
 refine (canP2 (.inl rfl) w a zs.length cc zs _ hz rfl hn 64 66 e66' 67 #[.pointer (some ⟨g, 0, none⟩)] e67' oB (fun W z z' hm hm' => cB W (hz.2 z hm).2 (hz.2 z' hm').2) ((bndB c.queues)) (fun W z bw hm => by
  have e1 := (hz.2 z hm).2
  unfold BnR at e1
  rw [e1]
  exact good1_any W (hv.below bw) c qv bv sv kv cv g (kg.on bw) (rdq_on hq bw) hr hb z.2)).mono ?_
 rintro e w' ⟨h1, h2⟩
 exact ⟨car_of h1, h2⟩
theorem canSs (w : World) (c : Cor) (qv bv sv kv cv : Value) (g : Nat) (kg : Blk w g #[.int .i64 c.now, qv, bv, sv, kv, cv] 30) (hq : RdL 7 (QuR (RdQ w)) w qv c.queues) (hr : risB oQ c.queues = true) (hb : c.queues.length ≤ 1000000) (v : Value) (l : List Sbs) (h : RdL 5 SbR w v l) (hn : l.length ≤ 9223372036854775806) :
  Calls Tryz.prog 69 #[v, .int .i64 32, .func (.func 70) #[] #[], .func (.func 71) #[] #[.pointer (some ⟨g, 0, none⟩)]] w fun e w' => e = .returned (.bool (canL 32 oS (sbsB c.queues) l)) ∧ Bw w w' := by
 obtain ⟨zs, rfl, hz⟩ := h
 obtain ⟨a, cc, rfl⟩ := hz.len
 rw [List.length_map] at hn
 refine (canP5 (.inl rfl) w a zs.length cc zs _ hz rfl hn 32 70 e70' 71 #[.pointer (some ⟨g, 0, none⟩)] e71' oS (fun W z z' hm hm' => cS W (hz.2 z hm).2 (hz.2 z' hm').2) ((sbsB c.queues)) (fun W z bw hm => by
  have e1 := (hz.2 z hm).2
  unfold SbR at e1
  rw [e1]
  exact good2_any W c qv bv sv kv cv g (kg.on bw) (rdq_on hq bw) hr hb z.2)).mono ?_
 rintro e w' ⟨h1, h2⟩
 exact ⟨car_of h1, h2⟩
theorem canMs (w : World) (hv : To.Vars w) (v : Value) (l : List Msg) (h : RdL 5 (MsR (RdP w)) w v l) (hn : l.length ≤ 9223372036854775806) :
  Calls Tryz.prog 74 #[v, .int .i64 16, .func (.func 75) #[] #[], .func (.func 76) #[] #[]] w fun e w' => e = .returned (.bool (canL 16 oM kepB l)) ∧ Bw w w' := by
 obtain ⟨zs, rfl, hz⟩ := h
 obtain ⟨a, cc, rfl⟩ := hz.len
 rw [List.length_map] at hn
 refine (canP5 (.inr rfl) w a zs.length cc zs _ hz rfl hn 16 75 e75' 76 #[] e76' oM (fun W z z' hm hm' => cM W (hz.2 z hm).2 (hz.2 z' hm').2) (kepB) (fun W z bw hm => by
  obtain ⟨pv, e1, h1⟩ := (hz.2 z hm).2
  rw [e1]
  exact good3_any W (hv.below bw) z.2 pv (h1.on bw))).mono ?_
 rintro e w' ⟨h1, h2⟩
 exact ⟨car_of h1, h2⟩
theorem canCs (w : World) (v : Value) (l : List Cli) (h : RdL 2 (ClR (RdNu w)) w v l) (hn : l.length ≤ 9223372036854775806) (hs : ∀ q ∈ l, q.packets.length ≤ 9223372036854775806) :
  Calls Tryz.prog 78 #[v, .int .i64 16, .func (.func 79) #[] #[], .func (.func 80) #[] #[]] w fun e w' => e = .returned (.bool (canL 16 oC cliB l)) ∧ Bw w w' := by
 obtain ⟨zs, rfl, hz⟩ := h
 obtain ⟨a, cc, rfl⟩ := hz.len
 rw [List.length_map] at hn
 refine (canP2 (.inr rfl) w a zs.length cc zs _ hz rfl hn 16 79 e79' 80 #[] e80' oC (fun W z z' hm hm' => cC W (hz.2 z hm).2 (hz.2 z' hm').2) (cliB) (fun W z bw hm => by
  obtain ⟨pv, e1, h1⟩ := (hz.2 z hm).2
  rw [e1]
  exact goodCl_any W z.2 pv (h1.on bw) (hs _ (List.mem_map.2 ⟨z, hm, rfl⟩)))).mono ?_
 rintro e w' ⟨h1, h2⟩
 exact ⟨car_of h1, h2⟩
structure SmC (c : Cor) : Prop where
 q : c.queues.length ≤ 9223372036854775806
 b : c.binds.length ≤ 9223372036854775806
 s : c.subs.length ≤ 9223372036854775806
 k : c.kept.length ≤ 9223372036854775806
 ci : c.clients.length ≤ 9223372036854775806
 ql : ∀ q ∈ c.queues, lenQ q ≤ 1000000
 cl : ∀ q ∈ c.clients, q.packets.length ≤ 9223372036854775806
theorem goodCore_any (w : World) (hv : To.Vars w) (v : Value) (c : Cor) (h : RdC w v c) (hs : SmC c) :
  Calls Tryz.prog 31 #[v] w fun e w' => e = .returned (.bool (goodC c)) ∧ Bw w w' := by
 obtain ⟨qv, bv, sv, kv, cv, rfl, h⟩ := h
 have b0 := (Below.refl w.heap.size w).alloc (Nat.le_refl _) (.cells #[.int .i64 c.now, qv, bv, sv, kv, cv] 30)
 have kN := Blk.new w #[.int .i64 c.now, qv, bv, sv, kv, cv] 30
 have h0 := h.on b0
 have hv0 := hv.below b0
 have HNm := isNum_any (w.alloc (.cells #[.int .i64 c.now, qv, bv, sv, kv, cv] 30)) c.now
 have HQ := canQs (w.alloc (.cells #[.int .i64 c.now, qv, bv, sv, kv, cv] 30)) hv0 qv c.queues h0.q hs.q hs.ql
 have HB : canL 16 oQ goodQ c.queues = true → ∀ W, Bw w W → Blk W w.heap.size #[.int .i64 c.now, qv, bv, sv, kv, cv] 30 → Calls Tryz.prog 65 #[bv, .int .i64 64, .func (.func 66) #[] #[], .func (.func 67) #[] #[.pointer (some ⟨w.heap.size, 0, none⟩)]] W fun e w' => e = .returned (.bool (canL 64 oB (bndB c.queues) c.binds)) ∧ Bw W w' := fun hc W bw kw => by
  simp only [canL, Bool.and_eq_true, decide_eq_true_eq] at hc
  exact canBs W (hv.below bw) c qv bv sv kv cv w.heap.size kw (h.on bw).q hc.2 (by omega) bv c.binds (h.on bw).b hs.b
 have HS : canL 16 oQ goodQ c.queues = true → ∀ W, Bw w W → Blk W w.heap.size #[.int .i64 c.now, qv, bv, sv, kv, cv] 30 → Calls Tryz.prog 69 #[sv, .int .i64 32, .func (.func 70) #[] #[], .func (.func 71) #[] #[.pointer (some ⟨w.heap.size, 0, none⟩)]] W fun e w' => e = .returned (.bool (canL 32 oS (sbsB c.queues) c.subs)) ∧ Bw W w' := fun hc W bw kw => by
  simp only [canL, Bool.and_eq_true, decide_eq_true_eq] at hc
  exact canSs W c qv bv sv kv cv w.heap.size kw (h.on bw).q hc.2 (by omega) sv c.subs (h.on bw).s hs.s
 have HK : ∀ W, Bw w W → Calls Tryz.prog 74 #[kv, .int .i64 16, .func (.func 75) #[] #[], .func (.func 76) #[] #[]] W fun e w' => e = .returned (.bool (canL 16 oM kepB c.kept)) ∧ Bw W w' := fun W bw => canMs W (hv.below bw) kv c.kept (h.on bw).k hs.k
 have HC : ∀ W, Bw w W → Calls Tryz.prog 78 #[cv, .int .i64 16, .func (.func 79) #[] #[], .func (.func 80) #[] #[]] W fun e w' => e = .returned (.bool (canL 16 oC cliB c.clients)) ∧ Bw W w' := fun W bw => canCs W cv c.clients (h.on bw).c hs.ci hs.cl
 unfold goodC corV
 generalize canL 16 oQ goodQ c.queues = r1 at *
 generalize canL 64 oB (bndB c.queues) c.binds = r2 at *
 generalize canL 32 oS (sbsB c.queues) c.subs = r3 at *
 generalize canL 16 oM kepB c.kept = r4 at *
 generalize canL 16 oC cliB c.clients = r5 at *
 generalize numB c.now = r0 at *
 clear h h0 hv hv0 hs
 go_enter Tryz.func31, Tryz.ntmps31
 go_upto_region 1 with fail
 generalize w.alloc (.cells #[.int .i64 c.now, qv, bv, sv, kv, cv] 30) = w1 at *
 have HBX : Hid (Bw w w1) := b0
 clear b0
 obtain ⟨d0, d1, d2, d3, d4, d5⟩ := kN.c6
 go_wp2_with fail
 refine HNm.mono ?_
 rintro e w2 ⟨rfl, h2⟩
 rw [h2]
 clear HNm h2 w2
 cases r0 with
 | false =>
  go_wp2_with fail
  go_ret
  exact ⟨ret_b (by simp), HBX.out⟩
 | true =>
  go_wp2_with fail
  refine HQ.mono ?_
  rintro e w2 ⟨rfl, b2⟩
  have B2 : Hid (Bw w w2) := nxt HBX.out b2
  have k2 := kN.on b2
  obtain ⟨p0, p1, p2, p3, p4, p5⟩ := k2.c6
  clear HQ HBX b2 kN d0 d1 d2 d3 d4 d5
  cases r1 with
  | false =>
   go_wp2_with fail
   go_ret
   exact ⟨ret_b (by simp), B2.out⟩
  | true =>
   have HB2 := HB (by simp) w2 B2.out k2
   go_wp2_with fail
   refine HB2.mono ?_
   rintro e w3 ⟨rfl, b3⟩
   have B3 : Hid (Bw w w3) := nxt B2.out b3
   have k3 := k2.on b3
   clear HB HB2 B2 b3 k2 p0 p1 p2 p3 p4 p5
   obtain ⟨p0, p1, p2, p3, p4, p5⟩ := k3.c6
   cases r2 with
   | false =>
    go_wp2_with fail
    go_ret
    exact ⟨ret_b (by simp), B3.out⟩
   | true =>
    have HS2 := HS (by simp) w3 B3.out k3
    go_wp2_with fail
    refine HS2.mono ?_
    rintro e w4 ⟨rfl, b4⟩
    have B4 : Hid (Bw w w4) := nxt B3.out b4
    have k4 := k3.on b4
    clear HS HS2 B3 b4 k3 p0 p1 p2 p3 p4 p5
    obtain ⟨p0, p1, p2, p3, p4, p5⟩ := k4.c6
    cases r3 with
    | false =>
     go_wp2_with fail
     go_ret
     exact ⟨ret_b (by simp), B4.out⟩
    | true =>
     have HK2 := HK w4 B4.out
     go_wp2_with fail
     refine HK2.mono ?_
     rintro e w5 ⟨rfl, b5⟩
     have B5 : Hid (Bw w w5) := nxt B4.out b5
     have k5 := k4.on b5
     clear HK HK2 B4 b5 k4 p0 p1 p2 p3 p4 p5
     obtain ⟨p0, p1, p2, p3, p4, p5⟩ := k5.c6
     cases r4 with
     | false =>
      go_wp2_with fail
      go_ret
      exact ⟨ret_b (by simp), B5.out⟩
     | true =>
      have HC2 := HC w5 B5.out
      go_wp2_with fail
      refine HC2.mono ?_
      rintro e w6 ⟨rfl, b6⟩
      have B6 : Hid (Bw w w6) := nxt B5.out b6
      clear HC HC2 B5 b6 k5 p0 p1 p2 p3 p4 p5
      go_wp2_with fail
      go_ret
      exact ⟨ret_b (by simp), B6.out⟩
theorem OwnQ.keep {w w' : World} {B : Nat} {v : Value} {q : Que} (h : OwnQ w B v q) (k1 : Kt 131 w w') (k2 : Kt 133 w w') (k3 : Kt 66 w w') : OwnQ w' B v q := by
 obtain ⟨iv, hv, h1, h2, h3⟩ := h
 exact ⟨iv, hv, h1, h2.keep k1 k3, h3.keep k2 k3⟩
theorem OwnQ.low {w : World} {B B' : Nat} {v : Value} {q : Que} (h : OwnQ w B' v q) (hB : B ≤ B') : OwnQ w B v q := by
 obtain ⟨iv, hv, h1, h2, h3⟩ := h
 exact ⟨iv, hv, h1, h2.low hB, h3.low hB⟩
theorem OwnQ.cells {w : World} {B : Nat} {v : Value} {q : Que} (h : OwnQ w B v q) : ∃ ys : List Value, v = .agg ys.toArray ∧ ys.length = 7 ∧ ∀ u ∈ ys, u.oneCell' = true := by
 obtain ⟨iv, hv, rfl, h2, h3⟩ := h
 obtain ⟨a, c, rfl⟩ := h2.rd.len
 obtain ⟨a', c', rfl⟩ := h3.rd.len
 exact ⟨[_, _, _, _, _, _, _], rfl, rfl, by simp [Value.oneCell']⟩
def blC (ys : List Value) : Option Nat := (ys.getD 1 undef).ownBlock
structure OwnC5 (w : World) (B : Nat) (c : Cor) (qv bv sv kv cv : Value) : Prop where
 q : OwnL 82 7 (QuR (OwnQ w B)) w B qv c.queues
 b : OwnL 43 2 BnR w B bv c.binds
 s : OwnL 85 5 SbR w B sv c.subs
 k : OwnL 33 5 (MsR (OwnP w B)) w B kv c.kept
 c : ∃ zs : Zs Cli, zs.map (·.2) = c.clients ∧ OwnZ 88 2 (ClR (OwnNu w B)) w B cv zs ∧ ApT blC w zs
theorem copyQs (w : World) (v : Value) (l : List Que) (h : RdL 7 (QuR (RdQ w)) w v l) (hn : l.length ≤ 90000) (hs : ∀ q ∈ l, Small q) :
  Calls Tryz.prog 81 #[v, .func (.func 82) #[] #[]] w fun e w' => ∃ v', e = .returned v' ∧ OwnL 82 7 (QuR (OwnQ w' w.heap.size)) w' w.heap.size v' l ∧ Bw w w' := by
 obtain ⟨zs, rfl, hz⟩ := h
 rw [List.length_map] at hn
 refine (eachQ w v zs _ hz hn 82 (fun args w => by go_simp) (fun W => QuR (OwnQ W w.heap.size)) (fun W W' ys x h _ hk => OwnQ.keep h (hk _ (by decide)) (hk _ (by decide)) (hk _ (by decide))) (fun W z bw hm => ?_)).mono ?_
 ·refine (copy_any W _ z.2 (RdQ.on (hz.2 z hm).2 bw) (hs _ (List.mem_map.2 ⟨z, hm, rfl⟩))).mono ?_
  rintro e w' ⟨v', rfl, h1, h2⟩
  obtain ⟨ys, rfl, h3⟩ := h1.cells
  exact ⟨⟨ys, rfl, h3, h1.low bw.size⟩, h2⟩
 ·rintro e w' ⟨v', h1, ⟨ys, h2, h3⟩, h4⟩
  exact ⟨v', h1, ⟨ys, h2, h3⟩, h4⟩
theorem copyKs (w : World) (v : Value) (l : List Msg) (h : RdL 5 (MsR (RdP w)) w v l) (hn : l.length ≤ 90000) (hs : ∀ m ∈ l, m.props.length ≤ 2513169434916) :
  Calls Tryz.prog 85 #[v, .func (.func 86) #[] #[]] w fun e w' => ∃ v', e = .returned v' ∧ OwnL 33 5 (MsR (OwnP w' w.heap.size)) w' w.heap.size v' l ∧ Bw w w' := by
 obtain ⟨zs, rfl, hz⟩ := h
 rw [List.length_map] at hn
 refine (eachM w v zs _ hz hn 86 (fun args w => by go_simp) (fun W => MsR (OwnP W w.heap.size)) (fun W W' ys x h _ hk => ?_) (fun W z bw hm => ?_)).mono ?_
 ·obtain ⟨pv, h1, h2⟩ := h
  exact ⟨pv, h1, h2.keep (hk _ (by decide))⟩
 ·obtain ⟨pv, h1, h2⟩ := (hz.2 z hm).2
  rw [h1]
  refine (copyMsg_any W z.2 pv (h2.on bw) (hs _ (List.mem_map.2 ⟨z, hm, rfl⟩))).mono ?_
  rintro e w' ⟨pv', rfl, h3, h4⟩
  obtain ⟨a, c, rfl⟩ := h3.shape
  exact ⟨⟨msgV z.2 _, rfl, ⟨rfl, by simp [msgV, Value.oneCell']⟩, _, rfl, h3.low bw.size⟩, h4⟩
 ·rintro e w' ⟨v', h1, ⟨ys, h2, h3⟩, h4⟩
  exact ⟨v', h1, ⟨ys, h2, h3⟩, h4⟩
theorem copyCs (w : World) (v : Value) (l : List Cli) (h : RdL 2 (ClR (RdNu w)) w v l) (hn : l.length ≤ 90000) (hs : ∀ m ∈ l, m.packets.length ≤ 100000) :
  Calls Tryz.prog 87 #[v, .func (.func 88) #[] #[]] w fun e w' => ∃ v', e = .returned v' ∧ (∃ zs : Zs Cli, zs.map (·.2) = l ∧ OwnZ 88 2 (ClR (OwnNu w' w.heap.size)) w' w.heap.size v' zs ∧ ApT blC w' zs) ∧ Bw w w' := by
 obtain ⟨zs, rfl, hz⟩ := h
 rw [List.length_map] at hn
 refine (eachC2 w v zs _ hz hn 88 (fun args w => by go_simp) blC (fun W => ClR (OwnNu W w.heap.size)) (fun W W' ys x h _ hk => ?_) (fun W z bw hm => ?_)).mono ?_
 ·obtain ⟨pv, h1, h2⟩ := h
  exact ⟨pv, h1, h2.keep (hk _ (by decide))⟩
 ·obtain ⟨pv, h1, h2⟩ := (hz.2 z hm).2
  rw [h1]
  refine (copyClient_any W z.2 pv (h2.on bw) (hs _ (List.mem_map.2 ⟨z, hm, rfl⟩))).mono ?_
  rintro e w' ⟨pv', rfl, h3, h4⟩
  have hbl : ∀ g, pv'.ownBlock = some g → W.heap.size ≤ g ∧ g < w'.heap.size := by
   obtain ⟨zz, _, hzz⟩ := h3
   exact World.ownsRow.lt hzz.1
  obtain ⟨a, c, e⟩ := h3.shape
  exact ⟨⟨[tx z.2.name, pv'], rfl, ⟨rfl, by simp [e, Value.oneCell']⟩, ⟨_, rfl, h3.low bw.size⟩, hbl⟩, h4⟩
 ·rintro e w' ⟨v', h1, ⟨ys, h2, h3⟩, h4⟩
  exact ⟨v', h1, ⟨ys, h2, h3⟩, h4⟩
structure K30 (w w' : World) : Prop where
 kt : ∀ t, t ≠ 30 → Kt t w w'
 size : w.heap.size ≤ w'.heap.size
theorem K30.of_below {w w' : World} (h : Bw w w') : K30 w w' := ⟨fun t _ => .of_below h, h.size⟩
theorem k30_cell {w : World} {g j : Nat} {cs : Array Value} (h : Blk w g cs 30) (u : Value) : K30 w (w.setCell ⟨g, j, none⟩ u) := ⟨fun t ht => kt_setCell h ht u, by simp⟩
theorem k30_row {w : World} {g : Nat} {cs : Array Value} (h : Blk w g cs 30) (cs' : Array Value) : K30 w (w.setRow g cs') := ⟨fun t ht => kt_setRow h ht cs', by simp [World.setRow]⟩
def OQc (w : World) (B : Nat) (v : Value) (l : List Que) : Prop := OwnL 82 7 (QuR (OwnQ w B)) w B v l
def OBc (w : World) (B : Nat) (v : Value) (l : List Bnd) : Prop := OwnL 43 2 BnR w B v l
def OSc (w : World) (B : Nat) (v : Value) (l : List Sbs) : Prop := OwnL 85 5 SbR w B v l
def OKc (w : World) (B : Nat) (v : Value) (l : List Msg) : Prop := OwnL 33 5 (MsR (OwnP w B)) w B v l
def OCc (w : World) (B : Nat) (v : Value) (l : List Cli) : Prop := ∃ zs : Zs Cli, zs.map (·.2) = l ∧ OwnZ 88 2 (ClR (OwnNu w B)) w B v zs ∧ ApT blC w zs
theorem OQc.k {w w' : World} {B : Nat} {v : Value} {l : List Que} (h : OQc w B v l) (k : K30 w w') : OQc w' B v l := by
 obtain ⟨zs, h1, h2⟩ := h
 exact ⟨zs, h1, (h2.keep (k.kt _ (by decide))).imp fun ys x h => OwnQ.keep h (k.kt _ (by decide)) (k.kt _ (by decide)) (k.kt _ (by decide))⟩
theorem OBc.k {w w' : World} {B : Nat} {v : Value} {l : List Bnd} (h : OBc w B v l) (k : K30 w w') : OBc w' B v l := by
 obtain ⟨zs, h1, h2⟩ := h
 exact ⟨zs, h1, h2.keep (k.kt _ (by decide))⟩
theorem OSc.k {w w' : World} {B : Nat} {v : Value} {l : List Sbs} (h : OSc w B v l) (k : K30 w w') : OSc w' B v l := by
 obtain ⟨zs, h1, h2⟩ := h
 exact ⟨zs, h1, h2.keep (k.kt _ (by decide))⟩
theorem OKc.k {w w' : World} {B : Nat} {v : Value} {l : List Msg} (h : OKc w B v l) (k : K30 w w') : OKc w' B v l := by
 obtain ⟨zs, h1, h2⟩ := h
 refine ⟨zs, h1, (h2.keep (k.kt _ (by decide))).imp ?_⟩
 rintro ys x ⟨pv, h3, h4⟩
 exact ⟨pv, h3, h4.keep (k.kt _ (by decide))⟩
theorem OCc.k {w w' : World} {B : Nat} {v : Value} {l : List Cli} (h : OCc w B v l) (k : K30 w w') : OCc w' B v l := by
 obtain ⟨zs, h1, h2, h5⟩ := h
 refine ⟨zs, h1, (h2.keep (k.kt _ (by decide))).imp ?_, h5.on k.size⟩
 rintro ys x ⟨pv, h3, h4⟩
 exact ⟨pv, h3, h4.keep (k.kt _ (by decide))⟩
theorem OwnC5.mk' {w : World} {B : Nat} {c : Cor} {qv bv sv kv cv : Value} (h1 : OQc w B qv c.queues) (h2 : OBc w B bv c.binds) (h3 : OSc w B sv c.subs) (h4 : OKc w B kv c.kept) (h5 : OCc w B cv c.clients) : OwnC5 w B c qv bv sv kv cv := ⟨h1, h2, h3, h4, h5⟩
theorem OwnL.low0 {α : Type} {e k : Nat} {R R' : List Value → α → Prop} {w : World} {B B' : Nat} {v : Value} {l : List α} (h : OwnL e k R w B' v l) (hB : B ≤ B') (hR : ∀ vs x, R vs x → R' vs x) : OwnL e k R' w B v l := by
 obtain ⟨zs, h1, h2⟩ := h
 exact ⟨zs, h1, (h2.low hB).imp hR⟩
theorem OwnL.shape {α : Type} {e k : Nat} {R : List Value → α → Prop} {w : World} {B : Nat} {v : Value} {l : List α} (h : OwnL e k R w B v l) : ∃ a n c, v = .slice a n c := by
 obtain ⟨zs, h1, h2⟩ := h
 obtain ⟨a, c, e⟩ := h2.rd.len
 exact ⟨a, _, c, e⟩
structure SmK (c : Cor) : Prop where
 q : c.queues.length ≤ 90000
 b : c.binds.length ≤ 90000
 s : c.subs.length ≤ 90000
 k : c.kept.length ≤ 90000
 ci : c.clients.length ≤ 90000
 ql : ∀ q ∈ c.queues, Small q
 kl : ∀ m ∈ c.kept, m.props.length ≤ 2513169434916
 cl : ∀ m ∈ c.clients, m.packets.length ≤ 100000
theorem ret30 {fn : Func} {p : Tmp} {tmps : Array Value} {W : World} {g : Nat} {cs : Array Value} {R : Ending → World → Prop} (hf : fn.results = #[.cell p 30]) (h : Blk W g cs 30) (hs : cs.size = 6) (hp : tmps.getD p undef = .pointer (some ⟨g, 0, none⟩)) (hR : R (.returned (.agg cs)) W) :
  bodyPost Tryz.prog fn R .ret { tmps := tmps, defers := [] } W :=
 bodyPost_ret (results_cell_row hf tmps W g 30 cs (0, 0) _ hp h.h Tryz.underlying30 rfl (by rw [hs]; kernel_rfl)) rfl hR
set_option maxHeartbeats 2000000 in
theorem copyC_any (w : World) (v : Value) (c : Cor) (h : RdC w v c) (hs : SmK c) :
  Calls Tryz.prog 32 #[v] w fun e w' => ∃ qv bv sv kv cv, e = .returned (corV c qv bv sv kv cv) ∧ OwnC5 w' w.heap.size c qv bv sv kv cv ∧ Bw w w' := by
 obtain ⟨qv, bv, sv, kv, cv, rfl, h⟩ := h
 have HQ : Hid (∀ W, Bw w W → Calls Tryz.prog 81 #[qv, .func (.func 82) #[] #[]] W fun e w' => ∃ v', e = .returned v' ∧ OQc w' w.heap.size v' c.queues ∧ Bw W w') := fun W bw => (copyQs W qv c.queues (h.on bw).q hs.q hs.ql).mono fun e w' ⟨v', h1, h2, h3⟩ => ⟨v', h1, h2.low0 bw.size (fun _ _ h => OwnQ.low h bw.size), h3⟩
 have HB : Hid (∀ W, Bw w W → Calls Tryz.prog 83 #[bv] W fun e w' => ∃ v', e = .returned v' ∧ OBc w' w.heap.size v' c.binds ∧ Bw W w') := fun W bw => by
  obtain ⟨zs, e, hz⟩ := (h.on bw).b
  exact (copyB W bv zs BnR hz (by have := hs.b; rw [← e, List.length_map] at this; omega)).mono fun e' w' ⟨v', h1, h2, h3⟩ => ⟨v', h1, ⟨zs, e, h2.low bw.size⟩, h3⟩
 have HS : Hid (∀ W, Bw w W → Calls Tryz.prog 84 #[sv] W fun e w' => ∃ v', e = .returned v' ∧ OSc w' w.heap.size v' c.subs ∧ Bw W w') := fun W bw => by
  obtain ⟨zs, e, hz⟩ := (h.on bw).s
  exact (copyS W sv zs SbR hz (by have := hs.s; rw [← e, List.length_map] at this; omega)).mono fun e' w' ⟨v', h1, h2, h3⟩ => ⟨v', h1, ⟨zs, e, h2.low bw.size⟩, h3⟩
 have HK : Hid (∀ W, Bw w W → Calls Tryz.prog 85 #[kv, .func (.func 86) #[] #[]] W fun e w' => ∃ v', e = .returned v' ∧ OKc w' w.heap.size v' c.kept ∧ Bw W w') := fun W bw => (copyKs W kv c.kept (h.on bw).k hs.k hs.kl).mono fun e w' ⟨v', h1, h2, h3⟩ => ⟨v', h1, h2.low0 bw.size (fun _ _ ⟨pv, h4, h5⟩ => ⟨pv, h4, h5.low bw.size⟩), h3⟩
 have HC : Hid (∀ W, Bw w W → Calls Tryz.prog 87 #[cv, .func (.func 88) #[] #[]] W fun e w' => ∃ v', e = .returned v' ∧ OCc w' w.heap.size v' c.clients ∧ Bw W w') := fun W bw => (copyCs W cv c.clients (h.on bw).c hs.ci hs.cl).mono fun e w' ⟨v', h1, ⟨zs, h2, h3, h4⟩, h5⟩ => ⟨v', h1, ⟨zs, h2, (h3.low bw.size).imp (fun _ _ ⟨pv, h6, h7⟩ => ⟨pv, h6, h7.low bw.size⟩), h4⟩, h5⟩
 clear h hs
 have HF : Hid (∀ W q b s k cl, OQc W w.heap.size q c.queues → OBc W w.heap.size b c.binds → OSc W w.heap.size s c.subs → OKc W w.heap.size k c.kept → OCc W w.heap.size cl c.clients → OwnC5 W w.heap.size c q b s k cl) := fun W q b s k cl h1 h2 h3 h4 h5 => .mk' h1 h2 h3 h4 h5
 unfold corV
 generalize c.now = nw at *
 have hb1 : Bw w ((w.alloc (.cells #[.int .i64 nw, qv, bv, sv, kv, cv] 30)).alloc (.cells coZ 30)) := ((Below.refl _ w).alloc (Nat.le_refl _) _).alloc (by simp) _
 have hA := (Blk.new w #[.int .i64 nw, qv, bv, sv, kv, cv] 30).alloc (.cells coZ 30)
 have hC := Blk.new (w.alloc (.cells #[.int .i64 nw, qv, bv, sv, kv, cv] 30)) coZ 30
 rw [World.size_alloc] at hC
 go_enter Tryz.func32, Tryz.ntmps32
 go_upto_region 1 with fail
 generalize (w.alloc (.cells #[.int .i64 nw, qv, bv, sv, kv, cv] 30)).alloc (.cells coZ 30) = w1 at *
 obtain ⟨c0, c1, c2, c3, c4, c5⟩ := hA.c6
 have HP := HQ.out w1 hb1
 go_wp2_with fail
 refine HP.mono ?_
 rintro e W1 ⟨vQ, rfl, owQ, b2⟩
 clear HP c0 c1 c2 c3 c4 c5
 have hA2 := hA.on b2
 have hC2 := hC.on b2
 have hb2 := nxt hb1 b2
 clear hA hC hb1 b2 
 obtain ⟨aQ, nQ, cQ, rfl⟩ := (OwnL.shape owQ)
 obtain ⟨c0, c1, c2, c3, c4, c5⟩ := hA2.c6
 have f0 := hA2.frozen 1
 have hA := hA2.set 1 (.slice aQ nQ cQ)
 have hC := hC2.setO (j := 1) (g' := w.heap.size) (by omega) (.slice aQ nQ cQ)
 have hb1 := hb2.setCell (p := ⟨w.heap.size, 1, none⟩) (Nat.le_refl _) (.slice aQ nQ cQ)
 have owQ3 := owQ.k (k30_cell (j := 1) hA2 (.slice aQ nQ cQ))
 have hA' : Blk (W1.setCell ⟨w.heap.size, 1, none⟩ (.slice aQ nQ cQ)) w.heap.size #[.int .i64 nw, .slice aQ nQ cQ, bv, sv, kv, cv] 30 := by simpa using hA
 clear hA2 hC2 hb2 owQ hA 
 go_upto_region 2 with fail
 clear c0 c1 c2 c3 c4 c5 f0
 generalize W1.setCell ⟨w.heap.size, 1, none⟩ (.slice aQ nQ cQ) = X1 at *
 have hA := hA'
 have owQ := owQ3
 clear hA' owQ3
 obtain ⟨c0, c1, c2, c3, c4, c5⟩ := hA.c6
 have HP := HB.out X1 hb1
 go_wp2_with fail
 refine HP.mono ?_
 rintro e W2 ⟨vB, rfl, owB, b2⟩
 clear HP c0 c1 c2 c3 c4 c5
 have hA2 := hA.on b2
 have hC2 := hC.on b2
 have hb2 := nxt hb1 b2
 have owQ2 := owQ.k (.of_below b2)
 clear hA hC hb1 b2 owQ
 obtain ⟨aB, nB, cB, rfl⟩ := (OwnL.shape owB)
 obtain ⟨c0, c1, c2, c3, c4, c5⟩ := hA2.c6
 have f0 := hA2.frozen 2
 have hA := hA2.set 2 (.slice aB nB cB)
 have hC := hC2.setO (j := 2) (g' := w.heap.size) (by omega) (.slice aB nB cB)
 have hb1 := hb2.setCell (p := ⟨w.heap.size, 2, none⟩) (Nat.le_refl _) (.slice aB nB cB)
 have owQ := owQ2.k (k30_cell (j := 2) hA2 (.slice aB nB cB))
 have owB3 := owB.k (k30_cell (j := 2) hA2 (.slice aB nB cB))
 have hA' : Blk (W2.setCell ⟨w.heap.size, 2, none⟩ (.slice aB nB cB)) w.heap.size #[.int .i64 nw, .slice aQ nQ cQ, .slice aB nB cB, sv, kv, cv] 30 := by simpa using hA
 clear hA2 hC2 hb2 owB hA owQ2
 go_upto_region 3 with fail
 clear c0 c1 c2 c3 c4 c5 f0
 generalize W2.setCell ⟨w.heap.size, 2, none⟩ (.slice aB nB cB) = X2 at *
 have hA := hA'
 have owB := owB3
 clear hA' owB3
 obtain ⟨c0, c1, c2, c3, c4, c5⟩ := hA.c6
 have HP := HS.out X2 hb1
 go_wp2_with fail
 refine HP.mono ?_
 rintro e W3 ⟨vS, rfl, owS, b2⟩
 clear HP c0 c1 c2 c3 c4 c5
 have hA2 := hA.on b2
 have hC2 := hC.on b2
 have hb2 := nxt hb1 b2
 have owQ2 := owQ.k (.of_below b2)
 have owB2 := owB.k (.of_below b2)
 clear hA hC hb1 b2 owQ owB
 obtain ⟨aS, nS, cS, rfl⟩ := (OwnL.shape owS)
 obtain ⟨c0, c1, c2, c3, c4, c5⟩ := hA2.c6
 have f0 := hA2.frozen 3
 have hA := hA2.set 3 (.slice aS nS cS)
 have hC := hC2.setO (j := 3) (g' := w.heap.size) (by omega) (.slice aS nS cS)
 have hb1 := hb2.setCell (p := ⟨w.heap.size, 3, none⟩) (Nat.le_refl _) (.slice aS nS cS)
 have owQ := owQ2.k (k30_cell (j := 3) hA2 (.slice aS nS cS))
 have owB := owB2.k (k30_cell (j := 3) hA2 (.slice aS nS cS))
 have owS3 := owS.k (k30_cell (j := 3) hA2 (.slice aS nS cS))
 have hA' : Blk (W3.setCell ⟨w.heap.size, 3, none⟩ (.slice aS nS cS)) w.heap.size #[.int .i64 nw, .slice aQ nQ cQ, .slice aB nB cB, .slice aS nS cS, kv, cv] 30 := by simpa using hA
 clear hA2 hC2 hb2 owS hA owQ2 owB2
 go_upto_region 4 with fail
 clear c0 c1 c2 c3 c4 c5 f0
 generalize W3.setCell ⟨w.heap.size, 3, none⟩ (.slice aS nS cS) = X3 at *
 have hA := hA'
 have owS := owS3
 clear hA' owS3
 obtain ⟨c0, c1, c2, c3, c4, c5⟩ := hA.c6
 have HP := HK.out X3 hb1
 go_wp2_with fail
 refine HP.mono ?_
 rintro e W4 ⟨vK, rfl, owK, b2⟩
 clear HP c0 c1 c2 c3 c4 c5
 have hA2 := hA.on b2
 have hC2 := hC.on b2
 have hb2 := nxt hb1 b2
 have owQ2 := owQ.k (.of_below b2)
 have owB2 := owB.k (.of_below b2)
 have owS2 := owS.k (.of_below b2)
 clear hA hC hb1 b2 owQ owB owS
 obtain ⟨aK, nK, cK, rfl⟩ := (OwnL.shape owK)
 obtain ⟨c0, c1, c2, c3, c4, c5⟩ := hA2.c6
 have f0 := hA2.frozen 4
 have hA := hA2.set 4 (.slice aK nK cK)
 have hC := hC2.setO (j := 4) (g' := w.heap.size) (by omega) (.slice aK nK cK)
 have hb1 := hb2.setCell (p := ⟨w.heap.size, 4, none⟩) (Nat.le_refl _) (.slice aK nK cK)
 have owQ := owQ2.k (k30_cell (j := 4) hA2 (.slice aK nK cK))
 have owB := owB2.k (k30_cell (j := 4) hA2 (.slice aK nK cK))
 have owS := owS2.k (k30_cell (j := 4) hA2 (.slice aK nK cK))
 have owK3 := owK.k (k30_cell (j := 4) hA2 (.slice aK nK cK))
 have hA' : Blk (W4.setCell ⟨w.heap.size, 4, none⟩ (.slice aK nK cK)) w.heap.size #[.int .i64 nw, .slice aQ nQ cQ, .slice aB nB cB, .slice aS nS cS, .slice aK nK cK, cv] 30 := by simpa using hA
 clear hA2 hC2 hb2 owK hA owQ2 owB2 owS2
 go_upto_region 5 with fail
 clear c0 c1 c2 c3 c4 c5 f0
 generalize W4.setCell ⟨w.heap.size, 4, none⟩ (.slice aK nK cK) = X4 at *
 have hA := hA'
 have owK := owK3
 clear hA' owK3
 obtain ⟨c0, c1, c2, c3, c4, c5⟩ := hA.c6
 have HP := HC.out X4 hb1
 go_wp2_with fail
 refine HP.mono ?_
 rintro e W5 ⟨vC, rfl, owC, b2⟩
 clear HP c0 c1 c2 c3 c4 c5
 have hA2 := hA.on b2
 have hC2 := hC.on b2
 have hb2 := nxt hb1 b2
 have owQ2 := owQ.k (.of_below b2)
 have owB2 := owB.k (.of_below b2)
 have owS2 := owS.k (.of_below b2)
 have owK2 := owK.k (.of_below b2)
 clear hA hC hb1 b2 owQ owB owS owK
 obtain ⟨aC, nC, cC, rfl⟩ := (show ∃ a n c, vC = Value.slice a n c from by obtain ⟨zs, _, h2, _⟩ := owC; obtain ⟨a, c, e⟩ := h2.rd.len; exact ⟨a, _, c, e⟩)
 obtain ⟨c0, c1, c2, c3, c4, c5⟩ := hA2.c6
 have f0 := hA2.frozen 5
 have hA := hA2.set 5 (.slice aC nC cC)
 have hC := hC2.setO (j := 5) (g' := w.heap.size) (by omega) (.slice aC nC cC)
 have hb1 := hb2.setCell (p := ⟨w.heap.size, 5, none⟩) (Nat.le_refl _) (.slice aC nC cC)
 have owQ := owQ2.k (k30_cell (j := 5) hA2 (.slice aC nC cC))
 have owB := owB2.k (k30_cell (j := 5) hA2 (.slice aC nC cC))
 have owS := owS2.k (k30_cell (j := 5) hA2 (.slice aC nC cC))
 have owK := owK2.k (k30_cell (j := 5) hA2 (.slice aC nC cC))
 have owC3 := owC.k (k30_cell (j := 5) hA2 (.slice aC nC cC))
 have hA' : Blk (W5.setCell ⟨w.heap.size, 5, none⟩ (.slice aC nC cC)) w.heap.size #[.int .i64 nw, .slice aQ nQ cQ, .slice aB nB cB, .slice aS nS cS, .slice aK nK cK, .slice aC nC cC] 30 := by simpa using hA
 clear hA2 hC2 hb2 owC hA owQ2 owB2 owS2 owK2
 go_upto_region 6 with fail
 clear c0 c1 c2 c3 c4 c5 f0
 generalize W5.setCell ⟨w.heap.size, 5, none⟩ (.slice aC nC cC) = X5 at *
 have hA := hA'
 have owC := owC3
 clear hA' owC3
 obtain ⟨c0, c1, c2, c3, c4, c5⟩ := hA.c6
 go_wp2_with (refine wpl_store rfl (.tmp 2) (.tmp 23) rfl (w.heap.size + 1) _ rfl rfl hC (by kernel_rfl) rfl (by simp [Value.oneCell']) ?_)
 refine ret30 rfl (hC.row _) rfl rfl ⟨_, _, _, _, _, rfl, HF.out _ _ _ _ _ _ (owQ.k (k30_row hC _)) (owB.k (k30_row hC _)) (owS.k (k30_row hC _)) (owK.k (k30_row hC _)) (owC.k (k30_row hC _)), below_setRow hb1 (by omega) _⟩
end Go.Proofs.YtnpikgakpmkipabGreatDoor
