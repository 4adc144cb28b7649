/- table's writer: part, where the letter is a number's. Conditions: those that each row states. table.payload of one method. Conditions: those that each row states. table.Encode of one method. Conditions: those that each row states. trivetlaw15.wakes. Conditions: those that each row states. trivetref15.Take. Conditions: those that each row states. trivetlaw15.long. Conditions: those that each row states. trivetlaw15.TableTables. Conditions: those that each row states. How arguments that are properties are opened. How an argument of bytes is opened. What is put is read as it (pure). What stands behind an int written in some bytes, and a float in eight, in either order (pure). table's writer: part, where the letter is a text's. Conditions: those that each row states. table's writer: part, where the letter is a table's, and of any letter. Conditions: those that each row states. table's writer: part of any letter. Conditions: those that each row states. table.payload and Encode of any method. Conditions: those that each row states. table.Encode of any method. Conditions: those that each row states. -/
import Derived.Test.YtmaaacaifpgpaaaDoorWs
import Derived.Test.YtmaaacaifpgpaaaDoorTd
import Derived.Test.YtmaaacaifpgpaaaDoorTellsTk
import Derived.Test.YtmaaacaifpgpaaaDoorRows
import Derived.Deep.Slices
import Derived.ProofKit
import Derived.OpenShut
import Derived.ShutString
import Derived.ChangeOld
import Derived.SizedLaws
namespace Go.Proofs.YtmaaacaifpgpaaaDoor
open Go.RowKit Go.Lib
set_option maxRecDepth 100000
set_option linter.unusedSimpArgs false

theorem wid_is (c : Nat) : wid c = 1 ∨ wid c = 2 ∨ wid c = 4 ∨ wid c = 8 := by
  unfold wid
  by_cases h1 : c = 104
  · simp [h1]
  · by_cases h2 : c = 108
    · simp [h2]
    · by_cases h3 : c = 76 <;> simp [h1, h2, h3]
theorem ak2 {P : Program} {md : Region.Mode} {ops : Array Oper} {Q : Exit → Act → World → Prop} {S : World → Prop} (i j : Nat) {o o' : Oper} {fuel : Nat} {listed : Array Bool} {a : Act} {w : World}
    (h : ∀ K : Act → World → Prop, (∀ a' w', S w' → wpAnyH P md ops Q S fuel (listed.setIfInBounds i true) a' w' → K a' w') → o.wp P a w K Q)
    (h' : ∀ K : Act → World → Prop, (∀ a' w', S w' → wpAnyH P md ops Q S fuel (listed.setIfInBounds j true) a' w' → K a' w') → o'.wp P a w K Q) (hr : Region.ready md ops listed = [i, j] := by kernel_rfl) (ho : ops[i]? = some o := by exact rfl) (ho' : ops[j]? = some o' := by exact rfl) (hw : Region.wanted o (yielded ops a.tmps) = true := by rfl) (hw' : Region.wanted o' (yielded ops a.tmps) = true := by rfl) : wpAnyH P md ops Q S (fuel + 1) listed a w :=
  wpAnyH_all hr (by simp) (fun x hx => by
    simp only [List.mem_cons, List.not_mem_nil, or_false] at hx
    rcases hx with rfl | rfl
    · unfold wpOp
      simp only [ho]
      rw [if_pos hw]
      exact .inl (h _ (fun _ _ h1 h2 => ⟨h1, h2⟩))
    · unfold wpOp
      simp only [ho']
      rw [if_pos hw']
      exact .inl (h' _ (fun _ _ h1 h2 => ⟨h1, h2⟩)))
theorem Own.grown {w w' : World} {B : Nat} {v : Value} {l : List UInt8} {row : Option Nat} (h : Own w B v l) (hg : w.grownBy w' row) (hr : ∀ k, row = some k → k < B) : Own w' B v l := by
  obtain ⟨hl, ho⟩ := h
  refine ⟨hl, ?_⟩
  rcases ho with h | ⟨g, cap, cur, hv, hgB, hc, h⟩
  · exact .inl h
  · refine .inr ⟨g, cap, cur, hv, hgB, ?_, h⟩
    rw [hg.block g (Array.getElem?_eq_some_iff.1 hc).1 (fun e => by have := hr g e.symm; omega)]
    exact hc
theorem Own.shape {w : World} {B : Nat} {v : Value} {l : List UInt8} (h : Own w B v l) : ∃ a n c, v = .slice a n c := by
  rcases h.2 with ⟨rfl, _⟩ | ⟨g, cap, cur, rfl, _⟩
  · exact ⟨_, _, _, rfl⟩
  · exact ⟨_, _, _, rfl⟩
theorem fitN_pos {n : Int} {k : Nat} (h : fitN n k = true) : 0 ≤ n := by
  unfold fitN at h
  simp only [Bool.and_eq_true, decide_eq_true_eq] at h
  exact h.1
/-- What part answers where the letter is a number's. -/
def WpN (w w' : World) (b c : Nat) (t p : Value) (out : List UInt8) (ns : List Int) (e : Ending) : Prop :=
  Below b w w' ∧ ((e = .returned (.tuple #[]) ∧ ∃ n rest o' v', ns = n :: rest ∧ fitN n (wid c) = true ∧ Blk w' b (wrA o' v' t p) 90 ∧ Own w' (b + 1) o' (out ++ beN (wid c) n.toNat) ∧ RdN w' b v' rest) ∨
    (e = .panicked (gup 1) ∧ (ns = [] ∨ ∃ n rest, ns = n :: rest ∧ fitN n (wid c) = false)))
set_option maxHeartbeats 4000000 in
theorem wpart_num (w : World) (b c : Nat) (o v t p : Value) (out : List UInt8) (ns : List Int) (h1 : c ≠ 115) (h2 : c ≠ 83) (h3 : c ≠ 84) (hw : Blk w b (wrA o v t p) 90) (ho : Own w (b + 1) o out) (hl : out.length + 8 ≤ 140737488355328) (hv : RdN w b v ns) (hr : ∀ x ∈ ns, x < 9223372036854775808) :
    Calls Tryd.prog 61 #[.pointer (some ⟨b, 0, none⟩), .int .u8 (c : Int)] w fun e w' => WpN w w' b c t p out ns e := by
  obtain ⟨k, hk⟩ : ∃ k, wid c = k := ⟨_, rfl⟩
  have hk1 := wid_is c
  have WD := fun w => width_any w c
  obtain ⟨gu, hg⟩ : ∃ gu, gup 1 = gu := ⟨_, rfl⟩
  have HT : Hid (∀ (w : World) (v : Value) (n : Nat), Own w (b + 1) v out → b + 1 ≤ w.heap.size → Calls Tryd.prog 60 #[v, .int .i64 k, .int .u64 n] w fun e w' => ∃ v', e = .returned v' ∧ Own w' (b + 1) v' (out ++ beN k n) ∧ Bn (b + 1) w w') := fun w v n ho hB => tput_any w (b + 1) v out k n (by rw [← hk]; rcases hk1 with h | h | h | h <;> omega) ho hB hl
  rw [hk] at hk1 WD
  have N : Calls Tryd.prog 80 #[.pointer (some ⟨b, 0, none⟩), .int .i64 (k : Int)] w.drew fun e w' => WnA w.drew w' b k o t p ns e := wnum_any w.drew b k o v t p ns hk1 ⟨hw.h⟩ hv hr
  have b1 : ((c : Int) == 115) = false := by simp; omega
  have b2 : ((c : Int) == 83) = false := by simp; omega
  have b3 : ((c : Int) == 84) = false := by simp; omega
  unfold WnA WnP at N
  rw [hg] at N
  have HF : Hid (∀ w w' ns e, (Below b w w' ∧ ((e = .returned (.tuple #[]) ∧ ∃ n rest o' v', ns = n :: rest ∧ fitN n k = true ∧ Blk w' b (wrA o' v' t p) 90 ∧ Own w' (b + 1) o' (out ++ beN k n.toNat) ∧ RdN w' b v' rest) ∨ (e = .panicked gu ∧ (ns = [] ∨ ∃ n rest, ns = n :: rest ∧ fitN n k = false)))) → WpN w w' b c t p out ns e) := by rw [← hk, ← hg]; exact fun w w' ns e h => h
  clear h1 h2 h3 hk hg
  have hwd : Blk w.drew b (wrA o v t p) 90 := ⟨hw.h⟩
  have hod : Own w.drew (b + 1) o out := ho
  have HW : Hid (Below b w w.drew) := (Below.refl _ _).drew
  have HOD : Hid (Own w.drew (b + 1) o out) := hod
  have LB : Hid (∀ W, w.drew.grownBy W (some b) → Below b w.drew W) := fun W gW => (Below.refl _ _).grown gW (Nat.le_of_lt hwd.lt) (fun k hk => by cases hk; exact Nat.le_refl _)
  have c0 := hwd.cell 0
  simp only [List.getElem?_toArray, List.getElem?_cons_zero, List.getElem?_cons_succ] at c0
  go_enter Tryd.func61, Tryd.ntmps61
  go_wp2_with (first | (go_at_call 79; refine (WD _).mono ?_; rintro e w' ⟨rfl, rfl⟩) | fail)
  refine wp_region_held (S := fun _ => True) hmix ?_
  show wpAnyH _ _ _ _ _ _ _ _ (World.drew _)
  generalize World.drew _ = Wd at *
  refine tks [0, 1, 2, 3, 5, 6, 7] [.pointer (some ⟨b, 0, none⟩), .pointer (some ⟨b, 0, none⟩), .pointer (some ⟨b, 0, none⟩), .pointer (some ⟨b, 0, none⟩), .int .i64 k, .pointer (some ⟨b, 0, none⟩), .int .i64 k] 6 ?_ trivial ?_
  · simp only [tkY, tkf]
    refine ⟨.yes ?_, .yes ?_, .yes ?_, .yes ?_, .yes ?_, .yes ?_, .yes ?_, trivial⟩
    all_goals
      intro W' hW'
      go_simp
  simp only [tkA, tkf]
  refine ak2 4 8 (fun K hK => ?_) (fun K hK => ?_)
  · go_wp2_with fail
    refine hK _ _ trivial ?_
    clear hK K
    refine ak 8 (fun K hK => ?_)
    go_wp2_with (go_at_call 80; refine N.mono ?_; rintro e W (⟨rfl, rfl, rfl⟩ | ⟨n, rest, rfl, gW, sW, (⟨hf, v', rfl, kW, rW⟩ | ⟨hf, rfl⟩)⟩))
    · exact ⟨rfl, HF.out _ _ _ _ ⟨HW.out, .inr ⟨rfl, .inl rfl⟩⟩⟩
    rotate_left
    · exact ⟨rfl, HF.out _ _ _ _ ⟨HW.out.trans (LB.out W gW), .inr ⟨rfl, .inr ⟨_, _, rfl, hf⟩⟩⟩⟩
    obtain ⟨m, rfl⟩ : ∃ m : Nat, n = (m : Int) := ⟨n.toNat, by have := fitN_pos hf; omega⟩
    have HO : Hid (Own W (b + 1) o out) := HOD.out.grown gW (fun k hk => by cases hk; exact Nat.lt_succ_self _)
    have HW2 : Hid _ := HW.out.trans (LB.out W gW)
    refine hK _ _ trivial ?_
    clear hK K
    refine ak 9 (fun K hK => ?_)
    have sz : b + 1 ≤ W.heap.size := by have := kW.lt; omega
    go_wp2_with (go_at_call 60; refine (HT.out W o m HO.out sz).mono ?_; rintro e W3 ⟨o3, rfl, ho3, hb3⟩)
    refine hK _ _ trivial ?_
    clear hK K
    refine ak 10 (fun K hK => ?_)
    go_wp2_with fail
    refine hK _ _ trivial ?_
    clear hK K
    refine ak 11 (fun K hK => ?_)
    go_wp2_with fail
    refine hK _ _ trivial ?_
    clear hK K
    refine ak 12 (fun K hK => ?_)
    have k3 : Blk W3 b (wrA o v' t p) 90 := kW.below hb3.b (Nat.lt_succ_self b)
    have r3 : RdN W3 b v' rest := rW.on (hb3.b.mono (Nat.le_succ b))
    obtain ⟨oa, on, oc, rfl⟩ := Own.shape ho3
    refine opw_set (.tmp 19) (.tmp 17) rfl b 0 _ rfl rfl k3 (by kernel_rfl) rfl rfl (by simp) ?_
    intro W4 k4 g4 s4
    refine hK _ _ trivial ?_
    clear hK K
    refine wpAnyH_done (by kernel_rfl) ?_ _
    go_wp2_with fail
    go_end0
    have l4 : Below b W3 W4 := (Below.refl _ _).grown g4 (Nat.le_of_lt k3.lt) (fun k hk => by cases hk; exact Nat.le_refl _)
    exact HF.out _ _ _ _ ⟨HW2.out.trans (hb3.b.mono (Nat.le_succ b)) |>.trans l4, .inl ⟨rfl, _, rest, _, v', rfl, hf, k4, ho3.grown g4 (fun k hk => by cases hk; exact Nat.lt_succ_self _), r3.on l4⟩⟩
  · go_wp2_with (go_at_call 80; refine N.mono ?_; rintro e W (⟨rfl, rfl, rfl⟩ | ⟨n, rest, rfl, gW, sW, (⟨hf, v', rfl, kW, rW⟩ | ⟨hf, rfl⟩)⟩))
    · exact ⟨rfl, HF.out _ _ _ _ ⟨HW.out, .inr ⟨rfl, .inl rfl⟩⟩⟩
    rotate_left
    · exact ⟨rfl, HF.out _ _ _ _ ⟨HW.out.trans (LB.out W gW), .inr ⟨rfl, .inr ⟨_, _, rfl, hf⟩⟩⟩⟩
    obtain ⟨m, rfl⟩ : ∃ m : Nat, n = (m : Int) := ⟨n.toNat, by have := fitN_pos hf; omega⟩
    have HO : Hid (Own W (b + 1) o out) := HOD.out.grown gW (fun k hk => by cases hk; exact Nat.lt_succ_self _)
    have HW2 : Hid _ := HW.out.trans (LB.out W gW)
    refine hK _ _ trivial ?_
    clear hK K
    have c0 := kW.cell 0
    simp only [List.getElem?_toArray, List.getElem?_cons_zero, List.getElem?_cons_succ] at c0
    refine ak 4 (fun K hK => ?_)
    go_wp2_with fail
    refine hK _ _ trivial ?_
    clear hK K
    refine ak 9 (fun K hK => ?_)
    have sz : b + 1 ≤ W.heap.size := by have := kW.lt; omega
    go_wp2_with (go_at_call 60; refine (HT.out W o m HO.out sz).mono ?_; rintro e W3 ⟨o3, rfl, ho3, hb3⟩)
    refine hK _ _ trivial ?_
    clear hK K
    refine ak 10 (fun K hK => ?_)
    go_wp2_with fail
    refine hK _ _ trivial ?_
    clear hK K
    refine ak 11 (fun K hK => ?_)
    go_wp2_with fail
    refine hK _ _ trivial ?_
    clear hK K
    refine ak 12 (fun K hK => ?_)
    have k3 : Blk W3 b (wrA o v' t p) 90 := kW.below hb3.b (Nat.lt_succ_self b)
    have r3 : RdN W3 b v' rest := rW.on (hb3.b.mono (Nat.le_succ b))
    obtain ⟨oa, on, oc, rfl⟩ := Own.shape ho3
    refine opw_set (.tmp 19) (.tmp 17) rfl b 0 _ rfl rfl k3 (by kernel_rfl) rfl rfl (by simp) ?_
    intro W4 k4 g4 s4
    refine hK _ _ trivial ?_
    clear hK K
    refine wpAnyH_done (by kernel_rfl) ?_ _
    go_wp2_with fail
    go_end0
    have l4 : Below b W3 W4 := (Below.refl _ _).grown g4 (Nat.le_of_lt k3.lt) (fun k hk => by cases hk; exact Nat.le_refl _)
    exact HF.out _ _ _ _ ⟨HW2.out.trans (hb3.b.mono (Nat.le_succ b)) |>.trans l4, .inl ⟨rfl, _, rest, _, v', rfl, hf, k4, ho3.grown g4 (fun k hk => by cases hk; exact Nat.lt_succ_self _), r3.on l4⟩⟩
end Go.Proofs.YtmaaacaifpgpaaaDoor

namespace Go.Proofs.YtmaaacaifpgpaaaDoor
open Go.RowKit Go.Lib
set_option maxRecDepth 100000
set_option linter.unusedSimpArgs false

theorem part_step (w : World) (b c : Nat) (o v t p : Value) (out : List UInt8) (n : Int) (rest : List Int) (h1 : c ≠ 115) (h2 : c ≠ 83) (h3 : c ≠ 84) (hf : fitN n (wid c) = true) (hw : Blk w b (wrA o v t p) 90) (ho : Own w (b + 1) o out) (hl : out.length + 8 ≤ 140737488355328) (hv : RdN w b v (n :: rest)) (hr : ∀ x ∈ n :: rest, x < 9223372036854775808) :
    Calls Tryd.prog 61 #[.pointer (some ⟨b, 0, none⟩), .int .u8 (c : Int)] w fun e w' => e = .returned (.tuple #[]) ∧ ∃ o' v', Blk w' b (wrA o' v' t p) 90 ∧ Own w' (b + 1) o' (out ++ beN (wid c) n.toNat) ∧ RdN w' b v' rest ∧ Below b w w' := by
  refine (wpart_num w b c o v t p out (n :: rest) h1 h2 h3 hw ho hl hv hr).mono ?_
  rintro e w' ⟨hb, ⟨rfl, n', rest', o', v', he, _, k, ho', rv⟩ | ⟨_, h | ⟨n', rest', he, hf'⟩⟩⟩
  · obtain ⟨rfl, rfl⟩ := List.cons.inj he
    exact ⟨rfl, o', v', k, ho', rv, hb⟩
  · exact absurd h (by simp)
  · obtain ⟨rfl, rfl⟩ := List.cons.inj he
    rw [hf] at hf'
    cases hf'
def outj : Nat → List UInt8
  | 0 => [0, 60, 0, 80]
  | 1 => [0, 60, 0, 80, 0, 0, 0, 0, 0, 0, 0, 5]
  | _ => [0, 60, 0, 80, 0, 0, 0, 0, 0, 0, 0, 5, 0]
abbrev mA (g : Nat) : Array Value := #[.int .i64 60, .int .i64 80, .slice (some ⟨g, 0, none⟩) 2 2, .slice none 0 0, .slice none 0 0]
theorem fl_is : formL 60 80 mL = ([76, 98], true) := by decide
set_option maxHeartbeats 4000000 in
theorem payload_w (w : World) (g : Nat) (hv : Mv w) (hg : g < w.heap.size) (h0 : w.cell? ⟨g, 0, none⟩ = some (.int .i64 5)) (h1 : w.cell? ⟨g, 1, none⟩ = some (.int .i64 0)) :
    Calls Tryd.prog 35 #[.agg (mA g)] w fun e w' => ∃ v, e = .returned v ∧ Own w' w.heap.size v [0, 60, 0, 80, 0, 0, 0, 0, 0, 0, 0, 5, 0] ∧ Below w.heap.size w w' := by
  obtain ⟨a, ha⟩ : ∃ a, w.heap.size = a := ⟨_, rfl⟩
  have F : ∀ w : World, Mv w → Calls Tryd.prog 59 #[.int .i64 60, .int .i64 80] w fun e w' => e = .returned (.tuple #[str [76, 98], .bool true]) ∧ Below w.heap.size w w' := fun w hv => by
    have := form_any w 60 80 hv
    rw [fl_is] at this
    exact this
  obtain ⟨W1, hW1⟩ : ∃ W1, w.alloc (Obj.cells (mA g) 36) = W1 := ⟨_, rfl⟩
  have B1 : Below a w W1 := by rw [← hW1, ← ha]; exact below_new w _
  have K1 : Blk W1 a (mA g) 36 := by rw [← hW1, ← ha]; exact Blk.new w _ _
  have M1 : Mv W1 := hv.on (by rw [ha]; exact B1)
  have hga : g < a := by rw [← ha]; exact hg
  have HN : Hid (w.cell? ⟨g, 0, none⟩ = some (.int .i64 5) ∧ w.cell? ⟨g, 1, none⟩ = some (.int .i64 0)) := ⟨h0, h1⟩
  rw [ha]
  clear h0 h1 hv hg
  have c0 := K1.cell 0
  have c1 := K1.cell 1
  simp only [List.getElem?_toArray, List.getElem?_cons_zero, List.getElem?_cons_succ] at c0 c1
  go_enter Tryd.func35, Tryd.ntmps35
  go_upto_region 1 with fail

  clear hW1 ha
  go_wp2_with (go_at_call 59; refine (F _ M1).mono ?_; rintro e W2 ⟨rfl, hb2⟩)
  have K2 : Blk W2 a (mA g) 36 := K1.on hb2
  have B2 : Below a w W2 := B1.trans (hb2.mono (Nat.le_of_lt K1.lt))
  clear c0 c1 K1 B1 M1 hb2 F
  have c0 := K2.cell 0
  have c1 := K2.cell 1
  have c2 := K2.cell 2
  have c3 := K2.cell 3
  have c4 := K2.cell 4
  simp only [List.getElem?_toArray, List.getElem?_cons_zero, List.getElem?_cons_succ] at c0 c1 c2 c3 c4
  obtain ⟨b, hb⟩ : ∃ b, W2.heap.size = b := ⟨_, rfl⟩
  refine (insist_ok _ _).mono ?_
  rintro e w' ⟨rfl, hw'⟩
  rw [hw']
  clear hw' w'
  go_upto_region 4 with fail
  obtain ⟨W3, hW3⟩ : ∃ W3, W2.alloc (Obj.cells #[Value.slice none 0 0, Value.slice (some ⟨g, 0, none⟩) 2 2, Value.slice none 0 0, Value.slice none 0 0] 90) = W3 := ⟨_, rfl⟩
  have hab : a < b := by rw [← hb]; exact K2.lt
  have hb2 : Below b W2 W3 := by rw [← hW3, ← hb]; exact below_new W2 _
  have B3 : Below a w W3 := B2.trans (hb2.mono (Nat.le_of_lt hab))
  have K3 : Blk W3 a (mA g) 36 := K2.below hb2 hab
  have k3 : Blk W3 b (wrA (.slice none 0 0) (.slice (some ⟨g, 0, none⟩) 2 2) (.slice none 0 0) (.slice none 0 0)) 90 := by rw [← hW3, ← hb]; exact Blk.new W2 _ _
  rw [hW3]
  clear hW3 hb hb2 K2 B2 c0 c1 c2 c3 c4
  refine wp_region_held (S := fun W => Blk W a (mA g) 36) hmix ?_
  show wpAnyH _ _ _ _ _ _ _ _ (World.drew _)
  have hS : Blk W3.drew a (mA g) 36 := ⟨K3.h⟩
  have kd : Blk W3.drew b (wrA (.slice none 0 0) (.slice (some ⟨g, 0, none⟩) 2 2) (.slice none 0 0) (.slice none 0 0)) 90 := ⟨k3.h⟩
  have Bd : Below a w W3.drew := B3.drew
  clear K3 k3 B3
  generalize W3.drew = Wd at *
  refine tks [0, 2, 3, 4, 6, 7, 8] [.pointer (some ⟨b, 0, none⟩), .pointer (some ⟨a, 0, none⟩), .int .i64 60, .int .u64 60, .pointer (some ⟨a, 1, none⟩), .int .i64 80, .int .u64 80] 5 ?_ hS ?_
  · simp only [tkY, tkf]
    refine ⟨.yes ?_, .yes ?_, .yes ?_, .yes ?_, .yes ?_, .yes ?_, .yes ?_, trivial⟩
    all_goals
      intro W' hW'
      have c0 := hW'.cell 0
      have c1 := hW'.cell 1
      simp only [List.getElem?_toArray, List.getElem?_cons_zero, List.getElem?_cons_succ] at c0 c1
      go_simp
      try (rw [IntKind.wrap_u64]; rfl)
  simp only [tkA, tkf]
  have d0 := kd.cell 0
  simp only [List.getElem?_toArray, List.getElem?_cons_zero, List.getElem?_cons_succ] at d0
  refine ak 1 (fun K hK => ?_)
  go_wp2_with fail
  refine hK _ _ hS ?_
  clear hK K d0
  refine ak 5 (fun K hK => ?_)
  have sd := kd.lt
  go_wp2_with (go_at_call 60; refine (tput_any Wd (b + 1) _ [] 2 60 (by omega) (Own.nil _ _) sd (by simp)).mono ?_; rintro e W4 ⟨o4, rfl, ho4, hb4⟩)
  have hS4 : Blk W4 a (mA g) 36 := hS.below hb4.b (by omega)
  have k4 := kd.below hb4.b (Nat.lt_succ_self b)
  have B4 : Below a w W4 := Bd.trans (hb4.b.mono (by omega))
  refine hK _ _ hS4 ?_
  clear hK K sd hS kd Bd hb4
  refine ak 9 (fun K hK => ?_)
  have s4 := k4.lt
  go_wp2_with (go_at_call 60; refine (tput_any W4 (b + 1) _ _ 2 80 (by omega) ho4 s4 (by simp [beN_len])).mono ?_; rintro e W5 ⟨o5, rfl, ho5, hb5⟩)
  have hS5 : Blk W5 a (mA g) 36 := hS4.below hb5.b (by omega)
  have k5 := k4.below hb5.b (Nat.lt_succ_self b)
  have B5 : Below a w W5 := B4.trans (hb5.b.mono (by omega))
  refine hK _ _ hS5 ?_
  clear hK K s4 hS4 k4 B4 hb5 ho4
  refine ak 10 (fun K hK => ?_)
  go_wp2_with fail
  refine hK _ _ hS5 ?_
  clear hK K
  refine ak 11 (fun K hK => ?_)
  obtain ⟨oa, on, oc, rfl⟩ := Own.shape ho5
  refine opw_set (.tmp 34) (.tmp 33) rfl b 0 _ rfl rfl k5 (by kernel_rfl) rfl rfl (by simp) ?_
  intro W6 k6 g6 s6
  have k7 : Blk W6 b (wrA (.slice oa on oc) (.slice (some ⟨g, 0, none⟩) 2 2) (.slice none 0 0) (.slice none 0 0)) 90 := k6
  clear k6
  have hS6 : Blk W6 a (mA g) 36 := hS5.grown g6 (by simp; omega)
  have B6 : Below a w W6 := B5.grown g6 (by have := k5.lt; omega) (fun k hk => by cases hk; omega)
  have ho6 : Own W6 (b + 1) _ (outj 0) := ho5.grown g6 (fun k hk => by cases hk; exact Nat.lt_succ_self _)
  have r6 : RdN W6 b (.slice (some ⟨g, 0, none⟩) 2 2) [5, 0] := .inr ⟨g, 0, 2, rfl, by decide, by omega, fun i hi => by
    rw [B6.cell hga]
    match i, hi with
    | 0, _ => exact HN.out.1
    | 1, _ => exact HN.out.2⟩
  refine hK _ _ hS6 ?_
  clear hK K hS5 k5 B5 g6 s6 ho5
  refine wpAnyH_done (by kernel_rfl) ?_ _
  go_wp2_with fail
  clear hS6 HN
  go_loopw [6, 37] (fun _ i wr => ∃ (z : Int) (o v : Value), (z = 0 ∨ z = 1 ∨ z = 2) ∧ i = .int .i64 z ∧ Blk wr b (wrA o v (.slice none 0 0) (.slice none 0 0)) 90 ∧ Own wr (b + 1) o (outj z.toNat) ∧ RdN wr b v (([5, 0] : List Int).drop z.toNat) ∧ Below a w wr) (fun _ i _ => 2 - (RowKit.intOf i).toNat)
  case atStart => exact ⟨0, _, _, .inl rfl, rfl, k7, ho6, r6, B6⟩
  case round =>
    clear k7 ho6 r6 B6
    obtain ⟨z, o, v, hz, rfl, k, ho, rv, hB⟩ := hrel
    rcases hz with rfl | rfl | rfl
    · have P := part_step wr b 76 o v (.slice none 0 0) (.slice none 0 0) (outj 0) 5 [0] (by decide) (by decide) (by decide) (by decide) k ho (by decide) rv (by decide)
      clear k ho rv
      go_wp2_with (go_at_call 61; refine P.mono ?_; rintro e w7 ⟨rfl, o', v', k', ho', rv', hb'⟩)
      clear P
      go_roundw
      case rel => exact ⟨1, o', v', .inr (.inl rfl), rfl, k', ho', rv', hB.trans (hb'.mono (by omega))⟩
      case measure => simp [RowKit.intOf]
    · have P := part_step wr b 98 o v (.slice none 0 0) (.slice none 0 0) (outj 1) 0 [] (by decide) (by decide) (by decide) (by decide) k ho (by decide) rv (by decide)
      clear k ho rv
      go_wp2_with (go_at_call 61; refine P.mono ?_; rintro e w7 ⟨rfl, o', v', k', ho', rv', hb'⟩)
      clear P
      go_roundw
      case rel => exact ⟨2, o', v', .inr (.inr rfl), rfl, k', ho', rv', hB.trans (hb'.mono (by omega))⟩
      case measure => simp [RowKit.intOf]
    · obtain ⟨va, vc, rfl⟩ : ∃ va vc, v = .slice va 0 vc := by
        rcases rv with ⟨⟨a, c, rfl⟩, _⟩ | ⟨_, _, _, rfl, _⟩
        · exact ⟨_, _, rfl⟩
        · exact ⟨_, _, rfl⟩
      have c0 := k.cell 0
      have c1 := k.cell 1
      have c2 := k.cell 2
      have c3 := k.cell 3
      simp only [List.getElem?_toArray, List.getElem?_cons_zero, List.getElem?_cons_succ] at c0 c1 c2 c3
      obtain ⟨oa', on', oc', rfl⟩ := Own.shape ho
      go_wp2_with (go_at_call 49; refine (insist_ok _ _).mono ?_; rintro e w' ⟨rfl, rfl⟩)
      go_ret
      exact ⟨_, rfl, Own.lower ho (by omega), hB⟩
end Go.Proofs.YtmaaacaifpgpaaaDoor

namespace Go.Proofs.YtmaaacaifpgpaaaDoor
open Go.RowKit Go.Lib
set_option maxRecDepth 100000
set_option linter.unusedSimpArgs false

abbrev outW : List UInt8 := [0, 60, 0, 80, 0, 0, 0, 0, 0, 0, 0, 5, 0]
theorem enc1_w (w : World) (a r q g : Nat) (K : Blk w a (mA g) 36) (R : Blk w r #[.slice none 0 0] 23) (E : Blk w q #[.int .i64 0] 26) (hne : q ≠ r) (hv : Mv w) (hg : g < w.heap.size) (h0 : w.cell? ⟨g, 0, none⟩ = some (.int .i64 5)) (h1 : w.cell? ⟨g, 1, none⟩ = some (.int .i64 0)) :
    Calls Tryd.prog 34 #[.pointer (some ⟨a, 0, none⟩), .pointer (some ⟨r, 0, none⟩)] w fun e w' => e = .returned (.tuple #[]) ∧ ∃ v, Blk w' r #[v] 23 ∧ Own w' w.heap.size v outW ∧ Blk w' q #[.int .i64 0] 26 ∧ Below r w w' := by
  obtain ⟨n, hn⟩ : ∃ n, w.heap.size = n := ⟨_, rfl⟩
  have P : Calls Tryd.prog 35 #[.agg (mA g)] w fun e w' => ∃ va vn vc, e = .returned (.slice va vn vc) ∧ Own w' w.heap.size (.slice va vn vc) outW ∧ Below w.heap.size w w' := (payload_w w g hv hg h0 h1).mono fun e w' ⟨v, h1, h2, h3⟩ => by
    obtain ⟨oa, on, oc, rfl⟩ := Own.shape h2
    exact ⟨_, _, _, h1, h2, h3⟩
  have hr := R.lt
  have hq := E.lt
  rw [hn] at P hr hq ⊢
  have c0 := K.cell 0
  have c1 := K.cell 1
  have c2 := K.cell 2
  have c3 := K.cell 3
  have c4 := K.cell 4
  simp only [List.getElem?_toArray, List.getElem?_cons_zero, List.getElem?_cons_succ] at c0 c1 c2 c3 c4
  clear hv hg h0 h1 K
  go_enter Tryd.func34, Tryd.ntmps34
  go_wp2_with (first | (go_at_call 35; refine P.mono ?_; rintro e w1 ⟨va, vn, vc, rfl, ho, hb⟩) | (refine wpl_set rfl (.tmp 1) (.tmp 3) rfl r 0 _ rfl rfl (R.below hb hr) (by kernel_rfl) rfl rfl (by simp) ?_))
  have R1 := R.below hb hr
  have E1 := E.below hb hq
  intro w2 R2 g2 s2
  go_wp2_with fail
  go_end0
  exact ⟨rfl, _, R2, ho.grown g2 (fun k hk => by cases hk; exact hr), E1.grown g2 (by simpa using hne), (hb.mono (Nat.le_of_lt hr)).grown g2 (Nat.le_of_lt R1.lt) (fun k hk => by cases hk; exact Nat.le_refl _)⟩
set_option maxHeartbeats 1000000 in
theorem encode_w (w : World) (g : Nat) (hv : Mv w) (hg : g < w.heap.size) (h0 : w.cell? ⟨g, 0, none⟩ = some (.int .i64 5)) (h1 : w.cell? ⟨g, 1, none⟩ = some (.int .i64 0)) :
    Calls Tryd.prog 17 #[.agg (mA g)] w fun e w' => ∃ v, e = .returned (.tuple #[v, .int .i64 0]) ∧ Own w' w.heap.size v outW ∧ Below w.heap.size w w' := by
  obtain ⟨a, ha⟩ : ∃ a, w.heap.size = a := ⟨_, rfl⟩
  obtain ⟨w3, hw3⟩ : ∃ w3, ((w.alloc (Obj.cells (mA g) 36)).alloc (Obj.cells #[Value.slice none 0 0] 23)) = w3 := ⟨_, rfl⟩
  have hb3 : Below a w w3 := by
    rw [← hw3, ← ha]
    exact (below_new w _).trans ((below_new _ _).mono (by simp))
  have hs3 : w3.heap.size = a + 2 := by rw [← hw3]; simp; omega
  have K3 : Blk w3 a (mA g) 36 := by rw [← hw3, ← ha]; exact (Blk.new w _ _).alloc _
  have R3 : Blk w3 (a + 1) #[.slice none 0 0] 23 := by
    have := Blk.new (w.alloc (Obj.cells (mA g) 36)) #[Value.slice none 0 0] 23
    rw [World.size_alloc, ha, hw3] at this
    exact this
  have hb4 := below_new w3 (.cells #[.int .i64 0] 26)
  have b04 : Below a w (w3.alloc (.cells #[.int .i64 0] 26)) := hb3.trans (hb4.mono (by omega))
  have E4 : Blk (w3.alloc (.cells #[.int .i64 0] 26)) (a + 2) #[.int .i64 0] 26 := by
    have := Blk.new w3 #[Value.int .i64 0] 26
    rw [hs3] at this
    exact this
  have hga : g < a := by omega
  have T := enc1_w (w3.alloc (.cells #[.int .i64 0] 26)) a (a + 1) (a + 2) g (K3.alloc _) (R3.alloc _) E4 (by omega) (hv.on (by rw [ha]; exact b04)) (by simp; omega) (by rw [b04.cell hga]; exact h0) (by rw [b04.cell hga]; exact h1)
  have G := guarded_any 34 (enters_of Tryd.func34 (by kernel_rfl) rfl) #[.pointer (some ⟨a, 0, none⟩), .pointer (some ⟨a + 1, 0, none⟩)] w3
    (fun w2 => Below a w w2 ∧ ∃ v, Blk w2 (a + 1) #[v] 23 ∧ Blk w2 (a + 2) #[.int .i64 0] 26 ∧ Own w2 (a + 3) v outW)
    (fun n w2 => False) (T.mono fun e w2 ⟨h1, v, h2, h3, h4, h5⟩ => ⟨by
      rw [hs3]
      exact ⟨h4.cell 0, h4.frozen 0⟩, .inl ⟨h1, b04.trans (h5.mono (by omega)), v, h2, h4, h3.lower (by simp; omega)⟩⟩)
  have G2 : Calls Tryd.prog 28 #[.func (.func 34) #[] #[.pointer (some ⟨a, 0, none⟩), .pointer (some ⟨a + 1, 0, none⟩)]] w3 fun e w' => ∃ va vn vc, e = .returned (.int .i64 0) ∧ Blk w' (a + 1) #[.slice va vn vc] 23 ∧ Own w' (a + 3) (.slice va vn vc) outW ∧ Below a w w' := by
    refine G.mono ?_
    rintro e w' (⟨rfl, w2, ⟨hbA, v, h2, h4, h3⟩, rfl⟩ | ⟨n, rfl, w2, hF, rfl⟩)
    · rw [hs3]
      have hg : w2.grownBy (w2.setCell ⟨a + 2, 0, none⟩ (.int .i64 0)) (some (a + 2)) := ⟨rfl, rfl, rfl, by simp, fun k hk hne => Below.heap_setCell w2 ⟨a + 2, 0, none⟩ _ k (by intro e; exact hne (by simp [e]))⟩
      obtain ⟨oa, on, oc, rfl⟩ := Own.shape h3
      exact ⟨_, _, _, rfl, h2.grown hg (by simp), h3.grown hg (fun k hk => by cases hk; omega), hbA.grown hg (by have := h2.lt; omega) (fun k hk => by cases hk; omega)⟩
    · exact hF.elim
  clear G T hb4 hb3 K3 R3 b04 E4 hv hg h0 h1 hga
  rw [ha]
  go_enter Tryd.func17, Tryd.ntmps17
  go_wp2_with fail
  refine G2.mono ?_
  rintro e W ⟨va, vn, vc, rfl, kR, hO, hB⟩
  clear G2 hw3
  have k0 := kR.cell 0
  simp only [List.getElem?_toArray, List.getElem?_cons_zero] at k0
  go_wp2_with (refine wpl_set rfl (.tmp 2) (.tmp 6) rfl (a + 1) 0 _ rfl rfl kR (by kernel_rfl) rfl rfl (by simp) ?_)
  intro W2 k2 g2 s2
  have hS2 : Blk W2 (a + 1) #[.slice va vn vc] 23 := k2
  have hB2 : Below a w W2 := hB.grown g2 (by have := kR.lt; omega) (fun k hk => by cases hk; omega)
  have hO2 := hO.grown g2 (fun k hk => by cases hk; omega)
  clear k0
  have k0 := hS2.cell 0
  simp only [List.getElem?_toArray, List.getElem?_cons_zero] at k0
  go_wp2_with fail
  refine bodyPost_ret (v := .tuple #[.slice va vn vc, .int .i64 0]) (by simp [results, Tryd.results17, go_sem, k0]) rfl ?_
  exact ⟨_, rfl, hO2.lower (by omega), hB2⟩
end Go.Proofs.YtmaaacaifpgpaaaDoor

namespace Go.Proofs.YtmaaacaifpgpaaaDoor
open Go.RowKit Go.Lib
set_option maxRecDepth 100000
set_option linter.unusedSimpArgs false

theorem enc_at (w : World) (hv : Mv w) : Calls Tryd.prog 17 #[.agg #[.int .i64 60, .int .i64 80, .slice (some ⟨w.heap.size, 0, none⟩) 2 2, .slice none 0 0, .slice none 0 0]] (w.alloc (.cells #[.int .i64 5, .int .i64 0] 3)) fun e w' => ∃ v, e = .returned (.tuple #[v, .int .i64 0]) ∧ Own w' w.heap.size v outW ∧ Below w.heap.size w w' := by
  have N := Blk.new w #[.int .i64 5, .int .i64 0] 3
  refine (encode_w (w.alloc (.cells #[.int .i64 5, .int .i64 0] 3)) w.heap.size (hv.on (below_new w _)) (by simp) (N.cell 0) (N.cell 1)).mono ?_
  rintro e w' ⟨v, h1, h2, h3⟩
  exact ⟨v, h1, h2.lower (by simp), (below_new w _).trans (h3.mono (by simp))⟩
def pA : Pr := ⟨⟨#[97]⟩, ⟨2, 1, ⟨#[]⟩, 0⟩⟩
theorem pA_tab : tabL [pA] = [0, 0, 0, 4, 1, 97, 116, 1] := by kernel_rfl
theorem pA_valid : validL [pA] = true := by kernel_rfl
theorem put_at (w : World) : Calls Tryd.prog 10 #[.slice none 0 0, .slice (some ⟨w.heap.size, 0, none⟩) 1 1] (w.alloc (.cells #[.string ⟨#[97]⟩, .int .i64 2, .int .i64 1, .string ⟨#[]⟩, .float .f64 0] 51)) fun e w' => ∃ v, e = .returned (.tuple #[v, .int .i64 0]) ∧ Own w' w.heap.size v [0, 0, 0, 4, 1, 97, 116, 1] ∧ Below w.heap.size w w' := by
  have N := Blk.new w #[.string ⟨#[97]⟩, .int .i64 2, .int .i64 1, .string ⟨#[]⟩, .float .f64 0] 51
  refine (put_ok _ (.slice none 0 0) (.slice (some ⟨w.heap.size, 0, none⟩) 1 1) [] [pA] (.inl (Own.nil _ 0).rd) (by simp) (.inr ⟨w.heap.size, 0, 1, rfl, by decide, fun i hi => ?_⟩) pA_valid (by intro q hq; simp at hq; subst hq; decide)).mono ?_
  · obtain rfl : i = 0 := by simpa using hi
    exact ⟨N.cell 0, N.cell 1, N.cell 2, N.cell 3, N.cell 4⟩
  · rintro e w' ⟨v, h1, h2, h3⟩
    rw [pA_tab, List.nil_append] at h2
    exact ⟨v, h1, h2.lower (by simp), (below_new w _).trans (h3.mono (by simp))⟩
set_option maxHeartbeats 2000000 in
theorem wakes_any (w : World) (hv : Mv w) : Calls Tryd.prog 8 #[] w fun e w' => e = .returned (.bool true) ∧ Below w.heap.size w w' := by
  have P := put_at w
  have E := enc_at
  obtain ⟨a, ha⟩ : ∃ a, w.heap.size = a := ⟨_, rfl⟩
  have HV : Hid (Mv w ∧ a ≤ w.heap.size) := ⟨hv, by omega⟩
  rw [ha] at P ⊢
  clear hv
  go_enter Tryd.func8, Tryd.ntmps8
  go_wp2_with (go_at_call 10; refine P.mono ?_; rintro e w2 ⟨v1, rfl, ho1, hb1⟩)
  refine (E w2 (HV.out.1.on (by rw [ha]; exact hb1))).mono ?_
  rintro e w3 ⟨v2, rfl, ho2, hb2⟩
  have q1 : (convert 23 9 v1).run Tryd.prog w3 = .ok (.string ⟨#[0, 0, 0, 4, 1, 97, 116, 1]⟩) w3 := conv_any (ho1.on hb2).rd
  have q2 : (convert 23 9 v2).run Tryd.prog w3 = .ok (.string ⟨#[0, 60, 0, 80, 0, 0, 0, 0, 0, 0, 0, 5, 0]⟩) w3 := conv_any ho2.rd
  have HB : Hid (Below a w w3) := hb1.trans (hb2.mono (Nat.le_trans HV.out.2 (by have := hb1.size; omega)))
  clear P E HV ho1 ho2 hb1 hb2 ha
  go_wp2_with fail
  go_ret
  exact ⟨rfl, HB.out⟩
end Go.Proofs.YtmaaacaifpgpaaaDoor

namespace Go.Proofs.YtmaaacaifpgpaaaDoor
open Go.RowKit Go.Lib
set_option maxRecDepth 100000
set_option linter.unusedSimpArgs false

theorem longR_yes {s : List UInt8} (h : 4 ≤ s.length) : longR (s, false) = takeR (s.drop 4, false) (numL (s.take 4)) := by
  unfold longR
  rw [numR_yes h]
theorem longR_no {s : List UInt8} (h : s.length < 4) : longR (s, false) = ([], (s, true)) := by
  unfold longR
  rw [numR_no h]
  exact takeR_bad s 0
theorem rtab_some {s r : List UInt8} {L : List Pr} (h : ctab s = some (L, r)) : rtab (s, false) = (L, (r, false)) := by
  unfold ctab at h
  split at h
  · cases h
  · rename_i h4
    split at h
    · cases h
    · rename_i t r' hc
      unfold cutP at hc
      split at hc
      · rename_i hn
        injection hc with hc
        obtain ⟨rfl, rfl⟩ := Prod.mk.inj hc
        cases ht : tabO (List.take (numL (s.take 4)) (s.drop 4)) with
        | none => rw [ht] at h; cases h
        | some M =>
          rw [ht] at h
          simp only [Option.map_some, Option.some.injEq, Prod.mk.injEq] at h
          obtain ⟨rfl, rfl⟩ := h
          unfold rtab
          rw [longR_yes (by omega), takeR_yes hn]
          simp only [ht]
      · cases hc
theorem rtab_none {s : List UInt8} (h : ctab s = none) : (rtab (s, false)).2.2 = true := by
  unfold ctab at h
  unfold rtab
  split at h
  · rename_i h4
    rw [longR_no h4]
    cases tabO ([] : List UInt8) <;> rfl
  · rename_i h4
    rw [longR_yes (by omega)]
    split at h
    · rename_i hc
      unfold cutP at hc
      split at hc
      · cases hc
      · rename_i hn
        rw [takeR_no (by omega)]
        cases tabO ([] : List UInt8) <;> rfl
    · rename_i t r' hc
      unfold cutP at hc
      split at hc
      · rename_i hn
        injection hc with hc
        obtain ⟨rfl, rfl⟩ := Prod.mk.inj hc
        rw [takeR_yes hn]
        cases ht : tabO (List.take (numL (s.take 4)) (s.drop 4)) with
        | none => rfl
        | some M => rw [ht] at h; cases h
      · cases hc
set_option maxHeartbeats 2000000 in
theorem rtake_any (w : World) (s : List UInt8) (hs : s.length ≤ 140737488355328) :
    Calls Tryd.prog 13 #[str s] w fun e w' => ∃ v z n, e = .returned (.tuple #[v, .int .i64 z, .int .i64 n]) ∧ TkP w' w.heap.size s v z n ∧ Below w.heap.size w w' := by
  obtain ⟨a, ha⟩ : ∃ a, w.heap.size = a := ⟨_, rfl⟩
  obtain ⟨w1, hw1⟩ : ∃ w1, w.alloc (Obj.cells #[str s, .bool false] 67) = w1 := ⟨_, rfl⟩
  have k1 : Blk w1 a #[str s, .bool false] 67 := by rw [← hw1, ← ha]; exact Blk.new w _ _
  have b1 : Below a w w1 := by rw [← hw1, ← ha]; exact below_new w _
  have T := rtable_any w1 a (s, false) ⟨k1.cell 0, k1.cell 1, k1.frozen 0, k1.frozen 1⟩ k1.lt
  rw [ha]
  go_enter Tryd.func13, Tryd.ntmps13
  go_wp2_with fail
  refine T.mono ?_
  rintro e w2 ⟨v, rfl, ho, hr, hA⟩
  have B2 : Below a w w2 := b1.trans ⟨hA.os, hA.tape, hA.output, hA.size, fun k hk => hA.block k (by have := k1.lt; omega) (by omega)⟩
  obtain ⟨ad, cp, rfl⟩ := ho.rd.shape
  have la : a ≤ w1.heap.size := Nat.le_of_lt k1.lt
  clear T hA b1 k1 hw1 ha
  cases hct : ctab s with
  | none =>
    have hb := rtab_none hct
    have HT : Hid (ctab s = none) := hct
    have HB : Hid (Below a w w2) := B2
    have c1 := hr.c1
    rw [hb] at c1
    clear hct B2 ho hr hb
    go_wp2
    go_ret3
    exact ⟨_, _, _, rfl, .inr ⟨HT.out, rfl, rfl, rfl⟩, HB.out⟩
  | some LR =>
    obtain ⟨L, r⟩ := LR
    have hb := rtab_some hct
    have hl := ctab_left hct
    rw [hb] at ho hr
    rw [hb]
    have HT : Hid (ctab s = some (L, r)) := hct
    have HB : Hid (Below a w w2) := B2
    have HO : Hid (OwnP w2 w1.heap.size (.slice ad L.length cp) L) := ho
    have c0 := hr.c0
    have c1 := hr.c1
    simp only at c0 c1
    have hS : w2.drew.cell? ⟨a, 0, none⟩ = some (str r) := c0
    have e1 : (s.length : Int) - (r.length : Int) = ((s.length - r.length : Nat) : Int) := by omega
    have hlz : (r.length : Int) ≤ (s.length : Int) := by omega
    generalize L.length = n at *
    clear hct B2 ho hr hb
    go_upto_region 5 with fail
    clear c0 c1
    refine wp_region_held (S := fun W => W = w2.drew) hmix ?_
    show wpAnyH _ _ _ _ _ _ _ _ (World.drew _)
    refine tks [0, 1, 2, 3, 4, 5, 6, 7, 8] [.slice ad n cp, str s, .int .i64 s.length, .pointer (some ⟨a, 0, none⟩), .pointer (some ⟨a, 0, none⟩), .pointer (some ⟨a, 0, none⟩), str r, .int .i64 r.length, .int .i64 ((s.length - r.length : Nat) : Int)] 3 ?_ rfl ?_
    · simp only [tkY, tkf]
      refine ⟨.yes ?_, .yes ?_, .yes ?_, .yes ?_, .yes ?_, .yes ?_, .yes ?_, .yes ?_, .yes ?_, trivial⟩
      all_goals
        rintro W' rfl
        go_simp
      all_goals (rw [IntKind.wrap_i64]; omega)
    simp only [tkA, tkf]
    refine ak 9 (fun K hK => ?_)
    go_wp2_with fail
    refine hK _ _ rfl ?_
    clear hK K
    refine ak 10 (fun K hK => ?_)
    go_wp2_with fail
    refine hK _ _ rfl ?_
    clear hK K
    refine ak 11 (fun K hK => ?_)
    go_wp2_with fail
    refine hK _ _ rfl ?_
    clear hK K
    refine wpAnyH_done (by kernel_rfl) ?_ _
    go_wp2_with fail
    go_ret3
    exact ⟨_, _, _, rfl, .inl ⟨L, r, HT.out, rfl, HO.out.low la, rfl⟩, HB.out.drew⟩
end Go.Proofs.YtmaaacaifpgpaaaDoor

namespace Go.Proofs.YtmaaacaifpgpaaaDoor
open Go.RowKit Go.Lib
set_option maxRecDepth 100000
set_option linter.unusedSimpArgs false

/-- What long answers. -/
def LoB (e : Ending) : Prop := ∃ r : Bool, e = .returned (.bool r)
theorem long_some (w : World) (l : List Pr) (b o c : Nat) (h : ∀ i (h : i < l.length), PrAt w b (o + i * 5) l[i]) (h16 : l.length ≤ 9223372036854775806) :
    Calls Tryd.prog 9 #[.slice (some ⟨b, o, none⟩) l.length c] w fun e w' => LoB e ∧ Below w.heap.size w w' := by
  have H : Hid (∀ i (h : i < l.length), PrAt w b (o + i * 5) l[i]) := h
  clear h
  go_enter Tryd.func9, Tryd.ntmps9
  go_wp2_with fail
  go_loopw [3, 8] (fun s i wr => ∃ (k : Nat) (z : Int), k ≤ l.length ∧ i = .int .i64 k ∧ s = .int .i64 z ∧ Below w.heap.size w wr) (fun _ i _ => l.length - (RowKit.intOf i).toNat)
  case atStart => exact ⟨0, 0, by omega, rfl, rfl, Below.refl _ _⟩
  case round =>
    obtain ⟨k, z, hk, rfl, rfl, hbr⟩ := hrel
    have hwr := hbr.size
    by_cases hlt : k < l.length
    · obtain ⟨a0, a1, a2, a3, a4⟩ := (H.out k hlt).on hbr
      obtain ⟨pk, hpk⟩ : ∃ pk, pk = l[k] := ⟨_, rfl⟩
      rw [← hpk] at a0 a1 a2 a3 a4
      clear hpk
      go_wp2
      · go_ret
        exact ⟨⟨_, rfl⟩, hbr.alloc hwr _⟩
      · go_roundw
        case rel => exact ⟨k + 1, _, by omega, by go_num, rfl, hbr.alloc hwr _⟩
        case measure => simp [RowKit.intOf]; omega
    · go_wp2
      go_ret
      exact ⟨⟨_, rfl⟩, hbr⟩
theorem long_nil (w : World) (a : Option Addr) (c : Nat) : Calls Tryd.prog 9 #[.slice a 0 c] w fun e w' => LoB e ∧ Below w.heap.size w w' := by
  go_enter Tryd.func9, Tryd.ntmps9
  go_wp2_with fail
  go_loopw [3, 8] (fun s i wr => i = .int .i64 0 ∧ s = .int .i64 0 ∧ wr = w) (fun _ _ _ => 0)
  case atStart => exact ⟨rfl, rfl, rfl⟩
  case round =>
    obtain ⟨rfl, rfl, rfl⟩ := hrel
    go_wp2
    go_ret
    exact ⟨⟨_, rfl⟩, Below.refl _ _⟩
theorem alllong_any (w : World) (v : Value) (l : List Pr) (h : RdP w v l) (h16 : l.length ≤ 9223372036854775806) : Calls Tryd.prog 9 #[v] w fun e w' => LoB e ∧ Below w.heap.size w w' := by
  rcases h with ⟨⟨a, c, rfl⟩, rfl⟩ | ⟨b, o, c, rfl, _, h⟩
  · exact long_nil w a c
  · exact long_some w l b o c h h16
end Go.Proofs.YtmaaacaifpgpaaaDoor

namespace Go.Proofs.YtmaaacaifpgpaaaDoor
open Go.RowKit Go.Lib
set_option maxRecDepth 100000
set_option linter.unusedSimpArgs false

theorem ctab_len {s r : List UInt8} {L : List Pr} (h : ctab s = some (L, r)) : L.length ≤ 16 := by
  unfold ctab at h
  split at h
  · cases h
  · split at h
    · cases h
    · rename_i t r' hc
      unfold tabO at h
      split at h
      · rename_i ho
        simp only [Option.map_some] at h
        injection h with h
        injection h with h _
        rw [← h]
        exact (valid_parts (okO_true ho).2).1
      · cases h
/-- What Put gives. -/
def putL (l : List UInt8) (ps : List Pr) : List UInt8 := if validL ps = true then l ++ tabL ps else []
def putE (ps : List Pr) : Int := if validL ps = true then 0 else 36
theorem put_any (w : World) (v va : Value) (l : List UInt8) (ps : List Pr) (h : RdA w v l) (hl : l.length ≤ 100000000) (hr : RdP w va ps) (hf : ∀ q ∈ ps, Fits q) :
    Calls Tryd.prog 10 #[v, va] w fun e w' => ∃ v', e = .returned (.tuple #[v', .int .i64 (putE ps)]) ∧ Own w' w.heap.size v' (putL l ps) ∧ Below w.heap.size w w' := by
  unfold putL putE
  by_cases hv : validL ps = true
  · rw [if_pos hv, if_pos hv]
    exact put_ok w v va l ps h hl hr hv (fun q hq => (hf q hq).2)
  · rw [if_neg hv, if_neg hv]
    refine (put_bad w v va ps hr (by simpa using hv)).mono ?_
    rintro e w' ⟨rfl, hb⟩
    exact ⟨_, rfl, Own.nil _ _, hb⟩
theorem rput_any (w : World) (v va : Value) (l : List UInt8) (ps : List Pr) (h : RdA w v l) (hl : l.length ≤ 100000000) (hr : RdP w va ps) (hf : ∀ q ∈ ps, Fits q) (h63 : ps.length ≤ 9223372036854775806) :
    Calls Tryd.prog 11 #[v, va] w fun e w' => ∃ v', e = .returned (.tuple #[v', .int .i64 (putE ps)]) ∧ Own w' w.heap.size v' (putL l ps) ∧ Below w.heap.size w w' := by
  unfold putL putE
  by_cases hv : validL ps = true
  · rw [if_pos hv, if_pos hv]
    exact rput_ok w v va l ps h hl hr hv hf h63
  · rw [if_neg hv, if_neg hv]
    refine (rput_bad w v va ps hr (by simpa using hv) hf h63).mono ?_
    rintro e w' ⟨rfl, hb⟩
    exact ⟨_, rfl, Own.nil _ _, hb⟩
/-- What Take gives. -/
def tkPs (s : List UInt8) : List Pr := match ctab s with
  | some (L, _) => L
  | none => []
def tkZ (s : List UInt8) : Int := match ctab s with
  | some (_, r) => ((s.length - r.length : Nat) : Int)
  | none => 0
def tkE (s : List UInt8) : Int := match ctab s with
  | some _ => 0
  | none => 11
theorem tkPs_len (s : List UInt8) : (tkPs s).length ≤ 9223372036854775806 := by
  unfold tkPs
  cases h : ctab s with
  | none => simp
  | some LR =>
    obtain ⟨L, r⟩ := LR
    have := ctab_len h
    simp only
    omega
theorem TkP.un {w : World} {B : Nat} {s : List UInt8} {v : Value} {z n : Int} (h : TkP w B s v z n) : RdP w v (tkPs s) ∧ z = tkZ s ∧ n = tkE s := by
  unfold tkPs tkZ tkE
  rcases h with ⟨L, r, h1, rfl, h3, rfl⟩ | ⟨h1, rfl, rfl, rfl⟩
  · rw [h1]
    exact ⟨h3.rd, rfl, rfl⟩
  · rw [h1]
    exact ⟨.inl ⟨⟨_, _, rfl⟩, rfl⟩, rfl, rfl⟩
theorem sameL_self (l : List Pr) : sameL l l = true := (sameL_eq l l).2 rfl
set_option maxHeartbeats 2000000 in
theorem tables_law (w : World) (hv : Mv w) (va vb : Value) (ps : List Pr) (l s : List UInt8) (hr : RdP w va ps) (hb : RdA w vb l) (hf : ∀ q ∈ ps, Fits q) (h63 : ps.length ≤ 9223372036854775806) :
    Calls Tryd.prog 3 #[va, vb, str s] w fun e w' => e = .returned (.bool true) ∧ Below w.heap.size w w' := by
  obtain ⟨cb, xb, hvb⟩ : ∃ a c, vb = .slice a l.length c := by
    rcases hb with (⟨rfl, rfl⟩ | ⟨b, o, c, rfl, _⟩) | ⟨⟨a, c, rfl⟩, rfl⟩
    · exact ⟨_, _, rfl⟩
    · exact ⟨_, _, rfl⟩
    · exact ⟨_, _, rfl⟩
  subst hvb
  have HR : Hid (RdP w va ps) := hr
  have HB : Hid (RdA w (.slice cb l.length xb) l) := hb
  have LO := fun w (h : RdP w va ps) => alllong_any w va ps h h63
  have WA := wakes_any w hv
  have P1 := fun w hb hl (h : RdP w va ps) => put_any w (.slice cb l.length xb) va l ps hb hl h hf
  have P2 := fun w hb hl (h : RdP w va ps) => rput_any w (.slice cb l.length xb) va l ps hb hl h hf h63
  clear hr hf h63 hb hv
  go_enter Tryd.func3, Tryd.ntmps3
  go_wp2_with fail
  refine WA.mono ?_
  rintro e w1 ⟨rfl, b1⟩
  clear WA
  go_wp2_with fail
  refine (LO _ (HR.out.on b1)).mono ?_
  rintro e w2 ⟨⟨x, rfl⟩, b2⟩
  have B2 := b1.trans (b2.mono b1.size)
  clear b1 b2 LO
  cases x with
  | true =>
    go_wp2_with fail
    go_ret
    exact ⟨rfl, B2⟩
  | false =>
    by_cases hl : 16384 < l.length
    · have d1 : decide ((16384 : Int) < (l.length : Int)) = true := by simp; omega
      go_wp2_with fail
      go_ret
      exact ⟨rfl, B2⟩
    have d1 : decide ((16384 : Int) < (l.length : Int)) = false := by simp; omega
    by_cases hs : 16384 < s.length
    · have d2 : decide ((16384 : Int) < (s.length : Int)) = true := by simp; omega
      go_wp2_with fail
      go_ret
      exact ⟨rfl, B2⟩
    have d2 : decide ((16384 : Int) < (s.length : Int)) = false := by simp; omega
    have T1 := fun w => ttake_any w s (by omega)
    have T2 := fun w => rtake_any w s (by omega)
    have E1 := P1 w2 (HB.out.on B2) (by omega) (HR.out.on B2)
    have E2 := fun w h1 h2 => P2 w h1 (by omega) h2
    have EL := tkPs_len s
    clear P1 P2 hl hs
    generalize putL l ps = ob at *
    generalize putE ps = oe at *
    go_wp2_with fail
    refine E1.mono ?_
    rintro e w3 ⟨v3, rfl, o3, b3⟩
    have B3 := B2.trans (b3.mono B2.size)
    clear E1
    go_wp2_with fail
    refine (E2 _ (HB.out.on B3) (HR.out.on B3)).mono ?_
    rintro e w4 ⟨v4, rfl, o4, b4⟩
    have B4 := B3.trans (b4.mono B3.size)
    have o34 := o3.on b4
    clear E2 B3 b3 b4 o3
    go_wp2_with fail
    refine (T1 _).mono ?_
    rintro e w5 ⟨v5, z5, n5, rfl, t5, b5⟩
    obtain ⟨r5, rfl, rfl⟩ := t5.un
    have B5 := B4.trans (b5.mono B4.size)
    have o35 := o34.on b5
    have o45 := o4.on b5
    clear T1 B4 b5 o34 o4 t5
    go_wp2_with fail
    refine (T2 _).mono ?_
    rintro e w6 ⟨v6, z6, n6, rfl, t6, b6⟩
    obtain ⟨r6, rfl, rfl⟩ := t6.un
    have B6 := B5.trans (b6.mono B5.size)
    have cv3 := conv_any (o35.on b6).rd
    have cv4 := conv_any (o45.on b6).rd
    have A := all7 w6 v5 v6 (tkPs s) (tkPs s) (r5.on b6) r6 EL
    rw [sameL_self] at A
    clear T2 B5 b6 o35 o45 r5 r6 t6 EL
    generalize tkPs s = L at *
    generalize tkZ s = z at *
    generalize tkE s = n at *
    go_wp2_with (go_at_call 14; refine A.mono ?_; rintro e w7 ⟨rfl, b7⟩)
    go_ret
    exact ⟨rfl, B6.trans (b7.mono B6.size)⟩
end Go.Proofs.YtmaaacaifpgpaaaDoor

namespace Go.Proofs.YtmaaacaifpgpaaaDoor
open Go.ChangeShapes Go.WideShapes Go.ChangeAt Go.RowKit Go.Lib Go.Deep
set_option maxRecDepth 100000
set_option linter.unusedSimpArgs false

theorem own : ownKnob Tryd.prog.godebug = none := by kernel_rfl
theorem laidOut : laidOutB Tryd.prog = true := by kernel_rfl
theorem cells3 : Tryd.prog.cellsOf 3 = 1 := by kernel_rfl
theorem cells9 : Tryd.prog.cellsOf 9 = 1 := by kernel_rfl
theorem i64b {z : Int} (h : (Lit.int .i64 z).wf = true) : -9223372036854775808 ≤ z ∧ z ≤ 9223372036854775807 := by
  simpa [Lit.wf, IntKind.min, IntKind.max, IntKind.signed, IntKind.bits] using h
theorem str_of (s : ByteArray) : Value.string s = str s.data.toList := by simp [str]

theorem cells44 : Tryd.prog.cellsOf 44 = 1 := by kernel_rfl
theorem cells49 : Tryd.prog.cellsOf 49 = 4 := by kernel_rfl
theorem f64b {z : Nat} (h : (Lit.float .f64 z).wf = true) : z < 2 ^ 64 := by
  simpa [Lit.wf] using h

theorem flt_cell {H : Type} {enc : TypeId × Value → H} {W : World} {c : Value} {fuel : Nat} {x : DataW H × List MemPlace} (h : DataW.trod enc Tryd.prog W 0 (fun _ => true) true fuel 44 [c] = some x) : ∃ r, [c] = [Value.float .f64 r] ∧ r < 2 ^ 64 := by
  cases fuel with
  | zero => simp [DataW.trod] at h
  | succ n =>
    simp only [DataW.trod, Tryd.underlying44] at h
    cases c with
    | float k b =>
      simp at h
      obtain ⟨⟨rfl, hw⟩, _⟩ := h
      exact ⟨b, rfl, f64b hw⟩
    | _ => simp at h
theorem val_cells {H : Type} {enc : TypeId × Value → H} {W : World} {cs : List Value} {fuel : Nat} {x : DataW H × List MemPlace} (h : DataW.trod enc Tryd.prog W 0 (fun _ => true) true fuel 49 cs = some x) :
    ∃ y : Val, cs = [.int .i64 y.kind, .int .i64 y.num, .string y.text, .float .f64 y.real] ∧ (-9223372036854775808 ≤ y.kind ∧ y.kind ≤ 9223372036854775807) ∧ (-9223372036854775808 ≤ y.num ∧ y.num ≤ 9223372036854775807) ∧ y.text.size ≤ maxLen ∧ y.real < 2 ^ 64 := by
  obtain ⟨xs, n, _, rfl, hl, hlen, hf⟩ := DataW.trod_struct Tryd.underlying49 h
  rw [cells49] at hl
  match xs, hlen with
  | [y0, y1, y2, y3], _ =>
    have t0 : DataW.trod enc Tryd.prog W 0 (fun _ => true) true n 3 ((cs.drop 0).take (Tryd.prog.cellsOf 3)) = some y0 := by simpa using hf 0 _ rfl
    have t1 : DataW.trod enc Tryd.prog W 0 (fun _ => true) true n 3 ((cs.drop 1).take (Tryd.prog.cellsOf 3)) = some y1 := by simpa using hf 1 _ rfl
    have t2 : DataW.trod enc Tryd.prog W 0 (fun _ => true) true n 9 ((cs.drop 2).take (Tryd.prog.cellsOf 9)) = some y2 := by simpa using hf 2 _ rfl
    have t3 : DataW.trod enc Tryd.prog W 0 (fun _ => true) true n 44 ((cs.drop 3).take (Tryd.prog.cellsOf 44)) = some y3 := by simpa using hf 3 _ rfl
    match cs, hl with
    | [c0, c1, c2, c3], _ =>
      simp only [cells3, cells9, cells44, List.drop, List.take] at t0 t1 t2 t3
      obtain ⟨k, e0, _, wk⟩ := DataW.trod_int Tryd.underlying3 t0
      obtain ⟨m, e1, _, wm⟩ := DataW.trod_int Tryd.underlying3 t1
      obtain ⟨s, e2, _, ws⟩ := DataW.trod_string Tryd.underlying9 t2
      obtain ⟨r, e3, wr⟩ := flt_cell t3
      simp only [List.cons.injEq, and_true] at e0 e1 e2 e3
      subst e0 e1 e2 e3
      exact ⟨⟨k, m, s, r⟩, rfl, i64b wk, i64b wm, ws, wr⟩
theorem cells51 : Tryd.prog.cellsOf 51 = 5 := by kernel_rfl
theorem bytes51 : Tryd.prog.bytesOf 51 = 56 := by kernel_rfl

/-- What is told of a value that came in. -/
def InV (y : Val) : Prop := (-9223372036854775808 ≤ y.kind ∧ y.kind ≤ 9223372036854775807) ∧ (-9223372036854775808 ≤ y.num ∧ y.num ≤ 9223372036854775807) ∧ y.text.size ≤ maxLen ∧ y.real < 2 ^ 64
def InP (p : Pr) : Prop := p.name.size ≤ maxLen ∧ InV p.val

theorem prop_cells {H : Type} {enc : TypeId × Value → H} {W : World} {cs : List Value} {fuel : Nat} {x : DataW H × List MemPlace} (h : DataW.trod enc Tryd.prog W 0 (fun _ => true) true fuel 51 cs = some x) :
    ∃ y : Pr, cs = [.string y.name, .int .i64 y.val.kind, .int .i64 y.val.num, .string y.val.text, .float .f64 y.val.real] ∧ InP y := by
  obtain ⟨xs, n, _, rfl, hl, hlen, hf⟩ := DataW.trod_struct Tryd.underlying51 h
  rw [cells51] at hl
  match xs, hlen with
  | [y0, y1], _ =>
    have t0 : DataW.trod enc Tryd.prog W 0 (fun _ => true) true n 9 ((cs.drop 0).take (Tryd.prog.cellsOf 9)) = some y0 := by simpa using hf 0 _ rfl
    have t1 : DataW.trod enc Tryd.prog W 0 (fun _ => true) true n 49 ((cs.drop 1).take (Tryd.prog.cellsOf 49)) = some y1 := by simpa using hf 1 _ rfl
    match cs, hl with
    | [c0, c1, c2, c3, c4], _ =>
      simp only [cells9, cells49, List.drop, List.take] at t0 t1
      obtain ⟨s, e0, _, ws⟩ := DataW.trod_string Tryd.underlying9 t0
      obtain ⟨y, e1, hy⟩ := val_cells t1
      simp only [List.cons.injEq, and_true] at e0 e1
      obtain ⟨rfl, rfl, rfl, rfl⟩ := e1
      subst e0
      exact ⟨⟨s, y⟩, rfl, ws, hy⟩

theorem prop_at {H : Type} {enc : TypeId × Value → H} {W : World} {a : Addr} {cs : List Value} {fuel : Nat} {x : DataW H × List MemPlace}
    (hc : W.cells? 0 a (Tryd.prog.cellsOf 51) = some cs) (h : DataW.trod enc Tryd.prog W 0 (fun _ => true) true fuel 51 cs = some x) :
    ∃ (b o : Nat) (y : Pr), a = ⟨b, o, none⟩ ∧ PrAt W b o y ∧ InP y := by
  obtain ⟨y, rfl, hy⟩ := prop_cells h
  rw [cells51] at hc
  obtain ⟨b, o, sp⟩ := a
  obtain ⟨_, _, hh⟩ := World.cells?_some hc
  have h0 := hh 0 (by omega)
  have h1 := hh 1 (by omega)
  have h2 := hh 2 (by omega)
  have h3 := hh 3 (by omega)
  have h4 := hh 4 (by omega)
  simp only [Addr.add, List.getElem?_cons_zero, List.getElem?_cons_succ] at h0 h1 h2 h3 h4
  have hsp : sp = none := by simpa [Addr.add] using World.cell?_spot h0
  subst hsp
  exact ⟨b, o, y, rfl, ⟨h0, h1, h2, h3, h4⟩, hy⟩

theorem rd_props {H : Type} {enc : TypeId × Value → H} {W : World} {a : Option Addr} {n c : Nat} {d : DataW H} {p : List MemPlace}
    (h : DataW.Trod enc Tryd.prog W 0 (fun _ => true) true 22 (.slice a n c) d p) :
    ∃ l : List Pr, RdP W (.slice a n c) l ∧ l.length = n ∧ (∀ q ∈ l, InP q) ∧ (n = 0 ∨ ∃ E S, d = .slice E S ∧ n ≤ E.length + S.length) := by
  obtain ⟨fuel, hf⟩ := h
  rcases open_slice Tryd.underlying22 hf with ⟨hcs, _⟩ | ⟨x, l, cp, m, f, D, Pl, hcs, _, hl, hm, hmm, hx, hel⟩
  · simp [Value.cells] at hcs
    obtain ⟨rfl, rfl, rfl⟩ := hcs
    exact ⟨[], .inl ⟨⟨_, _, rfl⟩, rfl⟩, rfl, fun q hq => by simp at hq, .inl rfl⟩
  · simp [Value.cells] at hcs
    obtain ⟨rfl, rfl, rfl⟩ := hcs
    have hmc : m = c := by simpa using hmm
    subst hmc
    have hd := (Prod.mk.inj hx).1
    rcases Nat.eq_zero_or_pos n with h0 | h0
    · subst h0
      exact ⟨[], .inl ⟨⟨_, _, rfl⟩, rfl⟩, rfl, fun q hq => by simp at hq, .inl rfl⟩
    · have key : ∀ i, i < n → ∃ (b o : Nat) (y : Pr), x.add (i * 5) = ⟨b, o, none⟩ ∧ PrAt W b o y ∧ InP y := fun i hi => by
        obtain ⟨cs', h1, h2⟩ := hel i (by omega)
        have := prop_at h1 h2
        rwa [cells51] at this
      obtain ⟨b, o, _, e0, _⟩ := key 0 (by omega)
      have ex : x = ⟨b, o, none⟩ := by simpa [Addr.add] using e0
      subst ex
      have key2 : ∀ i, i < n → ∃ y : Pr, PrAt W b (o + i * 5) y ∧ InP y := fun i hi => by
        obtain ⟨b', o', y, e, g, hy⟩ := key i hi
        rw [Addr.add_lit] at e
        cases e
        exact ⟨y, g, hy⟩
      have hall : ∀ k, k ≤ n → ∃ l : List Pr, l.length = k ∧ ∀ i (h : i < l.length), PrAt W b (o + i * 5) l[i] ∧ InP l[i] := by
        intro k
        induction k with
        | zero => exact fun _ => ⟨[], rfl, fun i h => by simp at h⟩
        | succ k ih =>
          intro hk
          obtain ⟨l, hl, hh⟩ := ih (by omega)
          obtain ⟨y, hy⟩ := key2 k (by omega)
          refine ⟨l ++ [y], by simp [hl], fun i hi => ?_⟩
          by_cases e : i < l.length
          · rw [List.getElem_append_left e]; exact hh i e
          · have : i = k := by simp at hi; omega
            subst this
            rw [List.getElem_append_right (by omega)]
            simpa using hy
      obtain ⟨l, hl2, hh⟩ := hall n (Nat.le_refl _)
      refine ⟨l, .inr ⟨b, o, m, by rw [hl2], by omega, fun i hi => (hh i hi).1⟩, hl2, fun q hq => ?_, .inr ⟨_, _, hd, by simp⟩⟩
      obtain ⟨i, hi, rfl⟩ := List.mem_iff_getElem.1 hq
      exact (hh i hi).2

theorem InP.fits {q : Pr} (h : InP q) : Fits q := by
  refine ⟨?_, h.2.2.2.2⟩
  have := h.1
  unfold maxLen at this
  omega
end Go.Proofs.YtmaaacaifpgpaaaDoor

namespace Go.Proofs.YtmaaacaifpgpaaaDoor
open Go.ChangeShapes Go.WideShapes Go.ChangeAt Go.RowKit Go.Lib Go.Deep
set_option maxRecDepth 100000
set_option linter.unusedSimpArgs false

theorem cells5 : Tryd.prog.cellsOf 5 = 1 := by kernel_rfl
theorem u8b {z : Int} (h : (Lit.int .u8 z).wf = true) : 0 ≤ z ∧ z ≤ 255 := by
  simpa [Lit.wf, IntKind.min, IntKind.max, IntKind.signed, IntKind.bits] using h
theorem rd_bytes {H : Type} {enc : TypeId × Value → H} {W : World} {base : Nat} {v1 : Value} {d1 : DataW H} {p1 : List MemPlace} (hval : Value.okWide Tryd.prog W .any base 23 v1) (h1 : DataW.Trod enc Tryd.prog W 0 (fun _ => true) true 23 v1 d1 p1) :
    ∃ l : List UInt8, RdA W v1 l := by
  obtain ⟨a1, len, cap, rfl⟩ := okWide_slice Tryd.underlying23 hval
  obtain ⟨fuel, hf⟩ := h1
  rcases open_ints Tryd.underlying23 Tryd.underlying5 cells5 hf with ⟨hcs, hx⟩ | ⟨a, len', cap', zs, hcs, _, hl, hm, hz, hx, hcell, hwz⟩
  · simp [Value.cells] at hcs
    obtain ⟨rfl, rfl, rfl⟩ := hcs
    exact ⟨[], .inl (.inl ⟨rfl, rfl⟩)⟩
  · simp [Value.cells] at hcs
    obtain ⟨rfl, rfl, rfl⟩ := hcs
    simp only [if_true] at hz
    by_cases h0 : len = 0
    · subst h0
      exact ⟨[], .inr ⟨⟨_, _, rfl⟩, rfl⟩⟩
    · obtain ⟨ab, ao, spot⟩ := a
      have hspot : spot = none := by simpa [Addr.add] using World.cell?_spot (hcell 0 (by omega))
      subst hspot
      have hlen : ((zs.take len).map fun n => UInt8.ofNat n.toNat).length = len := by simp; omega
      refine ⟨(zs.take len).map fun n => UInt8.ofNat n.toNat, .inl (.inr ⟨ab, ao, cap, by rw [hlen], by rw [hlen]; exact hl, fun i hi => ?_⟩)⟩
      rw [hlen] at hi
      have hc := hcell i (by omega)
      rw [Addr.add_lit] at hc
      rw [hc]
      have hi2 : i < zs.length := by omega
      have hm : zs[i] ∈ zs := List.getElem_mem hi2
      obtain ⟨q0, q1⟩ := u8b (hwz _ hm)
      have e1 : zs.getD i 0 = zs[i] := by simp [List.getD, hi2]
      have e2 : (((zs.take len).map fun n => UInt8.ofNat n.toNat).getD i 0) = UInt8.ofNat zs[i].toNat := by
        simp [List.getD, hi, hi2]
      have e4 : (((UInt8.ofNat zs[i].toNat).toNat : Nat) : Int) = zs[i] := by
        have e3 : (UInt8.ofNat zs[i].toNat).toNat = zs[i].toNat % 256 := by simp
        rw [e3]
        omega
      rw [e1, e2, e4]
end Go.Proofs.YtmaaacaifpgpaaaDoor

namespace Go.Proofs.YtmaaacaifpgpaaaDoor
open Go.RowKit Go.Lib Ieee
set_option maxRecDepth 100000
set_option linter.unusedSimpArgs false

def Nums (q : Pr) : Prop := (-9223372036854775808 ≤ q.val.num ∧ q.val.num ≤ 9223372036854775807) ∧ q.val.real < 2 ^ 64
theorem numR_be (k n : Nat) (r : List UInt8) (hn : n < 256 ^ k) : numR (beN k n ++ r, false) k = (n, (r, false)) := by
  rw [numR_yes (by rw [List.length_append, beN_len]; omega)]
  have e1 : (beN k n ++ r).take k = beN k n := by
    rw [List.take_append_of_le_length (by rw [beN_len]; omega)]
    exact List.take_of_length_le (by rw [beN_len]; omega)
  have e2 : (beN k n ++ r).drop k = r := by
    rw [List.drop_append_of_le_length (by rw [beN_len]; omega), List.drop_of_length_le (by rw [beN_len]; omega)]
    rfl
  rw [e1, e2, numL_be k n hn]
theorem takeR_app (t r : List UInt8) : takeR (t ++ r, false) t.length = (t, (r, false)) := by
  rw [takeR_yes (by rw [List.length_append]; omega)]
  rw [List.take_left, List.drop_left]
theorem shortR_put (t r : List UInt8) (h : t.length < 256) : shortR (shortL t ++ r, false) = (t, (r, false)) := by
  unfold shortR shortL
  rw [List.append_assoc, numR_be 1 t.length (t ++ r) (by simpa using h)]
  exact takeR_app t r
theorem longR_put (t r : List UInt8) (h : t.length < 4294967296) : longR (longL t ++ r, false) = (t, (r, false)) := by
  unfold longR longL
  rw [List.append_assoc, numR_be 4 t.length (t ++ r) (by simpa using h)]
  exact takeR_app t r
theorem take_cons (c : UInt8) (r : List UInt8) : takeR (c :: r, false) 1 = ([c], (r, false)) := by
  rw [takeR_yes (by simp)]
  rfl
theorem sgn_u64 (z : Int) (h1 : -9223372036854775808 ≤ z) (h2 : z ≤ 9223372036854775807) : sgnZ (u64L z) 64 = z := by
  unfold sgnZ
  rw [if_neg (fun hh => absurd hh.1 (by decide)), IntKind.wrap_i64]
  unfold u64L
  omega
theorem u64L_lt (z : Int) : u64L z < 256 ^ 8 := by
  unfold u64L
  have : z % 18446744073709551616 < 18446744073709551616 := Int.emod_lt_of_pos _ (by decide)
  have h0 : 0 ≤ z % 18446744073709551616 := Int.emod_nonneg _ (by decide)
  have e : (256 : Nat) ^ 8 = 18446744073709551616 := by decide
  omega
theorem flt_put (r : Nat) (x : List UInt8) (hr : r < 2 ^ 64) (hc : canonB r = r) : vaR (fltL r ++ x, false) = (⟨4, 0, ⟨#[]⟩, r⟩, (x, false)) := by
  unfold fltL
  by_cases hn : (narB r).2 = true
  · rw [if_pos hn, List.cons_append]
    unfold vaR
    rw [take_cons]
    simp (decide := true) only [List.cons.injEq, if_false, if_true]
    rw [numR_be 4 (narB r).1 x (by have := narB_lt r hr; simpa using this)]
    have hw : widB (narB r).1 = r := by
      unfold narB at hn ⊢
      by_cases hN : isN double r
      · rw [if_pos hN]
        unfold canonB at hc
        rw [if_pos hN] at hc
        rw [← hc]
        decide +kernel
      · rw [if_neg hN] at hn ⊢
        cases hg : nar r with
        | none => rw [hg] at hn; cases hn
        | some g =>
          obtain ⟨h1, h2, _⟩ := nar_some_wide hr hg
          simp only
          unfold widB
          rw [if_neg h2, h1]
    rw [hw]
  · rw [if_neg hn, List.cons_append]
    unfold vaR
    rw [take_cons]
    simp (decide := true) only [List.cons.injEq, if_false, if_true]
    rw [numR_be 8 r x (Nat.lt_of_lt_of_le hr (by decide)), hc]
theorem val_put (v : Val) (x : List UInt8) (hg : goodV v = true) (hn : -9223372036854775808 ≤ v.num ∧ v.num ≤ 9223372036854775807) (hr : v.real < 2 ^ 64) : vaR (valT v ++ x, false) = (v, (x, false)) := by
  unfold goodV at hg
  unfold valT
  by_cases h1 : v.kind = 1
  · rw [if_pos h1, sameV_eq] at hg
    have hv : v = ⟨1, v.num, ⟨#[]⟩, 0⟩ := hg
    rw [if_neg (by omega), if_neg (by omega), if_neg (by omega), List.cons_append]
    unfold vaR
    rw [take_cons]
    simp (decide := true) only [List.cons.injEq, if_false, if_true]
    rw [numR_be 8 (u64L v.num) x (u64L_lt _), sgn_u64 _ hn.1 hn.2, ← hv]
  rw [if_neg h1] at hg
  by_cases h2 : v.kind = 2
  · rw [if_pos h2, Bool.and_eq_true, sameV_eq] at hg
    have hv : v = ⟨2, v.num, ⟨#[]⟩, 0⟩ := hg.2
    have hb : v.num = 0 ∨ v.num = 1 := by simpa using hg.1
    rw [if_pos h2, List.cons_append]
    unfold vaR
    rw [take_cons]
    simp only [if_true]
    have hu : u64L v.num < 256 ^ 1 := by
      unfold u64L
      rcases hb with h | h <;> rw [h] <;> decide
    rw [numR_be 1 (u64L v.num) x hu]
    have e : ((u64L v.num : Nat) : Int) = v.num := by
      unfold u64L
      rcases hb with h | h <;> rw [h] <;> decide
    rw [e, ← hv]
  rw [if_neg h2] at hg
  by_cases h3 : v.kind = 3
  · rw [if_pos h3, Bool.and_eq_true, sameV_eq] at hg
    have hv : v = ⟨3, 0, v.text, 0⟩ := hg.2
    have hl : v.text.data.toList.length ≤ 256 := by
      have := hg.1
      simp only [decide_eq_true_eq] at this
      rw [size_data] at this
      omega
    rw [if_neg h2, if_pos h3, List.cons_append]
    unfold vaR
    rw [take_cons]
    simp (decide := true) only [List.cons.injEq, if_false, if_true]
    rw [longR_put _ x (by omega)]
    have e : (⟨v.text.data.toList.toArray⟩ : ByteArray) = v.text := by simp
    rw [e, ← hv]
  rw [if_neg h3] at hg
  by_cases h4 : v.kind = 4
  · rw [if_pos h4, sameV_eq] at hg
    have hv : v = ⟨4, 0, ⟨#[]⟩, canonB v.real⟩ := hg
    have hc : canonB v.real = v.real := (congrArg Val.real hv).symm
    rw [if_neg h2, if_neg h3, if_pos h4, flt_put v.real x hr hc]
    rw [hc] at hv
    rw [← hv]
  rw [if_neg h4] at hg
  exact absurd hg (by decide)
theorem fld_put (p : Pr) (x : List UInt8) (hc : canB p = true) (hn : Nums p) : fldR (prT p ++ x, false) = (p, (x, false)) := by
  have hs := sm_of hc hn.2
  unfold canB at hc
  rw [Bool.and_eq_true] at hc
  unfold fldR prT
  rw [List.append_assoc, shortR_put _ _ (by have := hs.nm; omega), val_put p.val x hc.2 hn.1 hn.2]
theorem insP_last (p : Pr) : ∀ L : List Pr, (∀ x ∈ L, ltP x p) → insP p L = L ++ [p]
  | [], _ => rfl
  | x :: L, h => by
    unfold insP
    have hx := h x (List.mem_cons_self ..)
    rw [if_neg (by unfold lessP; rw [bl_asymm _ _ hx]; simp), insP_last p L (fun y hy => h y (List.mem_cons_of_mem _ hy))]
    rfl
theorem tab_put : ∀ (k : Nat) (qs L : List Pr), (flatT qs).length ≤ k → (L ++ qs).Pairwise ltP → (L ++ qs).length ≤ 16 → (∀ q ∈ qs, canB q = true ∧ Nums q) → tabR k (flatT qs, false) L = (L ++ qs, false)
  | k, [], L, _, _, _, _ => by
    rw [List.append_nil]
    exact (tab_nil (R := tabR k (flatT [], false) L) rfl)
  | k, p :: qs, L, hk, hp, hl, hq => by
    have hc := hq p (List.mem_cons_self ..)
    have e : flatT (p :: qs) = prT p ++ flatT qs := by simp [flatT]
    have hne : prT p ++ flatT qs ≠ [] := by
      unfold prT shortL
      intro h
      have := congrArg List.length h
      simp [beN_len] at this
    rw [e] at hk ⊢
    cases k with
    | zero =>
      have : 0 < (prT p ++ flatT qs).length := by
        cases h : prT p ++ flatT qs with
        | nil => exact absurd h hne
        | cons a b => simp
      omega
    | succ k =>
      have hF := fld_put p (flatT qs) hc.1 hc.2
      have hlt : ∀ x ∈ L, ltP x p := fun x hx => (List.pairwise_append.1 hp).2.2 x hx p (List.mem_cons_self ..)
      have hno : hasN L p.name = false := by
        cases h : hasN L p.name with
        | false => rfl
        | true =>
          obtain ⟨x, hx, he⟩ := hasN_iff.1 h
          exact absurd he (ne_of_lt (hlt x hx))
      unfold tabR
      rw [if_neg (by simp [hne]), hF, if_neg (by simp [hno]), if_neg (by simp at hl; omega), insP_last p L hlt]
      have ih := tab_put k qs (L ++ [p]) (by
        have h1 : 0 < (prT p).length := by unfold prT shortL; simp [beN_len]; omega
        rw [List.length_append] at hk
        omega) (by simpa using hp) (by simpa using hl) (fun q h => hq q (List.mem_cons_of_mem _ h))
      rw [ih, List.append_assoc]
      rfl
theorem tabO_put {ps : List Pr} (hv : validL ps = true) (hn : ∀ q ∈ ps, Nums q) : tabO (flatT ps) = some ps := by
  obtain ⟨h16, hc, hri⟩ := valid_parts hv
  have h := tab_put (flatT ps).length ps [] (Nat.le_refl _) (by simpa using pairs_of ps hri) (by simpa using h16) (fun q hq => ⟨hc q hq, hn q hq⟩)
  rw [List.nil_append] at h
  unfold tabO
  rw [h, if_pos (by unfold okO; simp [hv])]
theorem flat_small {ps : List Pr} (hv : validL ps = true) (hn : ∀ q ∈ ps, Nums q) : (flatT ps).length ≤ 5000 := by
  obtain ⟨h16, hs⟩ := sm_all hv (fun q hq => (hn q hq).2)
  have := flatT_len hs
  omega
theorem ctab_put {ps : List Pr} (x : List UInt8) (hv : validL ps = true) (hn : ∀ q ∈ ps, Nums q) : ctab (tabL ps ++ x) = some (ps, x) := by
  have hf := flat_small hv hn
  have e1 : (tabL ps ++ x).take 4 = beN 4 (flatT ps).length := by
    unfold tabL longL
    rw [List.append_assoc, List.take_append_of_le_length (by rw [beN_len]; omega)]
    exact List.take_of_length_le (by rw [beN_len]; omega)
  have e2 : (tabL ps ++ x).drop 4 = flatT ps ++ x := by
    unfold tabL longL
    rw [List.append_assoc, List.drop_append_of_le_length (by rw [beN_len]; omega), List.drop_of_length_le (by rw [beN_len]; omega)]
    rfl
  unfold ctab
  rw [if_neg (by unfold tabL longL; simp [beN_len]), e1, e2, numL_be 4 _ (Nat.lt_of_le_of_lt hf (by decide))]
  unfold cutP
  rw [if_pos (by rw [List.length_append]; omega), List.take_left, List.drop_left]
  simp only
  rw [tabO_put hv hn]
  rfl
end Go.Proofs.YtmaaacaifpgpaaaDoor

namespace Go.Proofs.YtmaaacaifpgpaaaDoor
open Go.RowKit Go.Lib Ieee
set_option maxRecDepth 100000
set_option linter.unusedSimpArgs false

/-- The lowest k bytes of an int. -/
theorem beN_mod (k n : Nat) : beN k n = beN k (n % 256 ^ k) := by
  unfold beN
  refine List.map_congr_left fun i hi => ?_
  have hi := List.mem_range.1 hi
  unfold byteOf
  apply UInt8.toNat_inj.1
  rw [UInt8.toNat_ofNat', UInt8.toNat_ofNat']
  have e : 256 ^ k = 256 ^ (k - 1 - i) * 256 ^ (i + 1) := by rw [← Nat.pow_add]; congr 1; omega
  rw [e, Nat.mod_mul_right_div_self, Nat.pow_succ]
  show _ % 256 = _ % (256 ^ i * 256) % 256
  rw [Nat.mod_mul_left_mod]
theorem numR_mod (k n : Nat) (r : List UInt8) : numR (beN k n ++ r, false) k = (n % 256 ^ k, (r, false)) := by
  rw [beN_mod]
  exact numR_be k _ r (Nat.mod_lt _ (Nat.pow_pos (by decide)))
theorem sgn_low (n : Int) (k : Nat) (hk : k = 1 ∨ k = 2 ∨ k = 4) (h1 : -(2 ^ (8 * k - 1)) ≤ n) (h2 : n < 2 ^ (8 * k - 1)) : sgnZ (u64L n % 256 ^ k) (8 * k) = n := by
  unfold sgnZ u64L
  rw [IntKind.wrap_i64]
  rcases hk with rfl | rfl | rfl
  all_goals
    simp only [Nat.reduceMul, Nat.reduceSub, Nat.reducePow, Int.reducePow, Nat.reduceLT, true_and] at *
    split <;> omega
/-- The letter of an int in k bytes. -/
def ltr (k : Nat) : UInt8 := if k = 1 then 98 else if k = 2 then 115 else if k = 4 then 73 else 108
def fitsK (k : Nat) (n : Int) : Prop := if k = 8 then -9223372036854775808 ≤ n ∧ n ≤ 9223372036854775807 else -(2 ^ (8 * k - 1)) ≤ n ∧ n < 2 ^ (8 * k - 1)
theorem vaI (k : Nat) (n : Int) (x : List UInt8) (hk : k = 1 ∨ k = 2 ∨ k = 4 ∨ k = 8) (hf : fitsK k n) : vaR (ltr k :: (beN k (u64L n) ++ x), false) = (⟨1, n, ⟨#[]⟩, 0⟩, (x, false)) := by
  unfold vaR
  rw [take_cons]
  rcases hk with rfl | rfl | rfl | rfl
  · have e := sgn_low n 1 (by simp) hf.1 hf.2
    simp (decide := true) only [ltr, List.cons.injEq, if_false, if_true]
    rw [numR_mod]
    exact congrArg (fun z => ((⟨1, z, ⟨#[]⟩, 0⟩ : Val), ((x, false) : Rs))) e
  · have e := sgn_low n 2 (by simp) hf.1 hf.2
    simp (decide := true) only [ltr, List.cons.injEq, if_false, if_true]
    rw [numR_mod]
    exact congrArg (fun z => ((⟨1, z, ⟨#[]⟩, 0⟩ : Val), ((x, false) : Rs))) e
  · have e := sgn_low n 4 (by simp) hf.1 hf.2
    simp (decide := true) only [ltr, List.cons.injEq, if_false, if_true]
    rw [numR_mod]
    exact congrArg (fun z => ((⟨1, z, ⟨#[]⟩, 0⟩ : Val), ((x, false) : Rs))) e
  · have hf : -9223372036854775808 ≤ n ∧ n ≤ 9223372036854775807 := hf
    simp (decide := true) only [ltr, List.cons.injEq, if_false, if_true]
    rw [numR_be 8 _ x (u64L_lt _), sgn_u64 _ hf.1 hf.2]
theorem vaF (b : Nat) (x : List UInt8) (hb : b < 2 ^ 64) : vaR (100 :: (beN 8 b ++ x), false) = (⟨4, 0, ⟨#[]⟩, canonB b⟩, (x, false)) := by
  unfold vaR
  rw [take_cons]
  simp (decide := true) only [List.cons.injEq, if_false, if_true]
  rw [numR_be 8 b x (Nat.lt_of_lt_of_le hb (by decide))]
/-- The two fields, and what they are. -/
def inI (k : Nat) (n : Int) : List UInt8 := [1, 105, ltr k] ++ beN k (u64L n)
def inF (b : Nat) : List UInt8 := [1, 102, 100] ++ beN 8 b
def prI (n : Int) : Pr := ⟨⟨#[105]⟩, ⟨1, n, ⟨#[]⟩, 0⟩⟩
def prF (b : Nat) : Pr := ⟨⟨#[102]⟩, ⟨4, 0, ⟨#[]⟩, canonB b⟩⟩
theorem one_name (c : UInt8) (x : List UInt8) : shortR (1 :: c :: x, false) = ([c], (x, false)) := by
  have e : (1 :: c :: x : List UInt8) = shortL [c] ++ x := by
    have : beN 1 [c].length = [1] := by show beN 1 1 = [1]; decide +kernel
    unfold shortL
    rw [this]
    rfl
  rw [e]
  exact shortR_put [c] x (by show 1 < 256; decide)
theorem two_names (p q : Pr) (h : p.name.toList ≠ q.name.toList) : hasN [p] q.name = false := by
  simp [hasN, h]
theorem fldI (k : Nat) (n : Int) (x : List UInt8) (hk : k = 1 ∨ k = 2 ∨ k = 4 ∨ k = 8) (hf : fitsK k n) : fldR (inI k n ++ x, false) = (prI n, (x, false)) := by
  unfold fldR inI
  simp only [List.cons_append, List.nil_append, one_name, vaI k n x hk hf]
  rfl
theorem fldF (b : Nat) (x : List UInt8) (hb : b < 2 ^ 64) : fldR (inF b ++ x, false) = (prF b, (x, false)) := by
  unfold fldR inF
  simp only [List.cons_append, List.nil_append, one_name, vaF b x hb]
  rfl
def inW (turned : Bool) (k : Nat) (n : Int) (b : Nat) : List UInt8 := if turned then inF b ++ inI k n else inI k n ++ inF b
theorem inW_len (t : Bool) (k : Nat) (n : Int) (b : Nat) : (inW t k n b).length = k + 14 := by
  cases t <;> simp [inW, inI, inF, beN_len] <;> omega
theorem tab_two (m : Nat) (t u : List UInt8) (p q : Pr) (hp : fldR (t ++ u, false) = (p, (u, false))) (hq : fldR (u, false) = (q, ([], false))) (ht : t ≠ []) (hu : u ≠ []) (hne : hasN [p] q.name = false) : tabR (m + 3) (t ++ u, false) [] = (insP q [p], false) := by
  have e0 : t ++ u ≠ [] := by simp [ht]
  have i0 : insP p [] = [p] := rfl
  rw [tabR]
  rw [if_neg (by simp [e0]), hp, if_neg (by simp [hasN]), if_neg (by simp)]
  simp only [i0]
  rw [tabR]
  rw [if_neg (by simp [hu]), hq, if_neg (by simp [hne]), if_neg (by simp)]
  rw [tabR]
  rw [if_pos (by simp)]
theorem less_fi (n : Int) (b : Nat) : lessP (prF b) (prI n) = true := (by decide +kernel : Op.bytesLess (⟨#[102]⟩ : ByteArray).toList (⟨#[105]⟩ : ByteArray).toList = true)
theorem less_if (n : Int) (b : Nat) : lessP (prI n) (prF b) = false := (by decide +kernel : Op.bytesLess (⟨#[105]⟩ : ByteArray).toList (⟨#[102]⟩ : ByteArray).toList = false)
theorem ins_if (n : Int) (b : Nat) : insP (prI n) [prF b] = [prF b, prI n] := by
  unfold insP
  rw [less_if]
  rfl
theorem ins_fi (n : Int) (b : Nat) : insP (prF b) [prI n] = [prF b, prI n] := by
  unfold insP
  rw [less_fi]
  rfl
theorem good_w (n : Int) (b : Nat) : validL [prF b, prI n] = true := by
  have hc : canonB (canonB b) = canonB b := by
    unfold canonB
    by_cases h : isN double b
    · rw [if_pos h]; decide
    · rw [if_neg h, if_neg h]
  have h1 : goodV (prF b).val = true := by
    unfold goodV prF
    simp (decide := true) only [if_false, if_true, sameV_eq, hc]
  have h2 : goodV (prI n).val = true := by
    unfold goodV prI
    simp (decide := true) only [if_true, sameV_eq]
  have h3 : nameL (prF b).name.toList = true := (by decide +kernel : nameL (⟨#[102]⟩ : ByteArray).toList = true)
  have h4 : nameL (prI n).name.toList = true := (by decide +kernel : nameL (⟨#[105]⟩ : ByteArray).toList = true)
  have h5 : Op.bytesLess (prF b).name.toList (prI n).name.toList = true := (by decide +kernel : Op.bytesLess (⟨#[102]⟩ : ByteArray).toList (⟨#[105]⟩ : ByteArray).toList = true)
  simp only [validL, canB, rising, List.all_cons, List.all_nil, h1, h2, h3, h4, h5]
  rfl
theorem ways (t : Bool) (k : Nat) (n : Int) (b : Nat) (hk : k = 1 ∨ k = 2 ∨ k = 4 ∨ k = 8) (hf : fitsK k n) (hb : b < 2 ^ 64) : ctab (longL (inW t k n b)) = some ([prF b, prI n], []) := by
  have hl := inW_len t k n b
  have hT : tabR (inW t k n b).length (inW t k n b, false) [] = ([prF b, prI n], false) := by
    rw [hl]
    have eI := fldI k n [] hk hf
    have eF := fldF b [] hb
    rw [List.append_nil] at eI eF
    have nI : inI k n ≠ [] := by simp [inI]
    have nF : inF b ≠ [] := by simp [inF]
    cases t with
    | true => rw [← ins_if]; exact tab_two (k + 11) (inF b) (inI k n) _ _ (fldF b _ hb) eI nF nI (two_names _ _ (by decide +kernel : ((⟨#[102]⟩ : ByteArray).toList ≠ (⟨#[105]⟩ : ByteArray).toList)))
    | false => rw [← ins_fi]; exact tab_two (k + 11) (inI k n) (inF b) _ _ (fldI k n _ hk hf) eF nI nF (two_names _ _ (by decide +kernel : ((⟨#[105]⟩ : ByteArray).toList ≠ (⟨#[102]⟩ : ByteArray).toList)))
  have hO : tabO (inW t k n b) = some [prF b, prI n] := by
    unfold tabO
    rw [hT, if_pos (by unfold okO; simp [good_w])]
  have hk8 : k ≤ 8 := by omega
  have e1 : (longL (inW t k n b)).take 4 = beN 4 (inW t k n b).length := by
    unfold longL
    rw [List.take_append_of_le_length (by rw [beN_len]; omega)]
    exact List.take_of_length_le (by rw [beN_len]; omega)
  have e2 : (longL (inW t k n b)).drop 4 = inW t k n b := by
    unfold longL
    rw [List.drop_append_of_le_length (by rw [beN_len]; omega), List.drop_of_length_le (by rw [beN_len]; omega)]
    rfl
  unfold ctab
  rw [if_neg (by unfold longL; simp [beN_len]), e1, e2, numL_be 4 _ (by rw [hl]; omega)]
  unfold cutP
  rw [if_pos (Nat.le_refl _), List.take_of_length_le (Nat.le_refl _), List.drop_of_length_le (Nat.le_refl _)]
  simp only
  rw [hO]
  rfl
end Go.Proofs.YtmaaacaifpgpaaaDoor

namespace Go.Proofs.YtmaaacaifpgpaaaDoor
open Go.RowKit Go.Lib
set_option maxRecDepth 100000
set_option linter.unusedSimpArgs false

/-- What part answers where the letter is a text's. -/
def WpT (w w' : World) (b k : Nat) (f : List UInt8 → List UInt8) (n p : Value) (out : List UInt8) (ts : List (List UInt8)) (e : Ending) : Prop :=
  Below b w w' ∧ ((e = .returned (.tuple #[]) ∧ ∃ s rest o' v', ts = s :: rest ∧ s.length ≤ k ∧ Blk w' b (wrA o' n v' p) 90 ∧ Own w' (b + 1) o' (out ++ f s) ∧ RdT w' b v' rest) ∨
    (e = .panicked (gup 1) ∧ (ts = [] ∨ ∃ s rest, ts = s :: rest ∧ k < s.length)))
set_option maxHeartbeats 4000000 in
theorem wpart_s (w : World) (b : Nat) (o n t p : Value) (out : List UInt8) (ts : List (List UInt8)) (hw : Blk w b (wrA o n t p) 90) (ho : Own w (b + 1) o out) (hl : out.length + 2000 ≤ 140737488355328) (hv : RdT w b t ts) :
    Calls Tryd.prog 61 #[.pointer (some ⟨b, 0, none⟩), .int .u8 115] w fun e w' => WpT w w' b 255 shortL n p out ts e := by
  obtain ⟨gu, hg⟩ : ∃ gu, gup 1 = gu := ⟨_, rfl⟩
  have HT : Hid (∀ (w : World) (v : Value) (s : List UInt8), Own w (b + 1) v out → s.length ≤ 255 → b + 1 ≤ w.heap.size → Calls Tryd.prog 41 #[v, str s] w fun e w' => ∃ v', e = .returned v' ∧ Own w' (b + 1) v' (out ++ shortL s) ∧ Bn (b + 1) w w') := fun w v s ho hs hB => short_any w (b + 1) v out s ho hB (by omega)
  have N : Calls Tryd.prog 78 #[.pointer (some ⟨b, 0, none⟩), .int .i64 ((255 : Nat) : Int)] w.drew fun e w' => WtA w.drew w' b 255 o n p ts e := wtext_any w.drew b 255 o n t p ts ⟨hw.h⟩ hv
  have b1 : ((115 : Int) == 115) = true := rfl
  unfold WtA WtP at N
  rw [hg] at N
  have HF : Hid (∀ w w' ts e, (Below b w w' ∧ ((e = .returned (.tuple #[]) ∧ ∃ s rest o' v', ts = s :: rest ∧ s.length ≤ 255 ∧ Blk w' b (wrA o' n v' p) 90 ∧ Own w' (b + 1) o' (out ++ shortL s) ∧ RdT w' b v' rest) ∨ (e = .panicked gu ∧ (ts = [] ∨ ∃ s rest, ts = s :: rest ∧ 255 < s.length)))) → WpT w w' b 255 shortL n p out ts e) := by rw [← hg]; exact fun w w' ns e h => h
  clear hg
  have hwd : Blk w.drew b (wrA o n t p) 90 := ⟨hw.h⟩
  have hod : Own w.drew (b + 1) o out := ho
  have HW : Hid (Below b w w.drew) := (Below.refl _ _).drew
  have HOD : Hid (Own w.drew (b + 1) o out) := hod
  have LB : Hid (∀ W, w.drew.grownBy W (some b) → Below b w.drew W) := fun W gW => (Below.refl _ _).grown gW (Nat.le_of_lt hwd.lt) (fun k hk => by cases hk; exact Nat.le_refl _)
  have c0 := hwd.cell 0
  simp only [List.getElem?_toArray, List.getElem?_cons_zero, List.getElem?_cons_succ] at c0
  go_enter Tryd.func61, Tryd.ntmps61
  go_wp2_with fail
  refine wp_region_held (S := fun _ => True) hmix ?_
  show wpAnyH _ _ _ _ _ _ _ _ (World.drew _)
  generalize World.drew _ = Wd at *
  refine tks [0, 1, 2, 3, 5] [.pointer (some ⟨b, 0, none⟩), .pointer (some ⟨b, 0, none⟩), .pointer (some ⟨b, 0, none⟩), .pointer (some ⟨b, 0, none⟩), .pointer (some ⟨b, 0, none⟩)] 6 ?_ trivial ?_
  · simp only [tkY, tkf]
    refine ⟨.yes ?_, .yes ?_, .yes ?_, .yes ?_, .yes ?_, trivial⟩
    all_goals
      intro W' hW'
      go_simp
  simp only [tkA, tkf]
  refine ak2 4 6 (fun K hK => ?_) (fun K hK => ?_)
  · go_wp2_with fail
    refine hK _ _ trivial ?_
    clear hK K
    refine ak 6 (fun K hK => ?_)
    go_wp2_with (go_at_call 78; refine N.mono ?_; rintro e W (⟨rfl, rfl, rfl⟩ | ⟨s, rest, rfl, gW, sW, (⟨hf, v', rfl, kW, rW⟩ | ⟨hf, rfl⟩)⟩))
    · exact ⟨rfl, HF.out _ _ _ _ ⟨HW.out, .inr ⟨rfl, .inl rfl⟩⟩⟩
    rotate_left
    · exact ⟨rfl, HF.out _ _ _ _ ⟨HW.out.trans (LB.out W gW), .inr ⟨rfl, .inr ⟨_, _, rfl, hf⟩⟩⟩⟩
    have HO : Hid (Own W (b + 1) o out) := HOD.out.grown gW (fun k hk => by cases hk; exact Nat.lt_succ_self _)
    have HW2 : Hid _ := HW.out.trans (LB.out W gW)
    refine hK _ _ trivial ?_
    clear hK K
    refine ak 7 (fun K hK => ?_)
    have sz : b + 1 ≤ W.heap.size := by have := kW.lt; omega
    go_wp2_with (go_at_call 41; refine (HT.out W o s HO.out hf sz).mono ?_; rintro e W3 ⟨o3, rfl, ho3, hb3⟩)
    refine hK _ _ trivial ?_
    clear hK K
    refine ak 8 (fun K hK => ?_)
    go_wp2_with fail
    refine hK _ _ trivial ?_
    clear hK K
    refine ak 9 (fun K hK => ?_)
    go_wp2_with fail
    refine hK _ _ trivial ?_
    clear hK K
    refine ak 10 (fun K hK => ?_)
    have k3 : Blk W3 b (wrA o n v' p) 90 := kW.below hb3.b (Nat.lt_succ_self b)
    have r3 : RdT W3 b v' rest := rW.on (hb3.b.mono (Nat.le_succ b))
    obtain ⟨oa, on, oc, rfl⟩ := Own.shape ho3
    refine opw_set (.tmp 31) (.tmp 29) rfl b 0 _ rfl rfl k3 (by kernel_rfl) rfl rfl (by simp) ?_
    intro W4 k4 g4 s4
    refine hK _ _ trivial ?_
    clear hK K
    refine wpAnyH_done (by kernel_rfl) ?_ _
    go_wp2_with fail
    go_end0
    have l4 : Below b W3 W4 := (Below.refl _ _).grown g4 (Nat.le_of_lt k3.lt) (fun k hk => by cases hk; exact Nat.le_refl _)
    exact HF.out _ _ _ _ ⟨HW2.out.trans (hb3.b.mono (Nat.le_succ b)) |>.trans l4, .inl ⟨rfl, _, rest, _, v', rfl, hf, k4, ho3.grown g4 (fun k hk => by cases hk; exact Nat.lt_succ_self _), r3.on l4⟩⟩
  · go_wp2_with (go_at_call 78; refine N.mono ?_; rintro e W (⟨rfl, rfl, rfl⟩ | ⟨s, rest, rfl, gW, sW, (⟨hf, v', rfl, kW, rW⟩ | ⟨hf, rfl⟩)⟩))
    · exact ⟨rfl, HF.out _ _ _ _ ⟨HW.out, .inr ⟨rfl, .inl rfl⟩⟩⟩
    rotate_left
    · exact ⟨rfl, HF.out _ _ _ _ ⟨HW.out.trans (LB.out W gW), .inr ⟨rfl, .inr ⟨_, _, rfl, hf⟩⟩⟩⟩
    have HO : Hid (Own W (b + 1) o out) := HOD.out.grown gW (fun k hk => by cases hk; exact Nat.lt_succ_self _)
    have HW2 : Hid _ := HW.out.trans (LB.out W gW)
    refine hK _ _ trivial ?_
    clear hK K
    have c0 := kW.cell 0
    simp only [List.getElem?_toArray, List.getElem?_cons_zero, List.getElem?_cons_succ] at c0
    refine ak 4 (fun K hK => ?_)
    go_wp2_with fail
    refine hK _ _ trivial ?_
    clear hK K
    refine ak 7 (fun K hK => ?_)
    have sz : b + 1 ≤ W.heap.size := by have := kW.lt; omega
    go_wp2_with (go_at_call 41; refine (HT.out W o s HO.out hf sz).mono ?_; rintro e W3 ⟨o3, rfl, ho3, hb3⟩)
    refine hK _ _ trivial ?_
    clear hK K
    refine ak 8 (fun K hK => ?_)
    go_wp2_with fail
    refine hK _ _ trivial ?_
    clear hK K
    refine ak 9 (fun K hK => ?_)
    go_wp2_with fail
    refine hK _ _ trivial ?_
    clear hK K
    refine ak 10 (fun K hK => ?_)
    have k3 : Blk W3 b (wrA o n v' p) 90 := kW.below hb3.b (Nat.lt_succ_self b)
    have r3 : RdT W3 b v' rest := rW.on (hb3.b.mono (Nat.le_succ b))
    obtain ⟨oa, on, oc, rfl⟩ := Own.shape ho3
    refine opw_set (.tmp 31) (.tmp 29) rfl b 0 _ rfl rfl k3 (by kernel_rfl) rfl rfl (by simp) ?_
    intro W4 k4 g4 s4
    refine hK _ _ trivial ?_
    clear hK K
    refine wpAnyH_done (by kernel_rfl) ?_ _
    go_wp2_with fail
    go_end0
    have l4 : Below b W3 W4 := (Below.refl _ _).grown g4 (Nat.le_of_lt k3.lt) (fun k hk => by cases hk; exact Nat.le_refl _)
    exact HF.out _ _ _ _ ⟨HW2.out.trans (hb3.b.mono (Nat.le_succ b)) |>.trans l4, .inl ⟨rfl, _, rest, _, v', rfl, hf, k4, ho3.grown g4 (fun k hk => by cases hk; exact Nat.lt_succ_self _), r3.on l4⟩⟩
set_option maxHeartbeats 4000000 in
theorem wpart_l (w : World) (b : Nat) (o n t p : Value) (out : List UInt8) (ts : List (List UInt8)) (hw : Blk w b (wrA o n t p) 90) (ho : Own w (b + 1) o out) (hl : out.length + 2000 ≤ 140737488355328) (hv : RdT w b t ts) :
    Calls Tryd.prog 61 #[.pointer (some ⟨b, 0, none⟩), .int .u8 83] w fun e w' => WpT w w' b 1024 longL n p out ts e := by
  obtain ⟨gu, hg⟩ : ∃ gu, gup 1 = gu := ⟨_, rfl⟩
  have HT : Hid (∀ (w : World) (v : Value) (s : List UInt8), Own w (b + 1) v out → s.length ≤ 1024 → b + 1 ≤ w.heap.size → Calls Tryd.prog 42 #[v, str s] w fun e w' => ∃ v', e = .returned v' ∧ Own w' (b + 1) v' (out ++ longL s) ∧ Bn (b + 1) w w') := fun w v s ho hs hB => long_any w (b + 1) v out s ho hB (by omega)
  have N : Calls Tryd.prog 78 #[.pointer (some ⟨b, 0, none⟩), .int .i64 ((1024 : Nat) : Int)] w.drew fun e w' => WtA w.drew w' b 1024 o n p ts e := wtext_any w.drew b 1024 o n t p ts ⟨hw.h⟩ hv
  have b1 : ((83 : Int) == 115) = false := rfl
  have b2 : ((83 : Int) == 83) = true := rfl
  unfold WtA WtP at N
  rw [hg] at N
  have HF : Hid (∀ w w' ts e, (Below b w w' ∧ ((e = .returned (.tuple #[]) ∧ ∃ s rest o' v', ts = s :: rest ∧ s.length ≤ 1024 ∧ Blk w' b (wrA o' n v' p) 90 ∧ Own w' (b + 1) o' (out ++ longL s) ∧ RdT w' b v' rest) ∨ (e = .panicked gu ∧ (ts = [] ∨ ∃ s rest, ts = s :: rest ∧ 1024 < s.length)))) → WpT w w' b 1024 longL n p out ts e) := by rw [← hg]; exact fun w w' ns e h => h
  clear hg
  have hwd : Blk w.drew b (wrA o n t p) 90 := ⟨hw.h⟩
  have hod : Own w.drew (b + 1) o out := ho
  have HW : Hid (Below b w w.drew) := (Below.refl _ _).drew
  have HOD : Hid (Own w.drew (b + 1) o out) := hod
  have LB : Hid (∀ W, w.drew.grownBy W (some b) → Below b w.drew W) := fun W gW => (Below.refl _ _).grown gW (Nat.le_of_lt hwd.lt) (fun k hk => by cases hk; exact Nat.le_refl _)
  have c0 := hwd.cell 0
  simp only [List.getElem?_toArray, List.getElem?_cons_zero, List.getElem?_cons_succ] at c0
  go_enter Tryd.func61, Tryd.ntmps61
  go_wp2_with fail
  refine wp_region_held (S := fun _ => True) hmix ?_
  show wpAnyH _ _ _ _ _ _ _ _ (World.drew _)
  generalize World.drew _ = Wd at *
  refine tks [0, 1, 2, 3, 5] [.pointer (some ⟨b, 0, none⟩), .pointer (some ⟨b, 0, none⟩), .pointer (some ⟨b, 0, none⟩), .pointer (some ⟨b, 0, none⟩), .pointer (some ⟨b, 0, none⟩)] 6 ?_ trivial ?_
  · simp only [tkY, tkf]
    refine ⟨.yes ?_, .yes ?_, .yes ?_, .yes ?_, .yes ?_, trivial⟩
    all_goals
      intro W' hW'
      go_simp
  simp only [tkA, tkf]
  refine ak2 4 6 (fun K hK => ?_) (fun K hK => ?_)
  · go_wp2_with fail
    refine hK _ _ trivial ?_
    clear hK K
    refine ak 6 (fun K hK => ?_)
    go_wp2_with (go_at_call 78; refine N.mono ?_; rintro e W (⟨rfl, rfl, rfl⟩ | ⟨s, rest, rfl, gW, sW, (⟨hf, v', rfl, kW, rW⟩ | ⟨hf, rfl⟩)⟩))
    · exact ⟨rfl, HF.out _ _ _ _ ⟨HW.out, .inr ⟨rfl, .inl rfl⟩⟩⟩
    rotate_left
    · exact ⟨rfl, HF.out _ _ _ _ ⟨HW.out.trans (LB.out W gW), .inr ⟨rfl, .inr ⟨_, _, rfl, hf⟩⟩⟩⟩
    have HO : Hid (Own W (b + 1) o out) := HOD.out.grown gW (fun k hk => by cases hk; exact Nat.lt_succ_self _)
    have HW2 : Hid _ := HW.out.trans (LB.out W gW)
    refine hK _ _ trivial ?_
    clear hK K
    refine ak 7 (fun K hK => ?_)
    have sz : b + 1 ≤ W.heap.size := by have := kW.lt; omega
    go_wp2_with (go_at_call 42; refine (HT.out W o s HO.out hf sz).mono ?_; rintro e W3 ⟨o3, rfl, ho3, hb3⟩)
    refine hK _ _ trivial ?_
    clear hK K
    refine ak 8 (fun K hK => ?_)
    go_wp2_with fail
    refine hK _ _ trivial ?_
    clear hK K
    refine ak 9 (fun K hK => ?_)
    go_wp2_with fail
    refine hK _ _ trivial ?_
    clear hK K
    refine ak 10 (fun K hK => ?_)
    have k3 : Blk W3 b (wrA o n v' p) 90 := kW.below hb3.b (Nat.lt_succ_self b)
    have r3 : RdT W3 b v' rest := rW.on (hb3.b.mono (Nat.le_succ b))
    obtain ⟨oa, on, oc, rfl⟩ := Own.shape ho3
    refine opw_set (.tmp 43) (.tmp 41) rfl b 0 _ rfl rfl k3 (by kernel_rfl) rfl rfl (by simp) ?_
    intro W4 k4 g4 s4
    refine hK _ _ trivial ?_
    clear hK K
    refine wpAnyH_done (by kernel_rfl) ?_ _
    go_wp2_with fail
    go_end0
    have l4 : Below b W3 W4 := (Below.refl _ _).grown g4 (Nat.le_of_lt k3.lt) (fun k hk => by cases hk; exact Nat.le_refl _)
    exact HF.out _ _ _ _ ⟨HW2.out.trans (hb3.b.mono (Nat.le_succ b)) |>.trans l4, .inl ⟨rfl, _, rest, _, v', rfl, hf, k4, ho3.grown g4 (fun k hk => by cases hk; exact Nat.lt_succ_self _), r3.on l4⟩⟩
  · go_wp2_with (go_at_call 78; refine N.mono ?_; rintro e W (⟨rfl, rfl, rfl⟩ | ⟨s, rest, rfl, gW, sW, (⟨hf, v', rfl, kW, rW⟩ | ⟨hf, rfl⟩)⟩))
    · exact ⟨rfl, HF.out _ _ _ _ ⟨HW.out, .inr ⟨rfl, .inl rfl⟩⟩⟩
    rotate_left
    · exact ⟨rfl, HF.out _ _ _ _ ⟨HW.out.trans (LB.out W gW), .inr ⟨rfl, .inr ⟨_, _, rfl, hf⟩⟩⟩⟩
    have HO : Hid (Own W (b + 1) o out) := HOD.out.grown gW (fun k hk => by cases hk; exact Nat.lt_succ_self _)
    have HW2 : Hid _ := HW.out.trans (LB.out W gW)
    refine hK _ _ trivial ?_
    clear hK K
    have c0 := kW.cell 0
    simp only [List.getElem?_toArray, List.getElem?_cons_zero, List.getElem?_cons_succ] at c0
    refine ak 4 (fun K hK => ?_)
    go_wp2_with fail
    refine hK _ _ trivial ?_
    clear hK K
    refine ak 7 (fun K hK => ?_)
    have sz : b + 1 ≤ W.heap.size := by have := kW.lt; omega
    go_wp2_with (go_at_call 42; refine (HT.out W o s HO.out hf sz).mono ?_; rintro e W3 ⟨o3, rfl, ho3, hb3⟩)
    refine hK _ _ trivial ?_
    clear hK K
    refine ak 8 (fun K hK => ?_)
    go_wp2_with fail
    refine hK _ _ trivial ?_
    clear hK K
    refine ak 9 (fun K hK => ?_)
    go_wp2_with fail
    refine hK _ _ trivial ?_
    clear hK K
    refine ak 10 (fun K hK => ?_)
    have k3 : Blk W3 b (wrA o n v' p) 90 := kW.below hb3.b (Nat.lt_succ_self b)
    have r3 : RdT W3 b v' rest := rW.on (hb3.b.mono (Nat.le_succ b))
    obtain ⟨oa, on, oc, rfl⟩ := Own.shape ho3
    refine opw_set (.tmp 43) (.tmp 41) rfl b 0 _ rfl rfl k3 (by kernel_rfl) rfl rfl (by simp) ?_
    intro W4 k4 g4 s4
    refine hK _ _ trivial ?_
    clear hK K
    refine wpAnyH_done (by kernel_rfl) ?_ _
    go_wp2_with fail
    go_end0
    have l4 : Below b W3 W4 := (Below.refl _ _).grown g4 (Nat.le_of_lt k3.lt) (fun k hk => by cases hk; exact Nat.le_refl _)
    exact HF.out _ _ _ _ ⟨HW2.out.trans (hb3.b.mono (Nat.le_succ b)) |>.trans l4, .inl ⟨rfl, _, rest, _, v', rfl, hf, k4, ho3.grown g4 (fun k hk => by cases hk; exact Nat.lt_succ_self _), r3.on l4⟩⟩
end Go.Proofs.YtmaaacaifpgpaaaDoor

namespace Go.Proofs.YtmaaacaifpgpaaaDoor
open Go.RowKit Go.Lib
set_option maxRecDepth 100000
set_option linter.unusedSimpArgs false

/-- Properties that can be read, in a block below b. -/
def RdV (w : World) (b : Nat) (v : Value) (l : List Pr) : Prop :=
  ((∃ a c, v = .slice a 0 c) ∧ l = []) ∨ ∃ (g o c : Nat), v = .slice (some ⟨g, o, none⟩) l.length c ∧ l.length ≤ c ∧ g < b ∧ ∀ i (h : i < l.length), PrAt w g (o + i * 5) l[i]
theorem RdV.rd {w : World} {b : Nat} {v : Value} {l : List Pr} (h : RdV w b v l) : RdP w v l := by
  rcases h with h | ⟨g, o, c, rfl, hc, _, h⟩
  · exact .inl h
  · exact .inr ⟨g, o, c, rfl, hc, h⟩
theorem RdV.on {w w' : World} {b : Nat} {v : Value} {l : List Pr} (h : RdV w b v l) (hb : Below b w w') : RdV w' b v l := by
  rcases h with h | ⟨g, o, c, rfl, hc, hg, h⟩
  · exact .inl h
  · exact .inr ⟨g, o, c, rfl, hc, hg, fun i hi => by
      obtain ⟨h0, h1, h2, h3, h4⟩ := h i hi
      exact ⟨by rw [hb.cell hg]; exact h0, by rw [hb.cell hg]; exact h1, by rw [hb.cell hg]; exact h2, by rw [hb.cell hg]; exact h3, by rw [hb.cell hg]; exact h4⟩⟩
theorem RdV.nil (w : World) (b : Nat) : RdV w b (.slice none 0 0) [] := .inl ⟨⟨_, _, rfl⟩, rfl⟩
/-- What part answers where the letter is a table's. -/
def WpV (w w' : World) (b : Nat) (n t : Value) (out : List UInt8) (ps : List Pr) (e : Ending) : Prop :=
  Below b w w' ∧ ((e = .returned (.tuple #[]) ∧ validL ps = true ∧ ∃ o', Blk w' b (wrA o' n t (.slice none 0 0)) 90 ∧ Own w' (b + 1) o' (out ++ tabL ps)) ∨ (e = .panicked (gup 1) ∧ validL ps = false))
set_option maxHeartbeats 4000000 in
theorem wpart_t (w : World) (b : Nat) (o n t p : Value) (out : List UInt8) (ps : List Pr) (hw : Blk w b (wrA o n t p) 90) (ho : Own w (b + 1) o out) (hl : out.length ≤ 100000000) (hv : RdV w b p ps) (hf : ∀ q ∈ ps, q.val.real < 2 ^ 64) :
    Calls Tryd.prog 61 #[.pointer (some ⟨b, 0, none⟩), .int .u8 84] w fun e w' => WpV w w' b n t out ps e := by
  obtain ⟨gu, hg⟩ : ∃ gu, gup 1 = gu := ⟨_, rfl⟩
  have V := valid7 w p ps hv.rd
  have hvs : Hid (∀ w', Below w.heap.size w w' → validL ps = true → ∀ (w2 : World) (v : Value), Own w2 (b + 1) v out → b + 1 ≤ w2.heap.size → Below b w w2 → Calls Tryd.prog 23 #[v, p] w2 fun e w' => ∃ v', e = .returned v' ∧ Own w' (b + 1) v' (out ++ tabL ps) ∧ Bn (b + 1) w2 w') := fun w' _ h w2 v ho hB hb => table_any w2 (b + 1) v p out ps ho hB hl (hv.on hb).rd (sm_all h hf).1 (sm_all h hf).2
  obtain ⟨vp, hvp⟩ : ∃ x, validL ps = x := ⟨_, rfl⟩
  obtain ⟨pa, pn, pc, rfl⟩ : ∃ a n c, p = .slice a n c := by
    rcases hv with ⟨⟨a, c, rfl⟩, _⟩ | ⟨_, _, _, rfl, _⟩
    · exact ⟨_, _, _, rfl⟩
    · exact ⟨_, _, _, rfl⟩
  have HF : Hid (∀ w', (Below b w w' → vp = true → ∀ o', Blk w' b (wrA o' n t (.slice none 0 0)) 90 → Own w' (b + 1) o' (out ++ tabL ps) → WpV w w' b n t out ps (.returned (.tuple #[]))) ∧ (Below b w w' → vp = false → WpV w w' b n t out ps (.panicked gu))) := fun w' => by
    rw [← hvp, ← hg]
    exact ⟨fun h1 h2 o' h3 h4 => ⟨h1, .inl ⟨rfl, h2, o', h3, h4⟩⟩, fun h1 h2 => ⟨h1, .inr ⟨rfl, h2⟩⟩⟩
  have I := fun w => insist_no w 1
  rw [hvp] at V hvs
  rw [hg] at I
  have b1 : ((84 : Int) == 115) = false := rfl
  have b2 : ((84 : Int) == 83) = false := rfl
  have b3 : ((84 : Int) == 84) = true := rfl
  clear hg hvp hf hv
  have c3 := hw.cell 3
  simp only [List.getElem?_toArray, List.getElem?_cons_zero, List.getElem?_cons_succ] at c3
  go_enter Tryd.func61, Tryd.ntmps61
  go_wp2_with (go_at_call 16; refine V.mono ?_; rintro e w1 ⟨rfl, hb1⟩)
  have B1 : Below b w w1 := hb1.mono (Nat.le_of_lt hw.lt)
  cases vp with
  | false =>
    go_wp2_with (go_at_call 49; refine (I _).mono ?_; rintro e w' ⟨rfl, rfl⟩)
    exact ⟨rfl, (HF.out _).2 B1 (by trivial)⟩
  | true =>
  have T := hvs.out w1 hb1 (by trivial)
  have k1 := hw.on hb1
  have ho1 : Own w1 (b + 1) o out := ho.on hb1
  clear hvs V I c3 hw ho hb1
  go_wp2_with (go_at_call 49; refine (insist_ok _ _).mono ?_; rintro e w1 ⟨rfl, rfl⟩)
  refine wp_region_held (S := fun _ => True) hmix ?_
  show wpAnyH _ _ _ _ _ _ _ _ (World.drew _)
  have k2 : Blk w1.drew b (wrA o n t (.slice pa pn pc)) 90 := ⟨k1.h⟩
  have ho2 : Own w1.drew (b + 1) o out := ho1
  have B2 : Below b w w1.drew := B1.drew
  clear k1 ho1 B1
  generalize w1.drew = w2 at *
  refine tks [0, 1, 2, 3, 5, 6, 7] [.pointer (some ⟨b, 0, none⟩), .pointer (some ⟨b, 0, none⟩), .pointer (some ⟨b, 0, none⟩), .pointer (some ⟨b, 0, none⟩), .pointer (some ⟨b, 0, none⟩), .pointer (some ⟨b, 0, none⟩), .pointer (some ⟨b, 3, none⟩)] 6 ?_ trivial ?_
  · simp only [tkY, tkf]
    refine ⟨.yes ?_, .yes ?_, .yes ?_, .yes ?_, .yes ?_, .yes ?_, .yes ?_, trivial⟩
    all_goals
      intro W' hW'
      go_simp
  simp only [tkA, tkf]
  have sz := k2.lt
  have d0 := k2.cell 0
  have d3 := k2.cell 3
  simp only [List.getElem?_toArray, List.getElem?_cons_zero, List.getElem?_cons_succ] at d0 d3
  refine ak2 4 8 (fun K hK => ?_) (fun K hK => ?_)
  · go_wp2_with fail
    refine hK _ _ trivial ?_
    clear hK K
    refine ak 8 (fun K hK => ?_)
    go_wp2_with fail
    refine hK _ _ trivial ?_
    clear hK K d0 d3
    refine ak 9 (fun K hK => ?_)
    go_wp2_with (go_at_call 23; refine (T _ _ ho2 sz B2).mono ?_; rintro e w3 ⟨o3, rfl, ho3, hb3⟩)
    have k3 : Blk w3 b (wrA o n t (.slice pa pn pc)) 90 := k2.below hb3.b (Nat.lt_succ_self b)
    have B3 : Below b w w3 := B2.trans (hb3.b.mono (Nat.le_succ b))
    refine hK _ _ trivial ?_
    clear hK K k2 ho2 B2 T hb3
    refine ak 10 (fun K hK => ?_)
    go_wp2_with fail
    refine hK _ _ trivial ?_
    clear hK K
    refine ak 11 (fun K hK => ?_)
    go_wp2_with fail
    refine hK _ _ trivial ?_
    clear hK K
    refine ak 12 (fun K hK => ?_)
    obtain ⟨oa, on, oc, rfl⟩ := Own.shape ho3
    refine opw_set (.tmp 63) (.tmp 61) rfl b 0 _ rfl rfl k3 (by kernel_rfl) rfl rfl (by simp) ?_
    intro w4 k4 g4 s4
    have k4 : Blk w4 b (wrA (.slice oa on oc) n t (.slice pa pn pc)) 90 := k4
    have B4 := B3.grown g4 (by have := k3.lt; omega) (fun k hk => by cases hk; omega)
    have ho4 := ho3.grown g4 (fun k hk => by cases hk; exact Nat.lt_succ_self _)
    refine hK _ _ trivial ?_
    clear hK K k3 B3 ho3 g4
    refine wpAnyH_done (by kernel_rfl) ?_ _
    go_wp2_with (refine wpl_set rfl (.tmp 66) (.const (.slice none 0 0)) rfl b 3 _ rfl rfl k4 (by kernel_rfl) rfl rfl (by simp) ?_)
    intro w5 k5 g5 s5
    have k5 : Blk w5 b (wrA (.slice oa on oc) n t (.slice none 0 0)) 90 := k5
    have B5 := B4.grown g5 (by have := k4.lt; omega) (fun k hk => by cases hk; omega)
    have ho5 := ho4.grown g5 (fun k hk => by cases hk; exact Nat.lt_succ_self _)
    go_wp2_with fail
    go_end0
    exact (HF.out _).1 B5 (by trivial) _ k5 ho5
  · go_wp2_with fail
    refine hK _ _ trivial ?_
    clear hK K
    refine ak 4 (fun K hK => ?_)
    go_wp2_with fail
    refine hK _ _ trivial ?_
    clear hK K d0 d3
    refine ak 9 (fun K hK => ?_)
    go_wp2_with (go_at_call 23; refine (T _ _ ho2 sz B2).mono ?_; rintro e w3 ⟨o3, rfl, ho3, hb3⟩)
    have k3 : Blk w3 b (wrA o n t (.slice pa pn pc)) 90 := k2.below hb3.b (Nat.lt_succ_self b)
    have B3 : Below b w w3 := B2.trans (hb3.b.mono (Nat.le_succ b))
    refine hK _ _ trivial ?_
    clear hK K k2 ho2 B2 T hb3
    refine ak 10 (fun K hK => ?_)
    go_wp2_with fail
    refine hK _ _ trivial ?_
    clear hK K
    refine ak 11 (fun K hK => ?_)
    go_wp2_with fail
    refine hK _ _ trivial ?_
    clear hK K
    refine ak 12 (fun K hK => ?_)
    obtain ⟨oa, on, oc, rfl⟩ := Own.shape ho3
    refine opw_set (.tmp 63) (.tmp 61) rfl b 0 _ rfl rfl k3 (by kernel_rfl) rfl rfl (by simp) ?_
    intro w4 k4 g4 s4
    have k4 : Blk w4 b (wrA (.slice oa on oc) n t (.slice pa pn pc)) 90 := k4
    have B4 := B3.grown g4 (by have := k3.lt; omega) (fun k hk => by cases hk; omega)
    have ho4 := ho3.grown g4 (fun k hk => by cases hk; exact Nat.lt_succ_self _)
    refine hK _ _ trivial ?_
    clear hK K k3 B3 ho3 g4
    refine wpAnyH_done (by kernel_rfl) ?_ _
    go_wp2_with (refine wpl_set rfl (.tmp 66) (.const (.slice none 0 0)) rfl b 3 _ rfl rfl k4 (by kernel_rfl) rfl rfl (by simp) ?_)
    intro w5 k5 g5 s5
    have k5 : Blk w5 b (wrA (.slice oa on oc) n t (.slice none 0 0)) 90 := k5
    have B5 := B4.grown g5 (by have := k4.lt; omega) (fun k hk => by cases hk; omega)
    have ho5 := ho4.grown g5 (fun k hk => by cases hk; exact Nat.lt_succ_self _)
    go_wp2_with fail
    go_end0
    exact (HF.out _).1 B5 (by trivial) _ k5 ho5
end Go.Proofs.YtmaaacaifpgpaaaDoor

namespace Go.Proofs.YtmaaacaifpgpaaaDoor
open Go.RowKit Go.Lib
set_option maxRecDepth 100000
set_option linter.unusedSimpArgs false

/-- What is written, and what isn't yet. -/
structure Wq where
  out : List UInt8
  ns : List Int
  ts : List (List UInt8)
  ps : List Pr
def partP (c : Nat) (q : Wq) : Option Wq :=
  if c = 115 then (match q.ts with
    | [] => none
    | s :: r => if s.length ≤ 255 then some ⟨q.out ++ shortL s, q.ns, r, q.ps⟩ else none)
  else if c = 83 then (match q.ts with
    | [] => none
    | s :: r => if s.length ≤ 1024 then some ⟨q.out ++ longL s, q.ns, r, q.ps⟩ else none)
  else if c = 84 then (if validL q.ps = true then some ⟨q.out ++ tabL q.ps, q.ns, q.ts, []⟩ else none)
  else match q.ns with
    | [] => none
    | n :: r => if fitN n (wid c) = true then some ⟨q.out ++ beN (wid c) n.toNat, r, q.ts, q.ps⟩ else none
def partsP : List UInt8 → Wq → Option Wq
  | [], q => some q
  | c :: l, q => (partP c.toNat q).bind (partsP l)
/-- A method's payload; none: it has none. -/
def payP (a b : Int) (ns : List Int) (ts : List (List UInt8)) (ps : List Pr) : Option (List UInt8) :=
  if (formL a b mL).2 = true then
    (partsP (formL a b mL).1 ⟨beN 2 a.toNat ++ beN 2 b.toNat, ns, ts, ps⟩).bind fun q => if q.ns = [] ∧ q.ts = [] ∧ q.ps = [] then some q.out else none
  else none
/-- All that isn't written has room. -/
structure Wok (m : Nat) (q : Wq) : Prop where
  l : q.out.length ≤ m
  n : ∀ x ∈ q.ns, x < 9223372036854775808
  p : ∀ x ∈ q.ps, x.val.real < 2 ^ 64
theorem partP_ok {c m : Nat} {q q' : Wq} (h : partP c q = some q') (hk : Wok m q) : Wok (m + 6000) q' := by
  obtain ⟨h1, h2, h3⟩ := hk
  unfold partP at h
  split at h
  · split at h
    · cases h
    · rename_i s r _
      split at h
      · rename_i hs
        injection h with h
        subst h
        exact ⟨by simp only [shortL, List.length_append, beN_len]; omega, h2, h3⟩
      · cases h
  · split at h
    · split at h
      · cases h
      · rename_i s r _
        split at h
        · rename_i hs
          injection h with h
          subst h
          exact ⟨by simp only [longL, List.length_append, beN_len]; omega, h2, h3⟩
        · cases h
    · split at h
      · split at h
        · rename_i hv
          injection h with h
          subst h
          obtain ⟨h16, hs⟩ := sm_all hv h3
          have := flatT_len hs
          exact ⟨by simp only [tabL, longL, List.length_append, beN_len]; omega, h2, fun x hx => by cases hx⟩
        · cases h
      · split at h
        · cases h
        · rename_i n r hq
          split at h
          · injection h with h
            subst h
            have hw : wid c ≤ 8 := by rcases wid_is c with h | h | h | h <;> omega
            exact ⟨by simp only [List.length_append, beN_len]; omega, fun x hx => h2 x (by rw [hq]; exact List.mem_cons_of_mem _ hx), h3⟩
          · cases h
/-- The writer in memory. -/
def Wst (W : World) (b : Nat) (q : Wq) : Prop := ∃ vo vn vt vp, Blk W b (wrA vo vn vt vp) 90 ∧ Own W (b + 1) vo q.out ∧ RdN W b vn q.ns ∧ RdT W b vt q.ts ∧ RdV W b vp q.ps
theorem part_any (w : World) (b c : Nat) (q : Wq) (hW : Wst w b q) (hk : Wok 90000000 q) :
    Calls Tryd.prog 61 #[.pointer (some ⟨b, 0, none⟩), .int .u8 (c : Int)] w fun e w' => Below b w w' ∧ ((∃ q', partP c q = some q' ∧ e = .returned (.tuple #[]) ∧ Wst w' b q') ∨ (partP c q = none ∧ e = .panicked (gup 1))) := by
  obtain ⟨vo, vn, vt, vp, kW, ho, rn, rt, rv⟩ := hW
  obtain ⟨h1, h2, h3⟩ := hk
  unfold partP
  by_cases c1 : c = 115
  · subst c1
    rw [if_pos rfl]
    refine (wpart_s w b vo vn vt vp q.out q.ts kW ho (by omega) rt).mono ?_
    rintro e w' ⟨hb, ⟨rfl, s, rest, o', v', he, hs, k', ho', r'⟩ | ⟨rfl, h⟩⟩
    · rw [he]
      exact ⟨hb, .inl ⟨_, if_pos hs, rfl, o', vn, v', vp, k', ho', rn.on hb, r', rv.on hb⟩⟩
    · refine ⟨hb, .inr ⟨?_, rfl⟩⟩
      rcases h with h | ⟨s, rest, he, hs⟩
      · rw [h]
      · rw [he]; exact if_neg (by omega)
  rw [if_neg c1]
  by_cases c2 : c = 83
  · subst c2
    rw [if_pos rfl]
    refine (wpart_l w b vo vn vt vp q.out q.ts kW ho (by omega) rt).mono ?_
    rintro e w' ⟨hb, ⟨rfl, s, rest, o', v', he, hs, k', ho', r'⟩ | ⟨rfl, h⟩⟩
    · rw [he]
      exact ⟨hb, .inl ⟨_, if_pos hs, rfl, o', vn, v', vp, k', ho', rn.on hb, r', rv.on hb⟩⟩
    · refine ⟨hb, .inr ⟨?_, rfl⟩⟩
      rcases h with h | ⟨s, rest, he, hs⟩
      · rw [h]
      · rw [he]; exact if_neg (by omega)
  rw [if_neg c2]
  by_cases c3 : c = 84
  · subst c3
    rw [if_pos rfl]
    refine (wpart_t w b vo vn vt vp q.out q.ps kW ho (by omega) rv h3).mono ?_
    rintro e w' ⟨hb, ⟨rfl, hv, o', k', ho'⟩ | ⟨rfl, hv⟩⟩
    · exact ⟨hb, .inl ⟨_, if_pos hv, rfl, o', vn, vt, _, k', ho', rn.on hb, rt.on hb, RdV.nil _ _⟩⟩
    · exact ⟨hb, .inr ⟨if_neg (by rw [hv]; decide), rfl⟩⟩
  rw [if_neg c3]
  refine (wpart_num w b c vo vn vt vp q.out q.ns c1 c2 c3 kW ho (by omega) rn h2).mono ?_
  rintro e w' ⟨hb, ⟨rfl, n, rest, o', v', he, hf, k', ho', r'⟩ | ⟨rfl, h⟩⟩
  · rw [he]
    exact ⟨hb, .inl ⟨_, if_pos hf, rfl, o', v', vt, vp, k', ho', r', rt.on hb, rv.on hb⟩⟩
  · refine ⟨hb, .inr ⟨?_, rfl⟩⟩
    rcases h with h | ⟨n, rest, he, hf⟩
    · rw [h]
    · rw [he]; exact if_neg (by rw [hf]; decide)
theorem form_some_aux (a b : Int) : ∀ l : List (Nat × Nat × List UInt8), (l.all fun x => decide (x.1 < 256) && (decide (x.2.1 < 256) && decide (x.2.2.length ≤ 6))) = true → (formL a b l).2 = true → 0 ≤ a ∧ a < 256 ∧ 0 ≤ b ∧ b < 256 ∧ (formL a b l).1.length ≤ 6
  | [], _, h => by cases h
  | x :: l, hl, h => by
    simp only [List.all_cons, Bool.and_eq_true, decide_eq_true_eq] at hl
    unfold formL at h ⊢
    split at h
    · rename_i hx
      rw [if_pos hx]
      obtain ⟨⟨h1, h2, h3⟩, _⟩ := hl
      exact ⟨by omega, by omega, by omega, by omega, h3⟩
    · rename_i hx
      rw [if_neg hx]
      exact form_some_aux a b l (by simpa [Bool.and_eq_true, decide_eq_true_eq] using hl.2) h
theorem form_some {a b : Int} (h : (formL a b mL).2 = true) : 0 ≤ a ∧ a < 256 ∧ 0 ≤ b ∧ b < 256 ∧ (formL a b mL).1.length ≤ 6 := form_some_aux a b mL (by decide) h
end Go.Proofs.YtmaaacaifpgpaaaDoor

namespace Go.Proofs.YtmaaacaifpgpaaaDoor
open Go.RowKit Go.Lib
set_option maxRecDepth 100000
set_option linter.unusedSimpArgs false

theorem RdN.up {w : World} {a b : Nat} {v : Value} {l : List Int} (h : RdN w a v l) (hab : a ≤ b) : RdN w b v l := by
  rcases h with h | ⟨g, o, c, rfl, hc, hg, hx⟩
  · exact .inl h
  · exact .inr ⟨g, o, c, rfl, hc, by omega, hx⟩
theorem RdT.up {w : World} {a b : Nat} {v : Value} {l : List (List UInt8)} (h : RdT w a v l) (hab : a ≤ b) : RdT w b v l := by
  rcases h with h | ⟨g, o, c, rfl, hc, hg, hx⟩
  · exact .inl h
  · exact .inr ⟨g, o, c, rfl, hc, by omega, hx⟩
theorem RdV.up {w : World} {a b : Nat} {v : Value} {l : List Pr} (h : RdV w a v l) (hab : a ≤ b) : RdV w b v l := by
  rcases h with h | ⟨g, o, c, rfl, hc, hg, hx⟩
  · exact .inl h
  · exact .inr ⟨g, o, c, rfl, hc, by omega, hx⟩
theorem RdN.shape {w : World} {b : Nat} {v : Value} {l : List Int} (h : RdN w b v l) : ∃ a c, v = .slice a l.length c := by
  rcases h with ⟨⟨a, c, rfl⟩, rfl⟩ | ⟨g, o, c, rfl, _⟩
  · exact ⟨_, _, rfl⟩
  · exact ⟨_, _, rfl⟩
theorem RdT.shape {w : World} {b : Nat} {v : Value} {l : List (List UInt8)} (h : RdT w b v l) : ∃ a c, v = .slice a l.length c := by
  rcases h with ⟨⟨a, c, rfl⟩, rfl⟩ | ⟨g, o, c, rfl, _⟩
  · exact ⟨_, _, rfl⟩
  · exact ⟨_, _, rfl⟩
theorem RdV.shape {w : World} {b : Nat} {v : Value} {l : List Pr} (h : RdV w b v l) : ∃ a c, v = .slice a l.length c := by
  rcases h with ⟨⟨a, c, rfl⟩, rfl⟩ | ⟨g, o, c, rfl, _⟩
  · exact ⟨_, _, rfl⟩
  · exact ⟨_, _, rfl⟩
/-- A method that can be read: its numbers, texts and properties, in blocks below b. -/
structure RdM (w : World) (b : Nat) (vn vt vp : Value) (ns : List Int) (ts : List (List UInt8)) (ps : List Pr) : Prop where
  n : RdN w b vn ns
  t : RdT w b vt ts
  p : RdV w b vp ps
  ln : ∀ x ∈ ns, x < 9223372036854775808
  lp : ∀ x ∈ ps, x.val.real < 2 ^ 64
  sz : ns.length + ts.length + ps.length ≤ 4000000000000000000
theorem RdM.on {w w' : World} {b : Nat} {vn vt vp : Value} {ns : List Int} {ts : List (List UInt8)} {ps : List Pr} (h : RdM w b vn vt vp ns ts ps) (hb : Below b w w') : RdM w' b vn vt vp ns ts ps :=
  ⟨h.n.on hb, h.t.on hb, h.p.on hb, h.ln, h.lp, h.sz⟩
theorem RdM.up {w : World} {a b : Nat} {vn vt vp : Value} {ns : List Int} {ts : List (List UInt8)} {ps : List Pr} (h : RdM w a vn vt vp ns ts ps) (hab : a ≤ b) : RdM w b vn vt vp ns ts ps :=
  ⟨h.n.up hab, h.t.up hab, h.p.up hab, h.ln, h.lp, h.sz⟩
abbrev mtA (a b : Int) (vn vt vp : Value) : Array Value := #[.int .i64 a, .int .i64 b, vn, vt, vp]
/-- How much room the parts have, one behind the other. -/
theorem partP_less {c : Nat} {q q' : Wq} (h : partP c q = some q') : q'.ns.length ≤ q.ns.length ∧ q'.ts.length ≤ q.ts.length ∧ q'.ps.length ≤ q.ps.length := by
  unfold partP at h
  split at h
  · split at h
    · cases h
    · rename_i s r hq
      split at h
      · injection h with h
        subst h
        rw [hq]
        exact ⟨Nat.le_refl _, by simp, Nat.le_refl _⟩
      · cases h
  · split at h
    · split at h
      · cases h
      · rename_i s r hq
        split at h
        · injection h with h
          subst h
          rw [hq]
          exact ⟨Nat.le_refl _, by simp, Nat.le_refl _⟩
        · cases h
    · split at h
      · split at h
        · injection h with h
          subst h
          exact ⟨Nat.le_refl _, Nat.le_refl _, Nat.zero_le _⟩
        · cases h
      · split at h
        · cases h
        · rename_i n r hq
          split at h
          · injection h with h
            subst h
            rw [hq]
            exact ⟨by simp, Nat.le_refl _, Nat.le_refl _⟩
          · cases h
theorem partsP_get {f : List UInt8} {q q0 : Wq} {k : Nat} (h : k < f.length) (hq : partsP f q0 = partsP (f.drop k) q) : partsP f q0 = (partP f[k].toNat q).bind (partsP (f.drop (k + 1))) := by
  rw [hq, List.drop_eq_getElem_cons h, partsP]
set_option maxHeartbeats 8000000 in
theorem payload_any (w : World) (ca cb : Int) (vn vt vp : Value) (ns : List Int) (ts : List (List UInt8)) (ps : List Pr) (hv : Mv w) (hm : RdM w w.heap.size vn vt vp ns ts ps) :
    Calls Tryd.prog 35 #[.agg (mtA ca cb vn vt vp)] w fun e w' => Below w.heap.size w w' ∧ ((∃ x v, payP ca cb ns ts ps = some x ∧ e = .returned v ∧ Own w' w.heap.size v x) ∨ (payP ca cb ns ts ps = none ∧ e = .panicked (gup 1))) := by
  obtain ⟨a, ha⟩ : ∃ a, w.heap.size = a := ⟨_, rfl⟩
  obtain ⟨gu, hg⟩ : ∃ gu, gup 1 = gu := ⟨_, rfl⟩
  have I := fun w => insist_no w 1
  rw [hg] at I ⊢
  have F := fun w (hv : Mv w) => form_any w ca cb hv
  obtain ⟨W1, hW1⟩ : ∃ W1, w.alloc (Obj.cells (mtA ca cb vn vt vp) 36) = W1 := ⟨_, rfl⟩
  have B1 : Below a w W1 := by rw [← hW1, ← ha]; exact below_new w _
  have K1 : Blk W1 a (mtA ca cb vn vt vp) 36 := by rw [← hW1, ← ha]; exact Blk.new w _ _
  have M1 : Mv W1 := hv.on (by rw [ha]; exact B1)
  have HM : Hid (RdM w a vn vt vp ns ts ps) := by rw [← ha]; exact hm
  obtain ⟨na, nc, e1⟩ := hm.n.shape
  obtain ⟨ta, tc, e2⟩ := hm.t.shape
  obtain ⟨pa, pc, e3⟩ := hm.p.shape
  subst e1 e2 e3
  have HP : Hid (payP ca cb ns ts ps = if (formL ca cb mL).2 = true then
    (partsP (formL ca cb mL).1 ⟨beN 2 ca.toNat ++ beN 2 cb.toNat, ns, ts, ps⟩).bind fun q => if q.ns = [] ∧ q.ts = [] ∧ q.ps = [] then some q.out else none
  else none) := rfl
  have FS := @form_some ca cb
  generalize payP ca cb ns ts ps = PP at *
  rw [ha]
  clear hv hm
  generalize (formL ca cb mL).1 = f at *
  generalize (formL ca cb mL).2 = ok at *
  have c0 := K1.cell 0
  have c1 := K1.cell 1
  simp only [List.getElem?_toArray, List.getElem?_cons_zero, List.getElem?_cons_succ] at c0 c1
  go_enter Tryd.func35, Tryd.ntmps35
  go_upto_region 1 with fail
  clear hW1 ha
  go_wp2_with (go_at_call 59; refine (F _ M1).mono ?_; rintro e W2 ⟨rfl, hb2⟩)
  have K2 : Blk W2 a (mtA ca cb _ _ _) 36 := K1.on hb2
  have B2 : Below a w W2 := B1.trans (hb2.mono (Nat.le_of_lt K1.lt))
  clear c0 c1 K1 B1 M1 hb2 F
  cases ok with
  | false =>
    refine (I _).mono ?_
    rintro e w' ⟨rfl, rfl⟩
    exact ⟨rfl, B2, .inr ⟨by rw [HP.out]; rfl, rfl⟩⟩
  | true =>
  obtain ⟨f1, f2, f3, f4, f5⟩ := FS (by trivial)
  obtain ⟨na', rfl⟩ : ∃ n : Nat, ca = (n : Int) := ⟨ca.toNat, by omega⟩
  obtain ⟨nb', rfl⟩ : ∃ n : Nat, cb = (n : Int) := ⟨cb.toNat, by omega⟩
  have HP : Hid (PP = (partsP f ⟨beN 2 na' ++ beN 2 nb', ns, ts, ps⟩).bind fun q => if q.ns = [] ∧ q.ts = [] ∧ q.ps = [] then some q.out else none) := HP.out
  have hwa : IntKind.u64.wrap (na' : Int) = (na' : Int) := by rw [IntKind.wrap_u64]; omega
  have hwb : IntKind.u64.wrap (nb' : Int) = (nb' : Int) := by rw [IntKind.wrap_u64]; omega
  clear FS f1 f3
  have c0 := K2.cell 0
  have c1 := K2.cell 1
  have c2 := K2.cell 2
  have c3 := K2.cell 3
  have c4 := K2.cell 4
  simp only [List.getElem?_toArray, List.getElem?_cons_zero, List.getElem?_cons_succ] at c0 c1 c2 c3 c4
  obtain ⟨b, hb⟩ : ∃ b, W2.heap.size = b := ⟨_, rfl⟩
  refine (insist_ok _ _).mono ?_
  rintro e w' ⟨rfl, hw'⟩
  rw [hw']
  clear hw' w'
  go_upto_region 4 with fail
  obtain ⟨W3, hW3⟩ : ∃ W3, W2.alloc (Obj.cells #[Value.slice none 0 0, Value.slice na ns.length nc, Value.slice ta ts.length tc, Value.slice pa ps.length pc] 90) = W3 := ⟨_, rfl⟩
  have hab : a < b := by rw [← hb]; exact K2.lt
  have hb2 : Below b W2 W3 := by rw [← hW3, ← hb]; exact below_new W2 _
  have B3 : Below a w W3 := B2.trans (hb2.mono (Nat.le_of_lt hab))
  have K3 : Blk W3 a (mtA na' nb' (Value.slice na ns.length nc) (Value.slice ta ts.length tc) (Value.slice pa ps.length pc)) 36 := K2.below hb2 hab
  have k3 : Blk W3 b (wrA (.slice none 0 0) (Value.slice na ns.length nc) (Value.slice ta ts.length tc) (Value.slice pa ps.length pc)) 90 := by rw [← hW3, ← hb]; exact Blk.new W2 _ _
  rw [hW3]
  clear hW3 hb hb2 K2 B2 c0 c1 c2 c3 c4
  refine wp_region_held (S := fun W => Blk W a (mtA na' nb' (Value.slice na ns.length nc) (Value.slice ta ts.length tc) (Value.slice pa ps.length pc)) 36) hmix ?_
  show wpAnyH _ _ _ _ _ _ _ _ (World.drew _)
  have hS : Blk W3.drew a (mtA na' nb' (Value.slice na ns.length nc) (Value.slice ta ts.length tc) (Value.slice pa ps.length pc)) 36 := ⟨K3.h⟩
  have kd : Blk W3.drew b (wrA (.slice none 0 0) (Value.slice na ns.length nc) (Value.slice ta ts.length tc) (Value.slice pa ps.length pc)) 90 := ⟨k3.h⟩
  have Bd : Below a w W3.drew := B3.drew
  clear K3 k3 B3
  generalize W3.drew = Wd at *
  refine tks [0, 2, 3, 4, 6, 7, 8] [.pointer (some ⟨b, 0, none⟩), .pointer (some ⟨a, 0, none⟩), .int .i64 na', .int .u64 na', .pointer (some ⟨a, 1, none⟩), .int .i64 nb', .int .u64 nb'] 5 ?_ hS ?_
  · simp only [tkY, tkf]
    refine ⟨.yes ?_, .yes ?_, .yes ?_, .yes ?_, .yes ?_, .yes ?_, .yes ?_, trivial⟩
    all_goals
      intro W' hW'
      have c0 := hW'.cell 0
      have c1 := hW'.cell 1
      simp only [List.getElem?_toArray, List.getElem?_cons_zero, List.getElem?_cons_succ] at c0 c1
      go_simp
      try (first | rw [hwa] | rw [hwb])
  simp only [tkA, tkf]
  have d0 := kd.cell 0
  simp only [List.getElem?_toArray, List.getElem?_cons_zero, List.getElem?_cons_succ] at d0
  refine ak 1 (fun K hK => ?_)
  go_wp2_with fail
  refine hK _ _ hS ?_
  clear hK K d0
  refine ak 5 (fun K hK => ?_)
  have sd := kd.lt
  go_wp2_with (go_at_call 60; refine (tput_any Wd (b + 1) _ [] 2 na' (by omega) (Own.nil _ _) sd (by simp)).mono ?_; rintro e W4 ⟨o4, rfl, ho4, hb4⟩)
  have hS4 := hS.below hb4.b (by omega)
  have k4 := kd.below hb4.b (Nat.lt_succ_self b)
  have B4 : Below a w W4 := Bd.trans (hb4.b.mono (by omega))
  refine hK _ _ hS4 ?_
  clear hK K sd hS kd Bd hb4
  refine ak 9 (fun K hK => ?_)
  have s4 := k4.lt
  go_wp2_with (go_at_call 60; refine (tput_any W4 (b + 1) _ _ 2 nb' (by omega) ho4 s4 (by simp [beN_len])).mono ?_; rintro e W5 ⟨o5, rfl, ho5, hb5⟩)
  have hS5 := hS4.below hb5.b (by omega)
  have k5 := k4.below hb5.b (Nat.lt_succ_self b)
  have B5 : Below a w W5 := B4.trans (hb5.b.mono (by omega))
  refine hK _ _ hS5 ?_
  clear hK K s4 hS4 k4 B4 hb5 ho4
  refine ak 10 (fun K hK => ?_)
  go_wp2_with fail
  refine hK _ _ hS5 ?_
  clear hK K
  refine ak 11 (fun K hK => ?_)
  obtain ⟨oa, on, oc, rfl⟩ := Own.shape ho5
  refine opw_set (.tmp 34) (.tmp 33) rfl b 0 _ rfl rfl k5 (by kernel_rfl) rfl rfl (by simp) ?_
  intro W6 k6 g6 s6
  have k7 : Blk W6 b (wrA (.slice oa on oc) (Value.slice na ns.length nc) (Value.slice ta ts.length tc) (Value.slice pa ps.length pc)) 90 := k6
  clear k6
  have hS6 := hS5.grown g6 (by simp; omega)
  have B6 : Below a w W6 := B5.grown g6 (by have := k5.lt; omega) (fun k hk => by cases hk; omega)
  have ho6 : Own W6 (b + 1) (.slice oa on oc) (beN 2 na' ++ beN 2 nb') := by
    have := ho5.grown g6 (fun k hk => by cases hk; exact Nat.lt_succ_self _)
    rw [List.nil_append] at this
    exact this
  have M6 := (HM.out.on B6).up (Nat.le_of_lt hab)
  have st6 : Wst W6 b ⟨beN 2 na' ++ beN 2 nb', ns, ts, ps⟩ := ⟨_, _, _, _, k7, ho6, M6.n, M6.t, M6.p⟩
  have ok6 : Wok 4 ⟨beN 2 na' ++ beN 2 nb', ns, ts, ps⟩ := ⟨by simp [beN_len], HM.out.ln, HM.out.lp⟩
  refine hK _ _ hS6 ?_
  clear hK K hS5 k5 B5 g6 s6 ho5 hS6 k7 ho6 M6
  refine wpAnyH_done (by kernel_rfl) ?_ _
  go_wp2_with fail
  have HSZ : Hid (ns.length + ts.length + ps.length ≤ 4000000000000000000) := HM.out.sz
  have HL : Hid (ns.length + ts.length + ps.length ≤ 4000000000000000000) := HSZ.out
  have NL : Hid (∀ q : Wq, q.ns.length + q.ts.length + q.ps.length ≤ 4000000000000000000 → ∀ c q', partP c q = some q' → q'.ns.length + q'.ts.length + q'.ps.length ≤ 4000000000000000000) := fun q hq c q' h => by have := partP_less h; omega
  have hq0 : (⟨beN 2 na' ++ beN 2 nb', ns, ts, ps⟩ : Wq).ns.length + (⟨beN 2 na' ++ beN 2 nb', ns, ts, ps⟩ : Wq).ts.length + (⟨beN 2 na' ++ beN 2 nb', ns, ts, ps⟩ : Wq).ps.length ≤ 4000000000000000000 := HSZ.out
  clear HSZ HL HM
  generalize (⟨beN 2 na' ++ beN 2 nb', ns, ts, ps⟩ : Wq) = q0 at *
  have HQ0 : Hid (Wst W6 b q0 ∧ Wok 4 q0 ∧ q0.ns.length + q0.ts.length + q0.ps.length ≤ 4000000000000000000) := ⟨st6, ok6, hq0⟩
  clear st6 ok6 hq0 hwa hwb
  go_loopw [6, 37] (fun _ i wr => ∃ (k : Nat) (q : Wq), k ≤ f.length ∧ i = .int .i64 (k : Int) ∧ Hid (Wst wr b q ∧ Wok (4 + 6000 * k) q ∧ q.ns.length + q.ts.length + q.ps.length ≤ 4000000000000000000) ∧ Hid (partsP f q0 = partsP (f.drop k) q) ∧ Below a w wr) (fun _ i _ => f.length - (RowKit.intOf i).toNat)
  case atStart => exact ⟨0, q0, Nat.zero_le _, rfl, HQ0, rfl, B6⟩
  case round =>
    clear HQ0 B6
    obtain ⟨k, q, hk, rfl, HQ, HB, hB⟩ := hrel
    by_cases hlt : k < f.length
    · have gk := get_str f k
      have hgk : f.getD k 0 = f[k] := by simp [List.getD_eq_getElem?_getD, hlt]
      rw [hgk] at gk
      have hkz : (k : Int) < (f.length : Int) := by omega
      have HE : Hid (partsP f q0 = (partP f[k].toNat q).bind (partsP (f.drop (k + 1)))) := partsP_get hlt HB.out
      have P := part_any wr b f[k].toNat q HQ.out.1 ⟨by have := HQ.out.2.1.l; omega, HQ.out.2.1.n, HQ.out.2.1.p⟩
      have HOK : Hid (∀ q', partP f[k].toNat q = some q' → Wok (4 + 6000 * (k + 1)) q') := fun q' h => by
        have := partP_ok h HQ.out.2.1
        rw [show 4 + 6000 * (k + 1) = 4 + 6000 * k + 6000 by omega]
        exact this
      have HNL : Hid (∀ q', partP f[k].toNat q = some q' → q'.ns.length + q'.ts.length + q'.ps.length ≤ 4000000000000000000) := fun q' h => NL.out q HQ.out.2.2 _ q' h
      rw [hg] at P
      clear HB HQ hgk
      generalize f[k] = y at *
      go_wp2_with (go_at_call 61; refine P.mono ?_; rintro e w7 ⟨hb7, ⟨q', hq, rfl, st7⟩ | ⟨hq, rfl⟩⟩)
      · have HQ7 : Hid (Wst w7 b q' ∧ Wok (4 + 6000 * (k + 1)) q' ∧ q'.ns.length + q'.ts.length + q'.ps.length ≤ 4000000000000000000) := ⟨st7, HOK.out _ hq, HNL.out _ hq⟩
        have HB7 : Hid (partsP f q0 = partsP (f.drop (k + 1)) q') := by show _ = _; rw [HE.out, hq]; rfl
        clear P HOK HNL HE hq st7
        go_wp2_with fail
        go_roundw
        case rel => exact ⟨k + 1, q', by omega, by go_num, HQ7, HB7, hB.trans (hb7.mono (by omega))⟩
        case measure => simp [RowKit.intOf]; omega
      · exact ⟨rfl, hB.trans (hb7.mono (by omega)), .inr ⟨by rw [HP.out, HE.out, hq]; rfl, rfl⟩⟩
    · obtain rfl : k = f.length := by omega
      have HB2 : Hid (PP = if q.ns = [] ∧ q.ts = [] ∧ q.ps = [] then some q.out else none) := by
        show _ = _
        rw [HP.out, HB.out, List.drop_length]
        rfl
      obtain ⟨⟨vo, vn, vt, vp, kW, ho, rn, rt, rv⟩, okq, hqs⟩ := HQ.out
      obtain ⟨na1, nc1, rfl⟩ := rn.shape
      obtain ⟨ta1, tc1, rfl⟩ := rt.shape
      obtain ⟨pa1, pc1, rfl⟩ := rv.shape
      obtain ⟨oa', on', oc', rfl⟩ := Own.shape ho
      have c0 := kW.cell 0
      have c1 := kW.cell 1
      have c2 := kW.cell 2
      have c3 := kW.cell 3
      simp only [List.getElem?_toArray, List.getElem?_cons_zero, List.getElem?_cons_succ] at c0 c1 c2 c3
      have hkz : ¬ (f.length : Int) < (f.length : Int) := by omega
      clear HB HQ rn rt rv okq NL HP
      by_cases hz : q.ns = [] ∧ q.ts = [] ∧ q.ps = []
      · have hpp : PP = some q.out := by rw [HB2.out, if_pos hz]
        have hs0 : (((q.ns.length : Int) + (q.ts.length : Int) + (q.ps.length : Int)) == 0) = true := by rw [hz.1, hz.2.1, hz.2.2]; rfl
        have hl1 : q.ns.length = 0 := by rw [hz.1]; rfl
        have hl2 : q.ts.length = 0 := by rw [hz.2.1]; rfl
        have hl3 : q.ps.length = 0 := by rw [hz.2.2]; rfl
        clear hz HB2
        go_wp2_with (go_at_call 49; refine (insist_ok _ _).mono ?_; rintro e w' ⟨rfl, rfl⟩)
        go_ret
        exact ⟨hB, .inl ⟨_, _, hpp, rfl, Own.lower ho (by omega)⟩⟩
      · have hpp : PP = none := by rw [HB2.out, if_neg hz]
        have hs0 : (((q.ns.length : Int) + (q.ts.length : Int) + (q.ps.length : Int)) == 0) = false := by
          rw [beq_eq_false_iff_ne]
          intro h
          exact hz ⟨List.length_eq_zero_iff.1 (by omega), List.length_eq_zero_iff.1 (by omega), List.length_eq_zero_iff.1 (by omega)⟩
        clear hz HB2
        go_wp2_with (go_at_call 49; refine (I _).mono ?_; rintro e w' ⟨rfl, rfl⟩)
        exact ⟨rfl, hB, .inr ⟨hpp, rfl⟩⟩
end Go.Proofs.YtmaaacaifpgpaaaDoor

namespace Go.Proofs.YtmaaacaifpgpaaaDoor
open Go.RowKit Go.Lib
set_option maxRecDepth 100000
set_option linter.unusedSimpArgs false

set_option maxHeartbeats 1000000 in
theorem enc1_any (w : World) (a r q : Nat) (ca cb : Int) (vn vt vp : Value) (ns : List Int) (ts : List (List UInt8)) (ps : List Pr) (K : Blk w a (mtA ca cb vn vt vp) 36) (R : Blk w r #[.slice none 0 0] 23) (E : Blk w q #[.int .i64 0] 26) (hne : q ≠ r) (hv : Mv w) (hm : RdM w w.heap.size vn vt vp ns ts ps) :
    Calls Tryd.prog 34 #[.pointer (some ⟨a, 0, none⟩), .pointer (some ⟨r, 0, none⟩)] w fun e w' => Below r w w' ∧ Blk w' q #[.int .i64 0] 26 ∧ ((∃ x v, payP ca cb ns ts ps = some x ∧ e = .returned (.tuple #[]) ∧ Blk w' r #[v] 23 ∧ Own w' w.heap.size v x) ∨ (payP ca cb ns ts ps = none ∧ e = .panicked (gup 1) ∧ Blk w' r #[.slice none 0 0] 23)) := by
  obtain ⟨n, hn⟩ : ∃ n, w.heap.size = n := ⟨_, rfl⟩
  obtain ⟨gu, hg⟩ : ∃ gu, gup 1 = gu := ⟨_, rfl⟩
  have P : Calls Tryd.prog 35 #[.agg (mtA ca cb vn vt vp)] w fun e w' => Below w.heap.size w w' ∧ ((∃ x va vn vc, payP ca cb ns ts ps = some x ∧ e = .returned (.slice va vn vc) ∧ Own w' w.heap.size (.slice va vn vc) x) ∨ (payP ca cb ns ts ps = none ∧ e = .panicked gu)) := (payload_any w ca cb vn vt vp ns ts ps hv hm).mono fun e w' ⟨h1, h2⟩ => by
    refine ⟨h1, ?_⟩
    rcases h2 with ⟨x, v, h2, h3, h4⟩ | ⟨h2, h3⟩
    · obtain ⟨oa, on, oc, rfl⟩ := Own.shape h4
      exact .inl ⟨x, _, _, _, h2, h3, h4⟩
    · exact .inr ⟨h2, by rw [← hg]; exact h3⟩
  obtain ⟨na, nc, e1⟩ := hm.n.shape
  obtain ⟨ta, tc, e2⟩ := hm.t.shape
  obtain ⟨pa, pc, e3⟩ := hm.p.shape
  subst e1 e2 e3
  have hr := R.lt
  have hq := E.lt
  rw [hn] at P hr hq ⊢
  rw [hg]
  have c0 := K.cell 0
  have c1 := K.cell 1
  have c2 := K.cell 2
  have c3 := K.cell 3
  have c4 := K.cell 4
  simp only [List.getElem?_toArray, List.getElem?_cons_zero, List.getElem?_cons_succ] at c0 c1 c2 c3 c4
  clear hv hm K
  go_enter Tryd.func34, Tryd.ntmps34
  go_wp2_with (first | (go_at_call 35; refine P.mono ?_; rintro e w1 ⟨hb, ⟨x, va, vn, vc, hx, rfl, ho⟩ | ⟨hx, rfl⟩⟩) | (refine wpl_set rfl (.tmp 1) (.tmp 3) rfl r 0 _ rfl rfl (R.below hb hr) (by kernel_rfl) rfl rfl (by simp) ?_))
  · have R1 := R.below hb hr
    have E1 := E.below hb hq
    have HX : Hid (payP ca cb ns ts ps = some x) := hx
    clear hx
    intro w2 R2 g2 s2
    go_wp2_with fail
    go_end0
    exact ⟨(hb.mono (Nat.le_of_lt hr)).grown g2 (Nat.le_of_lt R1.lt) (fun k hk => by cases hk; exact Nat.le_refl _), E1.grown g2 (by simpa using hne), .inl ⟨_, _, HX.out, rfl, R2, ho.grown g2 (fun k hk => by cases hk; exact hr)⟩⟩
  · exact ⟨rfl, hb.mono (Nat.le_of_lt hr), E.below hb hq, .inr ⟨hx, rfl, R.below hb hr⟩⟩
/-- What Encode answers. -/
def EcP (w' : World) (B : Nat) (P : Option (List UInt8)) (e : Ending) : Prop :=
  (∃ x a c, P = some x ∧ e = .returned (.tuple #[.slice a x.length c, .int .i64 0]) ∧ Own w' B (.slice a x.length c) x) ∨ (P = none ∧ e = .returned (.tuple #[.slice none 0 0, .int .i64 1]))
theorem Own.shapeL {w : World} {B : Nat} {v : Value} {l : List UInt8} (h : Own w B v l) : ∃ a c, v = .slice a l.length c := by
  rcases h.2 with ⟨rfl, h0⟩ | ⟨g, cap, cur, rfl, _⟩
  · exact ⟨_, _, by rw [h0]⟩
  · exact ⟨_, _, rfl⟩
set_option maxHeartbeats 2000000 in
theorem encode_any (w : World) (ca cb : Int) (vn vt vp : Value) (ns : List Int) (ts : List (List UInt8)) (ps : List Pr) (hv : Mv w) (hm : RdM w w.heap.size vn vt vp ns ts ps) :
    Calls Tryd.prog 17 #[.agg (mtA ca cb vn vt vp)] w fun e w' => EcP w' w.heap.size (payP ca cb ns ts ps) e ∧ Below w.heap.size w w' := by
  obtain ⟨a, ha⟩ : ∃ a, w.heap.size = a := ⟨_, rfl⟩
  obtain ⟨w3, hw3⟩ : ∃ w3, ((w.alloc (Obj.cells (mtA ca cb vn vt vp) 36)).alloc (Obj.cells #[Value.slice none 0 0] 23)) = w3 := ⟨_, rfl⟩
  have hb3 : Below a w w3 := by
    rw [← hw3, ← ha]
    exact (below_new w _).trans ((below_new _ _).mono (by simp))
  have hs3 : w3.heap.size = a + 2 := by rw [← hw3]; simp; omega
  have K3 : Blk w3 a (mtA ca cb vn vt vp) 36 := by rw [← hw3, ← ha]; exact (Blk.new w _ _).alloc _
  have R3 : Blk w3 (a + 1) #[.slice none 0 0] 23 := by
    have := Blk.new (w.alloc (Obj.cells (mtA ca cb vn vt vp) 36)) #[Value.slice none 0 0] 23
    rw [World.size_alloc, ha, hw3] at this
    exact this
  have hb4 := below_new w3 (.cells #[.int .i64 0] 26)
  have b04 : Below a w (w3.alloc (.cells #[.int .i64 0] 26)) := hb3.trans (hb4.mono (by omega))
  have E4 : Blk (w3.alloc (.cells #[.int .i64 0] 26)) (a + 2) #[.int .i64 0] 26 := by
    have := Blk.new w3 #[Value.int .i64 0] 26
    rw [hs3] at this
    exact this
  have hm4 : RdM (w3.alloc (.cells #[.int .i64 0] 26)) (w3.alloc (.cells #[.int .i64 0] 26)).heap.size vn vt vp ns ts ps := ((by rw [← ha]; exact hm : RdM w a vn vt vp ns ts ps).on b04).up (by simp; omega)
  have T := enc1_any (w3.alloc (.cells #[.int .i64 0] 26)) a (a + 1) (a + 2) ca cb vn vt vp ns ts ps (K3.alloc _) (R3.alloc _) E4 (by omega) (hv.on (by rw [ha]; exact b04)) hm4
  obtain ⟨na, nc, e1⟩ := hm.n.shape
  obtain ⟨ta, tc, e2⟩ := hm.t.shape
  obtain ⟨pa, pc, e3⟩ := hm.p.shape
  subst e1 e2 e3
  generalize payP ca cb ns ts ps = PP at *
  have G := guarded_any 34 (enters_of Tryd.func34 (by kernel_rfl) rfl) #[.pointer (some ⟨a, 0, none⟩), .pointer (some ⟨a + 1, 0, none⟩)] w3
    (fun w2 => Below a w w2 ∧ ∃ x v, PP = some x ∧ Blk w2 (a + 1) #[v] 23 ∧ Blk w2 (a + 2) #[.int .i64 0] 26 ∧ Own w2 (a + 3) v x)
    (fun n w2 => n = 1 ∧ PP = none ∧ Below a w w2 ∧ Blk w2 (a + 1) #[.slice none 0 0] 23 ∧ Blk w2 (a + 2) #[.int .i64 0] 26) (T.mono fun e w2 ⟨h1, h2, h3⟩ => ⟨by
      rw [hs3]
      exact ⟨h2.cell 0, h2.frozen 0⟩, by
      rcases h3 with ⟨x, v, hx, he, hR, hO⟩ | ⟨hx, he, hR⟩
      · exact .inl ⟨he, b04.trans (h1.mono (by omega)), x, v, hx, hR, h2, hO.lower (by simp; omega)⟩
      · exact .inr ⟨1, he, rfl, hx, b04.trans (h1.mono (by omega)), hR, h2⟩⟩)
  have G2 : Calls Tryd.prog 28 #[.func (.func 34) #[] #[.pointer (some ⟨a, 0, none⟩), .pointer (some ⟨a + 1, 0, none⟩)]] w3 fun e w' => Below a w w' ∧ ((∃ x va vc, PP = some x ∧ e = .returned (.int .i64 0) ∧ Blk w' (a + 1) #[.slice va x.length vc] 23 ∧ Own w' (a + 3) (.slice va x.length vc) x) ∨ (PP = none ∧ e = .returned (.int .i64 1) ∧ Blk w' (a + 1) #[.slice none 0 0] 23)) := by
    refine G.mono ?_
    rintro e w' (⟨rfl, w2, ⟨hbA, x, v, hx, h2, h4, h3⟩, rfl⟩ | ⟨n, rfl, w2, ⟨rfl, hx, hbA, h2, h4⟩, rfl⟩)
    · rw [hs3]
      have hg : w2.grownBy (w2.setCell ⟨a + 2, 0, none⟩ (.int .i64 0)) (some (a + 2)) := ⟨rfl, rfl, rfl, by simp, fun k hk hne => Below.heap_setCell w2 ⟨a + 2, 0, none⟩ _ k (by intro e; exact hne (by simp [e]))⟩
      obtain ⟨oa, oc, rfl⟩ := Own.shapeL h3
      exact ⟨hbA.grown hg (by have := h2.lt; omega) (fun k hk => by cases hk; omega), .inl ⟨_, _, _, hx, rfl, h2.grown hg (by simp), h3.grown hg (fun k hk => by cases hk; omega)⟩⟩
    · rw [hs3]
      have hg : w2.grownBy (w2.setCell ⟨a + 2, 0, none⟩ (.int .i64 1)) (some (a + 2)) := ⟨rfl, rfl, rfl, by simp, fun k hk hne => Below.heap_setCell w2 ⟨a + 2, 0, none⟩ _ k (by intro e; exact hne (by simp [e]))⟩
      exact ⟨hbA.grown hg (by have := h2.lt; omega) (fun k hk => by cases hk; omega), .inr ⟨hx, rfl, h2.grown hg (by simp)⟩⟩
  clear G T hb4 hb3 K3 R3 b04 E4 hv hm hm4
  rw [ha]
  unfold EcP
  go_enter Tryd.func17, Tryd.ntmps17
  go_wp2_with fail
  refine G2.mono ?_
  rintro e W ⟨hB, ⟨x, va, vc, hx, rfl, kR, hO⟩ | ⟨hx, rfl, kR⟩⟩
  · clear G2 hw3
    have k0 := kR.cell 0
    simp only [List.getElem?_toArray, List.getElem?_cons_zero] at k0
    go_wp2_with (refine wpl_set rfl (.tmp 2) (.tmp 6) rfl (a + 1) 0 _ rfl rfl kR (by kernel_rfl) rfl rfl (by simp) ?_)
    intro W2 k2 g2 s2
    have hS2 : Blk W2 (a + 1) #[.slice va x.length vc] 23 := k2
    have hB2 : Below a w W2 := hB.grown g2 (by have := kR.lt; omega) (fun k hk => by cases hk; omega)
    have hO2 := hO.grown g2 (fun k hk => by cases hk; omega)
    clear k0
    have k0 := hS2.cell 0
    simp only [List.getElem?_toArray, List.getElem?_cons_zero] at k0
    go_wp2_with fail
    refine bodyPost_ret (v := .tuple #[.slice va x.length vc, .int .i64 0]) (by simp [results, Tryd.results17, go_sem, k0]) rfl ?_
    exact ⟨.inl ⟨x, va, vc, hx, rfl, hO2.lower (by omega)⟩, hB2⟩
  · clear G2 hw3
    have k0 := kR.cell 0
    simp only [List.getElem?_toArray, List.getElem?_cons_zero] at k0
    go_wp2_with (refine wpl_set rfl (.tmp 2) (.tmp 6) rfl (a + 1) 0 _ rfl rfl kR (by kernel_rfl) rfl rfl (by simp) ?_)
    intro W2 k2 g2 s2
    have hS2 : Blk W2 (a + 1) #[.slice none 0 0] 23 := k2
    have hB2 : Below a w W2 := hB.grown g2 (by have := kR.lt; omega) (fun k hk => by cases hk; omega)
    clear k0
    have k0 := hS2.cell 0
    simp only [List.getElem?_toArray, List.getElem?_cons_zero] at k0
    go_wp2_with fail
    refine bodyPost_ret (v := .tuple #[.slice none 0 0, .int .i64 1]) (by simp [results, Tryd.results17, go_sem, k0]) rfl ?_
    exact ⟨.inr ⟨hx, rfl⟩, hB2⟩
end Go.Proofs.YtmaaacaifpgpaaaDoor
