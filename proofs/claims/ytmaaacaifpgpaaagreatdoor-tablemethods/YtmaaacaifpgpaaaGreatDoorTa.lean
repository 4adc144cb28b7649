
/- Bytes of texts, floats, values and properties in a table; what table.putNum, putShort, putLong and putFloat lay behind bytes. Conditions: those that each row states. -/
import Derived.Test.YtmaaacaifpgpaaaGreatDoorEr
import Derived.Test.YtmaaacaifpgpaaaGreatDoorAa0
import Derived.Test.YtmaaacaifpgpaaaGreatDoorNz
import Derived.Test.YtmaaacaifpgpaaaGreatDoorPrg
namespace Go.Proofs.YtmaaacaifpgpaaaGreatDoor
open Go.RowKit Go.Lib
set_option maxRecDepth 100000

theorem narB_lt (b : Nat) (hb : b < 2 ^ 64) : (narB b).1 < 4294967296 := by
  unfold narB
  split
  · decide
  · split
    · rename_i g hg
      obtain ⟨_, _, h⟩ := nar_some_wide hb hg
      simpa using h
    · decide
/-- An int as 64 bits. -/
def u64L (z : Int) : Nat := (z % 18446744073709551616).toNat
theorem u64_wrap (z : Int) : IntKind.u64.wrap z = ((u64L z : Nat) : Int) := by rw [IntKind.wrap_u64]; unfold u64L; omega
def fltL (r : Nat) : List UInt8 := if (narB r).2 = true then 102 :: beN 4 (narB r).1 else 100 :: beN 8 r
def shortL (l : List UInt8) : List UInt8 := beN 1 l.length ++ l
def longL (l : List UInt8) : List UInt8 := beN 4 l.length ++ l
def valT (v : Val) : List UInt8 :=
  if v.kind = 2 then 116 :: beN 1 (u64L v.num) else if v.kind = 3 then 83 :: longL v.text.data.toList else if v.kind = 4 then fltL v.real else 108 :: beN 8 (u64L v.num)
def prT (p : Pr) : List UInt8 := shortL p.name.data.toList ++ valT p.val
def flatT (ps : List Pr) : List UInt8 := ps.flatMap prT
def tabL (ps : List Pr) : List UInt8 := longL (flatT ps)

/-- Blocks that hold no bytes are as they were. -/
def Nb (w w' : World) : Prop := ∀ (k : Nat) (c : Array Value) (t : TypeId) (fr : Nat × Nat), t ≠ 5 → w.heap[k]? = some (Obj.cells c t fr) → w'.heap[k]? = some (Obj.cells c t fr)
/-- What lies below B is as it was, and so is all that holds no bytes. -/
structure Bn (B : Nat) (w w' : World) : Prop where
  b : Below B w w'
  n : Nb w w'
theorem Bn.refl (B : Nat) (w : World) : Bn B w w := ⟨Below.refl _ _, fun _ _ _ _ _ h => h⟩
theorem Bn.trans {B : Nat} {w w1 w2 : World} (h1 : Bn B w w1) (h2 : Bn B w1 w2) : Bn B w w2 := ⟨h1.b.trans h2.b, fun k c t fr ht h => h2.n k c t fr ht (h1.n k c t fr ht h)⟩
theorem Bn.size {B : Nat} {w w1 : World} (h : Bn B w w1) : w.heap.size ≤ w1.heap.size := h.b.size
theorem Bn.of {B : Nat} {w w' : World} (h : Below w.heap.size w w') (hB : B ≤ w.heap.size) : Bn B w w' :=
  ⟨h.mono hB, fun k c t fr _ hk => by rw [h.block k (Array.getElem?_eq_some_iff.1 hk).1]; exact hk⟩
theorem own_type {w : World} {B : Nat} {v : Value} {l : List UInt8} (h : Own w B v l) (k : Nat) (hk : v.ownBlock = some k) : ∃ c fr, w.heap[k]? = some (Obj.cells c 5 fr) := by
  rcases h.2 with ⟨rfl, _⟩ | ⟨g, cap, cur, rfl, _, hg, _⟩
  · simp [Value.ownBlock] at hk
  · simp [Value.ownBlock] at hk
    subst hk
    exact ⟨_, _, hg⟩
theorem Bn.grown {w w1 w' : World} {B : Nat} {v : Value} {l : List UInt8} (h : Own w1 B v l) (h1 : Bn B w w1) (hg : w1.grownBy w' v.ownBlock) (hB : B ≤ w1.heap.size) : Bn B w w' := by
  refine ⟨h1.b.grown hg hB (fun k hk => (World.ownsRow.lt h k hk).1), fun k c t fr ht hk => ?_⟩
  have e := h1.n k c t fr ht hk
  rw [hg.block k (Array.getElem?_eq_some_iff.1 e).1 (fun e2 => ?_)]
  · exact e
  · obtain ⟨c', fr', e3⟩ := own_type h k e2.symm
    rw [e] at e3
    injection e3 with e3
    injection e3 with _ e4 _
    exact ht e4

theorem opw_app1 {o : Oper} {a : Act} {K : Act → World → Prop} {Q : Exit → Act → World → Prop} (s x : Operand)
    (ho : o.op = .call { callee := .builtin .append, args := #[s, x], argTypes := #[31, 31] }) (B : Nat) (v : Value) (l : List UInt8) (w : World) (c : UInt8) (cv : Int) (hcv : cv = (c.toNat : Int))
    (hs : a.eval s = v) (hown : Own w B v l) (hx : a.eval x = .slice (some ⟨w.heap.size, 0, none⟩) 1 1) (hl : l.length + 1 ≤ 140737488355328) (hB : B ≤ w.heap.size)
    (h : ∀ v' w', Own w' B v' (l ++ [c]) → Bn B w w' → K (a.put o.dst v') w') : o.wp Tryz.prog a (w.alloc (.cells #[.int .u8 cv] 5)) K Q := by
  obtain ⟨i0, hi, hz0, hz1, hz2⟩ := info_parts info5
  subst hcv
  refine wp_append_own _ s x 31 ho B 5 i0 (.int .u8 0) 1 1 Tryz.underlying31 hi hz0 hz1 hz2 rfl (by decide) v l.length (byteCells l) hs (World.ownsRow.alloc hown _) ⟨w.heap.size, 0, none⟩ 1 1 [.int .u8 (c.toNat : Int)] hx rfl ?_ ?_ (by unfold maxLen; omega) (by omega) (by simp; omega) ?_
  · intro j u hj
    match j, hj with
    | 0, hj => simp at hj; subst hj; simp [Addr.add_lit, World.cell?_alloc_new]
  · intro u hu; simp at hu; subst hu; rfl
  · intro v' w' h1 h2 _
    refine h v' w' ?_ ?_
    · unfold Own
      rw [List.length_append, byteCells_append]
      exact h1
    · exact Bn.grown (World.ownsRow.alloc hown (.cells #[.int .u8 (c.toNat : Int)] 5) : Own _ B v l) (.of (below_new w _) hB) h2 (by simp; omega)
theorem wpl_app1 {ops : Array Oper} {rest : List Oper} {o : Oper} {a : Act} {Q : Exit → Act → World → Prop} (hgd : o.guard = none) (s x : Operand)
    (ho : o.op = .call { callee := .builtin .append, args := #[s, x], argTypes := #[31, 31] }) (B : Nat) (v : Value) (l : List UInt8) (w : World) (c : UInt8) (cv : Int) (hcv : cv = (c.toNat : Int))
    (hs : a.eval s = v) (hown : Own w B v l) (hx : a.eval x = .slice (some ⟨w.heap.size, 0, none⟩) 1 1) (hl : l.length + 1 ≤ 140737488355328) (hB : B ≤ w.heap.size)
    (h : ∀ v' w', Own w' B v' (l ++ [c]) → Bn B w w' → wpList Tryz.prog ops Q rest (a.put o.dst v') w') : wpList Tryz.prog ops Q (o :: rest) a (w.alloc (.cells #[.int .u8 cv] 5)) :=
  wpList_plain hgd fun _ hK => opw_app1 s x ho B v l w c cv hcv hs hown hx hl hB fun v' w' h1 h2 => hK _ _ (h v' w' h1 h2)
theorem wpl_appS {ops : Array Oper} {rest : List Oper} {o : Oper} {a : Act} {Q : Exit → Act → World → Prop} (hgd : o.guard = none) (s x : Operand)
    (ho : o.op = .call { callee := .builtin .append, args := #[s, x], argTypes := #[31, 9] }) (B : Nat) (v : Value) (l : List UInt8) (w : World) (t : ByteArray)
    (hs : a.eval s = v) (hown : Own w B v l) (hx : a.eval x = .string t) (hl : l.length + t.size ≤ 140737488355328) (hB : B ≤ w.heap.size)
    (h : ∀ v' w', Own w' B v' (l ++ t.data.toList) → Bn B w w' → wpList Tryz.prog ops Q rest (a.put o.dst v') w') :
    wpList Tryz.prog ops Q (o :: rest) a w := by
  obtain ⟨i0, hi, hz0, hz1, hz2⟩ := info_parts info5
  refine wpList_append_own_string _ hgd s x 31 9 ho B 5 i0 Tryz.underlying31 Tryz.underlying9 hi hz0 hz1 hz2 v l.length (byteCells l) hs hown t hx (by unfold maxLen; omega) hl hB ?_
  intro v' w' h1 h2 _
  refine h v' w' ?_ (Bn.grown hown (.refl _ _) h2 hB)
  unfold Own
  rw [List.length_append, byteCells_append, ← strCells_eq]
  exact h1

set_option maxHeartbeats 4000000 in
theorem tput_any (w : World) (B : Nat) (v : Value) (l : List UInt8) (k n : Nat) (hk : k ≤ 8) (ho : Own w B v l) (hB : B ≤ w.heap.size) (hl : l.length + 8 ≤ 140737488355328) :
    Calls Tryz.prog 34 #[v, .int .i64 k, .int .u64 n] w fun e w' => ∃ v', e = .returned v' ∧ Own w' B v' (l ++ beN k n) ∧ Bn B w w' := by
  have ho2 : Own w B v (l ++ (beN k n).take 0) := by simpa using ho
  clear ho
  go_enter Tryz.func34, Tryz.ntmps34
  go_wp2_with fail
  go_loopw [0, 9] (fun u i wr => ∃ j : Nat, j ≤ k ∧ i = .int .i64 j ∧ Own wr B u (l ++ (beN k n).take j) ∧ Bn B w wr) (fun _ i _ => k - (RowKit.intOf i).toNat)
  case atStart => exact ⟨0, by omega, rfl, ho2, Bn.refl _ _⟩
  case round =>
    clear ho2
    obtain ⟨j, hj, rfl, ho, hbr⟩ := hrel
    have hwr : B ≤ wr.heap.size := Nat.le_trans hB hbr.size
    by_cases hlt : j < k
    · have HL : Hid ((l ++ (beN k n).take j).length + 1 ≤ l.length + 8) := by show _ ≤ _; rw [List.length_append, List.length_take, beN_len]; omega
      have HE : Hid (l ++ (beN k n).take (j + 1) = l ++ (beN k n).take j ++ [byteOf k n j]) := by show _ = _; rw [beN_snoc k n j hlt, List.append_assoc]
      generalize l ++ (beN k n).take j = L at *
      have hjz : (j : Int) < (k : Int) := by omega
      have hL := HL.out
      go_wp2_with (at_builtin; refine wpl_app1 rfl (.tmp 12) (.tmp 21) rfl B _ L wr (byteOf k n j) _ (byte_of_z _ _ _) rfl ho rfl (by omega) hwr ?_)
      intro v3 w3 ho3 hb3
      have b3 := hbr.trans hb3
      rw [← HE.out] at ho3
      clear ho hbr hb3 hL HL HE
      go_wp2
      go_roundw
      case rel => exact ⟨j + 1, by omega, by go_num, ho3, b3⟩
      case measure => simp [RowKit.intOf]; omega
    · have hjk : j = k := by omega
      subst hjk
      rw [beN_all] at ho
      go_wp2
      go_ret
      exact ⟨_, rfl, ho, hbr⟩

theorem List.size_toByteArray_arr (t : List UInt8) : (⟨t.toArray⟩ : ByteArray).size = t.length := rfl
set_option maxHeartbeats 400000 in
theorem short_any (w : World) (B : Nat) (v : Value) (l t : List UInt8) (ho : Own w B v l) (hB : B ≤ w.heap.size) (hl : l.length + t.length + 8 ≤ 140737488355328) :
    Calls Tryz.prog 46 #[v, str t] w fun e w' => ∃ v', e = .returned v' ∧ Own w' B v' (l ++ shortL t) ∧ Bn B w w' := by
  have P : ∀ w, Own w B v l → B ≤ w.heap.size → Calls Tryz.prog 34 #[v, .int .i64 1, .int .u64 t.length] w fun e w' => ∃ v', e = .returned v' ∧ Own w' B v' (l ++ beN 1 t.length) ∧ Bn B w w' := fun w ho hB => tput_any w B v l 1 t.length (by omega) ho hB (by omega)
  have u1 : IntKind.u64.wrap (t.length : Int) = (t.length : Int) := by rw [IntKind.wrap_u64]; omega
  go_enter Tryz.func46, Tryz.ntmps46
  go_wp2_with fail
  refine (P _ ho hB).mono ?_
  rintro e w1 ⟨v1, rfl, ho1, hb1⟩
  have hs1 := Nat.le_trans hB hb1.size
  go_wp2_with (at_builtin; refine wpl_appS rfl (.tmp 9) (.tmp 10) rfl B _ _ w1 ⟨t.toArray⟩ rfl ho1 rfl (by rw [List.length_append, beN_len, List.size_toByteArray_arr]; omega) hs1 ?_)
  intro v2 w2 ho2 hb2
  go_wp2
  go_ret
  exact ⟨_, rfl, by simpa [shortL] using ho2, hb1.trans hb2⟩
set_option maxHeartbeats 400000 in
theorem long_any (w : World) (B : Nat) (v : Value) (l t : List UInt8) (ho : Own w B v l) (hB : B ≤ w.heap.size) (hl : l.length + t.length + 8 ≤ 140737488355328) :
    Calls Tryz.prog 47 #[v, str t] w fun e w' => ∃ v', e = .returned v' ∧ Own w' B v' (l ++ longL t) ∧ Bn B w w' := by
  have P : ∀ w, Own w B v l → B ≤ w.heap.size → Calls Tryz.prog 34 #[v, .int .i64 4, .int .u64 t.length] w fun e w' => ∃ v', e = .returned v' ∧ Own w' B v' (l ++ beN 4 t.length) ∧ Bn B w w' := fun w ho hB => tput_any w B v l 4 t.length (by omega) ho hB (by omega)
  have u1 : IntKind.u64.wrap (t.length : Int) = (t.length : Int) := by rw [IntKind.wrap_u64]; omega
  go_enter Tryz.func47, Tryz.ntmps47
  go_wp2_with fail
  refine (P _ ho hB).mono ?_
  rintro e w1 ⟨v1, rfl, ho1, hb1⟩
  have hs1 := Nat.le_trans hB hb1.size
  go_wp2_with (at_builtin; refine wpl_appS rfl (.tmp 9) (.tmp 10) rfl B _ _ w1 ⟨t.toArray⟩ rfl ho1 rfl (by rw [List.length_append, beN_len, List.size_toByteArray_arr]; omega) hs1 ?_)
  intro v2 w2 ho2 hb2
  go_wp2
  go_ret
  exact ⟨_, rfl, by simpa [longL] using ho2, hb1.trans hb2⟩
set_option maxHeartbeats 400000 in
theorem float_any (w : World) (B : Nat) (v : Value) (l : List UInt8) (r : Nat) (hr : r < 2 ^ 64) (ho : Own w B v l) (hB : B ≤ w.heap.size) (hl : l.length + 9 ≤ 140737488355328) :
    Calls Tryz.prog 66 #[v, .float .f64 r] w fun e w' => ∃ v', e = .returned v' ∧ Own w' B v' (l ++ fltL r) ∧ Bn B w w' := by
  have NA := narrow_any w r hr
  have hnl := narB_lt r hr
  have P4 : ∀ (n : Nat) w v l, Own w B v l → B ≤ w.heap.size → l.length + 8 ≤ 140737488355328 → Calls Tryz.prog 34 #[v, .int .i64 4, .int .u64 n] w fun e w' => ∃ v', e = .returned v' ∧ Own w' B v' (l ++ beN 4 n) ∧ Bn B w w' := fun n w v l ho hB hl => tput_any w B v l 4 n (by omega) ho hB hl
  have P8 : ∀ (n : Nat) w v l, Own w B v l → B ≤ w.heap.size → l.length + 8 ≤ 140737488355328 → Calls Tryz.prog 34 #[v, .int .i64 8, .int .u64 n] w fun e w' => ∃ v', e = .returned v' ∧ Own w' B v' (l ++ beN 8 n) ∧ Bn B w w' := fun n w v l ho hB hl => tput_any w B v l 8 n (by omega) ho hB hl
  have hF : Hid (fltL r = if (narB r).2 = true then 102 :: beN 4 (narB r).1 else 100 :: beN 8 r) := rfl
  generalize fltL r = F at *
  generalize narB r = nb at *
  obtain ⟨n4, is⟩ := nb
  have hn4 : n4 < 4294967296 := hnl
  clear hnl
  cases is with
  | true =>
    have P := P4 n4
    clear P4 P8
    go_enter Tryz.func66, Tryz.ntmps66
    go_wp2_with fail
    refine NA.mono ?_
    rintro e w1 ⟨rfl, hb1⟩
    have ho1 := ho.on hb1
    have hB1 : Bn B w w1 := .of hb1 hB
    have hs1 := Nat.le_trans hB hb1.size
    clear NA ho hb1
    have hnw : IntKind.u64.wrap (n4 : Int) = (n4 : Int) := by rw [IntKind.wrap_u64]; omega
    go_wp2_with (at_builtin; refine wpl_app1 rfl (.tmp 13) (.tmp 14) rfl B _ _ w1 102 102 rfl rfl ho1 rfl (by omega) hs1 ?_)
    intro v2 w2 ho2 hb2
    have hB2 := hB1.trans hb2
    have hs2 := Nat.le_trans hB hB2.size
    clear ho1 hb2 hB1 hs1
    go_wp2_with fail
    refine (P w2 _ _ ho2 hs2 (by rw [List.length_append, List.length_singleton]; omega)).mono ?_
    rintro e w3 ⟨v3, rfl, ho3, hb3⟩
    go_wp2
    go_ret
    refine ⟨_, rfl, ?_, hB2.trans hb3⟩
    rw [hF.out]
    simpa using ho3
  | false =>
    have P := P8 r
    clear P4 P8
    go_enter Tryz.func66, Tryz.ntmps66
    go_wp2_with fail
    refine NA.mono ?_
    rintro e w1 ⟨rfl, hb1⟩
    have ho1 := ho.on hb1
    have hB1 : Bn B w w1 := .of hb1 hB
    have hs1 := Nat.le_trans hB hb1.size
    clear NA ho hb1
    go_wp2_with (at_builtin; refine wpl_app1 rfl (.tmp 19) (.tmp 20) rfl B _ _ w1 100 100 rfl rfl ho1 rfl (by omega) hs1 ?_)
    intro v2 w2 ho2 hb2
    have hB2 := hB1.trans hb2
    have hs2 := Nat.le_trans hB hB2.size
    clear ho1 hb2 hB1 hs1
    go_wp2_with fail
    refine (P w2 _ _ ho2 hs2 (by rw [List.length_append, List.length_singleton]; omega)).mono ?_
    rintro e w3 ⟨v3, rfl, ho3, hb3⟩
    go_wp2
    go_ret
    refine ⟨_, rfl, ?_, hB2.trans hb3⟩
    rw [hF.out]
    simpa using ho3
end Go.Proofs.YtmaaacaifpgpaaaGreatDoor
