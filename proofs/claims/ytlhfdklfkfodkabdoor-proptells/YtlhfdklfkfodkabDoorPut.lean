
/- What cord.Num and cord.Str answer, for any bytes that can be read, any numbers and any text of such lengths as fit into memory, where the library's table of powers of ten reads as it was laid. -/
import Derived.Test.YtlhfdklfkfodkabDoorMath
import Derived.Test.YtlhfdklfkfodkabDoorShelf
import Derived.Test.YtlhfdklfkfodkabDoorChecked
import Derived.WalkKit
import Derived.Lib.AppendStr
import Derived.Laws.BytesArg
namespace Go.Proofs.YtlhfdklfkfodkabDoor
open Go.RowKit Go.Lib

theorem info5 : (Tryd.prog.info? 5).map (fun i => (i.zero, i.size, i.bytes)) = some (some (.int .u8 0), 1, 1) := by kernel_rfl

/-- A slice of bytes that can be read: nil, or so many cells. -/
def RdB (w : World) (v : Value) (l : List UInt8) : Prop :=
  (v = .slice none 0 0 ∧ l = []) ∨ ∃ (b o c : Nat), v = .slice (some ⟨b, o, none⟩) l.length c ∧ l.length ≤ c ∧ ∀ i, i < l.length → w.cell? ⟨b, o + i, none⟩ = some (.int .u8 ((l.getD i 0).toNat : Int))

theorem RdB.on {w w' : World} {v : Value} {l : List UInt8} (h : RdB w v l) (hb : Below w.heap.size w w') : RdB w' v l := by
  rcases h with h | ⟨b, o, c, rfl, hlc, hc⟩
  · exact .inl h
  · refine .inr ⟨b, o, c, rfl, hlc, fun i hi => ?_⟩
    rw [hb.cell (p := ⟨b, o + i, none⟩) (World.block_lt_of_cell? w _ (hc i hi))]
    exact hc i hi

theorem RdB.of_own {w : World} {B : Nat} {v : Value} {n : Nat} {l : List UInt8} (h : w.ownsRow B 5 1 v n (byteCells l)) : RdB w v l := by
  obtain ⟨hl, h⟩ := h
  rw [byteCells_length, Nat.mul_one] at hl
  subst hl
  rcases h with ⟨rfl, h0⟩ | ⟨g, cap, cur, rfl, hb, hg, hc, hm, hs, ht⟩
  · exact .inl ⟨rfl, List.length_eq_zero_iff.1 h0⟩
  · refine .inr ⟨g, 0, cap, rfl, hc, fun i hi => ?_⟩
    have e : (cur.toList.take (l.length * 1))[i]? = (byteCells l)[i]? := by rw [ht]
    rw [List.getElem?_take_of_lt (by omega)] at e
    simp only [byteCells, List.getElem?_map, List.getElem?_eq_getElem hi, Option.map_some] at e
    simp only [World.cell?, hg, Nat.zero_add]
    simp only [Array.getElem?_toList] at e
    simp [e, List.getElem?_eq_getElem hi]

/-- The same, or a slice of no bytes wherever it points to: what may come in. -/
def RdA (w : World) (v : Value) (l : List UInt8) : Prop := RdB w v l ∨ ((∃ a c, v = .slice (some a) 0 c) ∧ l = [])
theorem RdA.on {w w' : World} {v : Value} {l : List UInt8} (h : RdA w v l) (hb : Below w.heap.size w w') : RdA w' v l := h.imp (fun h => h.on hb) id

/-- The numbers of bytes. -/
def nums (l : List UInt8) : List Int := l.map fun b => (b.toNat : Int)
theorem nums_getD (l : List UInt8) (i : Nat) : (nums l).getD i 0 = ((l.getD i 0).toNat : Int) := by
  simp only [nums, List.getD_eq_getElem?_getD, List.getElem?_map]
  cases l[i]? <;> simp
theorem nums_cells (l : List UInt8) : (nums l).map (Value.int .u8) = byteCells l := by simp [nums, byteCells, Function.comp_def]

theorem conv_any {w : World} {v : Value} {l : List UInt8} (h : RdB w v l) : (convert 25 9 v).run Tryd.prog w = .ok (.string ⟨l.toArray⟩) w := by
  rcases h with ⟨rfl, rfl⟩ | ⟨b, o, c, rfl, _, hc⟩
  · exact run_convert_bytes_nil (P := Tryd.prog) w 25 5 Tryd.underlying25 Tryd.underlying5 0 0 9 Tryd.underlying9
  · have := run_convert_bytes_arg (P := Tryd.prog) w 25 5 Tryd.underlying25 Tryd.underlying5 b o l.length c (nums l) (by simp [nums]) (fun i hi => by rw [nums_getD]; exact hc i hi) 9 Tryd.underlying9
    have e : strOfNums (nums l) = ⟨l.toArray⟩ := by simp [strOfNums, nums, Function.comp_def]
    rw [this, e]

/-- A slice of bytes in the call's own memory, from block B on. -/
def Own (w : World) (B : Nat) (v : Value) (l : List UInt8) : Prop := w.ownsRow B 5 1 v l.length (byteCells l)
theorem Own.rd {w : World} {B : Nat} {v : Value} {l : List UInt8} (h : Own w B v l) : RdB w v l := RdB.of_own h
theorem Own.nil (w : World) (B : Nat) : Own w B (.slice none 0 0) [] := World.ownsRow_nil _ _ _ _

theorem clone_any (w : World) (v : Value) (l : List UInt8) (h : RdA w v l) (hl : l.length ≤ 140737488355328) :
    Calls Tryd.prog 17 #[v] w fun e w' => ∃ v', e = .returned v' ∧ Own w' w.heap.size v' l ∧ Below w.heap.size w w' := by
  rcases h with (⟨rfl, rfl⟩ | ⟨b, o, c, rfl, _, hc⟩) | ⟨⟨a, c, rfl⟩, rfl⟩
  · refine (Tryd.bytes_Clone_nil 0 0 w).mono ?_
    rintro e w' ⟨rfl, rfl⟩
    exact ⟨_, rfl, Own.nil _ _, Below.refl _ _⟩
  · refine (Tryd.bytes_Clone_at ⟨b, o, none⟩ l.length c (nums l) w (by simp [nums]) hl (fun i hi => by rw [nums_getD, Addr.add_lit]; exact hc i hi)).mono ?_
    rintro e w' ⟨v', rfl, h1, _, h2⟩
    rw [nums_cells] at h1
    exact ⟨v', rfl, h1, h2⟩
  · refine (Tryd.bytes_Clone_at a 0 c [] w rfl (by omega) (fun i hi => by omega)).mono ?_
    rintro e w' ⟨v', rfl, h1, _, h2⟩
    exact ⟨v', rfl, h1, h2⟩

/-- The library's table of powers of ten. -/
def Tab (B : Nat) (w : World) : Prop := Lib.TabBelow Tryd.prog B w "internal/strconv.uint64pow10" .u64 Lib.pow10Tab
theorem Tab.on {B : Nat} {w w' : World} (h : Tab B w) (hb : Below B w w') : Tab B w' := Lib.TabBelow.on h hb
theorem Tab.mono {B B' : Nat} {w : World} (h : Tab B w) (hB : B ≤ B') : Tab B' w := fun w' hb => h w' (hb.mono hB)

theorem appInt (w : World) (B : Nat) (v : Value) (l : List UInt8) (i : Int) (h0 : -9223372036854775808 ≤ i) (h1 : i ≤ 9223372036854775807) (ho : Own w B v l) (hB : B ≤ w.heap.size) (hl : l.length + 21 ≤ 140737488355328) (ht : Tab B w) :
    Calls Tryd.prog 18 #[v, .int .i64 i, .int .i64 10] w fun e w' => ∃ v', e = .returned v' ∧ Own w' B v' (l ++ itoa i) ∧ Below B w w' := by
  refine (Tryd.strconv_AppendInt_10 B l.length i h0 h1 v (byteCells l) w ho hB hl ht).mono ?_
  rintro e w' ⟨v', rfl, h2, h3, _⟩
  refine ⟨v', rfl, ?_, h3⟩
  unfold Own
  rw [List.length_append, byteCells_append]
  exact h2

theorem app1 {ops : Array Oper} {rest : List Oper} {o : Oper} {a : Act} {Q : Exit → Act → World → Prop} (hgd : o.guard = none) (s x : Operand)
    (ho : o.op = .call { callee := .builtin .append, args := #[s, x], argTypes := #[25, 25] }) (B : Nat) (v : Value) (l : List UInt8) (w : World) (c : UInt8) (cv : Int) (hcv : cv = (c.toNat : Int))
    (hs : a.eval s = v) (hown : Own w B v l) (hx : a.eval x = .slice (some ⟨w.heap.size, 0, none⟩) 1 1) (hl : l.length + 1 ≤ 140737488355328) (hB : B ≤ w.heap.size)
    (h : ∀ v' w', Own w' B v' (l ++ [c]) → Below B w w' → wpList Tryd.prog ops Q rest (a.put o.dst v') w') :
    wpList Tryd.prog ops Q (o :: rest) a (w.alloc (.cells #[.int .u8 cv] 5)) := by
  obtain ⟨i0, hi, hz0, hz1, hz2⟩ := info_parts info5
  subst hcv
  refine wpList_append_own _ hgd s x 25 ho B 5 i0 (.int .u8 0) 1 1 Tryd.underlying25 hi hz0 hz1 hz2 rfl (by decide) v l.length (byteCells l) hs (World.ownsRow.alloc hown _) ⟨w.heap.size, 0, none⟩ 1 1 [.int .u8 (c.toNat : Int)] hx rfl ?_ ?_ (by unfold maxLen; omega) (by omega) (by simp; omega) ?_
  · intro j u hj
    match j, hj with
    | 0, hj => simp at hj; subst hj; simp [Addr.add_lit, World.cell?_alloc_new]
  · intro u hu; simp at hu; subst hu; rfl
  · intro v' w' h1 h2 _
    refine h v' w' ?_ ?_
    · unfold Own
      rw [List.length_append, byteCells_append]
      exact h1
    · exact ((Below.refl B w).alloc hB _).grown h2 (by simp; omega) (fun k hk => (World.ownsRow.lt hown k hk).1)

theorem appS {ops : Array Oper} {rest : List Oper} {o : Oper} {a : Act} {Q : Exit → Act → World → Prop} (hgd : o.guard = none) (s x : Operand)
    (ho : o.op = .call { callee := .builtin .append, args := #[s, x], argTypes := #[25, 9] }) (B : Nat) (v : Value) (l : List UInt8) (w : World) (t : ByteArray)
    (hs : a.eval s = v) (hown : Own w B v l) (hx : a.eval x = .string t) (hl : l.length + t.size ≤ 140737488355328) (hB : B ≤ w.heap.size)
    (h : ∀ v' w', Own w' B v' (l ++ t.data.toList) → Below B w w' → wpList Tryd.prog ops Q rest (a.put o.dst v') w') :
    wpList Tryd.prog ops Q (o :: rest) a w := by
  obtain ⟨i0, hi, hz0, hz1, hz2⟩ := info_parts info5
  refine wpList_append_own_string _ hgd s x 25 9 ho B 5 i0 Tryd.underlying25 Tryd.underlying9 hi hz0 hz1 hz2 v l.length (byteCells l) hs hown t hx (by unfold maxLen; omega) hl hB ?_
  intro v' w' h1 h2 _
  refine h v' w' ?_ ?_
  · unfold Own
    rw [List.length_append, byteCells_append, ← strCells_eq]
    exact h1
  · exact (Below.refl B w).grown h2 hB (fun k hk => (World.ownsRow.lt hown k hk).1)

theorem nDigits_le : ∀ (k u : Nat), u < 10 ^ (k + 1) → nDigits u ≤ k + 1
  | 0, u, h => by rw [nDigits_small (by simpa using h)]; omega
  | k + 1, u, h => by
    by_cases h1 : u < 10
    · rw [nDigits_small h1]; omega
    · rw [nDigits_big h1]
      have := nDigits_le k (u / 10) (by rw [Nat.pow_succ] at h; omega)
      omega
theorem itoa_length (i : Int) (h0 : -9223372036854775808 ≤ i) (h1 : i ≤ 9223372036854775807) : (itoa i).length ≤ 20 := by
  unfold itoa
  split
  · rw [List.length_cons, decDigits_length]
    have := nDigits_le 18 i.natAbs (by omega)
    omega
  · rw [decDigits_length]
    have := nDigits_le 18 i.toNat (by omega)
    omega

set_option maxHeartbeats 400000 in
theorem str_any (w : World) (v : Value) (l : List UInt8) (s : ByteArray) (h : RdA w v l) (hb : l.length + s.size + 100 ≤ 140737488355328) (ht : Tab w.heap.size w) :
    Calls Tryd.prog 11 #[v, .string s] w fun e w' => ∃ v', e = .returned v' ∧ Own w' w.heap.size v' (l ++ encS s.data.toList) ∧ Below w.heap.size w w' := by
  have hil := itoa_length s.size (by omega) (by omega)
  go_enter Tryd.func11, Tryd.ntmps11
  go_wp2_with fail
  refine (clone_any w v l h (by omega)).mono ?_
  rintro e w1 ⟨v1, rfl, ho1, hb1⟩
  go_wp2_with fail
  have hw1 := hb1.size
  refine (appInt w1 w.heap.size v1 l s.size (by omega) (by omega) ho1 hw1 (by omega) (ht.on hb1)).mono ?_
  rintro e w2 ⟨v2, rfl, ho2, hb2⟩
  have hw2 := hb2.size
  go_wp2_with (at_builtin; refine app1 rfl (.tmp 12) (.tmp 13) rfl w.heap.size v2 _ w2 58 58 rfl rfl ho2 rfl (by simp; omega) (by omega) ?_)
  intro v3 w3 ho3 hb3
  have hw3 := hb3.size
  go_wp2_with (at_builtin; refine appS rfl (.tmp 15) (.tmp 16) rfl w.heap.size v3 _ w3 s rfl ho3 rfl (by simp; omega) (by omega) ?_)
  intro v4 w4 ho4 hb4
  have hw4 := hb4.size
  go_wp2_with (at_builtin; refine app1 rfl (.tmp 18) (.tmp 19) rfl w.heap.size v4 _ w4 44 44 rfl rfl ho4 rfl (by simp; omega) (by omega) ?_)
  intro v5 w5 ho5 hb5
  go_wp2
  go_ret
  refine ⟨v5, rfl, ?_, (((hb1.trans hb2).trans hb3).trans hb4).trans hb5⟩
  have e : ((s.data.toList.length : Nat) : Int) = (s.size : Int) := rfl
  unfold encS
  rw [e]
  exact ho5
end Go.Proofs.YtlhfdklfkfodkabDoor
