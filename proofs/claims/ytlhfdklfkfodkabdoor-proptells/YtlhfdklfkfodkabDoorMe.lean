
/- Bytes in memory: what is a call's own, beside a block that stays; append and conversions over them. -/
import Derived.Test.YtlhfdklfkfodkabDoorFk
import Derived.Lib.AppendStr
import Derived.Lib.UnsafeStr
import Derived.Lib.SliceRun
import Derived.Laws.BytesArg
import Derived.Laws.AppendOwnNone
import Derived.Deep.AppendLies
import Derived.Laws.MakeOwn
import Derived.Laws.OwnMore
namespace Go.Proofs.YtlhfdklfkfodkabDoor.Ff
open Go.RowKit Go.Lib

theorem info5 : (Tryd.prog.info? 5).map (fun i => (i.zero, i.size, i.bytes)) = some (some (.int .u8 0), 1, 1) := by kernel_rfl

/-- A slice of bytes that can be read: nil, or so many cells. -/
def RdB (w : World) (v : Value) (l : List UInt8) : Prop :=
  (v = .slice none 0 0 ∧ l = []) ∨ ∃ (b o c : Nat), v = .slice (some ⟨b, o, none⟩) l.length c ∧ l.length ≤ c ∧ ∀ i, i < l.length → w.cell? ⟨b, o + i, none⟩ = some (.int .u8 ((l.getD i 0).toNat : Int))
theorem RdB.of_own {w : World} {B : Nat} {v : Value} {n : Nat} {l : List UInt8} (h : w.ownsRow B 5 1 v n (byteCells l)) : RdB w v l := by
  obtain ⟨hl, h⟩ := h
  rw [byteCells_length, Nat.mul_one] at hl
  subst hl
  rcases h with ⟨rfl, h0⟩ | ⟨g, cap, cur, rfl, hb, hg, hc, hm, hs, ht⟩
  · exact .inl ⟨rfl, List.length_eq_zero_iff.1 h0⟩
  · refine .inr ⟨g, 0, cap, rfl, hc, fun i hi => ?_⟩
    have e : (cur.toList.take (l.length * 1))[i]? = (byteCells l)[i]? := by rw [ht]
    rw [List.getElem?_take_of_lt (by omega)] at e
    simp only [byteCells, List.getElem?_map, List.getElem?_eq_getElem hi, Option.map_some] at e
    simp only [World.cell?, hg, Nat.zero_add]
    simp only [Array.getElem?_toList] at e
    simp [e, List.getElem?_eq_getElem hi]
/-- The numbers of bytes. -/
def nums (l : List UInt8) : List Int := l.map fun b => (b.toNat : Int)
theorem nums_getD (l : List UInt8) (i : Nat) : (nums l).getD i 0 = ((l.getD i 0).toNat : Int) := by
  simp only [nums, List.getD_eq_getElem?_getD, List.getElem?_map]
  cases l[i]? <;> simp
theorem conv_any {w : World} {v : Value} {l : List UInt8} (h : RdB w v l) : (convert 25 9 v).run Tryd.prog w = .ok (.string ⟨l.toArray⟩) w := by
  rcases h with ⟨rfl, rfl⟩ | ⟨b, o, c, rfl, _, hc⟩
  · exact run_convert_bytes_nil (P := Tryd.prog) w 25 5 Tryd.underlying25 Tryd.underlying5 0 0 9 Tryd.underlying9
  · have := run_convert_bytes_arg (P := Tryd.prog) w 25 5 Tryd.underlying25 Tryd.underlying5 b o l.length c (nums l) (by simp [nums]) (fun i hi => by rw [nums_getD]; exact hc i hi) 9 Tryd.underlying9
    have e : strOfNums (nums l) = ⟨l.toArray⟩ := by simp [strOfNums, nums, Function.comp_def]
    rw [this, e]

/-- A slice of bytes in the call's own memory, from block B on. -/
def Own (w : World) (B : Nat) (v : Value) (l : List UInt8) : Prop := w.ownsRow B 5 1 v l.length (byteCells l)
theorem Own.rd {w : World} {B : Nat} {v : Value} {l : List UInt8} (h : Own w B v l) : RdB w v l := RdB.of_own h

/-- One of these, another block than q, which stays. -/
structure OwnQ (w : World) (B q : Nat) (v : Value) (l : List UInt8) : Prop where
  own : Own w B v l
  lt : q < w.heap.size
  ne : v.ownBlock ≠ some q
  size : B ≤ w.heap.size

theorem appQ {ops : Array Oper} {rest : List Oper} {o : Oper} {a : Act} {Q : Exit → Act → World → Prop} (hgd : o.guard = none) (s x : Operand)
    (ho : o.op = .call { callee := .builtin .append, args := #[s, x], argTypes := #[25, 25] }) (B q : Nat) (v : Value) (l : List UInt8) (w : World) (cs : List UInt8) (cells : Array Value) (hcs : cells.toList = byteCells cs) (n : Nat) (hn : cs.length = n) (h0 : 0 < n)
    (hs : a.eval s = v) (hown : OwnQ w B q v l) (hx : a.eval x = .slice (some ⟨w.heap.size, 0, none⟩) n n) (hl : l.length + n ≤ 1000)
    (h : ∀ v' w', OwnQ w' B q v' (l ++ cs) → w'.heap[q]? = w.heap[q]? → Below B w w' → wpList Tryd.prog ops Q rest (a.put o.dst v') w') :
    wpList Tryd.prog ops Q (o :: rest) a (w.alloc (.cells cells 5)) := by
  obtain ⟨i0, hi, hz0, hz1, hz2⟩ := info_parts info5
  subst hn
  obtain ⟨own, hq, hne, hB⟩ := hown
  have hsz : (w.alloc (.cells cells 5)).heap.size = w.heap.size + 1 := by simp
  refine wpList_append_lies (w.alloc (.cells cells 5)) hgd s x 25 ho B 5 i0 (.int .u8 0) 1 1 Tryd.underlying25 hi hz0 hz1 hz2 rfl (by decide) v l.length (byteCells l) hs (World.ownsRow.alloc own _) ⟨w.heap.size, 0, none⟩ cs.length cs.length (byteCells cs) hx (by simp [byteCells_length]) ?_ ?_ h0 (by unfold maxLen; omega) (by omega) (by omega) _ rfl ?_
  · intro j u hj
    rw [Addr.add_lit, World.cell?_alloc_new]
    simp only [Nat.zero_add, ← Array.getElem?_toList, hcs, hj]
  · intro u hu
    obtain ⟨c, _, rfl⟩ := List.mem_map.1 hu
    rfl
  · intro g cap w1 hown1 hgrow hat hlt
    have hb : Below B w w1 := ((Below.refl B w).alloc hB _).grown hgrow (by omega) (fun k hk => (World.ownsRow.lt own k hk).1)
    have hkeep : w1.heap[q]? = w.heap[q]? := by
      have e1 := hgrow.block q (by omega) (fun e => hne e.symm)
      rw [e1, Below.heap_alloc w _ q hq]
    refine h _ w1 ⟨?_, ?_, ?_, ?_⟩ hkeep hb
    · unfold Own
      rw [List.length_append, byteCells_append]
      exact hown1
    · have := hb.size; omega
    · rcases hat with e | e
      · intro e'
        simp only [Value.ownBlock] at e'
        rw [e'] at e
        exact hne e
      · intro e'
        simp only [Value.ownBlock, Option.some.injEq] at e'
        omega
    · have := hb.size; omega
end Go.Proofs.YtlhfdklfkfodkabDoor.Ff
