
/- What the library's fmtEFG writes: the words for it. -/
import Derived.Test.YtlhfdklfkfodkabDoorFt
import Derived.Deep.DeepCutAuto
set_option maxRecDepth 100000
namespace Go.Proofs.YtlhfdklfkfodkabDoor.Ff
open Go.RowKit Go.Lib Go.Sort

theorem appR {ops : Array Oper} {rest : List Oper} {o : Oper} {a : Act} {Q : Exit → Act → World → Prop} (hgd : o.guard = none) (s x : Operand)
    (ho : o.op = .call { callee := .builtin .append, args := #[s, x], argTypes := #[25, 25] }) (B q : Nat) (v : Value) (l : List UInt8) (w : World) (cs : List UInt8) (b f n c : Nat) (hn : cs.length = n) (h0 : 0 < n)
    (hs : a.eval s = v) (hown : OwnQ w B q v l) (hx : a.eval x = .slice (some ⟨b, f, none⟩) n c) (hc : ∀ i, i < n → w.cell? ⟨b, f + i, none⟩ = some (.int .u8 ((cs.getD i 0).toNat : Int))) (hl : l.length + n ≤ 1000)
    (h : ∀ v' w', OwnQ w' B q v' (l ++ cs) → w'.heap[q]? = w.heap[q]? → Below B w w' → wpList Tryd.prog ops Q rest (a.put o.dst v') w') :
    wpList Tryd.prog ops Q (o :: rest) a w := by
  obtain ⟨i0, hi, hz0, hz1, hz2⟩ := info_parts info5
  subst hn
  obtain ⟨own, hq, hne, hB⟩ := hown
  refine wpList_append_lies w hgd s x 25 ho B 5 i0 (.int .u8 0) 1 1 Tryd.underlying25 hi hz0 hz1 hz2 rfl (by decide) v l.length (byteCells l) hs own ⟨b, f, none⟩ cs.length c (byteCells cs) hx (by simp [byteCells_length]) ?_ ?_ h0 (by unfold maxLen; omega) (by omega) hB _ rfl ?_
  · intro j u hj
    have hjl : j < cs.length := by
      have := (List.getElem?_eq_some_iff.1 hj).1
      simpa [byteCells_length] using this
    rw [Addr.add_lit, hc j hjl, ← hj]
    simp [byteCells, List.getElem?_eq_getElem hjl]
  · intro u hu
    obtain ⟨c, _, rfl⟩ := List.mem_map.1 hu
    rfl
  · intro g cap w1 hown1 hgrow hat hlt
    have hb : Below B w w1 := (Below.refl B w).grown hgrow hB (fun k hk => (World.ownsRow.lt own k hk).1)
    have hkeep : w1.heap[q]? = w.heap[q]? := hgrow.block q hq (fun e => hne e.symm)
    refine h _ w1 ⟨?_, ?_, ?_, ?_⟩ hkeep hb
    · unfold Own
      rw [List.length_append, byteCells_append]
      exact hown1
    · have := hb.size; omega
    · rcases hat with e | e
      · intro e'
        simp only [Value.ownBlock] at e'
        rw [e'] at e
        exact hne e
      · intro e'
        simp only [Value.ownBlock, Option.some.injEq] at e'
        omega
    · have := hb.size; omega

/-- The digits in the buffer. -/
def DB (w : World) (q : Nat) (D : List UInt8) : Prop := ∀ i, i < D.length → w.cell? ⟨q, i, none⟩ = some (.int .u8 ((D.getD i 0).toNat : Int))
theorem DB.on {w w' : World} {q : Nat} {D : List UInt8} (h : DB w q D) (hk : w'.heap[q]? = w.heap[q]?) : DB w' q D := fun i hi => cell_kept hk (h i hi)

/-- A sign, if there is one. -/
def sgB (neg : Bool) : List UInt8 := if neg then [45] else []
def dotB (D : List UInt8) : List UInt8 := if 1 < D.length then 46 :: D.drop 1 else []
def c8 (n : Nat) : UInt8 := UInt8.ofNat n
def sgX (x : Int) : UInt8 := if x < 0 then 45 else 43
/-- An exponent's bytes. -/
def expB (x : Int) : List UInt8 :=
  sgX x :: (if x.natAbs < 10 then [48, c8 (48 + x.natAbs)] else if x.natAbs < 100 then [c8 (48 + x.natAbs / 10), c8 (48 + x.natAbs % 10)] else [c8 (48 + x.natAbs / 100), c8 (48 + x.natAbs / 10 % 10), c8 (48 + x.natAbs % 10)])
theorem c8_val (n : Nat) (h : n < 256) : ((c8 n).toNat : Int) = (n : Int) := by
  unfold c8
  rw [UInt8.toNat_ofNat']
  omega
theorem bytesA (y : Nat) (h : y < 10) : (#[.int .u8 48, .int .u8 ((y : Int) + 48)] : Array Value).toList = byteCells [48, c8 (48 + y)] := by
  have e := c8_val (48 + y) (by omega)
  simp only [byteCells, List.map_cons, List.map_nil]
  rw [e, show (((48 : UInt8).toNat : Nat) : Int) = 48 from rfl, show (((48 + y : Nat)) : Int) = (y : Int) + 48 from by omega]
theorem bytesB (y : Nat) (h : y < 100) : (#[.int .u8 ((y : Int) / 10 + 48), .int .u8 ((y : Int) % 10 + 48)] : Array Value).toList = byteCells [c8 (48 + y / 10), c8 (48 + y % 10)] := by
  have e := c8_val (48 + y / 10) (by omega)
  have e2 := c8_val (48 + y % 10) (by omega)
  simp only [byteCells, List.map_cons, List.map_nil]
  rw [e, e2, show (((48 + y / 10 : Nat)) : Int) = (y : Int) / 10 + 48 from by omega, show (((48 + y % 10 : Nat)) : Int) = (y : Int) % 10 + 48 from by omega]
theorem bytesC (y : Nat) (h : y ≤ 400) : (#[.int .u8 ((y : Int) / 100 + 48), .int .u8 ((y : Int) / 10 % 10 + 48), .int .u8 ((y : Int) % 10 + 48)] : Array Value).toList = byteCells [c8 (48 + y / 100), c8 (48 + y / 10 % 10), c8 (48 + y % 10)] := by
  have e := c8_val (48 + y / 100) (by omega)
  have e1 := c8_val (48 + y / 10 % 10) (by omega)
  have e2 := c8_val (48 + y % 10) (by omega)
  simp only [byteCells, List.map_cons, List.map_nil]
  rw [e, e1, e2, show (((48 + y / 100 : Nat)) : Int) = (y : Int) / 100 + 48 from by omega, show (((48 + y / 10 % 10 : Nat)) : Int) = (y : Int) / 10 % 10 + 48 from by omega, show (((48 + y % 10 : Nat)) : Int) = (y : Int) % 10 + 48 from by omega]
def txtE (neg : Bool) (D : List UInt8) (dp : Int) : List UInt8 := sgB neg ++ [D.getD 0 0] ++ dotB D ++ [101] ++ expB (dp - 1)

end Go.Proofs.YtlhfdklfkfodkabDoor.Ff
