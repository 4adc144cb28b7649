
/- What the library's ftoa64 writes of noughts, of infinities and of what is no number. -/
import Derived.Test.YtlhfdklfkfodkabDoorEi
import Derived.Laws.AppendOwnNone
import Derived.Lib.AppendStr
set_option maxRecDepth 100000
namespace Go.Proofs.YtlhfdklfkfodkabDoor.Ff
open Go.RowKit Go.Lib Go.Sort

theorem appS {ops : Array Oper} {rest : List Oper} {o : Oper} {a : Act} {Q : Exit → Act → World → Prop} (hgd : o.guard = none) (s x : Operand)
    (ho : o.op = .call { callee := .builtin .append, args := #[s, x], argTypes := #[25, 9] }) (B : Nat) (v : Value) (l : List UInt8) (w : World) (t : ByteArray)
    (hs : a.eval s = v) (hown : Own w B v l) (hx : a.eval x = .string t) (hl : l.length + t.size ≤ 140737488355328) (hB : B ≤ w.heap.size)
    (h : ∀ v' w', Own w' B v' (l ++ t.data.toList) → Below B w w' → wpList Tryd.prog ops Q rest (a.put o.dst v') w') :
    wpList Tryd.prog ops Q (o :: rest) a w := by
  obtain ⟨i0, hi, hz0, hz1, hz2⟩ := info_parts info5
  refine wpList_append_own_string _ hgd s x 25 9 ho B 5 i0 Tryd.underlying25 Tryd.underlying9 hi hz0 hz1 hz2 v l.length (byteCells l) hs hown t hx (by unfold maxLen; omega) hl hB ?_
  intro v' w' h1 h2 _
  refine h v' w' ?_ ?_
  · unfold Own
    rw [List.length_append, byteCells_append, ← strCells_eq]
    exact h1
  · exact (Below.refl B w).grown h2 hB (fun k hk => (World.ownsRow.lt hown k hk).1)


set_option maxHeartbeats 4000000 in
theorem ftoaZ_p (w : World) (B : Nat) (v : Value) (b y : Nat) (hs : (b : Int) / 9223372036854775808 = 0) (hy : (b : Int) / 4503599627370496 = (y : Int)) (hy1 : y < 4096) (hx : bits .and .i64 (y : Int) 2047 = 0) (hf : bits .and .u64 (b : Int) 4503599627370495 = 0) (hO : Own w B v []) (hB : B ≤ w.heap.size) (q : Nat) (hq : q < B) :
    Calls Tryd.prog 38 #[v, .float .f64 b, .int .u8 103, .int .i64 (-1)] w fun e w' =>
      ∃ v', e = .returned v' ∧ Own w' B v' [48] ∧ Below B w w' := by
  have HE : Hid (∀ W, OwnQ W B q v [] → Calls Tryd.prog 48 #[v, .bool false, .slice none 0 0, .int .i64 0, .int .i64 0, .int .i64 (-1), .int .u8 103, .bool true] W fun e w' =>
      ∃ v', e = .returned v' ∧ Own w' B v' [48] ∧ Below B W w') := fun W h => efgF0_p W B q v h
  have HQ : Hid (OwnQ w B q v []) := ⟨hO, by omega, fun e => by have := (World.ownsRow.lt hO _ e).1; omega, hB⟩
  clear hO
  go_enter Tryd.func38, Tryd.ntmps38
  go_upto_region 14 with fail
  go_quiet (fail)
  clear hs hy hx
  have hQ2 : OwnQ (w.drewN nq) B q v [] := ⟨HQ.out.1, HQ.out.2, HQ.out.3, HQ.out.4⟩
  go_wp2_with fail
  refine (HE.out _ hQ2).mono ?_
  rintro e w5 ⟨v5, rfl, ho5, hb5⟩
  clear HE hQ2
  have hb6 := (below_drewN (Below.refl B w) nq).trans hb5
  go_wp2
  go_ret
  exact ⟨_, rfl, ho5, hb6⟩

set_option maxHeartbeats 4000000 in
theorem ftoaI_p (w : World) (B : Nat) (v : Value) (b y : Nat) (hs : (b : Int) / 9223372036854775808 = 0) (hy : (b : Int) / 4503599627370496 = (y : Int)) (hy1 : y < 4096) (hx : bits .and .i64 (y : Int) 2047 = 2047) (hf : bits .and .u64 (b : Int) 4503599627370495 = 0) (hO : Own w B v []) (hB : B ≤ w.heap.size) :
    Calls Tryd.prog 38 #[v, .float .f64 b, .int .u8 103, .int .i64 (-1)] w fun e w' =>
      ∃ v', e = .returned v' ∧ Own w' B v' [43, 73, 110, 102] ∧ Below B w w' := by
  have HO : Hid (Own w B v []) := hO
  clear hO
  go_enter Tryd.func38, Tryd.ntmps38
  go_upto_region 14 with fail
  go_quiet (fail)
  clear hs hy hx
  have hO2 : Own (w.drewN nq) B v [] := HO.out
  go_wp2_with (at_builtin; refine appS rfl (.tmp 75) (.const (.string ⟨#[43, 73, 110, 102]⟩)) rfl B _ _ (w.drewN nq) ⟨#[43, 73, 110, 102]⟩ rfl hO2 rfl (by decide) hB ?_)
  intro v5 w5 ho5 hb5
  clear hO2
  have hb6 := (below_drewN (Below.refl B w) nq).trans hb5
  go_wp2
  go_ret
  exact ⟨_, rfl, ho5, hb6⟩

set_option maxHeartbeats 4000000 in
theorem ftoaZ_n (w : World) (B : Nat) (v : Value) (b y : Nat) (hs : (b : Int) / 9223372036854775808 = 1) (hy : (b : Int) / 4503599627370496 = (y : Int)) (hy1 : y < 4096) (hx : bits .and .i64 (y : Int) 2047 = 0) (hf : bits .and .u64 (b : Int) 4503599627370495 = 0) (hO : Own w B v []) (hB : B ≤ w.heap.size) (q : Nat) (hq : q < B) :
    Calls Tryd.prog 38 #[v, .float .f64 b, .int .u8 103, .int .i64 (-1)] w fun e w' =>
      ∃ v', e = .returned v' ∧ Own w' B v' [45, 48] ∧ Below B w w' := by
  have HE : Hid (∀ W, OwnQ W B q v [] → Calls Tryd.prog 48 #[v, .bool true, .slice none 0 0, .int .i64 0, .int .i64 0, .int .i64 (-1), .int .u8 103, .bool true] W fun e w' =>
      ∃ v', e = .returned v' ∧ Own w' B v' [45, 48] ∧ Below B W w') := fun W h => efgF0_n W B q v h
  have HQ : Hid (OwnQ w B q v []) := ⟨hO, by omega, fun e => by have := (World.ownsRow.lt hO _ e).1; omega, hB⟩
  clear hO
  go_enter Tryd.func38, Tryd.ntmps38
  go_upto_region 14 with fail
  go_quiet (fail)
  clear hs hy hx
  have hQ2 : OwnQ (w.drewN nq) B q v [] := ⟨HQ.out.1, HQ.out.2, HQ.out.3, HQ.out.4⟩
  go_wp2_with fail
  refine (HE.out _ hQ2).mono ?_
  rintro e w5 ⟨v5, rfl, ho5, hb5⟩
  clear HE hQ2
  have hb6 := (below_drewN (Below.refl B w) nq).trans hb5
  go_wp2
  go_ret
  exact ⟨_, rfl, ho5, hb6⟩

set_option maxHeartbeats 4000000 in
theorem ftoaI_n (w : World) (B : Nat) (v : Value) (b y : Nat) (hs : (b : Int) / 9223372036854775808 = 1) (hy : (b : Int) / 4503599627370496 = (y : Int)) (hy1 : y < 4096) (hx : bits .and .i64 (y : Int) 2047 = 2047) (hf : bits .and .u64 (b : Int) 4503599627370495 = 0) (hO : Own w B v []) (hB : B ≤ w.heap.size) :
    Calls Tryd.prog 38 #[v, .float .f64 b, .int .u8 103, .int .i64 (-1)] w fun e w' =>
      ∃ v', e = .returned v' ∧ Own w' B v' [45, 73, 110, 102] ∧ Below B w w' := by
  have HO : Hid (Own w B v []) := hO
  clear hO
  go_enter Tryd.func38, Tryd.ntmps38
  go_upto_region 14 with fail
  go_quiet (fail)
  clear hs hy hx
  have hO2 : Own (w.drewN nq) B v [] := HO.out
  go_wp2_with (at_builtin; refine appS rfl (.tmp 73) (.const (.string ⟨#[45, 73, 110, 102]⟩)) rfl B _ _ (w.drewN nq) ⟨#[45, 73, 110, 102]⟩ rfl hO2 rfl (by decide) hB ?_)
  intro v5 w5 ho5 hb5
  clear hO2
  have hb6 := (below_drewN (Below.refl B w) nq).trans hb5
  go_wp2
  go_ret
  exact ⟨_, rfl, ho5, hb6⟩

set_option maxHeartbeats 4000000 in
theorem ftoaN (w : World) (B : Nat) (v : Value) (b y : Nat) (sg : Int) (hs : (b : Int) / 9223372036854775808 = sg) (hy : (b : Int) / 4503599627370496 = (y : Int)) (hy1 : y < 4096) (hx : bits .and .i64 (y : Int) 2047 = 2047) (f : Int) (hf : bits .and .u64 (b : Int) 4503599627370495 = f) (hf0 : (f == 0) = false) (hO : Own w B v []) (hB : B ≤ w.heap.size) :
    Calls Tryd.prog 38 #[v, .float .f64 b, .int .u8 103, .int .i64 (-1)] w fun e w' =>
      ∃ v', e = .returned v' ∧ Own w' B v' [78, 97, 78] ∧ Below B w w' := by
  have HO : Hid (Own w B v []) := hO
  clear hO
  go_enter Tryd.func38, Tryd.ntmps38
  go_upto_region 14 with fail
  go_quiet (fail)
  clear hs hy hx
  have hO2 : Own (w.drewN nq) B v [] := HO.out
  go_wp2_with (at_builtin; refine appS rfl (.tmp 70) (.const (.string ⟨#[78, 97, 78]⟩)) rfl B _ _ (w.drewN nq) ⟨#[78, 97, 78]⟩ rfl hO2 rfl (by decide) hB ?_)
  intro v5 w5 ho5 hb5
  clear hO2
  have hb6 := (below_drewN (Below.refl B w) nq).trans hb5
  go_wp2
  go_ret
  exact ⟨_, rfl, ho5, hb6⟩
end Go.Proofs.YtlhfdklfkfodkabDoor.Ff
