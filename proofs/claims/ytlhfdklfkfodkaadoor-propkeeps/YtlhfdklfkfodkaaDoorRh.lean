/- What prop.Set and the document's Set answer, side by side; trivetlaw07.long of lists whose texts fit into memory. -/
import Derived.Test.YtlhfdklfkfodkaaDoorRg
namespace Go.Proofs.YtlhfdklfkfodkaaDoor
open Go.RowKit Go.Lib Ieee
set_option linter.unusedSimpArgs false

def Short (q : Pr) : Prop := q.name.size ≤ 140737488355328 ∧ q.val.text.size ≤ 140737488355328

set_option maxRecDepth 4000 in
theorem long7b (w : World) (l : List Pr) (b o c : Nat) (h : ∀ i (h : i < l.length), PrAt w b (o + i * 5) l[i]) (hs : ∀ q ∈ l, Short q) (h16 : l.length ≤ 9223372036854775806) :
    Calls Tryd.prog 10 #[.slice (some ⟨b, o, none⟩) l.length c] w fun e w' => (∃ r : Bool, e = .returned (.bool r) ∧ (r = false → l.length ≤ 16384)) ∧ Below w.heap.size w w' := by
  have H : Hid (∀ i (h : i < l.length), PrAt w b (o + i * 5) l[i]) := h
  have HS : Hid (∀ i (h : i < l.length), Short l[i]) := fun i hi => hs _ (List.getElem_mem _)
  clear h hs
  go_enter Tryd.func10, Tryd.ntmps10
  go_wp2_with fail
  go_loopw [3, 8] (fun s i wr => ∃ (k : Nat) (z : Int), k ≤ l.length ∧ i = .int .i64 k ∧ s = .int .i64 z ∧ (k : Int) ≤ z ∧ z ≤ 16384 ∧ Below w.heap.size w wr) (fun _ i _ => l.length - (RowKit.intOf i).toNat)
  case atStart => exact ⟨0, 0, by omega, rfl, rfl, by omega, by omega, Below.refl _ _⟩
  case round =>
    obtain ⟨k, z, hk, rfl, rfl, hz1, hz2, hbr⟩ := hrel
    have hwr := hbr.size
    by_cases hlt : k < l.length
    · obtain ⟨a0, a1, a2, a3, a4⟩ := (H.out k hlt).on hbr
      have hsk := HS.out k hlt
      obtain ⟨pk, hpk⟩ : ∃ pk, pk = l[k] := ⟨_, rfl⟩
      rw [← hpk] at a0 a1 a2 a3 a4 hsk
      clear hpk
      obtain ⟨hn, htx⟩ := hsk
      by_cases hbig : z + (1 + (pk.name.size : Int) + (pk.val.text.size : Int)) > 16384
      · go_wp2
        go_ret
        exact ⟨⟨true, rfl, fun h => by cases h⟩, hbr.alloc hwr _⟩
      · go_wp2
        go_roundw
        case rel => exact ⟨k + 1, z + (1 + (pk.name.size : Int) + (pk.val.text.size : Int)), by omega, by go_num, by first | rfl | go_num, by omega, by omega, hbr.alloc hwr _⟩
        case measure => simp [RowKit.intOf]; omega
    · go_wp2
      go_ret
      exact ⟨⟨false, rfl, fun _ => by omega⟩, hbr⟩
theorem long7c (w : World) (v : Value) (l : List Pr) (h : RdP w v l) (hs : ∀ q ∈ l, Short q) (h16 : l.length ≤ 9223372036854775806) : Calls Tryd.prog 10 #[v] w fun e w' => (∃ r : Bool, e = .returned (.bool r) ∧ (r = false → l.length ≤ 16384)) ∧ Below w.heap.size w w' := by
  rcases h with ⟨⟨a, c, rfl⟩, rfl⟩ | ⟨b, o, c, rfl, _, h⟩
  · refine (long7_nil w a c).mono ?_
    rintro e w' ⟨⟨r, rfl⟩, hb⟩
    exact ⟨⟨r, rfl, fun _ => by simp⟩, hb⟩
  · exact long7b w l b o c h hs h16

/-- What both Sets answer of a list and a property. -/
theorem set7x (l : List Pr) (p : Pr) (hin : ∀ q ∈ l, Fits q) (hp : Fits p) (h63 : l.length ≤ 9223372036854775806) : ∃ X : List Pr, X.length ≤ 17 ∧
    (∀ (w : World) (v : Value), RdP w v l → NilOk v → Calls Tryd.prog 13 #[v, p.v] w fun e w' => (∃ va cd, e = .returned (.tuple #[va, .int .i64 cd]) ∧ OwnP w' w.heap.size va X) ∧ Below w.heap.size w w') ∧
    (∀ (w : World) (v : Value), RdP w v l → Calls Tryd.prog 15 #[v, p.v] w fun e w' => (∃ va cd, e = .returned (.tuple #[va, .int .i64 cd]) ∧ OwnP w' w.heap.size va X) ∧ Below w.heap.size w w') := by
  have nil : ∀ (w' : World) (B : Nat), OwnP w' B (.slice none 0 0) [] := fun w' B => World.ownsRow_nil _ _ _ _
  cases hv : validL l && canB p with
  | false =>
    refine ⟨[], by simp, fun w v h hn => ?_, fun w v h => ?_⟩
    · refine (set7_bad w v l p h hv).mono ?_
      rintro e w' ⟨rfl, hb⟩
      exact ⟨⟨_, _, rfl, nil _ _⟩, hb⟩
    · refine (rset7_bad w v l p h hin hp h63 hv).mono ?_
      rintro e w' ⟨rfl, hb⟩
      exact ⟨⟨_, _, rfl, nil _ _⟩, hb⟩
  | true =>
    rw [Bool.and_eq_true] at hv
    obtain ⟨h16, _, hri⟩ := valid_parts hv.1
    obtain ⟨kk, hkk⟩ := at_exists l hri p.name
    have hlen := putL_len hkk
    have hle : (putL l p kk).length ≤ 17 := by rw [hlen]; split <;> omega
    have rs : ∀ (w : World) (v : Value), RdP w v l → Calls Tryd.prog 15 #[v, p.v] w fun e w' => Below w.heap.size w w' ∧ RsetP w' w.heap.size (putL l p kk) e := fun w v h => by
      by_cases h0 : l = []
      · subst h0
        obtain ⟨a, c, rfl⟩ := h.shape
        have hk0 : kk = 0 := by have := hkk.1; simpa using this
        subst hk0
        have hP : putL [] p 0 = [p] := by simp [putL]
        rw [hP]
        exact rset7_nil w p a c hp hv.2
      · obtain ⟨b, o, c, rfl, hc, hP⟩ := h.some h0
        exact rset7_some w l p b o c kk hP hc hin hp hv.1 hv.2 hkk
    by_cases hf : isAt l p.name kk = false ∧ l.length = 16
    · have h17 : (putL l p kk).length > 16 := by rw [hlen, hf.1, hf.2]; simp
      refine ⟨[], by simp, fun w v h hn => ?_, fun w v h => ?_⟩
      · refine (set7 w v l p h hn).mono ?_
        rintro e w' ⟨hs, hb⟩
        rcases hs with ⟨hbad, _⟩ | ⟨_, _, k, hk, ⟨_, _, rfl⟩ | ⟨hno, _⟩⟩
        · rw [hv.1, hv.2] at hbad; cases hbad
        · exact ⟨⟨_, _, rfl, nil _ _⟩, hb⟩
        · rw [at_unique hk hkk] at hno; exact absurd hf hno
      · refine (rs w v h).mono ?_
        rintro e w' ⟨hb, hr⟩
        unfold RsetP at hr
        rw [if_pos h17] at hr
        exact ⟨⟨_, _, hr, nil _ _⟩, hb⟩
    · have h17 : ¬ (putL l p kk).length > 16 := by
        rw [hlen]
        cases e : isAt l p.name kk with
        | true => simp; omega
        | false =>
          have : l.length ≠ 16 := fun h => hf ⟨e, h⟩
          simp; omega
      refine ⟨putL l p kk, hle, fun w v h hn => ?_, fun w v h => ?_⟩
      · refine (set7 w v l p h hn).mono ?_
        rintro e w' ⟨hs, hb⟩
        rcases hs with ⟨hbad, _⟩ | ⟨_, _, k, hk, ⟨h1, h2, _⟩ | ⟨_, v', rfl, ho⟩⟩
        · rw [hv.1, hv.2] at hbad; cases hbad
        · rw [at_unique hk hkk] at h1; exact absurd ⟨h1, h2⟩ hf
        · rw [at_unique hk hkk] at ho; exact ⟨⟨_, _, rfl, ho⟩, hb⟩
      · refine (rs w v h).mono ?_
        rintro e w' ⟨hb, hr⟩
        unfold RsetP at hr
        rw [if_neg h17] at hr
        obtain ⟨v', hr, ho⟩ := hr
        exact ⟨⟨_, _, hr, ho⟩, hb⟩

/-- A row stored into a block of one's own. -/
theorem store33 (w : World) (g i cap : Nat) (cur : Array Value) (C : Array Value) (hC : C.size = 5) (h1 : C.all (·.oneCell') = true) (hg : w.heap[g]? = some (.cells cur 33 (0, 0))) (hs : cur.size = cap * 5) (hi : i < cap) :
    ∃ cur', cur'.size = cap * 5 ∧ (storeVar 33 ⟨g, i * 5, none⟩ (.agg C)).run Tryd.prog w = .ok () (w.setRow g cur') := by
  obtain ⟨i0, hi0, hz0, hz1, hz2⟩ := info_parts info33
  have := run_storeCells_at (P := Tryd.prog) g (i * 5) 33 C.toList 0 cur w hg (by simp; omega) (fun v hv => (Array.all_eq_true_iff_forall_mem.1 h1) v (by simpa using hv))
  refine ⟨(cur.toList.take (i * 5 + 0) ++ C.toList ++ cur.toList.drop (i * 5 + 0 + C.toList.length)).toArray, ?_, ?_⟩
  · simp only [List.size_toArray, List.length_append, List.length_take, List.length_drop, Array.length_toList]
    omega
  · simp only [storeVar, sizeOf, typeInfo, hi0, hz1, Value.cells, hC]
    simp only [Nat.add_zero] at this ⊢
    simp [this, hi0, hz1, hC]
theorem wpl_store33 {ops : Array Oper} {rest : List Oper} {o : Oper} {a : Act} {Q : Exit → Act → World → Prop} (hgd : o.guard = none) (x y : Operand) (ho : o.op = .store 33 x y) (w : World) (g i cap : Nat) (cur C : Array Value)
    (hx : a.eval x = .pointer (some ⟨g, i * 5, none⟩)) (hy : a.eval y = .agg C) (hC : C.size = 5) (h1 : C.all (·.oneCell') = true) (hg : w.heap[g]? = some (.cells cur 33 (0, 0))) (hs : cur.size = cap * 5) (hi : i < cap)
    (h : ∀ cur' : Array Value, cur'.size = cap * 5 → wpList Tryd.prog ops Q rest (a.put o.dst undef) (w.setRow g cur')) : wpList Tryd.prog ops Q (o :: rest) a w := by
  obtain ⟨cur', hc, hr⟩ := store33 w g i cap cur C hC h1 hg hs hi
  refine wpList_plain hgd fun K hK => ?_
  unfold Oper.wp execOp
  simp only [ho, hx, hy, Instr.storeAt, Instr.sureAddr, Sem.run_bind, Sem.run_pure, Result.andThen_ok, hr]
  exact hK _ _ (h cur' hc)
end Go.Proofs.YtlhfdklfkfodkaaDoor
