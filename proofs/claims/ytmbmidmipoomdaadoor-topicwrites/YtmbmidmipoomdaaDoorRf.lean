/- What the document's swapped, Slashes, Dots and Find answer of any text. Conditions: texts of at most 8,000 bytes, where a row says so. -/
import Derived.Test.YtmbmidmipoomdaaDoorRe
import Derived.Test.YtmbmidmipoomdaaDoorWe
import Derived.Lib.AppendStr
import Derived.Lib.UnsafeStr
import Derived.Lib.SliceRun
import Derived.Laws.BytesArg
import Derived.Laws.AppendOwnNone
import Derived.Deep.QuietTactic
namespace Go.Proofs.YtmbmidmipoomdaaDoor
open Go.RowKit Go.Lib
set_option maxRecDepth 10000

def RdB (w : World) (v : Value) (l : List UInt8) : Prop :=
  (v = .slice none 0 0 ∧ l = []) ∨ ∃ (b o c : Nat), v = .slice (some ⟨b, o, none⟩) l.length c ∧ l.length ≤ c ∧ ∀ i, i < l.length → w.cell? ⟨b, o + i, none⟩ = some (.int .u8 ((l.getD i 0).toNat : Int))
theorem info5 : (Tryd.prog.info? 5).map (fun i => (i.zero, i.size, i.bytes)) = some (some (.int .u8 0), 1, 1) := by kernel_rfl

theorem RdB.of_own {w : World} {B : Nat} {v : Value} {n : Nat} {l : List UInt8} (h : w.ownsRow B 5 1 v n (byteCells l)) : RdB w v l := by
  obtain ⟨hl, h⟩ := h
  rw [byteCells_length, Nat.mul_one] at hl
  subst hl
  rcases h with ⟨rfl, h0⟩ | ⟨g, cap, cur, rfl, hb, hg, hc, hm, hs, ht⟩
  · exact .inl ⟨rfl, List.length_eq_zero_iff.1 h0⟩
  · refine .inr ⟨g, 0, cap, rfl, hc, fun i hi => ?_⟩
    have e : (cur.toList.take (l.length * 1))[i]? = (byteCells l)[i]? := by rw [ht]
    rw [List.getElem?_take_of_lt (by omega)] at e
    simp only [byteCells, List.getElem?_map, List.getElem?_eq_getElem hi, Option.map_some] at e
    simp only [World.cell?, hg, Nat.zero_add]
    simp only [Array.getElem?_toList] at e
    simp [e, List.getElem?_eq_getElem hi]

/-- The numbers of bytes. -/
def nums (l : List UInt8) : List Int := l.map fun b => (b.toNat : Int)
theorem nums_getD (l : List UInt8) (i : Nat) : (nums l).getD i 0 = ((l.getD i 0).toNat : Int) := by
  simp only [nums, List.getD_eq_getElem?_getD, List.getElem?_map]
  cases l[i]? <;> simp
theorem conv_any {w : World} {v : Value} {l : List UInt8} (h : RdB w v l) : (convert 49 9 v).run Tryd.prog w = .ok (.string ⟨l.toArray⟩) w := by
  rcases h with ⟨rfl, rfl⟩ | ⟨b, o, c, rfl, _, hc⟩
  · exact run_convert_bytes_nil (P := Tryd.prog) w 49 5 Tryd.underlying49 Tryd.underlying5 0 0 9 Tryd.underlying9
  · have := run_convert_bytes_arg (P := Tryd.prog) w 49 5 Tryd.underlying49 Tryd.underlying5 b o l.length c (nums l) (by simp [nums]) (fun i hi => by rw [nums_getD]; exact hc i hi) 9 Tryd.underlying9
    rw [this]
    congr 2
    simp [strOfNums, nums, Function.comp_def]

/-- A slice of bytes in the call's own memory, from block B on. -/
def Own (w : World) (B : Nat) (v : Value) (l : List UInt8) : Prop := w.ownsRow B 5 1 v l.length (byteCells l)
theorem Own.rd {w : World} {B : Nat} {v : Value} {l : List UInt8} (h : Own w B v l) : RdB w v l := RdB.of_own h
theorem Own.nil (w : World) (B : Nat) : Own w B (.slice none 0 0) [] := World.ownsRow_nil _ _ _ _

theorem app1 {ops : Array Oper} {rest : List Oper} {o : Oper} {a : Act} {Q : Exit → Act → World → Prop} (hgd : o.guard = none) (s x : Operand)
    (ho : o.op = .call { callee := .builtin .append, args := #[s, x], argTypes := #[49, 49] }) (B : Nat) (v : Value) (l : List UInt8) (w : World) (c : UInt8) (cv : Int) (hcv : cv = (c.toNat : Int))
    (hs : a.eval s = v) (hown : Own w B v l) (hx : a.eval x = .slice (some ⟨w.heap.size, 0, none⟩) 1 1) (hl : l.length + 1 ≤ 140737488355328) (hB : B ≤ w.heap.size)
    (h : ∀ v' w', Own w' B v' (l ++ [c]) → Below B w w' → wpList Tryd.prog ops Q rest (a.put o.dst v') w') :
    wpList Tryd.prog ops Q (o :: rest) a (w.alloc (.cells #[.int .u8 cv] 5)) := by
  obtain ⟨i0, hi, hz0, hz1, hz2⟩ := info_parts info5
  subst hcv
  refine wpList_append_own _ hgd s x 49 ho B 5 i0 (.int .u8 0) 1 1 Tryd.underlying49 hi hz0 hz1 hz2 rfl (by decide) v l.length (byteCells l) hs (World.ownsRow.alloc hown _) ⟨w.heap.size, 0, none⟩ 1 1 [.int .u8 (c.toNat : Int)] hx rfl ?_ ?_ (by unfold maxLen; omega) (by omega) (by simp; omega) ?_
  · intro j u hj
    match j, hj with
    | 0, hj => simp at hj; subst hj; simp [Addr.add_lit, World.cell?_alloc_new]
  · intro u hu; simp at hu; subst hu; rfl
  · intro v' w' h1 h2 _
    refine h v' w' ?_ ?_
    · unfold Own
      rw [List.length_append, byteCells_append]
      exact h1
    · exact ((Below.refl B w).alloc hB _).grown h2 (by simp; omega) (fun k hk => (World.ownsRow.lt hown k hk).1)


/-- One byte for another, two ways. -/
def swapB (a x b y : UInt8) (c : UInt8) : UInt8 := if c = a then x else if c = b then y else c
theorem u8_eq (c d : UInt8) : ((c.toNat : Int) == (d.toNat : Int)) = (c == d) := by
  rw [Bool.eq_iff_iff, beq_iff_eq, beq_iff_eq]
  constructor
  · intro h; exact UInt8.toNat_inj.1 (by omega)
  · rintro rfl; rfl
set_option maxHeartbeats 2000000 in
theorem swapped_any (w : World) (l : List UInt8) (hl : l.length ≤ 8000) (a x b y : UInt8) : Calls Tryd.prog 36 #[str l, .int .u8 (a.toNat : Int), .int .u8 (x.toNat : Int), .int .u8 (b.toNat : Int), .int .u8 (y.toNat : Int)] w fun e w' =>
    e = .returned (str (l.map (swapB a x b y))) ∧ Below w.heap.size w w' := by
  have HL : Hid (l.length ≤ 8000) := hl
  have HZ : (l.length : Int) ≤ 8000 := by omega
  clear hl
  obtain ⟨za, hza⟩ : ∃ za : Int, (a.toNat : Int) = za := ⟨_, rfl⟩
  obtain ⟨zx, hzx⟩ : ∃ zx : Int, (x.toNat : Int) = zx := ⟨_, rfl⟩
  obtain ⟨zb, hzb⟩ : ∃ zb : Int, (b.toNat : Int) = zb := ⟨_, rfl⟩
  obtain ⟨zy, hzy⟩ : ∃ zy : Int, (y.toNat : Int) = zy := ⟨_, rfl⟩
  have Ha : Hid ((a.toNat : Int) = za) := hza
  have Hx : Hid ((x.toNat : Int) = zx) := hzx
  have Hb : Hid ((b.toNat : Int) = zb) := hzb
  have Hy : Hid ((y.toNat : Int) = zy) := hzy
  rw [hza, hzx, hzb, hzy]
  clear hza hzx hzb hzy
  go_enter Tryd.func36, Tryd.ntmps36
  go_wp2_with fail
  go_loopw [11, 12, 13] (fun s11 s12 _ wr => ∃ k : Nat, k ≤ l.length ∧ s12 = .int .i64 k ∧ Hid (Own wr w.heap.size s11 ((l.take k).map (swapB a x b y))) ∧ Hid (Below w.heap.size w wr)) (fun _ i _ _ => l.length - (RowKit.intOf i).toNat)
  case atStart => exact ⟨0, by omega, rfl, Own.nil _ _, Below.refl _ _⟩
  case round =>
    obtain ⟨k, hk, rfl, HO, HB⟩ := hrel
    by_cases hlt : k < l.length
    · have hltz : (k : Int) < (l.length : Int) := by omega
      have hT := snoc_cases l k hlt
      obtain ⟨c, hc⟩ : ∃ c, l[k] = c := ⟨_, rfl⟩
      have HT : Hid ((l.take (k + 1)).map (swapB a x b y) = (l.take k).map (swapB a x b y) ++ [swapB a x b y c]) := by
        show (l.take (k + 1)).map (swapB a x b y) = _
        rw [hT, hc, List.map_append]
        rfl
      have hix : (⟨l.toArray⟩ : ByteArray)[k]'hlt = c := hc
      have hc1 : ((((⟨l.toArray⟩ : ByteArray)[k]'hlt).toNat : Int) == za) = (c == a) := by rw [hix, ← Ha.out]; exact u8_eq c a
      have hc2 : ((((⟨l.toArray⟩ : ByteArray)[k]'hlt).toNat : Int) == zb) = (c == b) := by rw [hix, ← Hb.out]; exact u8_eq c b
      have HC : Hid ((((⟨l.toArray⟩ : ByteArray)[k]'hlt).toNat : Int) = (c.toNat : Int)) := by show _ = _; rw [hix]
      have hsz : Hid (w.heap.size ≤ wr.heap.size) := HB.out.size
      have hlen : Hid (((l.take k).map (swapB a x b y)).length + 1 ≤ 140737488355328) := by
        show _ ≤ _
        rw [List.length_map, List.length_take]
        have := HL.out
        omega
      obtain ⟨d, hd⟩ : ∃ d, swapB a x b y c = d := ⟨_, rfl⟩
      rw [hd] at HT
      clear hT hc hix
      generalize ((l.take k).map (swapB a x b y)) = pre at *
      cases ha : (c == a) with
      | true =>
        rw [ha] at hc1
        have hdz : Hid (zx = (d.toNat : Int)) := by rw [← hd]; unfold swapB; rw [if_pos (beq_iff_eq.1 ha)]; exact Hx.out.symm
        clear hc2 hd ha
        go_wp2_with (at_builtin; refine app1 rfl (.tmp 31) (.tmp 33) rfl w.heap.size _ pre wr d zx hdz.out rfl HO.out rfl hlen.out hsz.out ?_; intro v2 w2 HO2 HB2)
        go_roundw
        case rel => exact ⟨k + 1, by omega, by go_num, by rw [HT.out]; exact HO2, HB.out.trans HB2⟩
        case measure => simp [RowKit.intOf]; omega
      | false =>
        rw [ha] at hc1
        cases hb : (c == b) with
        | true =>
          rw [hb] at hc2
          have hdz : Hid (zy = (d.toNat : Int)) := by rw [← hd]; unfold swapB; rw [if_neg (by simpa using ha), if_pos (beq_iff_eq.1 hb)]; exact Hy.out.symm
          clear hd ha hb
          go_wp2_with (at_builtin; refine app1 rfl (.tmp 31) (.tmp 33) rfl w.heap.size _ pre wr d zy hdz.out rfl HO.out rfl hlen.out hsz.out ?_; intro v2 w2 HO2 HB2)
          go_roundw
          case rel => exact ⟨k + 1, by omega, by go_num, by rw [HT.out]; exact HO2, HB.out.trans HB2⟩
          case measure => simp [RowKit.intOf]; omega
        | false =>
          rw [hb] at hc2
          have hdz : Hid ((((⟨l.toArray⟩ : ByteArray)[k]'hlt).toNat : Int) = (d.toNat : Int)) := by
            show _ = _
            rw [HC.out, ← hd]; unfold swapB; rw [if_neg (by simpa using ha), if_neg (by simpa using hb)]
          clear hd ha hb
          go_wp2_with (at_builtin; refine app1 rfl (.tmp 31) (.tmp 33) rfl w.heap.size _ pre wr d _ hdz.out rfl HO.out rfl hlen.out hsz.out ?_; intro v2 w2 HO2 HB2)
          go_roundw
          case rel => exact ⟨k + 1, by omega, by go_num, by rw [HT.out]; exact HO2, HB.out.trans HB2⟩
          case measure => simp [RowKit.intOf]; omega
    · have hltz : ¬ (k : Int) < (l.length : Int) := by omega
      have hkl : l.take k = l := List.take_of_length_le (by omega)
      rw [hkl] at HO
      have hcv := conv_any HO.out.rd
      go_wp2
      go_ret
      exact ⟨rfl, HB.out⟩

theorem swap_slash : swapB 46 47 42 43 = slashB := rfl
theorem swap_dot : swapB 47 46 43 42 = dotB := rfl
theorem rslashes_ok (w : World) (l : List UInt8) (h : pat l = true) : Calls Tryd.prog 19 #[str l] w fun e w' => e = .returned (.tuple #[str (l.map turnB), .int .i64 0]) ∧ Below w.heap.size w w' := by
  have hp := rpattern_any w l
  rw [h] at hp
  have ht := fun W => swapped_any W l (by have := (pat_nums h).1; omega) 46 47 42 43
  rw [swap_slash, pat_slash h] at ht
  generalize l.map turnB = m at *
  go_enter Tryd.func19, Tryd.ntmps19
  go_wp2_with fail
  refine hp.mono ?_
  rintro e1 w1 ⟨rfl, hb1⟩
  go_wp2_with fail
  refine (ht w1).mono ?_
  rintro e2 w2 ⟨rfl, hb2⟩
  go_wp2
  go_ret2
  exact ⟨rfl, nxt hb1 hb2⟩
theorem rslashes_bad (w : World) (l : List UInt8) (h : pat l = false) : Calls Tryd.prog 19 #[str l] w fun e w' => e = .returned (.tuple #[str [], .int .i64 30]) ∧ Below w.heap.size w w' := by
  have hp := rpattern_any w l
  rw [h] at hp
  go_enter Tryd.func19, Tryd.ntmps19
  go_wp2_with fail
  refine hp.mono ?_
  rintro e1 w1 ⟨rfl, hb1⟩
  go_wp2
  go_ret2
  exact ⟨rfl, hb1⟩

/-- The document's Dots: what it answers. -/
def dotsV (l : List UInt8) : Value := if dotsOk l then .tuple #[str (l.map turnB), .int .i64 0] else .tuple #[str [], .int .i64 30]
theorem u8_46 (c : UInt8) : ((c.toNat : Int) == 46) = (c == 46) := u8_eq c 46
theorem u8_42 (c : UInt8) : ((c.toNat : Int) == 42) = (c == 42) := u8_eq c 42
set_option maxHeartbeats 2000000 in
theorem rdots_any (w : World) (l : List UInt8) (hl : l.length ≤ 8000) : Calls Tryd.prog 21 #[str l] w fun e w' => e = .returned (dotsV l) ∧ Below w.heap.size w w' := by
  have ht := fun W => swapped_any W l hl 47 46 43 42
  rw [swap_dot] at ht
  have hp := fun W => rpattern_any W (l.map dotB)
  have HL : Hid (l.length ≤ 8000) := hl
  have HZ : (l.length : Int) ≤ 8000 := by omega
  have HB : Hid (∀ k (h : k < l.length), (l[k] = 46 ∨ l[k] = 42) → dotsV l = .tuple #[str [], .int .i64 30]) := fun k h hk => by
    have : dotsOk l = false := by
      unfold dotsOk
      rw [Bool.and_eq_false_iff]
      left
      rw [List.all_eq_false]
      exact ⟨l[k], List.getElem_mem h, by rcases hk with e | e <;> rw [e] <;> decide⟩
    unfold dotsV
    rw [this]
    rfl
  have HG : Hid ((∀ k (h : k < l.length), l[k] ≠ 46 ∧ l[k] ≠ 42) → (pat (l.map dotB) = true ∧ dotsV l = .tuple #[str (l.map dotB), .int .i64 0]) ∨ (pat (l.map dotB) = false ∧ dotsV l = .tuple #[str [], .int .i64 30])) := fun h => by
    have hno : ∀ c ∈ l, c ≠ 46 ∧ c ≠ 42 := fun c hc => by
      obtain ⟨j, hj, rfl⟩ := List.mem_iff_getElem.1 hc
      exact h j hj
    have hall : l.all (fun c => c != 46 && c != 42) = true := List.all_eq_true.2 (fun c hc => by have := hno c hc; simp [this.1, this.2])
    cases hq : pat (l.map dotB) with
    | true =>
      left
      refine ⟨rfl, ?_⟩
      unfold dotsV dotsOk
      rw [hall, hq, dots_same l hno]
      rfl
    | false =>
      right
      refine ⟨rfl, ?_⟩
      unfold dotsV dotsOk
      rw [hq, Bool.and_false]
      rfl
  clear hl
  obtain ⟨m, hm⟩ : ∃ m, l.map dotB = m := ⟨_, rfl⟩
  simp only [hm] at ht hp HG
  clear hm
  generalize dotsV l = r at *
  go_enter Tryd.func21, Tryd.ntmps21
  go_wp2_with fail
  go_loopw [4] (fun s4 wr => ∃ k : Nat, k ≤ l.length ∧ s4 = .int .i64 k ∧ wr = w ∧ Hid (∀ j (h : j < l.length), j < k → l[j] ≠ 46 ∧ l[j] ≠ 42)) (fun i _ => l.length - (RowKit.intOf i).toNat)
  case atStart => exact ⟨0, by omega, rfl, rfl, fun j _ hj => absurd hj (Nat.not_lt_zero _)⟩
  case round =>
    obtain ⟨k, hk, rfl, rfl, A⟩ := hrel
    by_cases hlt : k < l.length
    · have hltz : (k : Int) < (l.length : Int) := by omega
      have hc1 := u8_46 ((⟨l.toArray⟩ : ByteArray)[k]'hlt)
      have hc2 := u8_42 ((⟨l.toArray⟩ : ByteArray)[k]'hlt)
      cases h46 : ((⟨l.toArray⟩ : ByteArray)[k]'hlt == 46) with
      | true =>
        rw [h46] at hc1
        have hr : Hid _ := HB.out k hlt (.inl (beq_iff_eq.1 h46))
        clear hc2 h46 HB HG A ht hp
        go_wp2
        go_ret2
        exact ⟨by rw [hr.out]; rfl, Below.refl _ _⟩
      | false =>
        rw [h46] at hc1
        cases h42 : ((⟨l.toArray⟩ : ByteArray)[k]'hlt == 42) with
        | true =>
          rw [h42] at hc2
          have hr : Hid _ := HB.out k hlt (.inr (beq_iff_eq.1 h42))
          clear h46 h42 HB HG A ht hp
          go_wp2
          go_ret2
          exact ⟨by rw [hr.out]; rfl, Below.refl _ _⟩
        | false =>
          rw [h42] at hc2
          have A2 : Hid (∀ j (h : j < l.length), j < k + 1 → l[j] ≠ 46 ∧ l[j] ≠ 42) := fun j h hj => by
            by_cases e : j = k
            · subst e
              exact ⟨beq_eq_false_iff_ne.1 h46, beq_eq_false_iff_ne.1 h42⟩
            · exact A.out j h (by omega)
          clear h46 h42 A
          go_wp2
          go_roundw
          case rel => exact ⟨k + 1, by omega, by go_num, trivial, A2.out⟩
          case measure => simp [RowKit.intOf]; omega
    · have hltz : ¬ (k : Int) < (l.length : Int) := by omega
      have hG : Hid _ := HG.out (fun j hj => A.out j hj (by omega))
      clear HB HG A
      go_wp2_with fail
      refine (ht _).mono ?_
      rintro e1 w1 ⟨rfl, hb1⟩
      rcases hG.out with ⟨hq, hr⟩ | ⟨hq, hr⟩
      · have hp1 := hp w1
        rw [hq] at hp1
        have hr : Hid _ := hr
        clear hG hp
        go_wp2_with fail
        refine hp1.mono ?_
        rintro e2 w2 ⟨rfl, hb2⟩
        go_wp2
        go_ret2
        exact ⟨by rw [hr.out]; rfl, nxt hb1 hb2⟩
      · have hp1 := hp w1
        rw [hq] at hp1
        have hr : Hid _ := hr
        clear hG hp
        go_wp2_with fail
        refine hp1.mono ?_
        rintro e2 w2 ⟨rfl, hb2⟩
        go_wp2
        go_ret2
        exact ⟨by rw [hr.out]; rfl, nxt hb1 hb2⟩
end Go.Proofs.YtmbmidmipoomdaaDoor
