/- pair.snapshot. -/
import Derived.Test.YthgkkmcpmhfehaaPb
import Derived.Test.YthgkkmcpmhfehaaAl
namespace Go.Proofs.Ythgkkmcpmhfehaa
open Go.RowKit Go.Lib Go.Shelf
set_option maxRecDepth 100000

theorem equal_any (w : World) (v1 v2 : Value) (l1 l2 : List UInt8) (h1 : Sl.RdA w v1 l1) (h2 : Sl.RdA w v2 l2) :
    Calls Try.prog 61 #[v1, v2] w fun e w' => e = .returned (.bool (decide (l1 = l2))) ∧ w' = w := by
  have g1 := convA h1
  have g2 := convA h2
  have hse := str_beq l1 l2
  clear h1 h2
  generalize (⟨l1.toArray⟩ : ByteArray) = s1 at *
  generalize (⟨l2.toArray⟩ : ByteArray) = s2 at *
  generalize decide (l1 = l2) = d at *
  go_enter Try.func61, Try.ntmps61
  go_wp2
  go_ret
  exact ⟨by rw [← hse]; rfl, rfl⟩

/-- What stands on a half: no snapshot, or one. -/
def SnapAt (P : List UInt8) (lo : Nat) (b : List UInt8) : Prop :=
  (b = [] ∧ cutB P lo 0 12 = List.replicate 12 0) ∨ cutB P lo 0 (12 + b.length) = snB b
theorem cutB_page (P : List UInt8) (lo m : Nat) (hm : m ≤ 256) : cutB P lo 0 m = (pageOf P lo).take m := by
  unfold cutB pageOf
  rw [Nat.add_zero, List.take_take, Nat.min_eq_left hm]
theorem cutB_take (P : List UInt8) (lo m k : Nat) (h : m ≤ k) : cutB P lo 0 m = (cutB P lo 0 k).take m := by
  unfold cutB
  rw [List.take_take, Nat.min_eq_left h]
theorem cutB_more (P : List UInt8) (lo k : Nat) : cutB P lo 0 ((k + 1) * 256) = cutB P lo 0 (k * 256) ++ pageOf P (lo + k) := by
  unfold cutB pageOf
  rw [show (k + 1) * 256 = k * 256 + 256 by omega, List.take_add, List.drop_drop, show lo * 256 + 0 + k * 256 = (lo + k) * 256 by omega]
theorem sn_head (b : List UInt8) : (snB b).take 12 = be4 b.length ++ Sl.be8 (sumS b) := by
  unfold snB
  rw [List.take_append_of_le_length (by simp [be4, Sl.be8])]
  exact List.take_of_length_le (by simp [be4, Sl.be8])
theorem sn_tail (b : List UInt8) : (snB b).drop 12 = b := by
  unfold snB
  rw [List.drop_append_of_le_length (by simp [be4, Sl.be8]), List.drop_eq_nil_of_le (by simp [be4, Sl.be8]), List.nil_append]
theorem sn_nonzero (b : List UInt8) (hl : b.length ≤ 1048576) : be4 b.length ++ Sl.be8 (sumS b) ≠ List.replicate 12 0 := by
  intro h
  have h4 : be4 b.length = List.replicate 4 0 := by
    have := congrArg (List.take 4) h
    rwa [List.take_append_of_le_length (by simp [be4]), List.take_of_length_le (by simp [be4])] at this
  have h0 : b.length = 0 := by
    have := congrArg Sl.de h4
    rw [de_be4 _ (by omega)] at this
    rw [this]; rfl
  obtain rfl := List.length_eq_zero_iff.1 h0
  revert h; decide

/-- The bytes of a snapshot that was read. -/
def SnV (w : World) (B : Nat) (v : Value) (b : List UInt8) : Prop :=
  (v = .slice none 0 0 ∧ b = []) ∨ ∃ g c full, v = .slice (some ⟨g, 12, none⟩) b.length c ∧ B ≤ g ∧ b.length ≤ c ∧ w.heap[g]? = some (.cells full 5 (0, 0)) ∧ w.rangeAt g 12 (byteCells b)
theorem SnV.rd {w : World} {B : Nat} {v : Value} {b : List UInt8} (h : SnV w B v b) : Sl.RdA w v b := by
  rcases h with ⟨rfl, rfl⟩ | ⟨g, c, full, rfl, _, hc, _, hr⟩
  · exact .inl (.inl ⟨rfl, rfl⟩)
  · exact sl_range hr hc
theorem SnV.shape {w : World} {B : Nat} {v : Value} {b : List UInt8} (h : SnV w B v b) : ∃ a c, v = .slice a b.length c := by
  rcases h with ⟨rfl, rfl⟩ | ⟨g, c, full, rfl, _⟩
  · exact ⟨_, _, rfl⟩
  · exact ⟨_, _, rfl⟩

set_option maxHeartbeats 4000000 in
theorem snapshot_any (w : World) (X : Nat → Prop) (p q n : Nat) (S : DS) (half : Nat) (tv : Value) (met : Nat) (hd : S.down = false) (h : Drum w X q n S) (hp : Pr w p q half tv met) (a : Nat) (ha : a ≤ 1) (b : List UInt8) (hl : b.length ≤ 1048576) (hsn : SnapAt S.P (firstN n a) b) (htk : takesN b.length < spanN n) :
    Calls Try.prog 38 #[.pointer (some ⟨p, 0, none⟩), .int .i64 (a : Int)] w fun e w' => ∃ v, e = .returned v ∧ SnV w' w.heap.size v b ∧ Below w.heap.size w w' := by
  have hn1 : 1 ≤ n := by unfold spanN at htk; omega
  have N60 := first_any w X p q n S half tv met a ha h hp hn1
  have hlo : firstN n a + spanN n ≤ n := by
    unfold firstN spanN
    rcases (show a = 0 ∨ a = 1 by omega) with rfl | rfl <;> omega
  generalize firstN n a = lo at *
  have N59 := pread_ok w X p q n S half tv met lo (by omega) hd h hp
  have hpl : (pageOf S.P lo).length = 256 := pageOf_length _ n _ h.len (by omega)
  have htop := h.top
  go_enter Try.func38, Try.ntmps38
  go_wp2_with (first | (go_at_call 60; refine N60.mono ?_; rintro e w1 ⟨rfl, he⟩; have he := he.symm; subst he) | (go_at_call 59; refine N59.mono ?_; rintro e w2 ⟨rfl, hpg⟩))
  have hmk : (Instr.makeSlice 30 (.int .i64 12) (.int .i64 12)).run Try.prog w2 = .ok (.slice (some ⟨w2.heap.size, 0, none⟩) 12 12) (w2.alloc (.cells (byteCells (List.replicate 12 0)).toArray 5)) := makeB w2 12 12 (by decide) (by decide)
  rw [hmk]
  clear hmk
  have hb2 := hpg.below
  have hb3 : Below w.heap.size w (w2.alloc (.cells (byteCells (List.replicate 12 0)).toArray 5)) := hb2.alloc hb2.size _
  have hz3 : (w2.alloc (.cells (byteCells (List.replicate 12 0)).toArray 5)).heap[w2.heap.size]? = some (.cells (byteCells (List.replicate 12 0)).toArray 5 (0, 0)) := heap_alloc_new w2 _
  have hlt2 : w.heap.size < w2.heap.size := (Array.getElem?_eq_some_iff.1 hpg.block).1
  have hg3 : (w2.alloc (.cells (byteCells (List.replicate 12 0)).toArray 5)).heap[w.heap.size]? = some (.cells (byteCells (pageOf S.P lo)).toArray 85 (0, 0)) := by
    rw [Below.heap_alloc _ _ _ hlt2]; exact hpg.block
  generalize w2.alloc (.cells (byteCells (List.replicate 12 0)).toArray 5) = w3 at *
  have hl12 : ((pageOf S.P lo).take 12).length = 12 := by rw [List.length_take]; omega
  have hrH : Sl.RdA w3 (.slice (some ⟨w.heap.size, 0, none⟩) 12 256) ((pageOf S.P lo).take 12) := by
    have := sl_range (c := 256) (range_cut hg3 0 12) (by rw [List.drop_zero]; omega)
    rwa [List.drop_zero, hl12] at this
  have hrZ : Sl.RdA w3 (.slice (some ⟨w2.heap.size, 0, none⟩) 12 12) (List.replicate 12 0) := by
    have := sl_range (c := 12) (range_of_block hz3) (by decide)
    simpa using this
  have N61 := equal_any w3 _ _ _ _ hrH hrZ
  rcases hsn with ⟨rfl, hz⟩ | hsn
  · rw [cutB_page _ _ _ (by decide)] at hz
    rw [hz] at N61
    have N61' : Calls Try.prog 61 #[.slice (some ⟨w.heap.size, 0, none⟩) 12 256, .slice (some ⟨w2.heap.size, 0, none⟩) 12 12] w3 fun e w' => e = .returned (.bool true) ∧ w' = w3 := N61
    clear N61
    go_wp2_with (go_at_call 61; refine N61'.mono ?_; rintro e w4 ⟨rfl, he⟩; have he := he.symm; subst he)
    go_ret
    exact ⟨_, rfl, .inl ⟨rfl, rfl⟩, hb3⟩
  have hH : (pageOf S.P lo).take 12 = be4 b.length ++ Sl.be8 (sumS b) := by
    rw [← cutB_page _ _ _ (by decide), cutB_take _ _ 12 (12 + b.length) (by omega), hsn, sn_head]
  rw [hH] at N61 hrH
  rw [decide_eq_false (sn_nonzero b hl)] at N61
  have hr4 : w3.rangeAt w.heap.size 0 (byteCells (be4 b.length)) := by
    have := range_cut hg3 0 4
    rw [List.drop_zero] at this
    have e : (pageOf S.P lo).take 4 = be4 b.length := by
      have := congrArg (List.take 4) hH
      rw [List.take_take, List.take_append_of_le_length (by simp [be4]), List.take_of_length_le (l := be4 b.length) (by simp [be4])] at this
      exact this
    rwa [e] at this
  have N62 := number4_any w3 w.heap.size 0 256 (be4 b.length) rfl hr4
  rw [de_be4 _ (by omega)] at N62
  have hd3 := h.below hb3
  have hp3 := hp.below hb3
  have N46 := leaves_any w3 X p q n S half tv met b.length (by omega) hd3 hp3 hn1
  rw [decide_eq_true htk] at N46
  have N63 := pagesOf_any w3 b.length (by omega)
  go_wp2_with (first | (go_at_call 61; refine N61.mono ?_; rintro e w4 ⟨rfl, he⟩; have he := he.symm; subst he) | (go_at_call 62; refine N62.mono ?_; rintro e w4 ⟨rfl, he⟩; have he := he.symm; subst he) | (go_at_call 46; refine N46.mono ?_; rintro e w4 ⟨rfl, he⟩; have he := he.symm; subst he) | (go_at_call 63; refine N63.mono ?_; rintro e w4 ⟨rfl, he⟩; have he := he.symm; subst he))
  have hNs : takesN b.length * 256 ≥ 12 + b.length := by unfold takesN; omega
  have HM : Hid (takesN b.length * 256 ≥ 12 + b.length) := hNs
  have hN0 : 1 ≤ takesN b.length := by unfold takesN; omega
  obtain ⟨sp, hsp⟩ : ∃ sp, sp = spanN n := ⟨_, rfl⟩
  rw [← hsp] at htk hlo
  clear hsp hNs N46 N63 N62 N61 N60 N59
  generalize hNN : takesN b.length = N at *
  clear hNN
  have HN : Hid _ := hsn
  have hH' : Hid _ := hH
  have HG : Hid _ := hg3
  have HRH : Hid _ := hrH
  have hlt3 : w.heap.size < w3.heap.size := (Array.getElem?_eq_some_iff.1 hg3).1
  clear hsn hH hg3 hz3 hrH hrZ hr4 hpl hl12 hpg hlt2
  have hN4 : N ≤ 4096 := by omega
  go_loopw [34, 8] (fun i v wr => ∃ k : Nat, k ≤ N ∧ i = .int .i64 k ∧ Sl.Own wr w3.heap.size v (cutB S.P lo 0 (k * 256)) ∧ Below w3.heap.size w3 wr) (fun i _ _ => N - (RowKit.intOf i).toNat)
  case atStart => exact ⟨0, by omega, rfl, by rw [Nat.zero_mul]; exact Sl.Own.nil _ _, Below.refl _ _⟩
  case round =>
    obtain ⟨k, hk, rfl, hown, hbw⟩ := hrel
    have hle : w3.heap.size ≤ wr.heap.size := hbw.size
    by_cases hlt : k < N
    · have N59 := pread_ok wr X p q n S half tv met (lo + k) (by omega) hd (hd3.below hbw) (hp3.below hbw)
      have hpk : (pageOf S.P (lo + k)).length = 256 := pageOf_length _ n _ h.len (by omega)
      have hlk : (cutB S.P lo 0 (k * 256)).length ≤ 1048576 := by unfold cutB; rw [List.length_take]; omega
      have hcm : Hid _ := cutB_more S.P lo k
      generalize cutB S.P lo 0 (k * 256) = L at *
      generalize pageOf S.P (lo + k) = PG at *
      go_wp2_with fail
      rw [show ((lo : Int) + (k : Int)) = ((lo + k : Nat) : Int) by omega]
      refine N59.mono ?_
      rintro e w5 ⟨rfl, hpg5⟩
      have hb5 : Below w3.heap.size w3 w5 := hbw.trans (hpg5.below.mono hle)
      have hrd5 : Sl.RdA w5 (.slice (some ⟨wr.heap.size, 0, none⟩) 256 256) PG := by
        have := sl_range (c := 256) (range_of_block hpg5.block) (by omega)
        rwa [hpk] at this
      have ho5 : Sl.Own w5 w3.heap.size u8 L := hown.on hpg5.below
      have hle5 : w3.heap.size ≤ w5.heap.size := hb5.size
      go_wp2_with (at_builtin; refine Sl.appB rfl (.tmp 37) (.tmp 42) rfl w3.heap.size _ _ L PG w5 rfl ho5 rfl hrd5 (by omega) hle5 ?_)
      intro v6 w6 ho6 hb6
      go_wp2
      exact ⟨⟨k + 1, by omega, by go_num, by rw [hcm.out]; exact ho6, hb5.trans hb6⟩, by simp [RowKit.intOf]; omega⟩
    · have hkN : k = N := by omega
      subst hkN
      have hPl := h.len
      have hcl : (cutB S.P lo 0 (k * 256)).length = k * 256 := cutB_length _ _ _ _ (by omega)
      have hm := HM.out
      obtain ⟨g, cap, full, rfl, hgB, hgh, hgc, hrg⟩ : ∃ g cap full, u8 = .slice (some ⟨g, 0, none⟩) (k * 256) cap ∧ w3.heap.size ≤ g ∧ wr.heap[g]? = some (.cells full 5 (0, 0)) ∧ k * 256 ≤ cap ∧ wr.rangeAt g 0 (byteCells (cutB S.P lo 0 (k * 256))) := by
        rcases hown.2 with ⟨_, h0⟩ | ⟨g, cap, cur, rfl, hb, hg, hc, _, hs, ht⟩
        · omega
        · refine ⟨g, cap, cur, by rw [hcl], hb, hg, by omega, fun j u hj => ?_⟩
          have hjl := (List.getElem?_eq_some_iff.1 hj).1
          rw [byteCells_length] at hjl
          have e : (cur.toList.take ((cutB S.P lo 0 (k * 256)).length * 1))[j]? = (byteCells (cutB S.P lo 0 (k * 256)))[j]? := by rw [ht]
          rw [List.getElem?_take_of_lt (by omega), hj] at e
          simp only [World.cell?, hg, Nat.zero_add]
          simpa using e
      have hrb : wr.rangeAt g 12 (byteCells b) := by
        intro j u hj
        have hjl := (List.getElem?_eq_some_iff.1 hj).1
        rw [byteCells_length] at hjl
        have := hrg (12 + j) u ?_
        · rwa [Nat.zero_add] at this
        · rw [← hj]
          have e1 : (cutB S.P lo 0 (k * 256))[12 + j]? = b[j]? := by
            have e2 : (cutB S.P lo 0 (k * 256))[12 + j]? = (cutB S.P lo 0 (12 + b.length))[12 + j]? := by
              rw [cutB_take S.P lo (12 + b.length) (k * 256) hm, List.getElem?_take_of_lt (by omega)]
            rw [e2, HN.out, ← List.getElem?_drop, sn_tail]
          simp only [byteCells, List.getElem?_map, e1]
      have hrdb : Sl.RdA wr (.slice (some ⟨g, 12, none⟩) b.length (cap - 12)) b := sl_range hrb (by omega)
      have hrH4 : Sl.RdA wr (.slice (some ⟨w.heap.size, 0, none⟩) 12 256) (be4 b.length ++ Sl.be8 (sumS b)) := Sl.RdA.on HRH.out hbw
      have N64 := Sl.take_many wr _ (be4 b.length) (Sl.be8 (sumS b)) hrH4 rfl (by simp [be4])
      rw [Sl.de_be8 _ (sumS_lt b)] at N64
      have hfin : Hid _ := And.intro hgh hrb
      have hbfin : Below w.heap.size w wr := hb3.trans (hbw.mono hb3.size)
      clear hrg hrb hgh hrH4 hown hcl
      go_wp2_with fail
      rw [show 12 + b.length - 12 = b.length by omega]
      refine N64.mono ?_
      rintro e w7 ⟨v7, rfl, ho7, hb7⟩
      have N65 := sumS_any w7 _ b (Sl.RdA.on hrdb hb7) (by omega)
      clear hrdb ho7 N64
      generalize sumS b = A at *
      go_wp2_with (go_at_call 65; refine N65.mono ?_; rintro e w8 ⟨rfl, he⟩; have he := he.symm; subst he)
      go_ret
      obtain ⟨f1, f2⟩ := hfin.out
      have hgl : g < wr.heap.size := (Array.getElem?_eq_some_iff.1 f1).1
      refine ⟨_, rfl, .inr ⟨g, cap - 12, full, rfl, by omega, by omega, (hb7.block g hgl).trans f1, fun j u hj => ?_⟩, hbfin.trans (hb7.mono hbfin.size)⟩
      rw [hb7.cell (p := ⟨g, 12 + j, none⟩) hgl]
      exact f2 j u hj
end Go.Proofs.Ythgkkmcpmhfehaa
