/- The statement CordTells, walked: it answers true, and of what was there nothing has turned, for any two lists of parts that can be read, where the library's table and its two errors' variables read as they were laid. -/
import Derived.Test.YtbdfhmffdnlbfaaDoorParts
import Derived.RegionTactic
import Derived.BigRegion
namespace Go.Proofs.YtbdfhmffdnlbfaaDoor
open Go.RowKit Go.Lib

/-- What the loop has found behind k rounds. -/
def sameTo (xs ys : List Pm) (k : Nat) : Bool := (xs.length == ys.length) && (((pts xs).zip (pts ys)).take k).all (fun x => eqP x.1 x.2)

theorem sameTo_zero (xs ys : List Pm) : sameTo xs ys 0 = ((xs.length : Int) == (ys.length : Int)) := by
  rw [Bool.eq_iff_iff]
  simp [sameTo]
  omega

theorem sameTo_succ (xs ys : List Pm) (k : Nat) (h1 : k < xs.length) (h2 : k < ys.length) : sameTo xs ys (k + 1) = (sameTo xs ys k && eqP (ptOf (xs.getD k pmZ)) (ptOf (ys.getD k pmZ))) := by
  have hz : k < ((pts xs).zip (pts ys)).length := by simp [pts]; omega
  unfold sameTo
  rw [List.take_succ_eq_append_getElem hz, List.all_append, Bool.and_assoc]
  simp [pts, List.getElem?_eq_getElem h1, List.getElem?_eq_getElem h2]

theorem sameTo_end (xs ys : List Pm) (k : Nat) (h : ¬ (k < xs.length ∧ k < ys.length)) : sameTo xs ys k = (encAll (pts xs) == encAll (pts ys)) := by
  have e : ((pts xs).zip (pts ys)).take k = (pts xs).zip (pts ys) := List.take_of_length_le (by simp [pts]; omega)
  rw [Bool.eq_iff_iff]
  unfold sameTo
  rw [e, beq_iff_eq, tells]
  simp [pts]

/-- One round, as the walk spells it. -/
theorem eqP_tt (n m : Int) (s t : ByteArray) : eqP (ptOf (true, n, s)) (ptOf (true, m, t)) = (s.toList == t.toList) := by simp [eqP, ptOf, toList_data]
theorem eqP_ff (n m : Int) (s t : ByteArray) : eqP (ptOf (false, n, s)) (ptOf (false, m, t)) = (n == m) := by simp [eqP, ptOf]
theorem eqP_tf (n m : Int) (s t : ByteArray) : eqP (ptOf (true, n, s)) (ptOf (false, m, t)) = false := by simp [eqP, ptOf]
theorem eqP_ft (n m : Int) (s t : ByteArray) : eqP (ptOf (false, n, s)) (ptOf (true, m, t)) = false := by simp [eqP, ptOf]

theorem round_eq {b sk t t' : Bool} {n n' : Int} {s s' : ByteArray} (h : b = (sk && eqP (ptOf (t, n, s)) (ptOf (t', n', s')))) : b = (sk && ((t == t') && (t && (s.toList == s'.toList) || !t && (n == n')))) := by
  rw [h]
  cases t <;> cases t' <;> simp [eqP_tt, eqP_ff, eqP_tf, eqP_ft]

theorem cell_new {w : World} {a : Addr} {v : Value} (h : w.cell? a = some v) : (∀ o, (w.alloc o).cell? a = some v) ∧ ∀ o o', ((w.alloc o).alloc o').cell? a = some v := by
  have hl := World.block_lt_of_cell? w _ h
  have h1 : ∀ o, (w.alloc o).cell? a = some v := fun o => ((Below.refl _ w).alloc (Nat.le_refl _) o).cell hl |>.trans h
  refine ⟨h1, fun o o' => ?_⟩
  have hl2 := World.block_lt_of_cell? (w.alloc o) _ (h1 o)
  exact ((Below.refl _ (w.alloc o)).alloc (Nat.le_refl _) o').cell hl2 |>.trans (h1 o)

set_option maxHeartbeats 4000000 in
theorem tells_any (w : World) (v u : Value) (xs ys : List Pm) (h : RdP w v xs) (hu : RdP w u ys) (hl : xs.length ≤ 140737488355328) (hl2 : ys.length ≤ 140737488355328) (hV : Vars w.heap.size w) :
    Calls Tryd.prog 7 #[v, u] w fun e w' => e = .returned (.bool true) ∧ Below w.heap.size w w' := by
  obtain ⟨a, c, rfl⟩ := h.len
  obtain ⟨a', c', rfl⟩ := hu.len
  have HP : Hid (RdP w (.slice a xs.length c) xs) := h
  have HQ : Hid (RdP w (.slice a' ys.length c') ys) := hu
  have HV : Hid (Vars w.heap.size w) := hV
  clear h hu hV
  go_enter Tryd.func7, Tryd.ntmps7
  go_wp2_with fail
  refine (wakes_any w HV.out).mono ?_
  rintro e w1 ⟨rfl, b1⟩
  have hs1 := b1.size
  go_wp2_with fail
  refine (put_any w1 _ xs (HP.out.on b1) hl (HV.out.up b1 hs1)).mono ?_
  rintro e w2 ⟨hb2, rfl | ⟨v2, rfl, hr2, hp2⟩⟩
  · have b2 := b1.trans (hb2.mono hs1)
    have hs2 := b2.size
    clear hb2 b1
    go_wp2_with fail
    refine (put_any w2 _ ys (HQ.out.on b2) hl2 (HV.out.up b2 hs2)).mono ?_
    rintro e w3 ⟨hb3, rfl | ⟨v3, rfl, hr3, hp3⟩⟩
    · go_wp2
      go_ret
      exact ⟨rfl, b2.trans (hb3.mono hs2)⟩
    · go_wp2
      go_ret
      exact ⟨rfl, b2.trans (hb3.mono hs2)⟩
  have b2 := b1.trans (hb2.mono hs1)
  have hs2 := b2.size
  clear hb2 b1
  go_wp2_with fail
  refine (put_any w2 _ ys (HQ.out.on b2) hl2 (HV.out.up b2 hs2)).mono ?_
  rintro e w3 ⟨hb3, rfl | ⟨v3, rfl, hr3, hp3⟩⟩
  · go_wp2
    go_ret
    exact ⟨rfl, b2.trans (hb3.mono hs2)⟩
  have hrx := hr2.on hb3
  have b3 := b2.trans (hb3.mono hs2)
  have hs3 := b3.size
  clear hb3 b2 hr2
  have hx : xs.length ≤ 200 := hp2.1
  have hy : ys.length ≤ 200 := hp3.1
  clear hp2 hp3
  go_wp2_with fail
  go_loopw [9, 10] (fun s i wr => ∃ k : Nat, k ≤ xs.length ∧ i = .int .i64 k ∧ s = .bool (sameTo xs ys k) ∧ Below w3.heap.size w3 wr) (fun _ i _ => xs.length - (RowKit.intOf i).toNat)
  case atStart => exact ⟨0, Nat.zero_le _, rfl, by rw [sameTo_zero], Below.refl _ _⟩
  case round =>
    obtain ⟨k, hk, rfl, rfl, hbr⟩ := hrel
    have hwr := hbr.size
    by_cases hlt : k < xs.length ∧ k < ys.length
    · obtain ⟨hl1, hl2⟩ := hlt
      have hli : (k : Int) < (xs.length : Int) := by omega
      have hli2 : (k : Int) < (ys.length : Int) := by omega
      obtain ⟨b, o, rfl, h0, h1, h2⟩ := (HP.out.on (b3.trans (hbr.mono hs3))).at hl1
      obtain ⟨b', o', rfl, h0', h1', h2'⟩ := (HQ.out.on (b3.trans (hbr.mono hs3))).at hl2
      have HS : Hid (sameTo xs ys (k + 1) = (sameTo xs ys k && eqP (ptOf (xs.getD k pmZ)) (ptOf (ys.getD k pmZ)))) := sameTo_succ xs ys k hl1 hl2
      generalize xs.getD k pmZ = p at *
      generalize ys.getD k pmZ = q at *
      obtain ⟨t, n, s⟩ := p
      obtain ⟨t', n', s'⟩ := q
      simp only at h0 h1 h2 h0' h1' h2'
      go_wp2_with fail
      clear hrx hr3 HP HQ HV
      obtain ⟨f1, g1⟩ := cell_new h0
      obtain ⟨f2, g2⟩ := cell_new h1
      obtain ⟨f3, g3⟩ := cell_new h2
      obtain ⟨f4, g4⟩ := cell_new h0'
      obtain ⟨f5, g5⟩ := cell_new h1'
      obtain ⟨f6, g6⟩ := cell_new h2'
      go_region
      all_goals clear f1 g1 f2 g2 f3 g3 f4 g4 f5 g5 f6 g6 h0 h1 h2 h0' h1' h2'
      all_goals generalize sameTo xs ys k = sk at *
      all_goals cases sk <;> cases t <;> cases t'
      all_goals go_wp2
      all_goals refine ⟨⟨k + 1, by omega, by go_num, congrArg Value.bool ?_, ((hbr.alloc hwr _).alloc (by simp; omega) _).drew⟩, by simp [RowKit.intOf]; omega⟩
      all_goals rw [round_eq HS.out]
      all_goals first | rfl | (simp; done) | (rename_i he; simp [he])
    · have b4 := b3.trans (hbr.mono hs3)
      have hcx := conv_any (hrx.on hbr)
      have hcy := conv_any (hr3.on hbr)
      have HE : Hid (sameTo xs ys k = ((⟨(encAll (pts xs)).toArray⟩ : ByteArray).toList == (⟨(encAll (pts ys)).toArray⟩ : ByteArray).toList)) := by
        show _ = _
        rw [sameTo_end xs ys k hlt, toList_data, toList_data]
      generalize (⟨(encAll (pts xs)).toArray⟩ : ByteArray) = X at *
      generalize (⟨(encAll (pts ys)).toArray⟩ : ByteArray) = Y at *
      clear hrx hr3 HP HQ HV hbr
      by_cases h1 : k < xs.length
      · have h1i : (k : Int) < (xs.length : Int) := by omega
        have h2i : ¬ (k : Int) < (ys.length : Int) := by omega
        clear hlt
        go_wp2
        go_ret
        refine ⟨?_, b4⟩
        rw [HE.out]
        simp
      · have h1i : ¬ (k : Int) < (xs.length : Int) := by omega
        clear hlt
        go_wp2
        go_ret
        refine ⟨?_, b4⟩
        rw [HE.out]
        simp
end Go.Proofs.YtbdfhmffdnlbfaaDoor
