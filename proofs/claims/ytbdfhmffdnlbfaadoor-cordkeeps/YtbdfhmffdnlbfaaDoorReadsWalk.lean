/- The statement CordReads, walked: it answers true, and of what was there nothing has turned, for any bytes and ints that can be read, where the library's table and its two errors' variables read as they were laid. -/
import Derived.Test.YtbdfhmffdnlbfaaDoorRefCalls
import Derived.Test.YtbdfhmffdnlbfaaDoorWakes
import Derived.Test.YtbdfhmffdnlbfaaDoorRef
import Derived.Deep.QuietTactic
import Derived.BigQuiet
namespace Go.Proofs.YtbdfhmffdnlbfaaDoor
open Go.RowKit Go.Lib

theorem below_drawn (w : World) (n : Nat) : Below w.heap.size w (w.drewN n) := ⟨rfl, rfl, rfl, Nat.le_refl _, fun _ _ => rfl⟩
theorem below_drawn' {B : Nat} (w : World) (n : Nat) : Below B w (w.drewN n) := ⟨rfl, rfl, rfl, Nat.le_refl _, fun _ _ => rfl⟩

/-- Two readers know nothing of one another. -/
theorem Ref.past {w w' : World} {R Q : Nat} {bad bad' : Bool} {l l' : List UInt8} (h : Ref w Q bad l) (hr : Rdr w R bad' l') (hg : w.grownBy w' (some R)) (hne : Q ≠ R) : Ref w' Q bad l := by
  obtain ⟨v, h1, h2⟩ := h
  obtain ⟨u, hu, hv⟩ := hr
  obtain ⟨a, n, c, rfl⟩ := hv.shape
  exact ⟨v, (hg.block Q h1.lt (fun e => hne (Option.some.inj e))).trans h1, h2.grown hu hg⟩
theorem Rdr.past {w w' : World} {R Q : Nat} {bad bad' : Bool} {l l' : List UInt8} (h : Rdr w R bad l) (hr : Ref w Q bad' l') (hg : w.grownBy w' (some Q)) (hne : Q ≠ R) : Rdr w' R bad l := by
  obtain ⟨v, h1, h2⟩ := h
  obtain ⟨u, hu, hv⟩ := hr
  obtain ⟨a, n, c, rfl⟩ := hv.shape
  exact ⟨v, (hg.block R h1.lt (fun e => hne (Option.some.inj e).symm)).trans h1, h2.apart hu hg⟩

theorem numR_ok (least : Int) (bad : Bool) (l : List UInt8) (h : StOk bad l) : StOk (numR least bad l).2.1 (numR least bad l).2.2 := by
  unfold numR
  cases bad
  · rw [if_neg (by simp)]
    split
    · split
      · intro _; rfl
      · intro h; cases h
    · intro _; rfl
  · exact h
theorem strR_ok (bad : Bool) (l : List UInt8) (h : StOk bad l) : StOk (strR bad l).2.1 (strR bad l).2.2 := by
  unfold strR
  cases bad
  · rw [if_neg (by simp)]
    split
    · split
      · intro _; rfl
      · intro h; cases h
    · intro _; rfl
  · exact h
theorem numR_le (least : Int) (bad : Bool) (l : List UInt8) : (numR least bad l).2.2.length ≤ l.length := by
  unfold numR
  split
  · exact Nat.le_refl _
  · split
    · split
      · simp
      · simp
    · simp
theorem strR_le (bad : Bool) (l : List UInt8) : (strR bad l).2.2.length ≤ l.length := by
  unfold strR
  split
  · exact Nat.le_refl _
  · split
    · split
      · simp
      · simp only [List.length_drop]; omega
    · simp

/-! A nil reader -/
theorem bad_nil (w : World) : Calls Tryd.prog 21 #[.pointer none] w fun e w' => e = .returned (.bool true) ∧ w' = w := by
  go_enter Tryd.func21, Tryd.ntmps21
  go_wp2
  go_ret
  exact ⟨rfl, rfl⟩
theorem left_nil (w : World) : Calls Tryd.prog 22 #[.pointer none] w fun e w' => e = .returned (.int .i64 0) ∧ w' = w := by
  go_enter Tryd.func22, Tryd.ntmps22
  go_wp2
  go_ret
  exact ⟨rfl, rfl⟩
theorem end_nil (w : World) : Calls Tryd.prog 23 #[.pointer none] w fun e w' => e = .returned (.bool false) ∧ w' = w := by
  go_enter Tryd.func23, Tryd.ntmps23
  go_wp2_with fail
  refine (bad_nil w).mono ?_
  rintro e w1 ⟨rfl, rfl⟩
  go_wp2
  go_ret
  exact ⟨rfl, rfl⟩
theorem number_nil (w : World) (least : Int) : Calls Tryd.prog 28 #[.pointer none, .int .i64 least] w fun e w' => e = .returned (.int .i64 0) ∧ w' = w := by
  go_enter Tryd.func28, Tryd.ntmps28
  go_wp2_with fail
  refine (bad_nil w).mono ?_
  rintro e w1 ⟨rfl, rfl⟩
  go_wp2
  go_ret
  exact ⟨rfl, rfl⟩
theorem num_none (w : World) : Calls Tryd.prog 15 #[.pointer none] w fun e w' => e = .returned (.int .i64 0) ∧ w' = w := by
  go_enter Tryd.func15, Tryd.ntmps15
  go_wp2_with fail
  refine (number_nil w _).mono ?_
  rintro e w1 ⟨rfl, rfl⟩
  go_wp2
  go_ret
  exact ⟨rfl, rfl⟩
theorem count_none (w : World) : Calls Tryd.prog 17 #[.pointer none] w fun e w' => e = .returned (.int .i64 0) ∧ w' = w := by
  go_enter Tryd.func17, Tryd.ntmps17
  go_wp2_with fail
  refine (number_nil w _).mono ?_
  rintro e w1 ⟨rfl, rfl⟩
  go_wp2
  go_ret
  exact ⟨rfl, rfl⟩
theorem str_nil (w : World) : Calls Tryd.prog 19 #[.pointer none] w fun e w' => e = .returned (.string ⟨#[]⟩) ∧ w' = w := by
  go_enter Tryd.func19, Tryd.ntmps19
  go_wp2_with fail
  refine (bad_nil w).mono ?_
  rintro e w1 ⟨rfl, rfl⟩
  go_wp2
  go_ret
  exact ⟨rfl, rfl⟩

theorem RdA.lenc {w : World} {v : Value} {l : List UInt8} (h : RdA w v l) : ∃ a c, v = .slice a l.length c := by
  rcases h with (⟨rfl, rfl⟩ | ⟨b, o, c, rfl, _⟩) | ⟨⟨a, c, rfl⟩, rfl⟩
  · exact ⟨_, _, rfl⟩
  · exact ⟨_, _, rfl⟩
  · exact ⟨_, _, rfl⟩
theorem RdN.lenc {w : World} {v : Value} {l : List Int} (h : RdN w v l) : ∃ a c, v = .slice a l.length c := by
  rcases h.2 with ⟨⟨a, c, rfl⟩, rfl⟩ | ⟨b, o, c, rfl, _⟩
  · exact ⟨_, _, rfl⟩
  · exact ⟨_, _, rfl⟩
theorem RdN.cellk {w : World} {a : Option Addr} {n c : Nat} {zs : List Int} (h : RdN w (.slice a n c) zs) {k : Nat} (hk : k < zs.length) : ∃ b o, a = some ⟨b, o, none⟩ ∧ w.cell? ⟨b, o + k, none⟩ = some (.int .i64 (zs.getD k 0)) := by
  rcases h.2 with ⟨_, rfl⟩ | ⟨b, o, c, e, hc⟩
  · simp at hk
  · cases e
    exact ⟨b, o, rfl, hc k hk⟩

set_option maxHeartbeats 400000 in
theorem reads_big (w : World) (v u : Value) (l : List UInt8) (zs : List Int) (h : RdA w v l) (hz : RdN w u zs) (hV : Vars w.heap.size w) (hbig : 8192 < l.length ∨ 300 < zs.length) :
    Calls Tryd.prog 4 #[v, u] w fun e w' => e = .returned (.bool true) ∧ Below w.heap.size w w' := by
  obtain ⟨a, c, rfl⟩ := h.lenc
  obtain ⟨a', c', rfl⟩ := hz.lenc
  clear h hz
  generalize l.length = n at *
  generalize zs.length = m at *
  go_enter Tryd.func4, Tryd.ntmps4
  go_wp2_with fail
  refine (wakes_any w hV).mono ?_
  rintro e w1 ⟨rfl, hb1⟩
  by_cases h1 : 8192 < n
  · have h2 : (8192 : Int) < (n : Int) := by omega
    go_wp2
    go_ret
    exact ⟨rfl, hb1⟩
  · have h2 : (n : Int) ≤ 8192 := by omega
    have h3 : (300 : Int) < (m : Int) := by omega
    go_wp2
    go_ret
    exact ⟨rfl, hb1⟩

set_option maxHeartbeats 4000000 in
set_option maxRecDepth 100000 in
theorem reads_small (w : World) (v u : Value) (l : List UInt8) (zs : List Int) (h : RdA w v l) (hz : RdN w u zs) (hV : Vars w.heap.size w) (h1 : l.length ≤ 8192) (h2 : zs.length ≤ 300) :
    Calls Tryd.prog 4 #[v, u] w fun e w' => e = .returned (.bool true) ∧ Below w.heap.size w w' := by
  obtain ⟨a, c, rfl⟩ := h.lenc
  obtain ⟨a', c', rfl⟩ := hz.lenc
  have HV : Hid (Vars w.heap.size w) := hV
  have HB : Hid (RdA w (.slice a l.length c) l) := h
  have HZ : Hid (RdN w (.slice a' zs.length c') zs) := hz
  have h3 : (l.length : Int) ≤ 8192 := by omega
  have h4 : (zs.length : Int) ≤ 300 := by omega
  clear h hz hV
  go_enter Tryd.func4, Tryd.ntmps4
  go_wp2_with fail
  refine (wakes_any w HV.out).mono ?_
  rintro e w1 ⟨rfl, b1⟩
  have hs1 := b1.size
  go_wp2_with fail
  refine (new_any w1 _ l (HB.out.on b1) (by omega)).mono ?_
  rintro e w2 ⟨R, rfl, hR, hr2, hb2⟩
  have b2 := b1.trans (hb2.mono hs1)
  have hs2 := b2.size
  have hwR : w.heap.size ≤ R := by omega
  have hRl : R < w2.heap.size := by obtain ⟨_, h, _⟩ := hr2; exact h.lt
  clear hb2 b1 hR hs1
  have hra := (HB.out.on b2).on (below_new w2 (.cells #[] 5))
  go_wp2_with (at_builtin; refine appB rfl (.tmp 22) (.tmp 23) rfl w2.heap.size _ _ [] l (w2.alloc (.cells #[] 5)) rfl (own_empty w2 _ (Nat.le_refl _)) rfl hra (by simp; omega) (by simp) ?_)
  intro v3 w3 ho3 hb3
  have b23 := (below_new w2 (.cells #[] 5)).trans hb3
  have hs3 := b23.size
  have hr3 := hr2.on b23
  have b3 := b2.trans (b23.mono hs2)
  have ho3 : RdB w3 v3 l := ho3.rd
  obtain ⟨va, vn, vc, rfl⟩ := ho3.shape
  have hf3 : Ref (w3.alloc (.cells #[.slice va vn vc, .bool false] 33)) w3.heap.size false l := ⟨_, heap_alloc_new _ _, ho3.on (below_new w3 _)⟩
  have hr3' := hr3.on (below_new w3 (.cells #[.slice va vn vc, .bool false] 33))
  have b3' := b3.alloc (by omega : w.heap.size ≤ w3.heap.size) (.cells #[.slice va vn vc, .bool false] 33)
  obtain ⟨Q, eQ⟩ : ∃ Q, Q = w3.heap.size := ⟨_, rfl⟩
  have hwQ : w.heap.size ≤ Q := by omega
  have hQR : Q ≠ R := by omega
  rw [← eQ] at hf3
  have HQ : Hid (Q = w3.heap.size) := eQ
  clear hra hb3 b23 hr2 b2 ho3 hr3 b3 eQ
  go_wp2_with fail
  rw [← HQ.out]
  go_loopw [29] (fun i wr => ∃ (k : Nat) (bad : Bool) (l' : List UInt8), k ≤ zs.length ∧ i = .int .i64 k ∧ Rdr wr R bad l' ∧ Ref wr Q bad l' ∧ StOk bad l' ∧ l'.length ≤ 8192 ∧ Below w.heap.size w wr) (fun i _ => zs.length - (RowKit.intOf i).toNat)
  case atStart => exact ⟨0, false, l, Nat.zero_le _, rfl, hr3', hf3, by (intro h; cases h), h1, b3'⟩
  case round =>
    clear hr3' hf3 b3'
    obtain ⟨k, bad, l', hk, rfl, hr, hf, hst, hl8, hbr⟩ := hrel
    have hwr := hbr.size
    by_cases hlt : k < zs.length
    · obtain ⟨b, o, rfl, hc0⟩ := HZ.out.cellk hlt
      have hc : wr.cell? ⟨b, o + k, none⟩ = some (.int .i64 (zs.getD k 0)) := by
        rw [hbr.cell (p := ⟨b, o + k, none⟩) (World.block_lt_of_cell? w _ hc0)]; exact hc0
      clear hc0
      generalize zs.getD k 0 = z at *
      by_cases hz0 : z = 0
      · subst hz0

        have hS := rnum_any wr w.heap.size R bad l' hr (HV.out.on hbr) hwR
        have hSt := numR_ok (-9223372036854775808) bad l' hst
        have hLen := numR_le (-9223372036854775808) bad l'
        obtain ⟨x, bd, r, hq⟩ : ∃ x bd r, numR (-9223372036854775808) bad l' = (x, bd, r) := ⟨_, _, _, rfl⟩
        rw [hq] at hS hSt hLen
        have hSt : StOk bd r := hSt
        have hrl : r.length ≤ 8192 := Nat.le_trans hLen hl8
        have HQ : Hid (numR (-9223372036854775808) bad l' = (x, bd, r)) := hq
        clear hq hLen
        go_wp2_with fail
        refine hS.mono ?_
        rintro e w4 ⟨rfl, hr4, hg4⟩
        have hf4 := hf.past hr hg4 hQR
        have b4 := hbr.grown hg4 hwr (by intro k hk; cases hk; exact hwR)
        have hs4 := b4.size
        have hG := rfnum_any w4 w.heap.size Q bad l' hf4 hst (by omega) (HV.out.on b4) hwQ
        rw [HQ.out] at hG
        clear hS hg4 hr hf hbr HQ
        go_wp2_with fail
        refine hG.mono ?_
        rintro e w5 ⟨rfl, hf5, hg5⟩
        have hr5 : Rdr w5 R bd r := Rdr.past hr4 hf4 hg5 hQR
        have hf5 : Ref w5 Q bd r := hf5
        have b5 := b4.grown hg5 hs4 (by intro k hk; cases hk; exact hwQ)
        have hs5' := hSt
        clear hG hg5 hr4 hf4 b4 hSt
        have hs5 := b5.size
        obtain ⟨q0, q1⟩ := hf5
        obtain ⟨hq1, hq2⟩ := q1
        obtain ⟨qa, qc, rfl⟩ : ∃ a cp, q0 = .slice a r.length cp := by
          rcases hq2 with ⟨rfl, rfl⟩ | ⟨b, o, cp, rfl, _⟩
          · exact ⟨_, _, rfl⟩
          · exact ⟨_, _, rfl⟩
        have k0 := hq1.c0
        have k1 := hq1.c1
        have HB5 : Hid (∀ n, Calls Tryd.prog 21 #[.pointer (some ⟨R, 0, none⟩)] (w5.drewN n) fun e w' => e = .returned (.bool bd) ∧ w' = w5.drewN n) := fun n => bad_any (w5.drewN n) R bd r (hr5.on (below_drawn w5 n))
        have HL5 : Hid (∀ n, Calls Tryd.prog 22 #[.pointer (some ⟨R, 0, none⟩)] (w5.drewN n) fun e w' => e = .returned (.int .i64 r.length) ∧ w' = w5.drewN n) := fun n => left_any (w5.drewN n) R bd r (hr5.on (below_drawn w5 n))
        have HE5 : Hid (∀ n, Calls Tryd.prog 23 #[.pointer (some ⟨R, 0, none⟩)] (w5.drewN n) fun e w' => e = .returned (.bool (!bd && ((r.length : Int) == 0))) ∧ w' = w5.drewN n) := fun n => by
          have e : r.isEmpty = ((r.length : Int) == 0) := by cases r <;> simp <;> omega
          have := end_any (w5.drewN n) R bd r (hr5.on (below_drawn w5 n))
          rwa [e] at this
        have HF : Hid (Rdr w5 R bd r ∧ Ref w5 Q bd r ∧ StOk bd r) := ⟨hr5, ⟨_, hq1, hq2⟩, hs5'⟩
        clear hr5 hq1 hq2 hs5'
        cases bd
        all_goals
          go_wp2_with fail
          go_quiet (first | (go_at_call 21; exact Calls.quiet_of_same (HB5.out _)) | (go_at_call 22; exact Calls.quiet_of_same (HL5.out _)) | (go_at_call 23; exact Calls.quiet_of_same (HE5.out _)))
          go_wp2
          go_roundw
          all_goals first | exact ⟨k + 1, _, r, by omega, by go_num, HF.out.1.on (below_drawn w5 _), HF.out.2.1.on (below_drawn w5 _), HF.out.2.2, hrl, b5.trans (below_drawn' w5 _)⟩ | (simp [RowKit.intOf]; omega)

      by_cases hz1 : z = 1
      · subst hz1

        have hS := rcount_any wr w.heap.size R bad l' hr (HV.out.on hbr) hwR
        have hSt := numR_ok 0 bad l' hst
        have hLen := numR_le 0 bad l'
        obtain ⟨x, bd, r, hq⟩ : ∃ x bd r, numR 0 bad l' = (x, bd, r) := ⟨_, _, _, rfl⟩
        rw [hq] at hS hSt hLen
        have hSt : StOk bd r := hSt
        have hrl : r.length ≤ 8192 := Nat.le_trans hLen hl8
        have HQ : Hid (numR 0 bad l' = (x, bd, r)) := hq
        clear hq hLen
        go_wp2_with fail
        refine hS.mono ?_
        rintro e w4 ⟨rfl, hr4, hg4⟩
        have hf4 := hf.past hr hg4 hQR
        have b4 := hbr.grown hg4 hwr (by intro k hk; cases hk; exact hwR)
        have hs4 := b4.size
        have hG := rfcount_any w4 w.heap.size Q bad l' hf4 hst (by omega) (HV.out.on b4) hwQ
        rw [HQ.out] at hG
        clear hS hg4 hr hf hbr HQ
        go_wp2_with fail
        refine hG.mono ?_
        rintro e w5 ⟨rfl, hf5, hg5⟩
        have hr5 : Rdr w5 R bd r := Rdr.past hr4 hf4 hg5 hQR
        have hf5 : Ref w5 Q bd r := hf5
        have b5 := b4.grown hg5 hs4 (by intro k hk; cases hk; exact hwQ)
        have hs5' := hSt
        clear hG hg5 hr4 hf4 b4 hSt
        have hs5 := b5.size
        obtain ⟨q0, q1⟩ := hf5
        obtain ⟨hq1, hq2⟩ := q1
        obtain ⟨qa, qc, rfl⟩ : ∃ a cp, q0 = .slice a r.length cp := by
          rcases hq2 with ⟨rfl, rfl⟩ | ⟨b, o, cp, rfl, _⟩
          · exact ⟨_, _, rfl⟩
          · exact ⟨_, _, rfl⟩
        have k0 := hq1.c0
        have k1 := hq1.c1
        have HB5 : Hid (∀ n, Calls Tryd.prog 21 #[.pointer (some ⟨R, 0, none⟩)] (w5.drewN n) fun e w' => e = .returned (.bool bd) ∧ w' = w5.drewN n) := fun n => bad_any (w5.drewN n) R bd r (hr5.on (below_drawn w5 n))
        have HL5 : Hid (∀ n, Calls Tryd.prog 22 #[.pointer (some ⟨R, 0, none⟩)] (w5.drewN n) fun e w' => e = .returned (.int .i64 r.length) ∧ w' = w5.drewN n) := fun n => left_any (w5.drewN n) R bd r (hr5.on (below_drawn w5 n))
        have HE5 : Hid (∀ n, Calls Tryd.prog 23 #[.pointer (some ⟨R, 0, none⟩)] (w5.drewN n) fun e w' => e = .returned (.bool (!bd && ((r.length : Int) == 0))) ∧ w' = w5.drewN n) := fun n => by
          have e : r.isEmpty = ((r.length : Int) == 0) := by cases r <;> simp <;> omega
          have := end_any (w5.drewN n) R bd r (hr5.on (below_drawn w5 n))
          rwa [e] at this
        have HF : Hid (Rdr w5 R bd r ∧ Ref w5 Q bd r ∧ StOk bd r) := ⟨hr5, ⟨_, hq1, hq2⟩, hs5'⟩
        clear hr5 hq1 hq2 hs5'
        cases bd
        all_goals
          go_wp2_with fail
          go_quiet (first | (go_at_call 21; exact Calls.quiet_of_same (HB5.out _)) | (go_at_call 22; exact Calls.quiet_of_same (HL5.out _)) | (go_at_call 23; exact Calls.quiet_of_same (HE5.out _)))
          go_wp2
          go_roundw
          all_goals first | exact ⟨k + 1, _, r, by omega, by go_num, HF.out.1.on (below_drawn w5 _), HF.out.2.1.on (below_drawn w5 _), HF.out.2.2, hrl, b5.trans (below_drawn' w5 _)⟩ | (simp [RowKit.intOf]; omega)

      have hz0' : (z == 0) = false := by rw [beq_eq_false_iff_ne]; exact hz0
      have hz1' : (z == 1) = false := by rw [beq_eq_false_iff_ne]; exact hz1
      clear hz0 hz1

      have hS := rstr_any wr w.heap.size R bad l' hr (by omega) (HV.out.on hbr) hwR
      have hSt := strR_ok bad l' hst
      have hLen := strR_le bad l'
      obtain ⟨x, bd, r, hq⟩ : ∃ x bd r, strR bad l' = (x, bd, r) := ⟨_, _, _, rfl⟩
      rw [hq] at hS hSt hLen
      have hSt : StOk bd r := hSt
      have hrl : r.length ≤ 8192 := Nat.le_trans hLen hl8
      have HQ : Hid (strR bad l' = (x, bd, r)) := hq
      clear hq hLen
      go_wp2_with fail
      refine hS.mono ?_
      rintro e w4 ⟨rfl, hr4, hg4⟩
      have hf4 := hf.past hr hg4 hQR
      have b4 := hbr.grown hg4 hwr (by intro k hk; cases hk; exact hwR)
      have hs4 := b4.size
      have hG := rfstr_any w4 w.heap.size Q bad l' hf4 hst (by omega) (HV.out.on b4) hwQ
      rw [HQ.out] at hG
      clear hS hg4 hr hf hbr HQ
      go_wp2_with fail
      refine hG.mono ?_
      rintro e w5 ⟨rfl, hf5, hg5⟩
      have hr5 : Rdr w5 R bd r := Rdr.past hr4 hf4 hg5 hQR
      have hf5 : Ref w5 Q bd r := hf5
      have b5 := b4.grown hg5 hs4 (by intro k hk; cases hk; exact hwQ)
      have hs5' := hSt
      clear hG hg5 hr4 hf4 b4 hSt
      have hs5 := b5.size
      obtain ⟨q0, q1⟩ := hf5
      obtain ⟨hq1, hq2⟩ := q1
      obtain ⟨qa, qc, rfl⟩ : ∃ a cp, q0 = .slice a r.length cp := by
        rcases hq2 with ⟨rfl, rfl⟩ | ⟨b, o, cp, rfl, _⟩
        · exact ⟨_, _, rfl⟩
        · exact ⟨_, _, rfl⟩
      have k0 := hq1.c0
      have k1 := hq1.c1
      have HB5 : Hid (∀ n, Calls Tryd.prog 21 #[.pointer (some ⟨R, 0, none⟩)] (w5.drewN n) fun e w' => e = .returned (.bool bd) ∧ w' = w5.drewN n) := fun n => bad_any (w5.drewN n) R bd r (hr5.on (below_drawn w5 n))
      have HL5 : Hid (∀ n, Calls Tryd.prog 22 #[.pointer (some ⟨R, 0, none⟩)] (w5.drewN n) fun e w' => e = .returned (.int .i64 r.length) ∧ w' = w5.drewN n) := fun n => left_any (w5.drewN n) R bd r (hr5.on (below_drawn w5 n))
      have HE5 : Hid (∀ n, Calls Tryd.prog 23 #[.pointer (some ⟨R, 0, none⟩)] (w5.drewN n) fun e w' => e = .returned (.bool (!bd && ((r.length : Int) == 0))) ∧ w' = w5.drewN n) := fun n => by
        have e : r.isEmpty = ((r.length : Int) == 0) := by cases r <;> simp <;> omega
        have := end_any (w5.drewN n) R bd r (hr5.on (below_drawn w5 n))
        rwa [e] at this
      have HF : Hid (Rdr w5 R bd r ∧ Ref w5 Q bd r ∧ StOk bd r) := ⟨hr5, ⟨_, hq1, hq2⟩, hs5'⟩
      clear hr5 hq1 hq2 hs5'
      cases bd
      all_goals
        go_wp2_with fail
        go_quiet (first | (go_at_call 21; exact Calls.quiet_of_same (HB5.out _)) | (go_at_call 22; exact Calls.quiet_of_same (HL5.out _)) | (go_at_call 23; exact Calls.quiet_of_same (HE5.out _)))
        go_wp2
        go_roundw
        all_goals first | exact ⟨k + 1, _, r, by omega, by go_num, HF.out.1.on (below_drawn w5 _), HF.out.2.1.on (below_drawn w5 _), HF.out.2.2, hrl, b5.trans (below_drawn' w5 _)⟩ | (simp [RowKit.intOf]; omega)

    · go_wp2_with fail
      refine (num_none wr).mono ?_
      rintro e w4 ⟨rfl, rfl⟩
      go_wp2_with fail
      refine (count_none w4).mono ?_
      rintro e w5 ⟨rfl, rfl⟩
      go_wp2_with fail
      refine (str_nil w5).mono ?_
      rintro e w6 ⟨rfl, rfl⟩
      go_wp2_with fail
      refine (bad_nil w6).mono ?_
      rintro e w7 ⟨rfl, rfl⟩
      go_wp2_with fail
      refine (end_nil w7).mono ?_
      rintro e w8 ⟨rfl, rfl⟩
      go_wp2_with fail
      refine (left_nil w8).mono ?_
      rintro e w9 ⟨rfl, rfl⟩
      go_wp2
      go_ret
      exact ⟨rfl, hbr⟩
end Go.Proofs.YtbdfhmffdnlbfaaDoor
