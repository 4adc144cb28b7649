/- The statement CordAnew, walked: it answers true, and of what was there nothing has turned, for any bytes and bools that can be read, where the library's table and its two errors' variables read as they were laid. -/
import Derived.Test.YtbdfhmffdnlbfaaDoorWakes
import Derived.Test.YtbdfhmffdnlbfaaDoorReadMath
import Derived.Deep.QuietTactic
import Derived.BigQuiet
namespace Go.Proofs.YtbdfhmffdnlbfaaDoor
open Go.RowKit Go.Lib

/-- A slice of bools that can be read. -/
def RdT (w : World) (v : Value) (ts : List Bool) : Prop :=
  ((∃ a c, v = .slice a 0 c) ∧ ts = []) ∨ ∃ (b o c : Nat), v = .slice (some ⟨b, o, none⟩) ts.length c ∧ ∀ i, i < ts.length → w.cell? ⟨b, o + i, none⟩ = some (.bool (ts.getD i false))
theorem RdT.len {w : World} {v : Value} {ts : List Bool} (h : RdT w v ts) : ∃ a c, v = .slice a ts.length c := by
  rcases h with ⟨⟨a, c, rfl⟩, rfl⟩ | ⟨b, o, c, rfl, _⟩
  · exact ⟨_, _, rfl⟩
  · exact ⟨_, _, rfl⟩
theorem RdT.at {w : World} {a : Option Addr} {n c : Nat} {ts : List Bool} (h : RdT w (.slice a n c) ts) {k : Nat} (hk : k < ts.length) : ∃ b o, a = some ⟨b, o, none⟩ ∧ w.cell? ⟨b, o + k, none⟩ = some (.bool (ts.getD k false)) := by
  rcases h with ⟨_, rfl⟩ | ⟨b, o, c, e, hc⟩
  · simp at hk
  · cases e
    exact ⟨b, o, rfl, hc k hk⟩
theorem RdA.lens {w : World} {v : Value} {l : List UInt8} (h : RdA w v l) : ∃ a c, v = .slice a l.length c ∧ l.length ≤ c := by
  rcases h with (⟨rfl, rfl⟩ | ⟨b, o, c, rfl, hlc, _⟩) | ⟨⟨a, c, rfl⟩, rfl⟩
  · exact ⟨_, _, rfl, Nat.le_refl _⟩
  · exact ⟨_, _, rfl, hlc⟩
  · exact ⟨_, _, rfl, Nat.zero_le _⟩
theorem conv_take {w : World} {a : Option Addr} {c : Nat} {l : List UInt8} (h : RdA w (.slice a l.length c) l) (k : Nat) (hk : k ≤ l.length) : (convert 22 9 (.slice a k c)).run Tryd.prog w = .ok (.string ⟨(l.take k).toArray⟩) w := by
  rcases h with (⟨e, rfl⟩ | ⟨b, o, c', e, hlc, hc⟩) | ⟨⟨a', c', e⟩, rfl⟩
  · cases e
    have : k = 0 := by simpa using hk
    subst this
    exact run_convert_bytes_nil (P := Tryd.prog) w 22 5 Tryd.underlying22 Tryd.underlying5 0 0 9 Tryd.underlying9
  · cases e
    exact conv_any (RdB.take k hk hc hlc)
  · cases e
    have : k = 0 := by simpa using hk
    subst this
    rw [run_convert_bytes_string w 22 9 5 _ _ _ Tryd.underlying22 Tryd.underlying5 Tryd.underlying9, run_bytesToString w a' 0 c []]
    · rfl
    · simp [loadCells, loadCellsFrom]

theorem numR_inv {l : List UInt8} {n : Int} {r : List UInt8} (h : numR (-9223372036854775808) false l = (n, false, r)) : l = encN n ++ r ∧ I64 n := by
  unfold numR at h
  rw [if_neg (by simp)] at h
  split at h
  · rename_i m i hd
    split at h
    · cases h
    · simp only [Prod.mk.injEq, true_and] at h
      obtain ⟨rfl, rfl⟩ := h
      obtain ⟨h1, h2⟩ := digs_inv hd
      refine ⟨?_, h2⟩
      simpa [encN] using h1
  · cases h
theorem strR_inv {l : List UInt8} {s r : List UInt8} (h : strR false l = (s, false, r)) : l = encS s ++ r := by
  unfold strR at h
  rw [if_neg (by simp)] at h
  split at h
  · rename_i m i hd
    split at h
    · cases h
    · rename_i hc
      simp only [Prod.mk.injEq, true_and] at h
      obtain ⟨h1, _⟩ := digs_inv hd
      generalize l.drop (i + 1) = d at *
      obtain ⟨rfl, rfl⟩ := h
      have hm0 : 0 ≤ m := by omega
      obtain ⟨k, rfl⟩ := Int.eq_ofNat_of_zero_le hm0
      simp only [Int.toNat_natCast] at *
      have hk : k < d.length := by omega
      have h44 : d[k] = 44 := by
        have : d.getD k 0 = 44 := by
          rcases Decidable.em (d.getD k 0 = 44) with h | h
          · exact h
          · exact absurd (.inr (.inr h)) hc
        simpa [List.getElem?_eq_getElem hk] using this
      have hl : (d.take k).length = k := by simp; omega
      rw [h1]
      unfold encS
      rw [hl]
      have e : d = d.take k ++ 44 :: d.drop (k + 1) := by rw [← h44]; simp
      rw [List.append_assoc, List.cons_append, List.append_assoc]
      congr 2
  · cases h
theorem numR_len {b : Bool} {l : List UInt8} {n : Int} {r : List UInt8} (h : numR (-9223372036854775808) false l = (n, b, r)) : b = true → r = [] := by
  rintro rfl
  unfold numR at h
  rw [if_neg (by simp)] at h
  split at h
  · split at h <;> simp_all
  · simp_all
theorem strR_len {b : Bool} {l : List UInt8} {s r : List UInt8} (h : strR false l = (s, b, r)) : b = true → r = [] := by
  rintro rfl
  unfold strR at h
  rw [if_neg (by simp)] at h
  split at h
  · split at h <;> simp_all
  · simp_all

set_option maxHeartbeats 400000 in
theorem anew_big (w : World) (v u : Value) (l : List UInt8) (ts : List Bool) (h : RdA w v l) (hz : RdT w u ts) (hV : Vars w.heap.size w) (hbig : 8192 < l.length ∨ 300 < ts.length) :
    Calls Tryd.prog 6 #[v, u] w fun e w' => e = .returned (.bool true) ∧ Below w.heap.size w w' := by
  obtain ⟨a, c, rfl, _⟩ := h.lens
  obtain ⟨a', c', rfl⟩ := hz.len
  clear h hz
  generalize l.length = n at *
  generalize ts.length = m at *
  go_enter Tryd.func6, Tryd.ntmps6
  go_wp2_with fail
  refine (wakes_any w hV).mono ?_
  rintro e w1 ⟨rfl, hb1⟩
  by_cases h1 : 8192 < n
  · have h2 : (8192 : Int) < (n : Int) := by omega
    go_wp2
    go_ret
    exact ⟨rfl, hb1⟩
  · have h2 : (n : Int) ≤ 8192 := by omega
    have h3 : (300 : Int) < (m : Int) := by omega
    go_wp2
    go_ret
    exact ⟨rfl, hb1⟩

theorem below_draws (w : World) (n : Nat) : Below w.heap.size w (w.drewN n) := ⟨rfl, rfl, rfl, Nat.le_refl _, fun _ _ => rfl⟩
theorem below_draws' {B : Nat} {w : World} (_ : B ≤ w.heap.size) (n : Nat) : Below B w (w.drewN n) := ⟨rfl, rfl, rfl, Nat.le_refl _, fun _ _ => rfl⟩

/-- The reader's block is the reader's alone: other bytes stay. -/
theorem RdB.past {w w' : World} {R : Nat} {v : Value} {bad : Bool} {l l' : List UInt8} (h : RdB w v l) (hr : Rdr w R bad l') (hg : w.grownBy w' (some R)) : RdB w' v l := by
  obtain ⟨u, hu, hv⟩ := hr
  obtain ⟨a, n, c, rfl⟩ := hv.shape
  exact h.grown hu hg

theorem RdT.cell {w w' : World} {b o k : Nat} {x : Bool} (h : w.cell? ⟨b, o + k, none⟩ = some (.bool x)) (hb : Below w.heap.size w w') : w'.cell? ⟨b, o + k, none⟩ = some (.bool x) := by
  rw [hb.cell (p := ⟨b, o + k, none⟩) (World.block_lt_of_cell? w _ h)]
  exact h

theorem lit1' (w : World) (z : Int) (h : I64 z) : RdN (w.alloc (.cells #[.int .i64 z] 3)) (.slice (some ⟨w.heap.size, 0, none⟩) 1 1) [z] := by
  refine ⟨fun y hy => by simp at hy; subst hy; exact h, .inr ⟨w.heap.size, 0, 1, rfl, fun i hi => ?_⟩⟩
  rw [World.cell?_alloc_new]
  match i, hi with
  | 0, _ => rfl

set_option maxHeartbeats 4000000 in
theorem anew_small (w : World) (v u : Value) (l : List UInt8) (ts : List Bool) (h : RdA w v l) (hz : RdT w u ts) (hV : Vars w.heap.size w) (h1 : l.length ≤ 8192) (h2 : ts.length ≤ 300) :
    Calls Tryd.prog 6 #[v, u] w fun e w' => e = .returned (.bool true) ∧ Below w.heap.size w w' := by
  obtain ⟨a, c, rfl, hlc⟩ := h.lens
  obtain ⟨a', c', rfl⟩ := hz.len
  have HV : Hid (Vars w.heap.size w) := hV
  have HB : Hid (RdA w (.slice a l.length c) l) := h
  have HT : Hid (RdT w (.slice a' ts.length c') ts) := hz
  have h3 : (l.length : Int) ≤ 8192 := by omega
  have h4 : (ts.length : Int) ≤ 300 := by omega
  clear h hz hV
  go_enter Tryd.func6, Tryd.ntmps6
  go_wp2_with fail
  refine (wakes_any w HV.out).mono ?_
  rintro e w1 ⟨rfl, b1⟩
  have hs1 := b1.size
  go_wp2_with fail
  refine (new_any w1 _ l (HB.out.on b1) (by omega)).mono ?_
  rintro e w2 ⟨R, rfl, hR, hr2, hb2⟩
  have b2 := b1.trans (hb2.mono hs1)
  have hwR : w.heap.size ≤ R := by omega
  clear hb2 b1 hR hs1
  go_wp2_with fail
  go_loopw [6, 25] (fun v i wr => ∃ (k : Nat) (O L : List UInt8), k ≤ ts.length ∧ i = .int .i64 k ∧ RdB wr v O ∧ Rdr wr R false L ∧ Hid (O ++ L = l) ∧ Below w.heap.size w wr) (fun _ i _ => ts.length - (RowKit.intOf i).toNat)
  case atStart => exact ⟨0, [], l, Nat.zero_le _, rfl, .inl ⟨rfl, rfl⟩, hr2, by show _ = _; rfl, b2⟩
  case round =>
    clear hr2 b2
    obtain ⟨k, O, L, hk, rfl, ho, hr, hOL, hbr⟩ := hrel
    have hwr := hbr.size
    have hlen : O.length + L.length = l.length := by rw [← hOL.out]; simp
    by_cases hlt : k < ts.length
    · obtain ⟨b, o, rfl, hc0⟩ := HT.out.at hlt
      have hc := RdT.cell hc0 hbr
      clear hc0
      generalize ts.getD k false = t at *
      cases t with
      | true =>
        have hS := rstr_any wr w.heap.size R false L hr (by omega) (HV.out.on hbr) hwR
        obtain ⟨s, bd, r, hq⟩ : ∃ s bd r, strR false L = (s, bd, r) := ⟨_, _, _, rfl⟩
        rw [hq] at hS
        have HQ : Hid (strR false L = (s, bd, r)) := hq
        clear hq
        go_wp2_with fail
        refine hS.mono ?_
        rintro e w3 ⟨rfl, hr3, hg3⟩
        have ho3 := ho.past hr hg3
        have b3 := hbr.grown hg3 hwr (by intro k hk; cases hk; exact hwR)
        have hs3 := b3.size
        have hr3 : Rdr w3 R bd r := hr3
        clear hS hg3 hr ho hbr
        have hB := bad_any w3 R bd r hr3
        go_wp2_with fail
        refine hB.mono ?_
        rintro e w4 ⟨rfl, rfl⟩
        cases bd with
        | true =>
          have hr0 : r = [] := strR_len HQ.out rfl
          subst hr0
          have hL := left_any w4 R true [] hr3
          clear HQ
          go_wp2_with fail
          refine hB.mono ?_
          rintro e w5 ⟨rfl, rfl⟩
          go_wp2_with fail
          refine hL.mono ?_
          rintro e w6 ⟨rfl, rfl⟩
          clear hL hB
          go_wp2
          go_ret
          exact ⟨rfl, b3⟩
        | false =>
          have hLs := strR_inv HQ.out
          have HL : Hid (O ++ encS s ++ r = l) := by show _ = _; rw [← hOL.out, hLs]; simp
          have hsl : s.length ≤ 8192 := by
            have := congrArg List.length hLs
            simp [encS] at this
            omega
          clear hLs hB HQ hOL
          go_wp2_with fail
          refine (str_any w4 _ O ⟨s.toArray⟩ (.inl ho3) (by show O.length + s.toArray.size + 100 ≤ _; rw [List.size_toArray]; omega) (HV.out.up b3 hs3).tab).mono ?_
          rintro e w5 ⟨v5, rfl, ho5, hb5⟩
          have ho6 : RdB w5 v5 (O ++ encS s) := ho5.rd
          have hr5 := hr3.on hb5
          have b5 := b3.trans (hb5.mono hs3)
          clear ho5 hb5 hr3 b3
          go_wp2
          go_roundw
          case rel => exact ⟨k + 1, _, r, by omega, by go_num, ho6, hr5, HL, b5⟩
          case measure => simp [RowKit.intOf]; omega
      | false =>
        have hS := rnum_any wr w.heap.size R false L hr (HV.out.on hbr) hwR
        obtain ⟨s, bd, r, hq⟩ : ∃ s bd r, numR (-9223372036854775808) false L = (s, bd, r) := ⟨_, _, _, rfl⟩
        rw [hq] at hS
        have HQ : Hid (numR (-9223372036854775808) false L = (s, bd, r)) := hq
        clear hq
        go_wp2_with fail
        refine hS.mono ?_
        rintro e w3 ⟨rfl, hr3, hg3⟩
        have ho3 := ho.past hr hg3
        have b3 := hbr.grown hg3 hwr (by intro k hk; cases hk; exact hwR)
        have hs3 := b3.size
        have hr3 : Rdr w3 R bd r := hr3
        clear hS hg3 hr ho hbr
        have hB := bad_any w3 R bd r hr3
        go_wp2_with fail
        refine hB.mono ?_
        rintro e w4 ⟨rfl, rfl⟩
        cases bd with
        | true =>
          have hr0 : r = [] := numR_len HQ.out rfl
          subst hr0
          have hL := left_any w4 R true [] hr3
          clear HQ
          go_wp2_with fail
          refine hB.mono ?_
          rintro e w5 ⟨rfl, rfl⟩
          go_wp2_with fail
          refine hL.mono ?_
          rintro e w6 ⟨rfl, rfl⟩
          clear hL hB
          go_wp2
          go_ret
          exact ⟨rfl, b3⟩
        | false =>
          obtain ⟨hLs, hI⟩ := numR_inv HQ.out
          have HL : Hid (O ++ encNs [s] ++ r = l) := by show _ = _; rw [← hOL.out, hLs]; simp [encNs]
          have HI : Hid (I64 s) := hI
          clear hLs hB HQ hOL hI
          go_wp2_with fail
          refine (num_any (w4.alloc (.cells #[.int .i64 s] 3)) _ _ O [s] (.inl (ho3.on ((Below.refl _ _).alloc (Nat.le_refl _) _))) (lit1' w4 s HI.out) (by simp; omega) (HV.out.up (b3.alloc hs3 _) (by simp; omega)).tab).mono ?_
          rintro e w5 ⟨v5, rfl, ho5, hb5⟩
          have ho6 : RdB w5 v5 (O ++ encNs [s]) := ho5.rd
          have hr5 := hr3.on (below_alloc hb5)
          have b5 := b3.trans ((below_alloc hb5).mono hs3)
          clear ho5 hb5 hr3 b3
          go_wp2
          go_roundw
          case rel => exact ⟨k + 1, _, r, by omega, by go_num, ho6, hr5, HL, b5⟩
          case measure => simp [RowKit.intOf]; omega
    · have hB := bad_any wr R false L hr
      go_wp2_with fail
      refine hB.mono ?_
      rintro e w4 ⟨rfl, rfl⟩
      clear hB
      have hs4 := hbr.size
      obtain ⟨ad, cv, rfl, hocv⟩ := (RdA.lens (.inl ho))
      go_wp2_with fail
      have bd : ∀ n, Below w4.heap.size w4 (w4.drewN n) := below_draws w4
      have hL : ∀ n, Calls Tryd.prog 22 #[.pointer (some ⟨R, 0, none⟩)] (w4.drewN n) fun e w' => e = .returned (.int .i64 L.length) ∧ w' = w4.drewN n := fun n => left_any (w4.drewN n) R false L (hr.on (bd n))
      have hcO := fun n => conv_any (ho.on (bd n))
      have hcB := fun n => conv_take ((HB.out.on hbr).on (bd n)) O.length (by omega)
      have eT : l.take O.length = O := by rw [← hOL.out]; simp
      rw [eT] at hcB
      have hgd : ((O.length : Int) + (L.length : Int) == (l.length : Int)) = true := by rw [beq_iff_eq]; omega
      have hOl : (O.length : Int) ≤ (c : Int) := by omega
      have HL : Hid (∀ n, Calls Tryd.prog 22 #[.pointer (some ⟨R, 0, none⟩)] (w4.drewN n) fun e w' => e = .returned (.int .i64 L.length) ∧ w' = w4.drewN n) := hL
      generalize (⟨O.toArray⟩ : ByteArray) = X at *
      clear ho hr hOL HB HT HV eT hL bd
      cases a with
      | none =>
        go_quiet ((go_at_call 22; exact Calls.quiet_of_same (HL.out _)))
        go_wp2
        go_ret
        exact ⟨rfl, hbr.trans (below_draws' hs4 _)⟩
      | some a =>
        go_quiet ((go_at_call 22; exact Calls.quiet_of_same (HL.out _)))
        go_wp2
        go_ret
        exact ⟨rfl, hbr.trans (below_draws' hs4 _)⟩
end Go.Proofs.YtbdfhmffdnlbfaaDoor
