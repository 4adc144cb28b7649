
/- The library's shortest digits, another part. -/
import Derived.Test.YtlhfdklfkfodkabDoorUb
set_option maxRecDepth 100000
namespace Go.Proofs.YtlhfdklfkfodkabDoor.Ff
open Go.RowKit Go.Lib Go.Sort

set_option maxHeartbeats 8000000 in
theorem short_lowa (w : World) (m : Nat) (e p lp l10 : Int) (i hi lo mn mx odd sN um un ux : Nat) (hc : ((m : Int) == 9223372036854775808) = false) (hmid : e < -1085) (y z z1 h : Int) (hy : IntKind.i64.wrap (-1085 - e) = y) (hz : IntKind.i64.wrap (11 + y) = z) (hez : IntKind.i64.wrap (e + z) = -1074) (hz1 : IntKind.i64.wrap (z - 1) = z1) (hz0 : 0 ≤ z) (hz2 : 0 ≤ z1) (hz3 : z < 64) (hz4 : z1 < 64) (hsh : IntKind.u64.wrap (2 ^ z1.toNat) = h) (hmn : IntKind.u64.wrap ((m : Int) - h) = (mn : Int)) (hmx : IntKind.u64.wrap ((m : Int) + h) = (mx : Int)) (cv : Int) (hcv : IntKind.i64.wrap ((m : Int) / 2 ^ z.toNat) = cv) (hod : bits .and .i64 cv 1 = (odd : Int))
    (hp : -l10 = p) (hlp : p * 108853 / 32768 = lp) (hs : -(e + lp + 3) = (sN : Int)) (hs1 : sN < 64) (hpi : p + 348 = (i : Int)) (h696 : (i : Int) < 696)
    (he0 : -1200 ≤ e) (hp0 : -348 ≤ p) (hp1 : p ≤ 347) (hl0 : -2000 ≤ lp) (hl1 : lp ≤ 2000)
    (hL : Calls Tryd.prog 39 #[.int .i64 (-1074)] w fun e w' => e = .returned (.int .i64 l10) ∧ w' = w) 
    (hm64 : (m : Int) < 18446744073709551616) (hm63 : (9223372036854775808 : Int) ≤ m) (hod1 : odd ≤ 1)
    (hhi : hi < 18446744073709551616) (hlo : lo < 18446744073709551616) (hx1 : mn < 18446744073709551616) (hx2 : mx < 18446744073709551616)
    (hum : usc m hi lo sN = um) (hun : usc mn hi lo sN = un) (hux : usc mx hi lo sN = ux) (gm : (um : Int) < 2305843009213693952) (gn : (un : Int) < 2305843009213693952) (gx : (ux : Int) < 2305843009213693952) (gx1 : odd ≤ ux)
    (t0 : w.cell? ⟨5, i * 2, none⟩ = some (.int .u64 hi)) (t1 : w.cell? ⟨5, i * 2 + 1, none⟩ = some (.int .u64 lo)) :
    Calls Tryd.prog 55 #[.int .u64 m, .int .i64 e] w fun r w' => r = .returned (.tuple #[.int .u64 ((fin um un ux odd p).1 : Nat), .int .i64 (fin um un ux odd p).2]) ∧ Below w.heap.size w w' := by
  have hP := prescale_any w e p lp sN i hi lo hpi h696 (by omega) (by omega) hl0 hl1 hs t0 t1
  have hb : Below w.heap.size w (w.alloc (.cells #[.int .u64 hi, .int .u64 lo, .int .i64 sN] 93)) := (Below.refl _ w).alloc (Nat.le_refl _) _
  have c0 : (w.alloc (.cells #[.int .u64 hi, .int .u64 lo, .int .i64 sN] 93)).cell? ⟨w.heap.size, 0, none⟩ = some (.int .u64 hi) := World.cell?_alloc_new w _ _ _
  have c1 : (w.alloc (.cells #[.int .u64 hi, .int .u64 lo, .int .i64 sN] 93)).cell? ⟨w.heap.size, 1, none⟩ = some (.int .u64 lo) := World.cell?_alloc_new w _ _ _
  have c2 : (w.alloc (.cells #[.int .u64 hi, .int .u64 lo, .int .i64 sN] 93)).cell? ⟨w.heap.size, 2, none⟩ = some (.int .i64 sN) := World.cell?_alloc_new w _ _ _
  generalize hW : w.alloc (.cells #[.int .u64 hi, .int .u64 lo, .int .i64 sN] 93) = W at *
  have hU : ∀ (x u : Nat), x < 18446744073709551616 → usc x hi lo sN = u → ∀ n, Calls Tryd.prog 62 #[.int .u64 x, .pointer (some ⟨w.heap.size, 0, none⟩)] (W.drewN n) fun e w' => e = .returned (.int .u64 u) ∧ ∃ k, w' = W.drewN k := fun x u hx hu n => by
    refine (uscale_any (W.drewN n) w.heap.size x hi lo sN hx hhi hlo hs1 c0 c1 c2).mono ?_
    rintro e w' ⟨rfl, k, rfl⟩
    rw [hu]
    exact ⟨rfl, n + k, by simp⟩
  have HU1 : Hid (∀ n, Calls Tryd.prog 62 #[.int .u64 mn, .pointer (some ⟨w.heap.size, 0, none⟩)] (W.drewN n) fun e w' => e = .returned (.int .u64 un) ∧ ∃ k, w' = W.drewN k) := hU mn un hx1 hun
  have HU2 : Hid (∀ n, Calls Tryd.prog 62 #[.int .u64 mx, .pointer (some ⟨w.heap.size, 0, none⟩)] (W.drewN n) fun e w' => e = .returned (.int .u64 ux) ∧ ∃ k, w' = W.drewN k) := hU mx ux hx2 hux
  have HU3 : Hid (∀ n, Calls Tryd.prog 62 #[.int .u64 m, .pointer (some ⟨w.heap.size, 0, none⟩)] (W.drewN n) fun e w' => e = .returned (.int .u64 um) ∧ ∃ k, w' = W.drewN k) := hU m um (by omega) hum
  have HB : Hid (Below w.heap.size w W) := hb
  have hF : Hid (fin um un ux odd p = if (un + odd + 3) / 4 ≤ (ux - odd) / 4 / 10 * 10 then ((ux - odd) / 4 / 10, -(p - 1))
    else if (un + odd + 3) / 4 < (ux - odd) / 4 then ((um + 1 + um / 4 % 2) / 4, -p) else ((un + odd + 3) / 4, -p)) := rfl
  have hx2i : (mx : Int) < 18446744073709551616 := by omega
  clear hU c0 c1 c2 hb t0 t1 hhi hlo hx1 hx2 hum hun hux hs hpi h696 hW hs1
  generalize fin um un ux odd p = F at *
  generalize (m : Int) = M at *
  have GM0 : Bx ((um : Int) < 2305843009213693952) := ⟨gm⟩
  have GN0 : Bx ((un : Int) < 2305843009213693952) := ⟨gn⟩
  have GX0 : Bx ((ux : Int) < 2305843009213693952) := ⟨gx⟩
  have HE0 : Bx (-1200 ≤ e) := ⟨he0⟩
  clear gm gn gx hx2i he0 hm63 hm64
  go_enter Tryd.func55, Tryd.ntmps55
  go_wp2_with fail
  refine hL.mono ?_
  rintro e w1 ⟨rfl, rfl⟩
  clear hL
  go_wp2_with fail
  refine (log2_any _ p (by omega) (by omega)).mono ?_
  rintro e w2 ⟨rfl, rfl⟩
  go_wp2_with fail
  refine hP.mono ?_
  rintro e w3 ⟨rfl, hw3⟩
  clear hP
  obtain rfl : w3 = W := hw3
  go_wp2_with fail
  refine Calls.mono (HU1.out 0) ?_
  rintro e w4 ⟨rfl, n1, rfl⟩
  go_wp2_with fail
  have gm := GM0.out
  have gn := GN0.out
  have gx := GX0.out
  obtain ⟨r1, hr1⟩ : ∃ r : Int, (un : Int) + (odd : Int) = r := ⟨_, rfl⟩
  refine (nudge_any _ un odd r1 (by omega) (by omega) hr1).mono ?_
  rintro e w5 ⟨rfl, rfl⟩
  go_wp2_with fail
  refine (ceil_any _ r1 (by omega) (by omega)).mono ?_
  rintro e w6 ⟨rfl, rfl⟩
  obtain ⟨d1, hd1⟩ : ∃ r : Int, (r1 + 3) / 4 = r := ⟨_, rfl⟩
  rw [hd1]
  go_wp2_with fail
  refine Calls.mono (HU2.out n1) ?_
  rintro e w7 ⟨rfl, n2, rfl⟩
  go_wp2_with fail
  obtain ⟨r2, hr2⟩ : ∃ r : Int, (ux : Int) + -(odd : Int) = r := ⟨_, rfl⟩
  refine (nudge_any _ ux (-odd) r2 (by omega) (by omega) hr2).mono ?_
  rintro e w8 ⟨rfl, rfl⟩
  go_wp2_with fail
  refine (floor_any _ r2 (by omega) (by omega)).mono ?_
  rintro e w9 ⟨rfl, rfl⟩
  obtain ⟨d2, hd2⟩ : ∃ r : Int, r2 / 4 = r := ⟨_, rfl⟩
  rw [hd2]
  have D1 : Bx (d1 = (((un + odd + 3) / 4 : Nat) : Int)) := ⟨by omega⟩
  have D2 : Bx (d2 = (((ux - odd) / 4 : Nat) : Int)) := ⟨by omega⟩
  have k1 : 0 ≤ d1 := by omega
  have k2 : d1 < 4611686018427387904 := by omega
  have k3 : 0 ≤ d2 := by omega
  have k4 : d2 < 4611686018427387904 := by omega
  have GM : Bx ((um : Int) < 2305843009213693952) := ⟨gm⟩
  clear hd1 hd2 hr1 hr2 gn gx gx1 hmn hmx hod hod1 hy hz hz0 hz1 hz2 hz3 hz4 hez hsh hcv gm
  have K2 : Bx (d1 < 4611686018427387904) := ⟨k2⟩
  have K4 : Bx (d2 < 4611686018427387904) := ⟨k4⟩
  by_cases hA : d1 ≤ d2 / 10 * 10
  · go_wp2
    go_ret2
    have f1 := hF.out
    have g1 := D1.out
    have g2 := D2.out
    rw [if_pos (by omega)] at f1
    rw [f1]
    refine ⟨ret_u2 (by omega) (by omega), below_drewN HB.out n2⟩
  · obtain ⟨t, ht⟩ : ∃ t : Int, d2 / 10 * 10 = t := ⟨_, rfl⟩
    obtain ⟨q, hq⟩ : ∃ q : Int, d2 / 10 = q := ⟨_, rfl⟩
    have hq' : IntKind.u64.wrap (d2.tdiv 10) = q := by rw [Int.tdiv_eq_ediv_of_nonneg k3, IntKind.wrap_u64]; omega
    have hw : IntKind.u64.wrap (q * 10) = t := by rw [← hq, IntKind.wrap_u64]; omega
    clear hq k1 k3
    rw [ht] at hA
    have hA' : decide (d1 ≤ t) = false := decide_eq_false hA
    have HT : Bx (d2 / 10 * 10 = t) := ⟨ht⟩
    have HA : Bx (¬ d1 ≤ t) := ⟨hA⟩
    clear ht hA k2 k4 hp hlp hl0 hl1 hmid hc
    by_cases hB : d1 < d2
    · go_wp2_with fail
      refine Calls.mono (HU3.out n2) ?_
      rintro e w10 ⟨rfl, n3, rfl⟩
      go_wp2_with fail
      refine (round_any _ um (by have := GM.out; omega)).mono ?_
      rintro e w11 ⟨rfl, rfl⟩
      obtain ⟨d3, hd3⟩ : ∃ r : Int, (((um + 1 + um / 4 % 2) / 4 : Nat) : Int) = r := ⟨_, rfl⟩
      rw [hd3]
      have D3 : Bx ((((um + 1 + um / 4 % 2) / 4 : Nat) : Int) = d3) := ⟨hd3⟩
      clear hd3
      go_wp2
      go_ret2
      have f1 := hF.out
      have g1 := D1.out
      have g2 := D2.out
      have g3 := HT.out
      have g4 := HA.out
      rw [if_neg (by omega), if_pos (by omega)] at f1
      rw [f1]
      exact ⟨ret_u2 D3.out.symm rfl, below_drewN HB.out n3⟩
    · have hB' : decide (d1 < d2) = false := decide_eq_false hB
      have HBB : Bx (¬ d1 < d2) := ⟨hB⟩
      clear hB
      go_wp2
      go_ret2
      have f1 := hF.out
      have g5 := HBB.out
      have g1 := D1.out
      have g2 := D2.out
      have g3 := HT.out
      have g4 := HA.out
      rw [if_neg (by omega), if_neg (by omega)] at f1
      rw [f1]
      exact ⟨ret_u2 g1 rfl, below_drewN HB.out n2⟩
end Go.Proofs.YtlhfdklfkfodkabDoor.Ff
