/- TapeTells walked. -/
import Derived.Test.YtpbpcefcnkfbpaaTw
import Derived.Test.YtpbpcefcnkfbpaaTm
namespace Go.Proofs.Ytpbpcefcnkfbpaa
open Go.RowKit Go.Lib Go.Shelf
set_option maxRecDepth 100000

theorem tot_take_le (rs : List (List UInt8)) (k : Nat) : tot (rs.take k) ≤ tot rs := by
  have := tot_split (rs.take k) (rs.drop k)
  rw [List.take_append_drop] at this
  omega
theorem tot_take_succ (rs : List (List UInt8)) (k : Nat) (x : List UInt8) (h : rs[k]? = some x) : tot (rs.take (k + 1)) = tot (rs.take k) + (12 + x.length) := by
  rw [List.take_add_one, h]
  exact tot_snoc _ _
theorem len_le_tot (rs : List (List UInt8)) : 12 * rs.length ≤ tot rs := by
  induction rs with
  | nil => simp
  | cons r rs ih => simp only [tot, List.map_cons, List.sum_cons, List.length_cons] at ih ⊢; omega
theorem RdL.take {w : World} {a : Option Addr} {n c : Nat} {rs : List (List UInt8)} (h : RdL w (.slice a n c) rs) (k : Nat) (hk : k ≤ rs.length) : RdL w (.slice a k c) (rs.take k) := by
  obtain ⟨a', c', he, hr⟩ := h
  cases he
  refine ⟨a, c, by rw [List.length_take, Nat.min_eq_left hk], fun i r hi => hr i r ?_⟩
  rw [List.getElem?_take] at hi
  split at hi
  · exact hi
  · cases hi
theorem bits_u8_xor (a b : UInt8) : bits .xor .u8 (a.toNat : Int) (b.toNat : Int) = ((a ^^^ b).toNat : Int) := by
  have ha := a.toNat_lt
  have hb := b.toNat_lt
  have hx : a.toNat ^^^ b.toNat < 2 ^ 8 := Nat.xor_lt_two_pow (by omega) (by omega)
  have h1 : (BitVec.ofInt 8 (a.toNat : Int)).toNat = a.toNat := by
    rw [BitVec.ofInt_natCast, BitVec.toNat_ofNat]; exact Nat.mod_eq_of_lt (by omega)
  have h2 : (BitVec.ofInt 8 (b.toNat : Int)).toNat = b.toNat := by
    rw [BitVec.ofInt_natCast, BitVec.toNat_ofNat]; exact Nat.mod_eq_of_lt (by omega)
  show IntKind.u8.wrap ((BitVec.ofInt 8 (a.toNat : Int) ^^^ BitVec.ofInt 8 (b.toNat : Int)).toNat : Int) = _
  rw [BitVec.toNat_xor, h1, h2, IntKind.wrap_u8, UInt8.toNat_xor]
  omega
theorem xor_ne (c x : UInt8) (hx : x ≠ 0) : c ^^^ x ≠ c := by
  intro h
  apply hx
  have := congrArg (c ^^^ ·) h
  simpa [← UInt8.xor_assoc] using this

/-- A page that is put back with one byte changed. -/
theorem splice_one (P : List UInt8) (n p m : Nat) (y : UInt8) (hP : P.length = n * 256) (hp : p < n) (hm : m < 256) :
    (splice P (p * 256) ((pageOf P p).set m y)).length = P.length ∧ ∀ k, (splice P (p * 256) ((pageOf P p).set m y))[k]? = if k = p * 256 + m then some y else P[k]? := by
  have hl : ((pageOf P p).set m y).length = 256 := by rw [List.length_set]; exact pageOf_length P n p hP hp
  have hf : p * 256 + ((pageOf P p).set m y).length ≤ P.length := by rw [hl, hP]; omega
  refine ⟨splice_len _ _ _ hf, fun k => ?_⟩
  rw [splice_get _ _ _ hf, hl, List.getElem?_set, pageOf_length P n p hP hp]
  by_cases h1 : k = p * 256 + m
  · rw [if_pos (by omega), if_pos (by omega), if_pos hm, if_pos h1]
  · rw [if_neg h1]
    by_cases h2 : p * 256 ≤ k ∧ k < p * 256 + 256
    · rw [if_pos h2, if_neg (by omega), pageOf_get _ _ _ (by omega)]
      congr 1; omega
    · rw [if_neg h2]

set_option maxHeartbeats 8000000 in
theorem tells_any (w : World) (a1 : Option Addr) (n1 c1 : Nat) (hcap : n1 ≤ c1) (r1 : List (List UInt8)) (h1 : RdL w (.slice a1 n1 c1) r1) (hlen : ∀ r ∈ r1, r.length ≤ 140737488355328) (za : Int) (hza : -9223372036854775808 ≤ za) (hza' : za < 9223372036854775808) (x : UInt8) :
    Calls Try.prog 6 #[.slice a1 n1 c1, .int .i64 za, .int .u8 (x.toNat : Int)] w fun e w' => e = .returned (.bool true) ∧ Below w.heap.size w w' := by
  have H1 : Hid (RdL w (.slice a1 n1 c1) r1) := h1
  obtain ⟨a1', c1', he, hr1⟩ := h1
  cases he
  obtain ⟨n1, hn1⟩ : ∃ n, n = r1.length := ⟨_, rfl⟩
  rw [← hn1] at H1 hcap ⊢
  have N1H : Hid (n1 = r1.length) := hn1
  clear hn1
  have HR1 : Hid _ := hr1
  have HL : Hid _ := hlen
  clear hr1 hlen
  have hnot : ∀ (b : Bool) (w : World), (Op.unary .not (.bool b)).run Try.prog w = .ok (.bool (!b)) w := fun _ _ => rfl
  go_enter Try.func6, Try.ntmps6
  go_wp2_with fail
  refine (wakes_any w).mono ?_
  rintro e w0 ⟨rfl, hb0⟩
  go_wp2_with fail
  go_loopw [26, 7] (fun i v7 wr => ∃ (j : Nat), j ≤ n1 ∧ i = .int .i64 j ∧ v7 = .int .i64 (tot (r1.take j) : Nat) ∧ tot (r1.take j) ≤ 2000 ∧ Below w.heap.size w wr) (fun i _ _ => n1 - (RowKit.intOf i).toNat)
  case atStart => exact ⟨0, by omega, rfl, rfl, by simp [tot], hb0⟩
  case round =>
    clear hb0
    obtain ⟨j, hj, rfl, rfl, htj, hb0⟩ := hrel
    have hj9 : j ≤ 2000 := by
      have := len_le_tot (r1.take j)
      rw [List.length_take, ← N1H.out] at this
      omega
    by_cases hlt : j < n1
    · obtain ⟨x, hx⟩ : ∃ x, r1[j]? = some x := ⟨_, List.getElem?_eq_getElem (by rw [← N1H.out]; exact hlt)⟩
      obtain ⟨b, o, u, hae, e1, f1⟩ := HR1.out j x hx
      cases hae
      have e4 : wr.cell? ⟨b, o + j, none⟩ = some u := (hb0.cell (p := ⟨b, o + j, none⟩) (World.block_lt_of_cell? w _ e1)).trans e1
      obtain ⟨ua, uc, rfl⟩ := f1.len
      have hxl := HL.out x (List.mem_iff_getElem?.2 ⟨j, hx⟩)
      have hsu := tot_take_succ r1 j x hx
      by_cases hbig : 2000 < tot (r1.take (j + 1))
      · have hbig' : (2000 : Int) < (tot (r1.take j) : Int) + ((x.length : Int) + 12) := by omega
        clear hsu hbig
        generalize tot (r1.take j) = T at *
        go_wp2_with fail
        go_ret
        exact ⟨rfl, hb0⟩
      · have hbig' : ¬ (2000 : Int) < (tot (r1.take j) : Int) + ((x.length : Int) + 12) := by omega
        have HS : Hid _ := hsu
        clear hsu
        have hT : ∀ T : Int, T = (tot (r1.take j) : Int) + ((x.length : Int) + 12) → T = (tot (r1.take (j + 1)) : Nat) := fun T hT => by have := HS.out; omega
        have HT : Hid _ := hT
        have hB : tot (r1.take (j + 1)) ≤ 2000 := by omega
        have HB : Hid (tot (r1.take (j + 1)) ≤ 2000) := hB
        clear hT hbig hB
        generalize tot (r1.take j) = T at *
        go_wp2_with fail
        go_roundw
        case rel => exact ⟨j + 1, by omega, by go_num, by rw [← HT.out _ rfl], by have := HB.out; omega, hb0⟩
        case measure => simp [RowKit.intOf]; omega
    · have hjn : r1.take j = r1 := List.take_of_length_le (by rw [← N1H.out]; omega)
      rw [hjn] at htj ⊢
      obtain ⟨T, hT⟩ : ∃ T, T = tot r1 := ⟨_, rfl⟩
      rw [← hT] at htj ⊢
      have HT : Hid (T = tot r1) := hT
      clear hT hjn
      have hz0 : ∀ z : UInt8, (z.toNat : Int) = 0 ↔ z = 0 := fun z => by
        rw [← UInt8.toNat_inj]; simp
      by_cases k1 : za < 0
      · go_wp2_with fail
        go_ret
        exact ⟨rfl, hb0⟩
      by_cases k2 : (T : Int) ≤ za
      · go_wp2_with fail
        go_ret
        exact ⟨rfl, hb0⟩
      by_cases k3 : (x.toNat : Int) = 0
      · go_wp2_with fail
        go_ret
        exact ⟨rfl, hb0⟩
      by_cases k4 : (40 : Int) < (n1 : Int)
      · go_wp2_with fail
        go_ret
        exact ⟨rfl, hb0⟩
      have hx0 : x ≠ 0 := fun h => k3 ((hz0 x).2 h)
      clear hz0
      obtain ⟨at', rfl⟩ : ∃ n : Nat, za = (n : Int) := ⟨za.toNat, by omega⟩
      have hn40 : n1 ≤ 40 := by omega
      have N26 := new_ts wr 9 (by decide) (by decide)
      clear hza hza'
      go_wp2_with fail
      refine N26.mono ?_
      rintro e w1 ⟨X0, q, S0, rfl, hdr0, hP0, hW0, hops0, har0, hdn0, hb1, hX0⟩
      have hla0 : Laid S0.P 0 ((9 - 0) * 256) [] := zeros_laid S0.P 9 0 9 (by rw [hP0, List.length_replicate]) (by decide) (by decide) (by rw [hP0, List.getElem?_replicate, if_pos (by decide)])
      clear hP0 N26
      have hb01 : Below w.heap.size w w1 := hb0.trans (hb1.mono hb0.size)
      have hX0' : ∀ j, X0 j → w.heap.size ≤ j := fun j hj => Nat.le_trans hb0.size (hX0 j hj)
      have N12 := open_ts w1 X0 q 9 S0 0 9 [] hdr0 hla0 har0 hdn0 (by rw [hW0]; decide) (by decide) (by decide) (by decide)
      go_wp2_with fail
      refine N12.mono ?_
      rintro e w3 ⟨hb3, v3, t, rfl, ht3, hrec3, hts3⟩
      obtain ⟨va, vc, rfl⟩ := hrec3.shape
      have hb03 : Below w.heap.size w w3 := hb01.trans (hb3.mono hb01.size)
      have htw : w.heap.size ≤ t := Nat.le_trans hb01.size ht3
      clear N12 hrec3 hb3 hb01 hb1 hb0 hdr0 hla0
      go_wp2_with fail
      go_loopw [65, 14, 15, 16] (fun i v14 v15 v16 wr => ∃ (j wh : Nat) (X4 : Nat → Prop) (S4 : DS), j ≤ n1 ∧ i = .int .i64 j ∧ v14 = .int .i64 wh ∧ v15 = .int .i64 (tot (r1.take wh) : Nat) ∧ v16 = .int .i64 (tot (r1.take j) : Nat) ∧ tot (r1.take wh) ≤ at' ∧ wh ≤ j ∧ (0 < j → wh < j) ∧ (wh + 1 < j → at' < tot (r1.take (wh + 1))) ∧ TS wr X4 t q 9 S4 0 9 (r1.take j) ∧ S4.ops ≤ S0.ops + j * 2400 ∧ S4.W.length ≤ 5 ∧ Below w.heap.size w wr ∧ (∀ j, X4 j → w.heap.size ≤ j)) (fun i _ _ _ _ => n1 - (RowKit.intOf i).toNat)
      case atStart => exact ⟨0, 0, X0, S0, by omega, rfl, rfl, rfl, rfl, by simp [tot], by omega, by omega, by omega, by simpa using hts3, by omega, by rw [hW0]; decide, hb03, hX0'⟩
      case round =>
        obtain ⟨j, wh, X4, S4, hj, rfl, rfl, rfl, rfl, hwh, hwj, hw0, hw1, hts4, hops4, hwl4, hb4, hX4⟩ := hrel
        clear hts3 hb03 hX0
        by_cases hlt : j < n1
        · obtain ⟨y, hy⟩ : ∃ y, r1[j]? = some y := ⟨_, List.getElem?_eq_getElem (by rw [← N1H.out]; exact hlt)⟩
          obtain ⟨b, o, u, hae, e1, f1⟩ := HR1.out j y hy
          cases hae
          have e4 : wr.cell? ⟨b, o + j, none⟩ = some u := (hb4.cell (p := ⟨b, o + j, none⟩) (World.block_lt_of_cell? w _ e1)).trans e1
          have f4 : Sl.RdA wr u y := Sl.RdA.on f1 hb4
          obtain ⟨ua, uc, rfl⟩ := f4.len
          have htk : r1.take (j + 1) = r1.take j ++ [y] := by
            rw [List.take_add_one, hy]; rfl
          have hsu := tot_take_succ r1 j y hy
          have hle := tot_take_le r1 (j + 1)
          rw [← HT.out] at hle
          have htkl : (r1.take j).length ≤ 40 := by rw [List.length_take, ← N1H.out]; omega
          have N17 := append_ts wr X4 t q 9 S4 0 9 (r1.take j) hts4 (by decide) (by decide) (by omega) (by omega) y _ f4 (by omega) (by omega)
          rw [← htk] at N17
          have hopl := opsN_le (tot (r1.take j)) y.length ((9 - 0) * 256)
          have htw0 := tot_take_le r1 wh
          rw [← HT.out] at htw0
          go_wp2_with fail
          refine N17.mono ?_
          rintro e w7 ⟨rfl, X7, S7, hts7, hst7, hX7, hops7, hW7, _⟩
          clear N17
          have hab : ∀ k, (X4 k ∨ k = t) → w.heap.size ≤ k := fun k hk => by
            rcases hk with hk | hk
            · exact hX4 k hk
            · rw [hk]; exact htw
          have hb7 : Below w.heap.size w w7 := hb4.trans (hst7.below hab hb4.size)
          have hX7' : ∀ k, X7 k → w.heap.size ≤ k := fun k hk => by
            rcases hX7 k hk with h | h
            · exact hX4 k h
            · exact Nat.le_trans hb4.size h
          have hEi : ∀ T' : Int, T' = (tot (r1.take j) : Int) + ((y.length : Int) + 12) → T' = (tot (r1.take (j + 1)) : Nat) := fun T' hT' => by omega
          have HE : Hid _ := hEi
          have hw7' : S7.W.length ≤ 5 := by rw [hW7]; decide
          have hops7' : S7.ops ≤ S0.ops + (j + 1) * 2400 := by omega
          have hE9 : tot (r1.take j) ≤ 2000 := by omega
          have hy9 : y.length ≤ 2000 := by omega
          have HL1 : Hid (∀ k, (k = j ∨ (k = wh ∧ at' < tot (r1.take j))) → tot (r1.take k) ≤ at' → (k + 1 < j + 1 → at' < tot (r1.take (k + 1)))) := by
            rintro k (rfl | ⟨rfl, h3⟩) hk h4
            · omega
            · by_cases h5 : k + 1 < j
              · exact hw1 h5
              · rw [show k + 1 = j by omega]; exact h3
          clear hEi hsu hle htkl hopl htw0 hops7 hW7 hw1 hst7 hX7 hts4 hb4 f4 e4 e1 f1 htk
          by_cases hch : tot (r1.take j) ≤ at'
          · have HC : Hid (tot (r1.take j) ≤ at') := hch
            have hch' : (tot (r1.take j) : Int) ≤ (at' : Int) := by omega
            clear hch
            obtain ⟨T', hT'⟩ : ∃ T', T' = tot (r1.take j) := ⟨_, rfl⟩
            have HT' : Hid (T' = tot (r1.take j)) := hT'
            rw [← hT'] at hch' hE9 ⊢
            clear hT'
            go_wp2_with fail
            go_roundw
            case rel => exact ⟨j + 1, j, X7, S7, by omega, by go_num, rfl, by rw [← HT'.out], by rw [HT'.out]; exact congrArg _ (HE.out _ rfl), HC.out, by omega, by omega, by omega, hts7, hops7', hw7', hb7, hX7'⟩
            case measure => simp [RowKit.intOf]; omega
          · have hch' : ¬ (tot (r1.take j) : Int) ≤ (at' : Int) := by omega
            have hl1 := HL1.out wh (.inr ⟨rfl, by omega⟩) hwh
            clear HL1
            generalize tot (r1.take j) = T' at *
            go_wp2_with fail
            go_roundw
            case rel => exact ⟨j + 1, wh, X7, S7, by omega, by go_num, rfl, rfl, by rw [← HE.out _ rfl], hwh, by omega, by omega, hl1, hts7, hops7', hw7', hb7, hX7'⟩
            case measure => simp [RowKit.intOf]; omega
        · have hjn : r1.take j = r1 := List.take_of_length_le (by rw [← N1H.out]; omega)
          rw [hjn] at hts4
          have hatT : at' < T := by omega
          have hj0 : 0 < j := by
            rcases Nat.eq_zero_or_pos j with h | h
            · exfalso
              have : r1.length = 0 := by rw [← N1H.out]; omega
              have : r1 = [] := List.length_eq_zero_iff.1 this
              have h9 := HT.out
              rw [this] at h9
              simp [tot] at h9
              omega
            · exact h
          have hwl : wh < r1.length := by rw [← N1H.out]; have := hw0 hj0; omega
          obtain ⟨r, hr⟩ : ∃ r, r1[wh]? = some r := ⟨_, List.getElem?_eq_getElem hwl⟩
          have hsu := tot_take_succ r1 wh r hr
          have hlt2 : at' < tot (r1.take wh) + (12 + r.length) := by
            rw [← hsu]
            by_cases h5 : wh + 1 < j
            · exact hw1 h5
            · rw [List.take_of_length_le (by rw [← N1H.out]; omega), ← HT.out]; exact hatT
          have hsp : r1 = r1.take wh ++ r :: r1.drop (wh + 1) := by
            have : r = r1[wh] := by rw [List.getElem?_eq_getElem hwl] at hr; cases hr; rfl
            rw [this, ← List.drop_eq_getElem_cons hwl, List.take_append_drop]
          have HSP : Hid (r1 = r1.take wh ++ r :: r1.drop (wh + 1)) := hsp
          clear hsp
          have hla := hts4.la
          obtain ⟨d, hd⟩ : ∃ d, at' = tot (r1.take wh) + d := ⟨at' - tot (r1.take wh), by omega⟩
          have HD : Hid (at' = tot (r1.take wh) + d) := hd
          have hdl : d < 12 + r.length := by omega
          have htw9 : tot (r1.take wh) ≤ 2000 := by omega
          by_cases hd1 : 1 ≤ d ∧ d ≤ 3
          · have g1 : (1 : Int) ≤ (at' : Int) - (tot (r1.take wh) : Int) := by omega
            have g2 : (at' : Int) - (tot (r1.take wh) : Int) ≤ 3 := by omega
            clear hd hlt2 hsu hw1 hwh HD hdl
            generalize tot (r1.take wh) = Tw at *
            go_wp2_with fail
            go_ret
            exact ⟨rfl, hb4⟩
          · have g1 : ¬ ((1 : Int) ≤ (at' : Int) - (tot (r1.take wh) : Int)) ∨ ¬ ((at' : Int) - (tot (r1.take wh) : Int) ≤ 3) := by omega
            have hq : at' / 256 < 9 := by omega
            have N31 := read0 wr X4 q 9 S4 (at' / 256) hq hts4.dn hts4.d
            rw [show ((at' / 256 : Nat) : Int) = (at' : Int) / 256 by omega] at N31
            clear hd hlt2 hsu hw1 hwh
            obtain ⟨Tw, hTw⟩ : ∃ Tw, Tw = tot (r1.take wh) := ⟨_, rfl⟩
            rw [← hTw] at g1 htw9 ⊢
            clear hTw
            obtain ⟨p, hp⟩ : ∃ p, p = at' / 256 := ⟨_, rfl⟩
            obtain ⟨m, hm⟩ : ∃ m, m = at' % 256 := ⟨_, rfl⟩
            have e1 : (at' : Int) / 256 = (p : Int) := by omega
            have e2 : (at' : Int) % 256 = (m : Int) := by omega
            have hat : at' = p * 256 + m := by omega
            have hm9 : m < 256 := by omega
            rw [← hp, e1] at N31
            rw [← hp] at hq
            have HA : Hid (at' = p * 256 + m) := hat
            clear hp hm hat
            rcases g1 with g1 | g1
            · skip
              go_wp2_with fail
              refine N31.mono ?_
              rintro e w4 ⟨rfl, hpg⟩
              have hb4' := hpg.below
              have hblk := hpg.block
              have hb04 : Below w.heap.size w w4 := hb4.trans (hb4'.mono hb4.size)
              have hd4 := hts4.d.below hb4'
              have hgx : ¬ X4 wr.heap.size := fun h => by have := hts4.d.xlt _ h; omega
              have hgw := hb4.size
              have hdn4 := hts4.dn
              have har4 := hts4.ar
              have hlen4 := hts4.d.len
              have hpl := pageOf_length S4.P 9 p hlen4 hq
              clear hpg hb4' hb4 N31 hts4
              obtain ⟨c, hc⟩ : ∃ c, (pageOf S4.P p)[m]? = some c := ⟨_, List.getElem?_eq_getElem (by omega)⟩
              have hcP : S4.P[at']? = some c := by rw [HA.out, ← pageOf_get S4.P p m hm9]; exact hc
              have hce : w4.cell? ⟨wr.heap.size, m, none⟩ = some (.int .u8 (c.toNat : Int)) := by
                rw [cell_of_row _ _ _ _ _ _ hblk]; simp [byteCells, hc]
              have hz := frozen_of_row w4 wr.heap.size m _ _ hblk
              have hbx := bits_u8_xor c x
              have hyc := xor_ne c x hx0
              generalize c ^^^ x = y at hbx hyc
              have hblk5 : (w4.setCell ⟨wr.heap.size, m, none⟩ (.int .u8 (y.toNat : Int))).heap[wr.heap.size]? = some (.cells (byteCells ((pageOf S4.P p).set m y)).toArray 82 (0, 0)) := by
                rw [heap_setCell_same _ _ _ _ _ _ hblk]
                congr 2
                apply Array.ext'
                simp [byteCells, List.map_set]
              have hd5 : Drum (w4.setCell ⟨wr.heap.size, m, none⟩ (.int .u8 (y.toNat : Int))) X4 q 9 S4 := hd4.on (step_at w4 wr.heap.size m _) (fun j hj e => hgx (e ▸ hj))
              have hb5 : Below w.heap.size w (w4.setCell ⟨wr.heap.size, m, none⟩ (.int .u8 (y.toNat : Int))) := hb04.setCell hgw _
              have hl5 : ((pageOf S4.P p).set m y).length = 256 := by rw [List.length_set]; exact hpl
              have N27 := write_ts _ X4 q 9 S4 p (.slice (some ⟨wr.heap.size, 0, none⟩) 256 256) ((pageOf S4.P p).set m y) hq har4 hdn4 (by omega) (by omega) hd5 hl5 ⟨_, _, by rw [hl5], fun _ => ⟨_, _, rfl, range_of_block hblk5⟩⟩ (fun k hk => by cases hk; exact hgx)
              obtain ⟨hsl, hsg⟩ := splice_one S4.P 9 p m y hlen4 hq hm9
              rw [HSP.out] at hla
              obtain ⟨kk, hkk, hch⟩ := hla.told (P' := splice S4.P (p * 256) ((pageOf S4.P p).set m y)) d y hdl hd1 (by
                rw [show 0 * 256 + (tot (r1.take wh) + d) = at' by have := HD.out; omega, hcP]
                intro h; cases h; exact hyc rfl) hsl (fun k => by
                rw [hsg k, show 0 * 256 + (tot (r1.take wh) + d) = p * 256 + m by have := HD.out; have := HA.out; omega])
              have HCH : Hid (Chain (splice S4.P (p * 256) ((pageOf S4.P p).set m y)) 0 ((9 - 0) * 256) (r1.take wh) 0 0 kk) := hch
              clear hch hla hsg hsl hblk5 hb04 hd4 hc hcP hd5 hblk HD hd1 hdl
              generalize splice S4.P (p * 256) ((pageOf S4.P p).set m y) = P' at *
              generalize wr.heap.size = gp at *
              go_wp2_with fail
              refine N27.mono ?_
              rintro e w6 ⟨rfl, X6, S6, hd6, hst6, hP6, har6, hdn6, hw6, hops6⟩
              rw [← hP6] at HCH
              have hb6 : Below w.heap.size w w6 := hb5.trans (hst6.below hX4 hb5.size)
              have N12 := open_any w6 X6 q 9 S6 0 9 hd6 (by decide) (by decide) hdn6 (r1.take wh) kk HCH.out (by rw [List.length_take]; omega)
              clear N27 hst6 hb5 hce hz
              go_wp2_with fail
              refine N12.mono ?_
              rintro e w8 ⟨hb8, hcase⟩
              have hb08 : Below w.heap.size w w8 := hb6.trans (hb8.mono hb6.size)
              rcases hcase with ⟨_, v8, t8, rfl, _, hrec8, _⟩ | ⟨hk12, rfl⟩
              · have hwl' : (r1.take wh).length = wh := by rw [List.length_take]; omega
                have hwn : wh ≤ n1 := by have := N1H.out; omega
                have N14 := alike_any w8 v8 (.slice a1 wh c1) (r1.take wh) (r1.take wh) hrec8.rdl ((H1.out.take wh (by omega)).on hb08) (by omega) (by omega)
                rw [decide_eq_true (rfl : r1.take wh = r1.take wh)] at N14
                obtain ⟨va8, vc8, rfl⟩ := hrec8.shape
                rw [hwl'] at N14 ⊢
                clear hrec8 hb8 N12 hb6
                go_wp2_with fail
                refine N14.mono ?_
                rintro e w9 ⟨rfl, kq, hw9⟩
                have hb9 : Below w.heap.size w w9 := by rw [hw9]; exact hb08.trans ⟨rfl, rfl, rfl, Nat.le_refl _, fun _ _ => rfl⟩
                clear hw9
                go_wp2_with fail
                go_ret
                exact ⟨rfl, hb9⟩
              · clear N12 hb8 hb6
                rcases hk12 with rfl | rfl
                · go_wp2_with fail
                  go_ret
                  exact ⟨rfl, hb08⟩
                · go_wp2_with fail
                  go_ret
                  exact ⟨rfl, hb08⟩
            · skip
              go_wp2_with fail
              refine N31.mono ?_
              rintro e w4 ⟨rfl, hpg⟩
              have hb4' := hpg.below
              have hblk := hpg.block
              have hb04 : Below w.heap.size w w4 := hb4.trans (hb4'.mono hb4.size)
              have hd4 := hts4.d.below hb4'
              have hgx : ¬ X4 wr.heap.size := fun h => by have := hts4.d.xlt _ h; omega
              have hgw := hb4.size
              have hdn4 := hts4.dn
              have har4 := hts4.ar
              have hlen4 := hts4.d.len
              have hpl := pageOf_length S4.P 9 p hlen4 hq
              clear hpg hb4' hb4 N31 hts4
              obtain ⟨c, hc⟩ : ∃ c, (pageOf S4.P p)[m]? = some c := ⟨_, List.getElem?_eq_getElem (by omega)⟩
              have hcP : S4.P[at']? = some c := by rw [HA.out, ← pageOf_get S4.P p m hm9]; exact hc
              have hce : w4.cell? ⟨wr.heap.size, m, none⟩ = some (.int .u8 (c.toNat : Int)) := by
                rw [cell_of_row _ _ _ _ _ _ hblk]; simp [byteCells, hc]
              have hz := frozen_of_row w4 wr.heap.size m _ _ hblk
              have hbx := bits_u8_xor c x
              have hyc := xor_ne c x hx0
              generalize c ^^^ x = y at hbx hyc
              have hblk5 : (w4.setCell ⟨wr.heap.size, m, none⟩ (.int .u8 (y.toNat : Int))).heap[wr.heap.size]? = some (.cells (byteCells ((pageOf S4.P p).set m y)).toArray 82 (0, 0)) := by
                rw [heap_setCell_same _ _ _ _ _ _ hblk]
                congr 2
                apply Array.ext'
                simp [byteCells, List.map_set]
              have hd5 : Drum (w4.setCell ⟨wr.heap.size, m, none⟩ (.int .u8 (y.toNat : Int))) X4 q 9 S4 := hd4.on (step_at w4 wr.heap.size m _) (fun j hj e => hgx (e ▸ hj))
              have hb5 : Below w.heap.size w (w4.setCell ⟨wr.heap.size, m, none⟩ (.int .u8 (y.toNat : Int))) := hb04.setCell hgw _
              have hl5 : ((pageOf S4.P p).set m y).length = 256 := by rw [List.length_set]; exact hpl
              have N27 := write_ts _ X4 q 9 S4 p (.slice (some ⟨wr.heap.size, 0, none⟩) 256 256) ((pageOf S4.P p).set m y) hq har4 hdn4 (by omega) (by omega) hd5 hl5 ⟨_, _, by rw [hl5], fun _ => ⟨_, _, rfl, range_of_block hblk5⟩⟩ (fun k hk => by cases hk; exact hgx)
              obtain ⟨hsl, hsg⟩ := splice_one S4.P 9 p m y hlen4 hq hm9
              rw [HSP.out] at hla
              obtain ⟨kk, hkk, hch⟩ := hla.told (P' := splice S4.P (p * 256) ((pageOf S4.P p).set m y)) d y hdl hd1 (by
                rw [show 0 * 256 + (tot (r1.take wh) + d) = at' by have := HD.out; omega, hcP]
                intro h; cases h; exact hyc rfl) hsl (fun k => by
                rw [hsg k, show 0 * 256 + (tot (r1.take wh) + d) = p * 256 + m by have := HD.out; have := HA.out; omega])
              have HCH : Hid (Chain (splice S4.P (p * 256) ((pageOf S4.P p).set m y)) 0 ((9 - 0) * 256) (r1.take wh) 0 0 kk) := hch
              clear hch hla hsg hsl hblk5 hb04 hd4 hc hcP hd5 hblk HD hd1 hdl
              generalize splice S4.P (p * 256) ((pageOf S4.P p).set m y) = P' at *
              generalize wr.heap.size = gp at *
              go_wp2_with fail
              refine N27.mono ?_
              rintro e w6 ⟨rfl, X6, S6, hd6, hst6, hP6, har6, hdn6, hw6, hops6⟩
              rw [← hP6] at HCH
              have hb6 : Below w.heap.size w w6 := hb5.trans (hst6.below hX4 hb5.size)
              have N12 := open_any w6 X6 q 9 S6 0 9 hd6 (by decide) (by decide) hdn6 (r1.take wh) kk HCH.out (by rw [List.length_take]; omega)
              clear N27 hst6 hb5 hce hz
              go_wp2_with fail
              refine N12.mono ?_
              rintro e w8 ⟨hb8, hcase⟩
              have hb08 : Below w.heap.size w w8 := hb6.trans (hb8.mono hb6.size)
              rcases hcase with ⟨_, v8, t8, rfl, _, hrec8, _⟩ | ⟨hk12, rfl⟩
              · have hwl' : (r1.take wh).length = wh := by rw [List.length_take]; omega
                have hwn : wh ≤ n1 := by have := N1H.out; omega
                have N14 := alike_any w8 v8 (.slice a1 wh c1) (r1.take wh) (r1.take wh) hrec8.rdl ((H1.out.take wh (by omega)).on hb08) (by omega) (by omega)
                rw [decide_eq_true (rfl : r1.take wh = r1.take wh)] at N14
                obtain ⟨va8, vc8, rfl⟩ := hrec8.shape
                rw [hwl'] at N14 ⊢
                clear hrec8 hb8 N12 hb6
                go_wp2_with fail
                refine N14.mono ?_
                rintro e w9 ⟨rfl, kq, hw9⟩
                have hb9 : Below w.heap.size w w9 := by rw [hw9]; exact hb08.trans ⟨rfl, rfl, rfl, Nat.le_refl _, fun _ _ => rfl⟩
                clear hw9
                go_wp2_with fail
                go_ret
                exact ⟨rfl, hb9⟩
              · clear N12 hb8 hb6
                rcases hk12 with rfl | rfl
                · go_wp2_with fail
                  go_ret
                  exact ⟨rfl, hb08⟩
                · go_wp2_with fail
                  go_ret
                  exact ⟨rfl, hb08⟩
end Go.Proofs.Ytpbpcefcnkfbpaa
