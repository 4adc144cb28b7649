/- TapeClears walked. -/
import Derived.Test.YtpbpcefcnkfbpaaWk
namespace Go.Proofs.Ytpbpcefcnkfbpaa
open Go.RowKit Go.Lib Go.Shelf
set_option maxRecDepth 100000

theorem Sl.RdA.on' {w w' : World} {v : Value} {l : List UInt8} (h : Sl.RdA w v l) (hb : Below w.heap.size w w') : Sl.RdA w' v l := Sl.RdA.on h hb

set_option maxHeartbeats 8000000 in
theorem clears_any (w : World) (v1 v2 : Value) (r1 r2 : List (List UInt8)) (h1 : RdL w v1 r1) (h2 : RdL w v2 r2) :
    Calls Try.prog 8 #[v1, v2] w fun e w' => e = .returned (.bool true) ∧ Below w.heap.size w w' := by
  obtain ⟨a1, c1, rfl, hr1⟩ := h1
  obtain ⟨a2, c2, rfl, hr2⟩ := h2
  obtain ⟨n1, hn1⟩ : ∃ n, n = r1.length := ⟨_, rfl⟩
  obtain ⟨n2, hn2⟩ : ∃ n, n = r2.length := ⟨_, rfl⟩
  rw [← hn1, ← hn2]
  have N1H : Hid (n1 = r1.length) := hn1
  have N2H : Hid (n2 = r2.length) := hn2
  clear hn1 hn2
  have hnot : ∀ (b : Bool) (w : World), (Op.unary .not (.bool b)).run Try.prog w = .ok (.bool (!b)) w := fun _ _ => rfl
  go_enter Try.func8, Try.ntmps8
  go_wp2_with fail
  refine (wakes_any w).mono ?_
  rintro e w0 ⟨rfl, hb0⟩
  by_cases hbig : 30 < n1 ∨ 30 < n2
  · rcases Nat.lt_or_ge 30 n1 with h | h
    · have h' : (30 : Int) < (n1 : Int) := by omega
      go_wp2_with fail
      go_ret
      exact ⟨rfl, hb0⟩
    · have h' : ¬ (30 : Int) < (n1 : Int) := by omega
      have h'' : (30 : Int) < (n2 : Int) := by omega
      go_wp2_with fail
      go_ret
      exact ⟨rfl, hb0⟩
  have hs1 : n1 ≤ 30 := by omega
  have hs2 : n2 ≤ 30 := by omega
  clear hbig
  have i1 : ¬ (30 : Int) < (n1 : Int) := by omega
  have i2 : ¬ (30 : Int) < (n2 : Int) := by omega
  have HR1 : Hid _ := hr1
  have HR2 : Hid _ := hr2
  clear hr1 hr2
  have N26 := new_ts w0 80 (by decide) (by decide)
  go_wp2_with fail
  refine N26.mono ?_
  rintro e w1 ⟨X0, q, S0, rfl, hdr0, hP0, hW0, hops0, har0, hdn0, hb1, hX0⟩
  have hla0 : Laid S0.P 0 ((80 - 0) * 256) [] := zeros_laid S0.P 80 0 80 (by rw [hP0, List.length_replicate]) (by decide) (by decide) (by rw [hP0, List.getElem?_replicate, if_pos (by decide)])
  clear hP0 N26
  go_wp2_with fail
  go_loopw [6] (fun kv wr => ∃ (kk : Nat) (X : Nat → Prop) (S : DS), kk ≤ 2 ∧ kv = .int .i64 kk ∧ Drum wr X q 80 S ∧ (kk = 0 → Laid S.P 0 ((80 - 0) * 256) []) ∧ S.armed = 0 ∧ S.down = false ∧ S.W.length ≤ kk * 10 ∧ S.ops ≤ kk * 40000 ∧ Below w.heap.size w wr ∧ (∀ j, X j → w.heap.size ≤ j)) (fun kv _ => 2 - (RowKit.intOf kv).toNat)
  case atStart => exact ⟨0, X0, S0, by omega, rfl, hdr0, fun _ => hla0, har0, hdn0, by rw [hW0]; decide, by omega, hb0.trans (hb1.mono hb0.size), fun j hj => Nat.le_trans hb0.size (hX0 j hj)⟩
  case round =>
    obtain ⟨kk, X, S, hk, rfl, hdr, hlaid, har, hdn, hwl, hops, hbw, hX⟩ := hrel
    rcases (show kk = 0 ∨ kk = 1 ∨ kk = 2 by omega) with rfl | rfl | rfl
    · skip
      have hst0 : ∃ X2 S2, Drum wr X2 q 80 S2 ∧ Laid S2.P 0 ((80 - 0) * 256) [] ∧ S2.armed = 0 ∧ S2.down = false ∧ S2.W.length ≤ 5 ∧ S2.ops ≤ 0 ∧ Below w.heap.size w wr ∧ (∀ j, X2 j → w.heap.size ≤ j) := ⟨X, S, hdr, hlaid rfl, har, hdn, by omega, by omega, hbw, hX⟩
      obtain ⟨X2, S2, hdr2, hla2, har2, hdn2, hw2, hops2, hb2, hX2⟩ := hst0
      clear hlaid
      obtain ⟨w2, hw2'⟩ : ∃ w2, w2 = wr := ⟨_, rfl⟩
      rw [← hw2'] at hdr2 hb2
      have N12 := open_ts w2 X2 q 80 S2 0 80 [] hdr2 hla2 har2 hdn2 (by omega) (by decide) (by decide) (by decide)
      rw [hw2'] at N12
      subst hw2'
      go_wp2_with fail
      refine N12.mono ?_
      rintro e w3 ⟨hb3, v3, t, rfl, ht3, hrec3, hts3⟩
      obtain ⟨va, vc, rfl⟩ := hrec3.shape
      have hb03 : Below w.heap.size w w3 := hb2.trans (hb3.mono hb2.size)
      have htw : w.heap.size ≤ t := Nat.le_trans hb2.size ht3
      clear N12
      go_wp2_with fail
      go_loopw [54] (fun i wr => ∃ (j : Nat) (X4 : Nat → Prop) (S4 : DS), j ≤ n1 ∧ i = .int .i64 j ∧ TS wr X4 t q 80 S4 0 80 (r1.take j) ∧ S4.ops ≤ S2.ops + j * 1000 ∧ S4.W.length ≤ 5 ∧ Below w.heap.size w wr ∧ (∀ j, X4 j → w.heap.size ≤ j) ∧ tot (r1.take j) ≤ j * 612) (fun i _ => n1 - (RowKit.intOf i).toNat)
      case atStart => exact ⟨0, X2, S2, by omega, rfl, by simpa using hts3, by omega, hw2, hb03, hX2, by simp [tot]⟩
      case round =>
        obtain ⟨j, X4, S4, hj, rfl, hts4, hops4, hwl4, hb4, hX4, htot⟩ := hrel
        by_cases hlt : j < n1
        · obtain ⟨x, hx⟩ : ∃ x, r1[j]? = some x := ⟨_, List.getElem?_eq_getElem (by rw [← N1H.out]; exact hlt)⟩
          obtain ⟨b, o, u, hae, e1, f1⟩ := HR1.out j x hx
          cases hae
          have e4 : wr.cell? ⟨b, o + j, none⟩ = some u := (hb4.cell (p := ⟨b, o + j, none⟩) (World.block_lt_of_cell? w _ e1)).trans e1
          have f4 : Sl.RdA wr u x := Sl.RdA.on' f1 hb4
          obtain ⟨ua, uc, rfl⟩ := f4.len
          by_cases hbig : 600 < x.length
          · have hbig' : (600 : Int) < (x.length : Int) := by omega
            go_wp2_with fail
            go_ret
            exact ⟨rfl, hb4⟩
          · have hbig' : ¬ (600 : Int) < (x.length : Int) := by omega
            have htk : r1.take (j + 1) = r1.take j ++ [x] := by
              rw [List.take_add_one, hx]; rfl
            have htkl : (r1.take j).length ≤ 30 := by rw [List.length_take]; omega
            have N17 := append_ts wr X4 t q 80 S4 0 80 (r1.take j) hts4 (by decide) (by decide) (by omega) (by omega) x _ f4 (by omega) (by omega)
            rw [← htk] at N17
            have hopl := opsN_le (tot (r1.take j)) x.length ((80 - 0) * 256)
            go_wp2_with fail
            refine N17.mono ?_
            rintro e w5 ⟨rfl, X5, S5, hts5, hst5, hX5, hops5, hW5, _⟩
            have hab : ∀ k, (X4 k ∨ k = t) → w.heap.size ≤ k := fun k hk => by
              rcases hk with hk | hk
              · exact hX4 k hk
              · rw [hk]; exact htw
            have hb5 : Below w.heap.size w w5 := hb4.trans (hst5.below hab hb4.size)
            have hX5' : ∀ k, X5 k → w.heap.size ≤ k := fun k hk => by
              rcases hX5 k hk with h | h
              · exact hX4 k h
              · exact Nat.le_trans hb4.size h
            go_wp2_with fail
            go_roundw
            case rel => exact ⟨j + 1, X5, S5, by omega, by go_num, hts5, by omega, by rw [hW5]; decide, hb5, hX5', by rw [htk, tot_snoc]; omega⟩
            case measure => simp [RowKit.intOf]; omega
        · have hjn : r1.take j = r1 := List.take_of_length_le (by rw [← N1H.out]; omega)
          rw [hjn] at hts4
          have N12b := open_ts wr X4 q 80 S4 0 80 r1 hts4.d hts4.la hts4.ar hts4.dn hts4.wl (by decide) (by decide) (by have := N1H.out; omega)
          go_wp2_with fail
          refine N12b.mono ?_
          rintro e w6 ⟨hb6, v6, t6, rfl, ht6, hrec6, hts6⟩
          have hb06 : Below w.heap.size w w6 := hb4.trans (hb6.mono hb4.size)
          have hrl : RdL w6 (.slice a1 n1 c1) r1 := ⟨a1, c1, by rw [N1H.out], fun i r hi => by
            obtain ⟨b, o, u, e0, e1, f1⟩ := HR1.out i r hi
            exact ⟨b, o, u, e0, (hb06.cell (p := ⟨b, o + i, none⟩) (World.block_lt_of_cell? w _ e1)).trans e1, Sl.RdA.on' f1 hb06⟩⟩
          have N14 := alike_any w6 v6 _ r1 r1 hrec6.rdl hrl (by have := N1H.out; omega) (by have := N1H.out; omega)
          rw [decide_eq_true (rfl : r1 = r1)] at N14
          obtain ⟨va6, vc6, rfl⟩ := hrec6.shape
          go_wp2_with fail
          refine N14.mono ?_
          rintro e w7 ⟨rfl, kq, hw7⟩
          have hb7 : Below w.heap.size w w7 := by rw [hw7]; exact hb06.trans ⟨rfl, rfl, rfl, Nat.le_refl _, fun _ _ => rfl⟩
          have hd7 : Drum w7 X4 q 80 S4 := by rw [hw7]; exact hts6.d.below ⟨rfl, rfl, rfl, Nat.le_refl _, fun _ _ => rfl⟩
          clear hw7
          go_wp2_with fail
          go_roundw
          case rel => exact ⟨1, X4, S4, by omega, by go_num, hd7, fun h => by omega, hts4.ar, hts4.dn, by omega, by omega, hb7, hX4⟩
          case measure => simp [RowKit.intOf]
    · skip
      have N23 := clear_ts wr X q 80 S 0 80 hdr har hdn (by omega) (by omega) (by decide) (by decide)
      go_wp2_with fail
      refine N23.mono ?_
      rintro e w2 ⟨rfl, X2, S2, hdr2, hst2, hla2, har2, hdn2, hwl2, hops2'⟩
      have hw2 : S2.W.length ≤ 15 := by omega
      have hops2 : S2.ops ≤ 80000 := by omega
      have hb2 : Below w.heap.size w w2 := hbw.trans (hst2.below hX hbw.size)
      have hX2 : ∀ j, X2 j → w.heap.size ≤ j := hst2.above hX hbw.size
      have N12 := open_ts w2 X2 q 80 S2 0 80 [] hdr2 hla2 har2 hdn2 (by omega) (by decide) (by decide) (by decide)
      go_wp2_with fail
      refine N12.mono ?_
      rintro e w3 ⟨hb3, v3, t, rfl, ht3, hrec3, hts3⟩
      obtain ⟨va, vc, rfl⟩ := hrec3.shape
      have hb03 : Below w.heap.size w w3 := hb2.trans (hb3.mono hb2.size)
      have htw : w.heap.size ≤ t := Nat.le_trans hb2.size ht3
      clear N12
      go_wp2_with fail
      go_loopw [54] (fun i wr => ∃ (j : Nat) (X4 : Nat → Prop) (S4 : DS), j ≤ n2 ∧ i = .int .i64 j ∧ TS wr X4 t q 80 S4 0 80 (r2.take j) ∧ S4.ops ≤ S2.ops + j * 1000 ∧ S4.W.length ≤ 15 ∧ Below w.heap.size w wr ∧ (∀ j, X4 j → w.heap.size ≤ j) ∧ tot (r2.take j) ≤ j * 612) (fun i _ => n2 - (RowKit.intOf i).toNat)
      case atStart => exact ⟨0, X2, S2, by omega, rfl, by simpa using hts3, by omega, hw2, hb03, hX2, by simp [tot]⟩
      case round =>
        obtain ⟨j, X4, S4, hj, rfl, hts4, hops4, hwl4, hb4, hX4, htot⟩ := hrel
        by_cases hlt : j < n2
        · obtain ⟨x, hx⟩ : ∃ x, r2[j]? = some x := ⟨_, List.getElem?_eq_getElem (by rw [← N2H.out]; exact hlt)⟩
          obtain ⟨b, o, u, hae, e1, f1⟩ := HR2.out j x hx
          cases hae
          have e4 : wr.cell? ⟨b, o + j, none⟩ = some u := (hb4.cell (p := ⟨b, o + j, none⟩) (World.block_lt_of_cell? w _ e1)).trans e1
          have f4 : Sl.RdA wr u x := Sl.RdA.on' f1 hb4
          obtain ⟨ua, uc, rfl⟩ := f4.len
          by_cases hbig : 600 < x.length
          · have hbig' : (600 : Int) < (x.length : Int) := by omega
            go_wp2_with fail
            go_ret
            exact ⟨rfl, hb4⟩
          · have hbig' : ¬ (600 : Int) < (x.length : Int) := by omega
            have htk : r2.take (j + 1) = r2.take j ++ [x] := by
              rw [List.take_add_one, hx]; rfl
            have htkl : (r2.take j).length ≤ 30 := by rw [List.length_take]; omega
            have N17 := append_ts wr X4 t q 80 S4 0 80 (r2.take j) hts4 (by decide) (by decide) (by omega) (by omega) x _ f4 (by omega) (by omega)
            rw [← htk] at N17
            have hopl := opsN_le (tot (r2.take j)) x.length ((80 - 0) * 256)
            go_wp2_with fail
            refine N17.mono ?_
            rintro e w5 ⟨rfl, X5, S5, hts5, hst5, hX5, hops5, hW5, _⟩
            have hab : ∀ k, (X4 k ∨ k = t) → w.heap.size ≤ k := fun k hk => by
              rcases hk with hk | hk
              · exact hX4 k hk
              · rw [hk]; exact htw
            have hb5 : Below w.heap.size w w5 := hb4.trans (hst5.below hab hb4.size)
            have hX5' : ∀ k, X5 k → w.heap.size ≤ k := fun k hk => by
              rcases hX5 k hk with h | h
              · exact hX4 k h
              · exact Nat.le_trans hb4.size h
            go_wp2_with fail
            go_roundw
            case rel => exact ⟨j + 1, X5, S5, by omega, by go_num, hts5, by omega, by rw [hW5]; decide, hb5, hX5', by rw [htk, tot_snoc]; omega⟩
            case measure => simp [RowKit.intOf]; omega
        · have hjn : r2.take j = r2 := List.take_of_length_le (by rw [← N2H.out]; omega)
          rw [hjn] at hts4
          have N12b := open_ts wr X4 q 80 S4 0 80 r2 hts4.d hts4.la hts4.ar hts4.dn hts4.wl (by decide) (by decide) (by have := N2H.out; omega)
          go_wp2_with fail
          refine N12b.mono ?_
          rintro e w6 ⟨hb6, v6, t6, rfl, ht6, hrec6, hts6⟩
          have hb06 : Below w.heap.size w w6 := hb4.trans (hb6.mono hb4.size)
          have hrl : RdL w6 (.slice a2 n2 c2) r2 := ⟨a2, c2, by rw [N2H.out], fun i r hi => by
            obtain ⟨b, o, u, e0, e1, f1⟩ := HR2.out i r hi
            exact ⟨b, o, u, e0, (hb06.cell (p := ⟨b, o + i, none⟩) (World.block_lt_of_cell? w _ e1)).trans e1, Sl.RdA.on' f1 hb06⟩⟩
          have N14 := alike_any w6 v6 _ r2 r2 hrec6.rdl hrl (by have := N2H.out; omega) (by have := N2H.out; omega)
          rw [decide_eq_true (rfl : r2 = r2)] at N14
          obtain ⟨va6, vc6, rfl⟩ := hrec6.shape
          go_wp2_with fail
          refine N14.mono ?_
          rintro e w7 ⟨rfl, kq, hw7⟩
          have hb7 : Below w.heap.size w w7 := by rw [hw7]; exact hb06.trans ⟨rfl, rfl, rfl, Nat.le_refl _, fun _ _ => rfl⟩
          have hd7 : Drum w7 X4 q 80 S4 := by rw [hw7]; exact hts6.d.below ⟨rfl, rfl, rfl, Nat.le_refl _, fun _ _ => rfl⟩
          clear hw7
          go_wp2_with fail
          go_roundw
          case rel => exact ⟨2, X4, S4, by omega, by go_num, hd7, fun h => by omega, hts4.ar, hts4.dn, by omega, by omega, hb7, hX4⟩
          case measure => simp [RowKit.intOf]
    · go_wp2_with fail
      go_ret
      exact ⟨rfl, hbw⟩
end Go.Proofs.Ytpbpcefcnkfbpaa
