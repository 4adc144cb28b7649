/- TapeKeeps walked. -/
import Derived.Test.YtpbpcefcnkfbpaaKp
namespace Go.Proofs.Ytpbpcefcnkfbpaa
open Go.RowKit Go.Lib Go.Shelf
set_option maxRecDepth 100000

theorem rda_at {w w' : World} {g n c : Nat} {l : List UInt8} (h : Sl.RdA w (.slice (some ⟨g, 0, none⟩) n c) l) (hb : w'.heap[g]? = w.heap[g]?) : Sl.RdA w' (.slice (some ⟨g, 0, none⟩) n c) l := by
  rcases h with (⟨h1, _⟩ | ⟨b, o, c', h1, h2, h3⟩) | ⟨⟨a, c', h1⟩, h2⟩
  · cases h1
  · cases h1
    exact .inl (.inr ⟨g, 0, _, rfl, h2, fun i hi => by have := h3 i hi; simp only [World.cell?] at this ⊢; rw [hb]; exact this⟩)
  · cases h1
    exact .inr ⟨⟨_, _, rfl⟩, h2⟩
theorem WN.sep {w wr : World} {X : Nat → Prop} {t : Nat} {v : Value} {rs : List (List UInt8)} (h : WN w wr X t v rs) : ∀ k, v.ownBlock = some k → w.heap.size ≤ k ∧ ¬ X k ∧ k ≠ t := by
  obtain ⟨_, _, hb, _⟩ := h
  exact hb

theorem le_tot : ∀ (rs : List (List UInt8)) (k : Nat) (x : List UInt8), rs[k]? = some x → x.length ≤ tot rs
  | [], k, x, h => by simp at h
  | r :: rs, 0, x, h => by
    have h : r = x := by simpa using h
    subst h
    simp [tot]; omega
  | r :: rs, k + 1, x, h => by
    have := le_tot rs k x (by simpa using h)
    simp [tot] at this ⊢; omega
set_option maxHeartbeats 8000000 in
theorem keeps_any (w : World) (v1 : Value) (r1 : List (List UInt8)) (h1 : RdL w v1 r1) :
    Calls Try.prog 7 #[v1] w fun e w' => e = .returned (.bool true) ∧ Below w.heap.size w w' := by
  obtain ⟨a1, c1, rfl, hr1⟩ := h1
  obtain ⟨n1, hn1⟩ : ∃ n, n = r1.length := ⟨_, rfl⟩
  rw [← hn1]
  have N1H : Hid (n1 = r1.length) := hn1
  clear hn1
  have hnot : ∀ (b : Bool) (w : World), (Op.unary .not (.bool b)).run Try.prog w = .ok (.bool (!b)) w := fun _ _ => rfl
  go_enter Try.func7, Try.ntmps7
  go_wp2_with fail
  refine (wakes_any w).mono ?_
  rintro e w0 ⟨rfl, hb0⟩
  by_cases hbig : 30 < n1
  · have h' : (30 : Int) < (n1 : Int) := by omega
    go_wp2_with fail
    go_ret
    exact ⟨rfl, hb0⟩
  have hs1 : n1 ≤ 30 := by omega
  clear hbig
  have i1 : ¬ (30 : Int) < (n1 : Int) := by omega
  have HR1 : Hid _ := hr1
  clear hr1
  have N26 := new_ts w0 60 (by decide) (by decide)
  go_wp2_with fail
  refine N26.mono ?_
  rintro e w1 ⟨X0, q, S0, rfl, hdr0, hP0, hW0, hops0, har0, hdn0, hb1, hX0⟩
  have hla0 : Laid S0.P 0 ((60 - 0) * 256) [] := zeros_laid S0.P 60 0 60 (by rw [hP0, List.length_replicate]) (by decide) (by decide) (by rw [hP0, List.getElem?_replicate, if_pos (by decide)])
  clear hP0 N26
  have hb01 : Below w.heap.size w w1 := hb0.trans (hb1.mono hb0.size)
  have hX0' : ∀ j, X0 j → w.heap.size ≤ j := fun j hj => Nat.le_trans hb0.size (hX0 j hj)
  have N12 := open_ts w1 X0 q 60 S0 0 60 [] hdr0 hla0 har0 hdn0 (by rw [hW0]; decide) (by decide) (by decide) (by decide)
  go_wp2_with fail
  refine N12.mono ?_
  rintro e w3 ⟨hb3, v3, t, rfl, ht3, hrec3, hts3⟩
  obtain ⟨va, vc, rfl⟩ := hrec3.shape
  have hb03 : Below w.heap.size w w3 := hb01.trans (hb3.mono hb01.size)
  have htw : w.heap.size ≤ t := Nat.le_trans hb01.size ht3
  clear N12 hrec3
  go_wp2_with fail
  go_loopw [35, 7] (fun i v7 wr => ∃ (j : Nat) (X4 : Nat → Prop) (S4 : DS), j ≤ n1 ∧ i = .int .i64 j ∧ TS wr X4 t q 60 S4 0 60 (r1.take j) ∧ S4.ops ≤ S0.ops + j * 1000 ∧ S4.W.length ≤ 5 ∧ Below w.heap.size w wr ∧ (∀ j, X4 j → w.heap.size ≤ j) ∧ tot (r1.take j) ≤ j * 412 ∧ WN w wr X4 t v7 (r1.take j)) (fun i _ _ => n1 - (RowKit.intOf i).toNat)
  case atStart => exact ⟨0, X0, S0, by omega, rfl, by simpa using hts3, by omega, by rw [hW0]; decide, hb03, hX0', by simp [tot], by simpa using WN.nil w w3 X0 t⟩
  case round =>
    obtain ⟨j, X4, S4, hj, rfl, hts4, hops4, hwl4, hb4, hX4, htot, hwn4⟩ := hrel
    clear hb0 hb1 hb3 hb01 hb03 hts3 hla0 hdr0 hX0
    by_cases hlt : j < n1
    · obtain ⟨x, hx⟩ : ∃ x, r1[j]? = some x := ⟨_, List.getElem?_eq_getElem (by rw [← N1H.out]; exact hlt)⟩
      obtain ⟨b, o, u, hae, e1, f1⟩ := HR1.out j x hx
      cases hae
      have e4 : wr.cell? ⟨b, o + j, none⟩ = some u := (hb4.cell (p := ⟨b, o + j, none⟩) (World.block_lt_of_cell? w _ e1)).trans e1
      have f4 : Sl.RdA wr u x := Sl.RdA.on f1 hb4
      obtain ⟨ua, uc, rfl⟩ := f4.len
      by_cases hbig : 400 < x.length
      · have hbig' : (400 : Int) < (x.length : Int) := by omega
        go_wp2_with fail
        go_ret
        exact ⟨rfl, hb4⟩
      · have hbig' : ¬ (400 : Int) < (x.length : Int) := by omega
        have htk : r1.take (j + 1) = r1.take j ++ [x] := by
          rw [List.take_add_one, hx]; rfl
        have htkl : (r1.take j).length = j := by rw [List.length_take, ← N1H.out]; omega
        have f4n : Sl.RdA (wr.alloc (.cells #[] 5)) (.slice ua x.length uc) x := Sl.RdA.on f4 (Sl.below_new _ _)
        go_wp2_with (at_builtin; refine Sl.appB rfl (.tmp 42) (.tmp 43) rfl wr.heap.size _ _ [] x (wr.alloc (.cells #[] 5)) rfl (Sl.own_empty wr _ (Nat.le_refl _)) rfl f4n (by simp; omega) (by simp) ?_)
        intro v2 w5 ho2 hb5
        have ho2 : Sl.Own w5 wr.heap.size v2 x := ho2
        have hb5' : Below wr.heap.size wr w5 := (Sl.below_new wr (.cells #[] 5)).trans hb5
        clear hb5
        (refine Sl.appS rfl (.tmp 44) (.const (.string ⟨#[115, 112, 97, 114, 101, 32, 114, 111, 111, 109, 32, 111, 102, 32, 105, 116]⟩)) rfl wr.heap.size v2 x w5 ⟨#[115, 112, 97, 114, 101, 32, 114, 111, 111, 109, 32, 111, 102, 32, 105, 116]⟩ rfl ho2 rfl (by simp [ByteArray.size]; omega) hb5'.size ?_)
        intro v6 w6 ho6 hb6
        have ho6' : Sl.Own w6 wr.heap.size v6 (x ++ spare) := ho6
        obtain ⟨g, cp, C6, rfl, hgB, hlc, hC6, hg6, hr6, hm6⟩ := own16 ho6'
        have hb46 : Below wr.heap.size wr w6 := hb5'.trans hb6
        clear ho6 ho6' ho2 hb5' hb6 f4n
        have hts6 : TS w6 X4 t q 60 S4 0 60 (r1.take j) := hts4.on (Step.of_below (X := fun _ => False) hb46) (fun _ _ h => h) (fun h => h)
        have hwn6 : WN w w6 X4 t u7 (r1.take j) := hwn4.on (Step.of_below (X := fun _ => False) hb46) (fun _ _ h => h) (fun _ h => .inl h)
        have N17 := append_ts w6 X4 t q 60 S4 0 60 (r1.take j) hts6 (by decide) (by decide) (by omega) (by omega) x _ hr6 (by omega) (by omega)
        rw [← htk] at N17
        have hopl := opsN_le (tot (r1.take j)) x.length ((60 - 0) * 256)
        go_wp2_with fail
        refine N17.mono ?_
        rintro e w7 ⟨rfl, X7, S7, hts7, hst7, hX7, hops7, hW7, _⟩
        clear N17
        have hglt : g < w6.heap.size := (Array.getElem?_eq_some_iff.1 hg6).1
        have htlt : t < wr.heap.size := hts4.tp.lt
        have hxlt : ∀ k, X4 k → k < wr.heap.size := hts4.d.xlt
        have hgn : ¬ (X4 g ∨ g = t) := fun h => by
          rcases h with h | h
          · have := hxlt g h; omega
          · omega
        have hg7' : w7.heap[g]? = w6.heap[g]? := hst7.block g hglt hgn
        have hg7 : Hid (w7.heap[g]? = some (.cells C6 5 (0, 0))) := hg7'.trans hg6
        have hm7 := rda_at hm6 hg7'
        have hab : ∀ k, (X4 k ∨ k = t) → w.heap.size ≤ k := fun k hk => by
          rcases hk with hk | hk
          · exact hX4 k hk
          · rw [hk]; exact htw
        have hb6w : Below w.heap.size w w6 := hb4.trans (hb46.mono hb4.size)
        have hb7 : Below w.heap.size w w7 := hb6w.trans (hst7.below hab hb6w.size)
        have hX7' : ∀ k, X7 k → w.heap.size ≤ k := fun k hk => by
          rcases hX7 k hk with h | h
          · exact hX4 k h
          · exact Nat.le_trans hb6w.size h
        have hgX7 : ¬ X7 g := fun h => by
          rcases hX7 g h with h | h
          · exact hgn (.inl h)
          · omega
        have hgt : g ≠ t := fun h => hgn (.inr h)
        have hsep := hwn4.sep
        have hwn7 : WN w w7 X7 t u7 (r1.take j) := hwn6.on hst7 (fun k hk h => by
          rcases h with h | h
          · exact (hsep k hk).2.1 h
          · exact (hsep k hk).2.2 h) hX7
        have hug : ∀ k, u7.ownBlock = some k → k ≠ g := fun k hk => by have := hwn4.lt k hk; omega
        have hgw : w.heap.size ≤ g := Nat.le_trans hb4.size hgB
        have f7 : Sl.RdA w7 (.slice ua x.length uc) x := Sl.RdA.on f1 hb7
        have q1 : (convert 22 9 (.slice (some ⟨g, 0, none⟩) (x.length + 16) cp)).run Try.prog w7 = .ok (.string (spare_of x)) w7 := by
          rw [spare_string]; exact convA hm7
        have q2 : (convert 22 9 (.slice ua x.length uc)).run Try.prog w7 = .ok (.string ⟨x.toArray⟩) w7 := convA f7
        have hAdd : (⟨x.toArray⟩ : ByteArray) ++ ⟨#[115, 112, 97, 114, 101, 32, 114, 111, 111, 109, 32, 111, 102, 32, 105, 116]⟩ = spare_of x := rfl
        have hSl : (⟨x.toArray⟩ : ByteArray).size ≤ 400 := by simp [ByteArray.size]; omega
        have hq : ((spare_of x).toList == (spare_of x).toList) = true := by simp
        have HT7 : Hid _ := hts7
        have HN7 : Hid _ := hwn7
        have HB7 : Hid _ := hb7
        have F1 : Hid _ := f1
        clear hts7 hwn7 hb7 hm7 f7 hg7' hm6 hr6 hg6 hb46 hts6 hwn6 hb6w hst7 hts4 hwn4 f4 e4 f1 e1 hxlt hb4
        generalize spare_of x = M at *
        generalize hSS : (⟨x.toArray⟩ : ByteArray) = SS at *
        clear hSS
        go_wp2_with fail
        go_loopw [64] (fun i wr => ∃ k : Nat, k ≤ x.length + 16 ∧ i = .int .i64 k ∧ (∃ C : Array Value, C.size = cp ∧ wr.heap[g]? = some (.cells C 5 (0, 0))) ∧ TS wr X7 t q 60 S7 0 60 (r1.take (j + 1)) ∧ WN w wr X7 t u7 (r1.take j) ∧ Below w.heap.size w wr) (fun i _ => x.length + 16 - (RowKit.intOf i).toNat)
        case atStart => exact ⟨0, by omega, rfl, ⟨C6, hC6, hg7.out⟩, HT7.out, HN7.out, HB7.out⟩
        case round =>
          obtain ⟨k, hk, rfl, ⟨C, hC, hbb⟩, htsr, hwnr, hbr⟩ := hrel
          clear hg7 HT7 HN7 HB7 q1 q2 hAdd hq
          by_cases hkl : k < x.length + 16
          · have hc : wr.cell? ⟨g, k, none⟩ = some (C[k]'(by omega)) := by rw [cell_of_row _ _ _ _ _ _ hbb]; simp [show k < C.size by omega]
            have hz := frozen_of_row wr g k _ _ hbb
            have HN : Hid (∀ u, (∃ C : Array Value, C.size = cp ∧ (wr.setCell ⟨g, k, none⟩ u).heap[g]? = some (.cells C 5 (0, 0))) ∧ TS (wr.setCell ⟨g, k, none⟩ u) X7 t q 60 S7 0 60 (r1.take (j + 1)) ∧ WN w (wr.setCell ⟨g, k, none⟩ u) X7 t u7 (r1.take j) ∧ Below w.heap.size w (wr.setCell ⟨g, k, none⟩ u)) := fun u =>
              ⟨⟨_, by simpa using hC, heap_setCell_same _ _ _ _ _ _ hbb⟩, htsr.on (step_at wr g k u) (fun j hj e => hgX7 (e ▸ hj)) (fun e => hgt e.symm), hwnr.on (step_at wr g k u) (fun k' hk' e => hug k' hk' e) (fun _ h => .inl h), hbr.setCell hgw u⟩
            clear hbb htsr hwnr hbr
            go_wp2
            go_roundw
            case rel => exact ⟨k + 1, by omega, by go_num, HN.out _⟩
            case measure => simp [RowKit.intOf]; omega
          · clear hbb hC
            have hxl2 := htsr.d.xlt
            have htl2 := htsr.tp.lt
            obtain ⟨vals, ho, hbv, hrr⟩ := hwnr
            go_wp2_with (at_builtin; refine wpList_plain rfl (fun K hK => wp_push1 (.tmp 71) (.tmp 73) 33 22 (.slice none 0 0) 24 rfl Try.underlying33 info22 rfl (by decide) wr _ (r1.take j).length vals ho _ rfl (by omega) rfl rfl (fun g1 cap w9 hpu => hK _ _ ?_)))
            have hwn9 : WN w w9 X7 t (.slice (some ⟨g1, 0, none⟩) ((r1.take j).length + 1) cap) (r1.take (j + 1)) := by
              rw [htk]; exact WN.push hbr.size hxl2 htl2 ho hbv hrr F1.out hpu.out
            rw [htkl] at hwn9
            have hts9 := htsr.on hpu.out.step (fun k hk h => (hbv k h).2.1 hk) (fun h => (hbv t h).2.2 rfl)
            have hb9 : Below w.heap.size w w9 := hbr.trans (hpu.out.step.below (fun k h => (hbv k h).1) hbr.size)
            clear hpu ho
            go_wp2_with fail
            go_roundw
            case rel => exact ⟨j + 1, X7, S7, by omega, by go_num, hts9, by omega, by rw [hW7]; decide, hb9, hX7', by rw [htk, tot_snoc]; omega, hwn9⟩
            case measure => simp [RowKit.intOf]; omega
    · have hjn : r1.take j = r1 := List.take_of_length_le (by rw [← N1H.out]; omega)
      rw [hjn] at hts4 hwn4 htot
      have N12b := open_ts wr X4 q 60 S4 0 60 r1 hts4.d hts4.la hts4.ar hts4.dn hts4.wl (by decide) (by decide) (by have := N1H.out; omega)
      have hrn : r1.length ≤ 30 := by have := N1H.out; omega
      go_wp2_with fail
      refine N12b.mono ?_
      rintro e w6 ⟨hb6, v6, t6, rfl, ht6, hrec6, _⟩
      obtain ⟨va6, vc6, rfl⟩ := hrec6.shape
      have hB1 : ∀ k, X4 k → k < wr.heap.size := hts4.d.xlt
      have hB2 : t < wr.heap.size := hts4.tp.lt
      have hB3 : ∀ k, u7.ownBlock = some k → k < wr.heap.size := hwn4.lt
      have hB4 : w.heap.size ≤ wr.heap.size := hb4.size
      have hb06 : Below w.heap.size w w6 := hb4.trans (hb6.mono hb4.size)
      have hst6 : Step (fun _ => False) (fun _ => False) wr w6 := Step.of_below hb6
      have hts6 := hts4.on hst6 (fun _ _ h => h) (fun h => h)
      have hwn6 : WN w w6 X4 t u7 r1 := hwn4.on hst6 (fun _ _ h => h) (fun _ h => .inl h)
      have hls6 := hrec6.ls
      clear hrec6 hst6 hts4 hwn4 hb6 ht6 N12b hb4
      generalize wr.heap.size = B at *
      go_wp2_with fail
      go_loopw [84] (fun i wr => ∃ k : Nat, k ≤ r1.length ∧ i = .int .i64 k ∧ LS wr B (.slice va6 r1.length vc6) r1 ∧ TS wr X4 t q 60 S4 0 60 r1 ∧ WN w wr X4 t u7 r1 ∧ Below w.heap.size w wr) (fun i _ => r1.length - (RowKit.intOf i).toNat)
      case atStart => exact ⟨0, by omega, rfl, hls6, hts6, hwn6, hb06⟩
      case round =>
        clear hls6 hts6 hwn6 hb06
        obtain ⟨k, hk, rfl, hls, hts, hwn, hbr⟩ := hrel
        by_cases hkl : k < r1.length
        · obtain ⟨x, hx⟩ : ∃ x, r1[k]? = some x := ⟨_, List.getElem?_eq_getElem hkl⟩
          have hx4 := le_tot r1 k x hx
          have hsl : ∀ wz, LS wz B (.slice va6 r1.length vc6) r1 → ∃ gl g C, va6 = some ⟨gl, 0, none⟩ ∧ wz.cell? ⟨gl, k, none⟩ = some (.slice (some ⟨g, 0, none⟩) x.length x.length) ∧ B ≤ g ∧ C.size = x.length ∧ wz.heap[g]? = some (.cells C 5 (0, 0)) := by
            rintro wz ⟨vals, ho, hr⟩
            obtain ⟨g, C, z1, z2, z3, z4⟩ := hr k x hx
            obtain ⟨gl, c', y1, y2⟩ := own_cell ho z1 hkl
            cases y1
            exact ⟨gl, g, C, rfl, y2, z2, z3, z4⟩
          obtain ⟨gl, g, C, rfl, y2, z2, z3, z4⟩ := hsl _ hls
          have HSL : Hid _ := hsl
          clear hsl z4
          go_wp2_with fail
          go_loopw [92] (fun i wr => ∃ m : Nat, m ≤ x.length ∧ i = .int .i64 m ∧ LS wr B (.slice (some ⟨gl, 0, none⟩) r1.length vc6) r1 ∧ TS wr X4 t q 60 S4 0 60 r1 ∧ WN w wr X4 t u7 r1 ∧ Below w.heap.size w wr) (fun i _ => x.length - (RowKit.intOf i).toNat)
          case atStart => exact ⟨0, by omega, rfl, hls, hts, hwn, hbr⟩
          case round =>
            clear hls hts hwn hbr y2 z2 z3
            obtain ⟨m, hm, rfl, hls, hts, hwn, hbr⟩ := hrel
            by_cases hml : m < x.length
            · obtain ⟨gl', g', C', e', y2, z2, z3, z4⟩ := HSL.out _ hls
              cases e'
              obtain ⟨cv, hc⟩ : ∃ cv, wr.cell? ⟨g', m, none⟩ = some cv := ⟨C'[m]'(by omega), by rw [cell_of_row _ _ _ _ _ _ z4]; simp [show m < C'.size by omega]⟩
              have hz := frozen_of_row wr g' m _ _ z4
              have HN : Hid (∀ u, LS (wr.setCell ⟨g', m, none⟩ u) B (.slice (some ⟨gl, 0, none⟩) r1.length vc6) r1 ∧ TS (wr.setCell ⟨g', m, none⟩ u) X4 t q 60 S4 0 60 r1 ∧ WN w (wr.setCell ⟨g', m, none⟩ u) X4 t u7 r1 ∧ Below w.heap.size w (wr.setCell ⟨g', m, none⟩ u)) := fun u =>
                ⟨hls.set z4 u, hts.on (step_at wr g' m u) (fun j hj e => by have := hB1 j hj; have e : j = g' := e; omega) (fun e => by have e : t = g' := e; omega), hwn.on (step_at wr g' m u) (fun k' hk' e => by have := hB3 k' hk'; have e : k' = g' := e; omega) (fun _ h => .inl h), hbr.setCell (by show w.heap.size ≤ g'; omega) u⟩
              have HM : Hid (m + 1 ≤ x.length) := hml
              clear z4 hls hts hwn hbr z3
              have HM2 : m + 1 ≤ 100000 := by omega
              go_wp2
              go_roundw
              case rel => exact ⟨m + 1, HM.out, by go_num, HN.out _⟩
              case measure => have := HM.out; simp [RowKit.intOf]; omega
            · go_wp2_with fail
              go_roundw
              case rel => exact ⟨k + 1, by omega, by go_num, hls, hts, hwn, hbr⟩
              case measure => simp [RowKit.intOf]; omega
        · have N12c := open_ts wr X4 q 60 S4 0 60 r1 hts.d hts.la hts.ar hts.dn hts.wl (by decide) (by decide) (by omega)
          go_wp2_with fail
          refine N12c.mono ?_
          rintro e w8 ⟨hb8, v8, t8, rfl, ht8, hrec8, _⟩
          have hb08 : Below w.heap.size w w8 := hbr.trans (hb8.mono hbr.size)
          have hwn8 : WN w w8 X4 t u7 r1 := hwn.on (Step.of_below (X := fun _ => False) hb8) (fun _ _ h => h) (fun _ h => .inl h)
          have N14 := alike_any w8 v8 u7 r1 r1 hrec8.rdl (hwn8.rdl hb08) (by omega) (by omega)
          rw [decide_eq_true (rfl : r1 = r1)] at N14
          obtain ⟨va8, vc8, rfl⟩ := hrec8.shape
          clear hwn8 hrec8 hb8 hwn hls hts hbr N12c
          go_wp2_with fail
          refine N14.mono ?_
          rintro e w9 ⟨rfl, kq, hw9⟩
          have hb9 : Below w.heap.size w w9 := by rw [hw9]; exact hb08.trans ⟨rfl, rfl, rfl, Nat.le_refl _, fun _ _ => rfl⟩
          clear hw9
          go_wp2_with fail
          go_ret
          exact ⟨rfl, hb9⟩
end Go.Proofs.Ytpbpcefcnkfbpaa
