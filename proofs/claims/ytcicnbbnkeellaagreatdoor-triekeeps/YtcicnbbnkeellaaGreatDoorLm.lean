/- The law TrieMatches walked: it answers true of any two lists of texts. Conditions: Vars, what the library's tables hold when the call begins, and texts of a length that Go knows. -/
import Derived.Test.YtcicnbbnkeellaaGreatDoorWk
import Derived.Test.YtcicnbbnkeellaaGreatDoorLf
namespace Go.Proofs.YtcicnbbnkeellaaGreatDoor
open Go.RowKit Go.Lib
set_option maxRecDepth 100000

theorem txt_at {w wr : World} {a : Option Addr} {n c : Nat} {ps : List (List UInt8)} (h : To.RdV w (.slice a n c) (ps.map str)) (hb : Below w.heap.size w wr) {k : Nat} (hk : k < ps.length) :
    ∃ b o, a = some ⟨b, o, none⟩ ∧ wr.cell? ⟨b, o + k, none⟩ = some (.string ⟨(ps.getD k []).toArray⟩) := by
  obtain ⟨b, o, h1, h2⟩ := To.RdV.at (h.on hb) (j := k) (by rw [List.length_map]; exact hk)
  refine ⟨b, o, h1, ?_⟩
  rw [h2]
  simp [str, hk]
theorem getD_len {ps : List (List UInt8)} {B : Nat} (h : ∀ x ∈ ps, x.length ≤ B) (k : Nat) : (ps.getD k []).length ≤ B := by
  by_cases hk : k < ps.length
  · have := h _ (List.getElem_mem hk)
    simpa [hk] using this
  · simp [hk]

set_option maxHeartbeats 4000000 in
theorem matches_law (w : World) (hv : To.Vars w) (vp vn : Value) (ps ns : List (List UInt8)) (hp : To.RdV w vp (ps.map str)) (hn : To.RdV w vn (ns.map str)) (hpl : ∀ x ∈ ps, x.length ≤ maxLen) :
    Calls Tryz.prog 6 #[vp, vn] w fun e w' => e = .returned (.bool true) ∧ Below w.heap.size w w' := by
  have hwk := wakes_any w hv
  obtain ⟨ap, cp, rfl⟩ := hp.len
  obtain ⟨an, cn, rfl⟩ := hn.len
  rw [List.length_map] at hp hn ⊢
  rw [List.length_map]
  obtain ⟨n, hnn⟩ : ∃ n, ps.length = n := ⟨_, rfl⟩
  obtain ⟨m, hmm⟩ : ∃ m, ns.length = m := ⟨_, rfl⟩
  rw [hnn] at hp ⊢
  rw [hmm] at hn ⊢
  have HN : Hid (ps.length = n) := hnn
  have HM : Hid (ns.length = m) := hmm
  have HP : Hid (To.RdV w (.slice ap n cp) (ps.map str)) := hp
  have HNS : Hid (To.RdV w (.slice an m cn) (ns.map str)) := hn
  have HL : Hid (∀ k, (ps.getD k []).length ≤ 9223372036854775807) := fun k => getD_len hpl k
  have HV : Hid (To.Vars w) := hv
  clear hp hn hpl hnn hmm hv
  by_cases hA : 60 < n
  · have hAz : (60 : Int) < (n : Int) := by omega
    go_enter Tryz.func6, Tryz.ntmps6
    go_wp2_with (go_at_call 8; refine hwk.mono ?_; rintro e w1 ⟨rfl, hb1⟩)
    go_ret
    exact ⟨rfl, hb1⟩
  have hAz : ¬ (60 : Int) < (n : Int) := by omega
  by_cases hB : 40 < m
  · have hBz : (40 : Int) < (m : Int) := by omega
    go_enter Tryz.func6, Tryz.ntmps6
    go_wp2_with (go_at_call 8; refine hwk.mono ?_; rintro e w1 ⟨rfl, hb1⟩)
    go_ret
    exact ⟨rfl, hb1⟩
  have hBz : ¬ (40 : Int) < (m : Int) := by omega
  go_enter Tryz.func6, Tryz.ntmps6
  go_wp2_with fail
  refine hwk.mono ?_
  rintro e w1 ⟨rfl, hb1⟩
  have hnew := new_st (K := fun _ => False) hb1 (fun b h => h.elim)
  clear hwk
  go_wp2_with fail
  refine hnew.mono ?_
  rintro e w2 ⟨rfl, h2, _⟩
  obtain ⟨t, ht⟩ : ∃ t, w1.heap.size + 2 = t := ⟨_, rfl⟩
  rw [ht] at h2 ⊢
  have H2 : Hid (St w (fun _ => False) w2 t 0 []) := h2
  clear h2 hnew hb1 ht
  go_wp2_with fail
  go_loopg [6, 7, 26] n (fun gg _ _ s26 wr => ∃ kk : Nat, kk ≤ n ∧ n - kk ≤ gg ∧ s26 = .int .i64 kk ∧ Hid (St w (fun _ => False) wr t (8 * kk) (adds ps idx kk)))
  case atStart => exact ⟨0, Nat.zero_le _, by omega, rfl, H2.out⟩
  case round =>
    obtain ⟨kk, hkk, hg, rfl, HS⟩ := hrel
    clear H2
    by_cases hlt : kk < n
    · have hltz : (kk : Int) < (n : Int) := by omega
      obtain ⟨b, o, rfl, hc⟩ := txt_at HP.out HS.out.below (k := kk) (by rw [HN.out]; exact hlt)
      have ha := HS.out.add HV.out (ps.getD kk []) (HL.out kk) (idx kk) (by omega)
      simp only [str, idx] at ha
      generalize hx : (⟨(ps.getD kk []).toArray⟩ : ByteArray) = x at hc ha
      clear hx
      go_wp2_with fail
      refine ha.mono ?_
      rintro e w3 ⟨rfl, h3, _⟩
      have H3 : Hid (St w (fun _ => False) w3 t (8 * (kk + 1)) (adds ps idx (kk + 1))) := h3
      clear h3 ha hc HS
      go_wp2
      go_roundg (n - (kk + 1))
      case measure => omega
      case rel => exact ⟨kk + 1, by omega, by omega, by go_num, H3.out⟩
    · have hltz : ¬ (kk : Int) < (n : Int) := by omega
      obtain rfl : kk = n := by omega
      clear hg hkk
      go_wp2_with fail
      go_loopg [9, 10, 11, 12, 38] m (fun gg _ _ _ _ s38 wy => ∃ jj : Nat, jj ≤ m ∧ m - jj ≤ gg ∧ s38 = .int .i64 jj ∧ Hid (St w (fun _ => False) wy t (8 * kk) (adds ps idx kk)))
      case atStart => exact ⟨0, Nat.zero_le _, by omega, rfl, HS.out⟩
      case round =>
        obtain ⟨jj, hjj, hg, rfl, HS2⟩ := hrel
        clear HS
        by_cases hlj : jj < m
        · have hljz : (jj : Int) < (m : Int) := by omega
          obtain ⟨b2, o2, rfl, hc2⟩ := txt_at HNS.out HS2.out.below (k := jj) (by rw [HM.out]; exact hlj)
          obtain ⟨s, hs⟩ : ∃ s, ns.getD jj [] = s := ⟨_, rfl⟩
          rw [hs] at hc2
          obtain ⟨wy, hwy⟩ : ∃ wy, wy = wr := ⟨_, rfl⟩
          subst hwy
          clear hs
          go_wp2_with fail
          go_loopg [10, 11, 12, 44] kk (fun gg s10 _ _ s44 wz => ∃ (i : Nat) (a : Option Addr) (q c : Nat), i ≤ kk ∧ kk - i ≤ gg ∧ s44 = .int .i64 i ∧ s10 = .slice a q c ∧ Hid (To.OwnV 3 wz wy.heap.size (.slice a q c) (ints (want ps s i))) ∧ Hid (Below wy.heap.size wy wz))
          case atStart => exact ⟨0, none, 0, 0, Nat.zero_le _, by omega, rfl, rfl, To.OwnV.nil _ _ _, Below.refl _ _⟩
          case round =>
            obtain ⟨i, av, qv, cv, hik, hgi, rfl, rfl, HO, HB⟩ := hrel
            have HSz : Hid (St w (fun _ => False) wr t (8 * kk) (adds ps idx kk)) := HS2.out.on HB.out
            by_cases hli : i < kk
            · have hliz : (i : Int) < (kk : Int) := by omega
              obtain ⟨b, o, rfl, hc⟩ := txt_at HP.out HSz.out.below (k := i) (by rw [HN.out]; exact hli)
              have hma := To.match_any wr (HSz.out.vars HV.out) (ps.getD i []) s
              have hws := want_succ ps s i
              have hwl := want_len ps s i
              generalize mat (ps.getD i []) s = r at hma hws
              simp only [To.str] at hma
              generalize hx : (⟨(ps.getD i []).toArray⟩ : ByteArray) = x at hc hma
              clear hx
              cases r with
              | false =>
                rw [if_neg (by simp)] at hws
                have HW : Hid (want ps s (i + 1) = want ps s i) := hws
                clear hws
                go_wp2_with fail
                refine hma.mono ?_
                rintro e w5 ⟨rfl, hb5⟩
                have HO5 : Hid (To.OwnV 3 w5 wy.heap.size (.slice av qv cv) (ints (want ps s (i + 1)))) := by
                  show To.OwnV _ _ _ _ _
                  rw [HW.out]
                  exact HO.out.on hb5
                have HB5 : Hid (Below wy.heap.size wy w5) := nxt HB.out hb5
                clear hma hb5 HO HB HSz hc hc2
                go_wp2
                go_roundg (kk - (i + 1))
                case measure => omega
                case rel => exact ⟨i + 1, av, qv, cv, by omega, by omega, by go_num, rfl, HO5.out, HB5.out⟩
              | true =>
                rw [if_pos rfl] at hws
                have HW : Hid (want ps s (i + 1) = want ps s i ++ [(i : Int)]) := hws
                clear hws
                go_wp2_with fail
                refine hma.mono ?_
                rintro e w5 ⟨rfl, hb5⟩
                have ho5 := HO.out.on hb5
                have hb6 : Below wy.heap.size wy w5 := nxt HB.out hb5
                have HO5 : Hid (To.OwnV 3 (w5.alloc (.cells #[.int .i64 (i : Int)] 3)) wy.heap.size (.slice av qv cv) (ints (want ps s i))) := ho5.on ((Below.refl _ _).alloc (Nat.le_refl _) _)
                have HB5 : Hid (Below wy.heap.size wy w5) := hb6
                have hsz5 := hb6.size
                have hll : (ints (want ps s i)).length + [Value.int .i64 (i : Int)].length ≤ 1000000 := by simp [ints]; omega
                clear hma hb5 HO HB HSz hc hc2 ho5 hb6
                go_wp2_with (at_builtin; refine To.wpl_appV cI rfl _ _ rfl wy.heap.size (.slice av qv cv) (.slice (some ⟨w5.heap.size, 0, none⟩) 1 1) (ints (want ps s i)) [.int .i64 (i : Int)] _ rfl HO5.out rfl (To.new_x3 _ _) (fun u hu => by simp at hu; subst hu; rfl) hll (by simp; omega) ?_; intro v' w' hO3 hB3 hK3)
                obtain ⟨a3, c3, rfl, _⟩ := hO3.out.len
                have HO6 : Hid (To.OwnV 3 w' wy.heap.size (.slice a3 (ints (want ps s i) ++ [Value.int .i64 (i : Int)]).length c3) (ints (want ps s (i + 1)))) := by
                  show To.OwnV _ _ _ _ _
                  rw [HW.out]
                  have h9 := hO3.out
                  unfold ints at h9 ⊢
                  rw [List.map_append]
                  exact h9
                have HB6 : Hid (Below wy.heap.size wy w') := (HB5.out.alloc hsz5 _).trans hB3.out
                generalize (ints (want ps s i) ++ [Value.int .i64 (i : Int)]).length = q3 at *
                clear hO3 hB3 hK3 HO5 HB5 hll
                go_wp2
                go_roundg (kk - (i + 1))
                case measure => omega
                case rel => exact ⟨i + 1, a3, q3, c3, by omega, by omega, by go_num, rfl, HO6.out, HB6.out⟩
            · have hliz : ¬ (i : Int) < (kk : Int) := by omega
              obtain rfl : i = kk := by omega
              have hf := HSz.out.find HV.out s
              rw [find_want ps s i (by omega)] at hf
              simp only [str] at hf
              clear hc2
              go_wp2_with fail
              refine hf.mono ?_
              rintro e w6 ⟨v6, rfl, ho6, hb6⟩
              have hsa := To.same_any w6 v6 (.slice av qv cv) (want ps s i) (want ps s i) ho6.rd (HO.out.rd.on hb6) (by have := want_len ps s i; omega)
              have HS6 : Hid (St w (fun _ => False) w6 t (8 * i) (adds ps idx i)) := HSz.out.on hb6
              rw [decide_eq_true rfl] at hsa
              clear hf HO HB HSz ho6 hb6
              go_wp2_with fail
              refine hsa.mono ?_
              rintro e w7 ⟨rfl, d7, rfl⟩
              have HS7 : Hid (St w (fun _ => False) (w6.drewN d7) t (8 * i) (adds ps idx i)) := HS6.out.on (To.below_drawn _ _)
              clear hsa HS6
              go_wp2
              go_roundg (m - (jj + 1))
              case measure => omega
              case rel => exact ⟨jj + 1, by omega, by omega, by go_num, HS7.out⟩
        · have hljz : ¬ (jj : Int) < (m : Int) := by omega
          have HB : Hid (Below w.heap.size w wr) := HS2.out.below
          go_wp2
          go_ret
          exact ⟨rfl, HB.out⟩
end Go.Proofs.YtcicnbbnkeellaaGreatDoor
