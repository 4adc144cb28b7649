/- Where an item that is put back stands: the search among rising numbers. Conditions: those that each row states. -/
import Derived.Test.YtlbcefocmdnlgaaGreatDoorGi
import Derived.Deep.LoopGhost
namespace Go.Proofs.YtlbcefocmdnlgaaGreatDoor
open Go.RowKit Go.Lib
set_option maxRecDepth 100000

theorem clos74 (w : World) (x : Itm) (pv : Value) (z : Int) : Calls Tryz.prog 74 #[.agg (itmV x pv).toArray, .int .i64 z] w fun e w' => e = .returned (.int .i64 (cmpZ x.seq z)) ∧ Below w.heap.size w w' := by
  unfold itmV
  have HC := fun W => cmpI_any W x.seq z
  have b1 := (Below.refl w.heap.size w).alloc (Nat.le_refl _) (.cells #[.int .i64 x.seq, .bool x.again, tx x.msg.topic, tx x.msg.body, pv, .bool x.msg.dur, .int .i64 x.msg.til] 43)
  go_enter Tryz.func74, Tryz.ntmps74
  go_wp2_with fail
  refine (HC _).mono ?_
  rintro e w2 ⟨rfl, rfl⟩
  go_wp2
  go_ret
  exact ⟨rfl, b1⟩
theorem e74 : ∀ args w, (callFunc 74 args).run Tryz.prog w = .ok (.enter 74 args) w := fun args w => by go_simp

/-- How many numbers lie below. -/
def posB (l : List Itm) (z : Int) : Nat := (l.takeWhile (fun y => decide (y.seq < z))).length
theorem posB_le (l : List Itm) (z : Int) : posB l z ≤ l.length := (List.takeWhile_sublist _).length_le
theorem posB_lt : ∀ {l : List Itm} {z : Int} {i : Nat} (h : i < l.length), i < posB l z → l[i].seq < z
  | x :: l, z, i, h, hp => by
    unfold posB at hp
    by_cases e : x.seq < z
    · rw [List.takeWhile_cons_of_pos (by simpa using e)] at hp
      cases i with
      | zero => exact e
      | succ i => exact posB_lt (l := l) (by simpa using h) (by unfold posB; simpa using hp)
    · rw [List.takeWhile_cons_of_neg (by simpa using e)] at hp
      simp at hp
theorem posB_ge : ∀ {l : List Itm} {z : Int} (h : posB l z < l.length), ¬ l[posB l z].seq < z
  | x :: l, z, h => by
    by_cases e : x.seq < z
    · have e1 : posB (x :: l) z = posB l z + 1 := by
        unfold posB
        rw [List.takeWhile_cons_of_pos (by simpa using e)]
        rfl
      have h2 : posB l z < l.length := by rw [e1] at h; simpa using h
      have := posB_ge h2
      simp only [e1, List.getElem_cons_succ]
      exact this
    · have e1 : posB (x :: l) z = 0 := by
        unfold posB
        rw [List.takeWhile_cons_of_neg (by simpa using e)]
        rfl
      simp only [e1, List.getElem_cons_zero]
      exact e
/-- The numbers of a list rise. -/
def Rises (l : List Itm) : Prop := l.Pairwise (fun a b => a.seq < b.seq)
theorem Rises.at {l : List Itm} (h : Rises l) {i j : Nat} (hi : i < l.length) (hj : j < l.length) (hij : i ≤ j) : l[i].seq ≤ l[j].seq := by
  rcases Nat.lt_or_ge i j with h1 | h1
  · exact Int.le_of_lt (List.pairwise_iff_getElem.1 h i j hi hj h1)
  · have : i = j := by omega
    subst this
    exact Int.le_refl _

set_option maxHeartbeats 4000000 in
theorem search_any (w : World) (a : Option Addr) (n c : Nat) (zs : Zs Itm) (h : RdZ 7 (ItR (RdP w)) w (.slice a n c) zs) (hn : zs.length = n) (hbig : n ≤ 1000000) (hr : Rises (zs.map (·.2))) (z : Int) :
    Calls Tryz.prog 73 #[.slice a n c, .int .i64 z, .func (.func 74) #[] #[]] w fun e w' => (∃ b, e = .returned (.tuple #[.int .i64 (posB (zs.map (·.2)) z : Nat), .bool b])) ∧ Below w.heap.size w w' := by
  have HI : Hid (RdZ 7 (ItR (RdP w)) w (.slice a n c) zs) := h
  have NI : Hid (zs.length = n) := hn
  have HR : Hid (Rises (zs.map (·.2))) := hr
  have HP : Hid (posB (zs.map (·.2)) z ≤ n) := by have := posB_le (zs.map (·.2)) z; rw [List.length_map, hn] at this; exact this
  clear h hn hr
  obtain ⟨p, hp⟩ : ∃ p, posB (zs.map (·.2)) z = p := ⟨_, rfl⟩
  have EP : Hid (posB (zs.map (·.2)) z = p) := hp
  rw [hp] at HP ⊢
  clear hp
  go_enter Tryz.func73, Tryz.ntmps73
  go_wp2_with fail
  go_loopg [9, 10, 11] n (fun gg s9 s10 _ wr => ∃ lo hi : Nat, lo ≤ p ∧ p ≤ hi ∧ hi ≤ n ∧ hi - lo ≤ gg ∧ s9 = .int .i64 lo ∧ s10 = .int .i64 hi ∧ Hid (Below w.heap.size w wr))
  case atStart => exact ⟨0, n, Nat.zero_le _, HP.out, Nat.le_refl _, by omega, rfl, rfl, Below.refl _ _⟩
  case round =>
    obtain ⟨lo, hi, hlo, hhi, hin, hg, rfl, rfl, HS⟩ := hrel
    by_cases hlt : lo < hi
    · have hltz : (lo : Int) < (hi : Int) := by omega
      obtain ⟨m, hm⟩ : ∃ m, m = (lo + hi) / 2 := ⟨_, rfl⟩
      have hm1 : lo ≤ m := by omega
      have hm2 : m < hi := by omega
      have hmn : m < n := by omega
      have hmI : ((lo : Int) + (hi : Int)) / 2 = (m : Int) := by omega
      obtain ⟨b, o, pv, rfl, hz1, hp, c0, c1, c2, c3, c4, c5, c6⟩ := itm_at HI.out HS.out (i := m) (by rw [NI.out]; exact hmn)
      have HL : Hid (cmpZ (zs[m]'(by rw [NI.out]; exact hmn)).2.seq z < 0 → m + 1 ≤ p) := fun hc => by
        have h1 : (zs[m]'(by rw [NI.out]; exact hmn)).2.seq < z := by unfold cmpZ at hc; split at hc <;> first | assumption | (split at hc <;> omega)
        rcases Nat.lt_or_ge m p with h2 | h2
        · omega
        · exfalso
          have h3 : p < (zs.map (·.2)).length := by rw [List.length_map, NI.out]; omega
          have h4 := posB_ge (l := zs.map (·.2)) (z := z) (by rw [EP.out]; exact h3)
          simp only [EP.out] at h4
          have h5 := HR.out.at h3 (j := m) (by rw [List.length_map, NI.out]; omega) h2
          simp only [List.getElem_map] at h4 h5
          omega
      have HG : Hid (¬ cmpZ (zs[m]'(by rw [NI.out]; exact hmn)).2.seq z < 0 → p ≤ m) := fun hc => by
        have h1 : ¬ (zs[m]'(by rw [NI.out]; exact hmn)).2.seq < z := fun h => hc (by unfold cmpZ; rw [if_pos h]; omega)
        rcases Nat.lt_or_ge m p with h2 | h2
        · exfalso
          have h4 := posB_lt (l := zs.map (·.2)) (z := z) (i := m) (by rw [List.length_map, NI.out]; omega) (by rw [EP.out]; exact h2)
          rw [List.getElem_map] at h4
          exact h1 h4
        · exact h2
      have hC := fun W pv => clos74 W (zs[m]'(by rw [NI.out]; exact hmn)).2 pv z
      generalize (zs[m]'(by rw [NI.out]; exact hmn)).2 = x at *
      obtain ⟨pa, pc, rfl⟩ := hp.shape
      generalize x.msg.props.length = pn at *
      generalize cmpZ x.seq z = cz at *
      unfold itmV at hC
      have hwr := HS.out.size
      clear hz1 hp hm
      by_cases hcz : cz < 0
      · have h6 := HL.out hcz
        have H6 : Hid (m + 1 ≤ p) := h6
        clear h6 HL HG
        go_wp2_with fail
        refine (hC _ _).mono ?_
        rintro e w2 ⟨rfl, b2⟩
        have HS2 : Hid (Below w.heap.size w w2) := HS.out.trans (b2.mono hwr)
        clear b2 hC c0 c1 c2 c3 c4 c5 c6
        go_wp2
        go_roundg (hi - (m + 1))
        case measure => omega
        case rel => exact ⟨m + 1, hi, H6.out, hhi, hin, by omega, by go_num, rfl, HS2.out⟩
      · have H6 : Hid (p ≤ m) := HG.out hcz
        clear HL HG
        go_wp2_with fail
        refine (hC _ _).mono ?_
        rintro e w2 ⟨rfl, b2⟩
        have HS2 : Hid (Below w.heap.size w w2) := HS.out.trans (b2.mono hwr)
        clear b2 hC c0 c1 c2 c3 c4 c5 c6
        go_wp2
        go_roundg (m - lo)
        case measure => omega
        case rel => exact ⟨lo, m, hlo, H6.out, by omega, by omega, rfl, rfl, HS2.out⟩
    · have hltz : ¬ (lo : Int) < (hi : Int) := by omega
      obtain rfl : lo = p := by omega
      obtain rfl : hi = lo := by omega
      by_cases hl : hi < n
      · have hlz : (hi : Int) < (n : Int) := by omega
        obtain ⟨b, o, pv, rfl, hz1, hp, c0, c1, c2, c3, c4, c5, c6⟩ := itm_at HI.out HS.out (i := hi) (by rw [NI.out]; exact hl)
        have hC := fun W pv => clos74 W (zs[hi]'(by rw [NI.out]; exact hl)).2 pv z
        generalize (zs[hi]'(by rw [NI.out]; exact hl)).2 = x at *
        obtain ⟨pa, pc, rfl⟩ := hp.shape
        generalize x.msg.props.length = pn at *
        generalize cmpZ x.seq z = cz at *
        unfold itmV at hC
        have hwr := HS.out.size
        clear hz1 hp
        go_wp2_with fail
        refine (hC _ _).mono ?_
        rintro e w2 ⟨rfl, b2⟩
        have HS2 : Hid (Below w.heap.size w w2) := HS.out.trans (b2.mono hwr)
        clear b2 hC c0 c1 c2 c3 c4 c5 c6
        go_wp2
        go_ret2
        exact ⟨⟨_, rfl⟩, HS2.out⟩
      · have hlz : ¬ (hi : Int) < (n : Int) := by omega
        go_wp2
        go_ret2
        exact ⟨.inl rfl, HS.out⟩
end Go.Proofs.YtlbcefocmdnlgaaGreatDoor
