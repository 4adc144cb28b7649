/- The law's own alike; the document's Frame. -/
import Derived.Test.YthgkkmcpmhfehaaRs
namespace Go.Proofs.Ythgkkmcpmhfehaa
open Go.RowKit Go.Lib
set_option maxRecDepth 100000

/-- A list of records that can be read. -/
def RdL (w : World) (v : Value) (rs : List (List UInt8)) : Prop :=
  ∃ a c, v = .slice a rs.length c ∧ ∀ (i : Nat) (r : List UInt8), rs[i]? = some r → ∃ b o u, a = some ⟨b, o, none⟩ ∧ w.cell? ⟨b, o + i, none⟩ = some u ∧ Sl.RdA w u r
theorem RdL.on {w w' : World} {v : Value} {rs : List (List UInt8)} (h : RdL w v rs) (hb : Below w.heap.size w w') : RdL w' v rs := by
  obtain ⟨a, c, rfl, hr⟩ := h
  refine ⟨a, c, rfl, fun i r hi => ?_⟩
  obtain ⟨b, o, u, rfl, hc, hu⟩ := hr i r hi
  exact ⟨b, o, u, rfl, by rw [hb.cell (p := ⟨b, o + i, none⟩) (World.block_lt_of_cell? w _ hc)]; exact hc, Sl.RdA.on hu hb⟩
theorem RecAt.rd {w : World} {B : Nat} {v : Value} {r : List UInt8} (h : RecAt w B v r) : Sl.RdA w v r := by
  obtain ⟨g, rfl, _, hg⟩ := h
  have hr : w.rangeAt g 0 (byteCells r) := range_of_block hg
  refine .inl (.inr ⟨g, 0, r.length, rfl, Nat.le_refl _, fun i hi => ?_⟩)
  rw [hr i (.int .u8 ((r.getD i 0).toNat : Int)) (by simp [byteCells, List.getElem?_eq_getElem hi])]
theorem Recs.rdl {w : World} {B : Nat} {v : Value} {rs : List (List UInt8)} (h : Recs w B v rs) : RdL w v rs := by
  obtain ⟨a, c, rfl⟩ := h.shape
  obtain ⟨vals, ho, hb, hr⟩ := h
  refine ⟨a, c, rfl, fun i r hi => ?_⟩
  obtain ⟨u, hu, hra⟩ := hr i r hi
  have hil : i < rs.length := (List.getElem?_eq_some_iff.1 hi).1
  rcases ho.2 with ⟨h1, h2⟩ | ⟨g, cap, cur, h1, _, hg, hnc, _, _, ht⟩
  · omega
  · cases h1
    refine ⟨g, 0, u, rfl, ?_, hra.rd⟩
    rw [Nat.zero_add]
    have e : (cur.toList.take (rs.length * 1))[i]? = vals[i]? := by rw [ht]
    rw [List.getElem?_take_of_lt (by omega), hu] at e
    simp only [World.cell?, hg]
    simpa using e
theorem convA {w : World} {v : Value} {l : List UInt8} (h : Sl.RdA w v l) : (convert 30 9 v).run Try.prog w = .ok (.string ⟨l.toArray⟩) w := by
  rcases h with h | ⟨⟨a', c', rfl⟩, rfl⟩
  · exact Sl.conv_any h
  · rw [run_convert_bytes_string w 30 9 5 _ _ _ Try.underlying30 Try.underlying5 Try.underlying9, run_bytesToString w a' 0 c' []]
    · rfl
    · simp [loadCells, loadCellsFrom]

theorem str_beq (a b : List UInt8) : ((⟨a.toArray⟩ : ByteArray).toList == (⟨b.toArray⟩ : ByteArray).toList) = decide (a = b) := by
  rw [ByteArray.toList_eq, ByteArray.toList_eq]
  by_cases h : a = b
  · simp [h]
  · simp [h]

set_option maxHeartbeats 2000000 in
theorem alike_any (w : World) (v1 v2 : Value) (r1 r2 : List (List UInt8)) (h1 : RdL w v1 r1) (h2 : RdL w v2 r2) (hl1 : r1.length ≤ 10000) (hl2 : r2.length ≤ 10000) :
    Calls Try.prog 23 #[v1, v2] w fun e w' => e = .returned (.bool (decide (r1 = r2))) ∧ ∃ k, w' = w.drewN k := by
  obtain ⟨a1, c1, rfl, hr1⟩ := h1
  obtain ⟨a2, c2, rfl, hr2⟩ := h2
  obtain ⟨n1, hn1⟩ : ∃ n, n = r1.length := ⟨_, rfl⟩
  obtain ⟨n2, hn2⟩ : ∃ n, n = r2.length := ⟨_, rfl⟩
  rw [← hn1, ← hn2]
  obtain ⟨bb, hbb⟩ : ∃ bb, Hid (bb = decide (r1 = r2)) := ⟨_, rfl⟩
  rw [← hbb.out]
  have H1 : Hid (n1 = r1.length) := hn1
  have H2 : Hid (n2 = r2.length) := hn2
  clear hn1 hn2
  by_cases hne : n1 = n2
  rotate_left
  · have hb0 : bb = false := by rw [hbb.out]; apply decide_eq_false; rintro rfl; exact hne (by rw [H1.out, H2.out])
    have hne' : ¬ (n1 : Int) = (n2 : Int) := by omega
    subst hb0
    go_enter Try.func23, Try.ntmps23
    go_wp2
    go_ret
    exact ⟨rfl, 0, rfl⟩
  subst hne
  have HR1 : Hid _ := hr1
  have HR2 : Hid _ := hr2
  have hnb : n1 ≤ 10000 := by rw [H1.out]; exact hl1
  clear hr1 hr2
  go_enter Try.func23, Try.ntmps23
  go_wp2_with fail
  go_loopw [13] (fun i wr => ∃ k j : Nat, k ≤ n1 ∧ i = .int .i64 k ∧ wr = w.drewN j ∧ ∀ x, x < k → r1[x]? = r2[x]?) (fun i _ => n1 - (RowKit.intOf i).toNat)
  case atStart => exact ⟨0, 0, by omega, rfl, rfl, fun x hx => by omega⟩
  case round =>
    obtain ⟨k, j, hk, rfl, rfl, hsame⟩ := hrel
    by_cases hlt : k < n1
    · obtain ⟨x1, hx1⟩ : ∃ x, r1[k]? = some x := ⟨_, List.getElem?_eq_getElem (by rw [← H1.out]; exact hlt)⟩
      obtain ⟨x2, hx2⟩ : ∃ x, r2[k]? = some x := ⟨_, List.getElem?_eq_getElem (by rw [← H2.out]; exact hlt)⟩
      obtain ⟨b1, o1, u1, rfl, e1, f1⟩ := HR1.out k x1 hx1
      obtain ⟨b2, o2, u2, rfl, e2, f2⟩ := HR2.out k x2 hx2
      have q1 : ∀ m, (w.drewN m).cell? ⟨b1, o1 + k, none⟩ = some u1 := fun m => e1
      have q2 : ∀ m, (w.drewN m).cell? ⟨b2, o2 + k, none⟩ = some u2 := fun m => e2
      have g1 : ∀ m, (convert 30 9 u1).run Try.prog (w.drewN m) = .ok (.string ⟨x1.toArray⟩) (w.drewN m) := fun m => convA (Sl.RdA.on f1 ⟨rfl, rfl, rfl, Nat.le_refl _, fun _ _ => rfl⟩)
      have g2 : ∀ m, (convert 30 9 u2).run Try.prog (w.drewN m) = .ok (.string ⟨x2.toArray⟩) (w.drewN m) := fun m => convA (Sl.RdA.on f2 ⟨rfl, rfl, rfl, Nat.le_refl _, fun _ _ => rfl⟩)
      have hse := str_beq x1 x2
      generalize (⟨x1.toArray⟩ : ByteArray) = s1 at *
      generalize (⟨x2.toArray⟩ : ByteArray) = s2 at *
      by_cases hxx : x1 = x2
      · have hq : (s1.toList == s2.toList) = true := by rw [hse]; exact decide_eq_true hxx
        clear hse
        go_wp2_with fail
        go_quiet (fail)
        go_wp2
        go_roundw
        case rel => exact ⟨k + 1, j + nq, by omega, by go_num, by simp [World.drewN], fun x hx => by
          by_cases hxk : x = k
          · rw [hxk, hx1, hx2, hxx]
          · exact hsame x (by omega)⟩
        case measure => simp [RowKit.intOf]; omega
      · have hq : (s1.toList == s2.toList) = false := by rw [hse]; exact decide_eq_false hxx
        clear hse
        have hb0 : bb = false := by
          rw [hbb.out]; apply decide_eq_false; rintro rfl
          rw [hx1] at hx2; exact hxx (Option.some.inj hx2)
        subst hb0
        go_wp2_with fail
        go_quiet (fail)
        go_wp2
        go_ret
        exact ⟨rfl, j + nq, by simp [World.drewN, Nat.add_assoc]⟩
    · have hb0 : bb = true := by
        rw [hbb.out]; apply decide_eq_true
        apply List.ext_getElem?
        intro x
        by_cases hx : x < k
        · exact hsame x hx
        · have := H1.out; have := H2.out; rw [List.getElem?_eq_none (by omega), List.getElem?_eq_none (by omega)]
      subst hb0
      go_wp2
      go_ret
      exact ⟨rfl, j, rfl⟩
end Go.Proofs.Ythgkkmcpmhfehaa
