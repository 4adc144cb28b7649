/- The document's Drop: what it leaves of the trie, and in which blocks. Conditions: those that each row states. -/
import Derived.Test.YtcicnbbnkeellaaGreatDoorRtb
namespace Go.Proofs.YtcicnbbnkeellaaGreatDoor.To
open Go.RowKit Go.Lib
set_option maxRecDepth 10000

theorem own_from {e : TypeId} {w : World} {B : Nat} {v : Value} {xs : List Value} (h : OwnV e w B v xs) {b : Nat} (hb : v.ownBlock = some b) : B ≤ b := by
  obtain ⟨_, ⟨rfl, _⟩ | ⟨g, cap, cur, rfl, h2, _⟩⟩ := h
  · cases hb
  · injection hb with hb
    subst hb
    exact h2
set_option maxHeartbeats 4000000 in
theorem rdrop_new (w : World) (B q : Nat) (T : TypeId) (vp vi : Value) (l : List Pr) (h : RTr w B q T vp vi l) (hB : B ≤ w.heap.size) (hl : l.length ≤ 100) (p : List UInt8) (z : Int) :
    Calls Tryz.prog 13 #[.pointer (some ⟨q, 0, none⟩), str p, .int .i64 z] w fun e w' => (∃ v1 v2, RTr w' B q T v1 v2 (l.erase (p, z)) ∧ (∀ b, v1.ownBlock = some b → vp.ownBlock = some b ∨ w.heap.size ≤ b) ∧ (∀ b, v2.ownBlock = some b → vi.ownBlock = some b ∨ w.heap.size ≤ b)) ∧ Fq q w w' ∧ e = .returned (.int .i64 (if (p, z) ∈ l then 0 else 33)) := by
  have hpl := place_any w B q T vp vi l h hl p z
  go_enter Tryz.func13, Tryz.ntmps13
  go_wp2_with fail
  refine hpl.mono ?_
  rintro e1 w1 ⟨⟨k, rfl, hk, hke, hkb⟩ | ⟨rfl, hno⟩, rfl⟩
  · have hmem : (p, z) ∈ l := by rw [← hke]; exact List.getElem_mem hk
    have HE : Hid (l.erase (p, z) = l.take k ++ l.drop (k + 1)) := erase_at l (p, z) k hk hke hkb
    have hkz : ¬ (k : Int) < 0 := by omega
    have hkd : decide ((k : Int) < 0) = false := decide_eq_false hkz
    obtain ⟨g0, cp0, rfl⟩ := h.ps.some_of (by rw [strs_len]; omega)
    obtain ⟨g1, cp1, rfl⟩ := h.is.some_of (by rw [ints_len]; omega)
    rw [strs_len, ints_len] at h
    have hc0 := h.ps.cells.2.1
    have hc1 := h.is.cells.2.1
    obtain ⟨n, hn⟩ : ∃ n, l.length = n := ⟨_, rfl⟩
    have HN : Hid (l.length = n) := hn
    have hn2 : n ≤ 100 := by omega
    have hkn : k + 1 ≤ n := by omega
    rw [hn] at h hc0 hc1
    have s1 := cut_to27 g0 n cp0 k (by omega)
    have s2 := cut_from27 g0 n cp0 (k + 1) hkn
    have s3 := cut_to28 g1 n cp1 k (by omega)
    have s4 := cut_from28 g1 n cp1 (k + 1) hkn
    rw [show (((k + 1 : Nat) : Int)) = (k : Int) + 1 by omega] at s2 s4
    have HR : Hid _ := h
    have c0 := h.c0
    have c1 := h.c1
    have r1 : Hid (∀ w', Below w1.heap.size w1 w' → RdV w' (.slice (some ⟨g0, 0, none⟩) k cp0) (strs (l.take k))) := fun w' hb => by
      rw [← strs_take]; exact rd_head (h.on hb).ps k (by omega)
    have r2 : Hid (∀ w', Below w1.heap.size w1 w' → RdV w' (.slice (some ⟨g0, offR cp0 (k + 1), none⟩) (n - (k + 1)) (cp0 - (k + 1))) (strs (l.drop (k + 1)))) := fun w' hb => by
      rw [← strs_drop]; exact rd_rest (h.on hb).ps (k + 1) hkn
    have hl1 : Hid ((strs (l.take k)).length ≤ 100) := by show _ ≤ _; rw [strs_len, List.length_take]; omega
    have hl2 : Hid ((strs (l.drop (k + 1))).length ≤ 100) := by show _ ≤ _; rw [strs_len, List.length_drop]; omega
    have HB : Hid (B ≤ w1.heap.size) := hB
    have HC : Hid (∀ w', Below w1.heap.size w1 w' → w'.cell? ⟨q, 0, none⟩ = some (.slice (some ⟨g0, 0, none⟩) n cp0) ∧ w'.frozen? ⟨q, 0, none⟩ = false) := fun w' hb => ⟨(h.on hb).c0, (h.on hb).fr 0⟩
    have hb0 : Below w1.heap.size w1 (w1.alloc (.cells #[] 9)) := (Below.refl _ _).alloc (Nat.le_refl _) _
    have c0a := (HC.out _ hb0).1
    have hkw : IntKind.i64.wrap ((k : Int) + 1) = (k : Int) + 1 := wrap_small _ (by omega) (by omega)
    have hO0 : Hid (OwnV 9 (w1.alloc (.cells #[] 9)) w1.heap.size (.slice (some ⟨w1.heap.size, 0, none⟩) 0 0) []) := OwnV.empty 9 w1 w1.heap.size (Nat.le_refl _)
    have HB0 : Hid (Below w1.heap.size w1 (w1.alloc (.cells #[] 9)).drew) := hb0.drew
    clear h hn hpl hkb hke hB hl hb0
    generalize offR cp0 (k + 1) = o2 at *
    obtain ⟨o4, ho4⟩ : ∃ o4, offR cp1 (k + 1) = o4 := ⟨_, rfl⟩
    rw [ho4] at s4
    have HO4 : Hid (offR cp1 (k + 1) = o4) := ho4
    clear ho4
    go_upto_region 4 with fail
    go_cut [14] (fun _ w2 => ∃ u, RTq w2 B q T u (.slice (some ⟨g1, 0, none⟩) n cp1) (strs (l.take k) ++ strs (l.drop (k + 1))) (ints l) ∧ Fq q w1 w2 ∧ Hid (∀ b, u.ownBlock = some b → w1.heap.size ≤ b))
    case first =>
      go_region_law (first
        | (refine step_app H27 rfl (.tmp 15) (.tmp 21) (by rfl) w1.heap.size _ _ [] (strs (l.take k)) _ rfl _ rfl hO0.out rfl (r1.out _ HB0.out) (one_strs _) (by have := hl1.out; simp; omega) (by simp) ?_; intro a1 m1 x1 wa HM1 HO1 HB1; have HA : Hid (Below w1.heap.size w1 wa) := HB0.out.trans HB1.out; have ca := (HC.out _ HA.out).1)
        | (refine step_app H27 rfl (.tmp 22) (.tmp 29) (by rfl) w1.heap.size _ _ _ (strs (l.drop (k + 1))) _ rfl _ rfl HO1.out rfl (r2.out _ HA.out) (one_strs _) (by have := hl1.out; have := hl2.out; simp; omega) HA.out.size ?_; intro a2 m2 x2 wb HM2 HO2 HB2; have HA2 : Hid (Below w1.heap.size w1 wb) := HA.out.trans HB2.out; have cb := (HC.out _ HA2.out).1; have cf := (HC.out _ HA2.out).2))
      all_goals go_wp2_with fail
      all_goals go_meet
      all_goals exact ⟨_, ((HR.out.on HA2.out).put0 (HO2.out.base HB.out)), (Fq.of_below HA2.out).trans (Fq.set _ _ _), fun b hb => own_from HO2.out hb⟩
    case rest =>
      obtain ⟨u, hR2, hF2, HNU⟩ := hcut
      have HF2 : Hid _ := hF2
      clear hF2
      have HB2 : Hid (B ≤ wc.heap.size) := Nat.le_of_lt (Nat.lt_of_le_of_lt hR2.up hR2.lt)
      have r3 : Hid (∀ w', Below wc.heap.size wc w' → RdV w' (.slice (some ⟨g1, 0, none⟩) k cp1) (ints (l.take k))) := fun w' hb => by
        rw [← ints_take]; exact rd_head (hR2.on hb).is k (by omega)
      have r4 : Hid (∀ w', Below wc.heap.size wc w' → RdV w' (.slice (some ⟨g1, o4, none⟩) (n - (k + 1)) (cp1 - (k + 1))) (ints (l.drop (k + 1)))) := fun w' hb => by
        rw [← ints_drop, ← HO4.out]; exact rd_rest (hR2.on hb).is (k + 1) hkn
      have hl3 : Hid ((ints (l.take k)).length ≤ 100) := by show _ ≤ _; rw [ints_len, List.length_take]; omega
      have hl4 : Hid ((ints (l.drop (k + 1))).length ≤ 100) := by show _ ≤ _; rw [ints_len, List.length_drop]; have := HN.out; omega
      have HC2 : Hid (∀ w', Below wc.heap.size wc w' → w'.cell? ⟨q, 1, none⟩ = some (.slice (some ⟨g1, 0, none⟩) n cp1) ∧ w'.frozen? ⟨q, 1, none⟩ = false) := fun w' hb => ⟨(hR2.on hb).c1, (hR2.on hb).fr 1⟩
      have d0 := hR2.c1
      have hb0 : Below wc.heap.size wc (wc.alloc (.cells #[] 3)) := (Below.refl _ _).alloc (Nat.le_refl _) _
      have d0a := (HC2.out _ hb0).1
      have hO0 : Hid (OwnV 3 (wc.alloc (.cells #[] 3)) wc.heap.size (.slice (some ⟨wc.heap.size, 0, none⟩) 0 0) []) := OwnV.empty 3 wc wc.heap.size (Nat.le_refl _)
      have HB0 : Hid (Below wc.heap.size wc (wc.alloc (.cells #[] 3)).drew) := hb0.drew
      have HR2 : Hid _ := hR2
      have HF : Hid (strs (l.take k) ++ strs (l.drop (k + 1)) = strs (l.erase (p, z)) ∧ ints (l.take k) ++ ints (l.drop (k + 1)) = ints (l.erase (p, z))) := by
        show _ ∧ _
        rw [HE.out, strs_app, ints_app]
        exact ⟨rfl, rfl⟩
      have HM : Hid ((p, z) ∈ l) := hmem
      clear hb0 hR2 HC r1 r2 c0 c1 s1 s2 c0a
      go_upto_region 5 with fail
      go_cut [33] (fun _ w2 => ∃ u2, RTq w2 B q T u u2 (strs (l.take k) ++ strs (l.drop (k + 1))) (ints (l.take k) ++ ints (l.drop (k + 1))) ∧ Fq q w1 w2 ∧ Hid (∀ b, u2.ownBlock = some b → w1.heap.size ≤ b))
      case first =>
        go_region_law (first
          | (refine step_app H28 rfl (.tmp 34) (.tmp 40) (by rfl) wc.heap.size _ _ [] (ints (l.take k)) _ rfl _ rfl hO0.out rfl (r3.out _ HB0.out) (one_ints _) (by have := hl3.out; simp; omega) (by simp) ?_; intro a1 m1 x1 wa HM1 HO1 HB1; have HA : Hid (Below wc.heap.size wc wa) := HB0.out.trans HB1.out; have ca := (HC2.out _ HA.out).1)
          | (refine step_app H28 rfl (.tmp 41) (.tmp 48) (by rfl) wc.heap.size _ _ _ (ints (l.drop (k + 1))) _ rfl _ rfl HO1.out rfl (r4.out _ HA.out) (one_ints _) (by have := hl3.out; have := hl4.out; simp; omega) HA.out.size ?_; intro a2 m2 x2 wb HM2 HO2 HB3; have HA2 : Hid (Below wc.heap.size wc wb) := HA.out.trans HB3.out; have cb := (HC2.out _ HA2.out).1; have cf := (HC2.out _ HA2.out).2))
        all_goals go_wp2_with fail
        all_goals go_meet
        all_goals exact ⟨_, ((HR2.out.on HA2.out).put1 (HO2.out.base HB2.out)), HF2.out.trans ((Fq.of_below HA2.out).trans (Fq.set _ _ _)), fun b hb => Nat.le_trans HF2.out.size (own_from HO2.out hb)⟩
      case rest =>
        obtain ⟨u2, hR3, hF3, HNU2⟩ := hcut
        have hF3 : Hid _ := hF3
        rw [HF.out.1, HF.out.2] at hR3
        have hR3 : Hid _ := hR3
        go_wp2
        go_ret
        exact ⟨⟨_, _, hR3.out, fun b hb => .inr (HNU.out b hb), fun b hb => .inr (HNU2.out b hb)⟩, hF3.out, by first | rfl | (rw [if_pos HM.out]; rfl)⟩
  · have HR : Hid _ := h
    have hz1 : (-1 : Int) < 0 := by omega
    have HE : Hid (l.erase (p, z) = l) := List.erase_of_not_mem hno
    have hno : Hid _ := hno
    clear h hpl
    go_wp2
    go_ret
    exact ⟨⟨_, _, by rw [HE.out]; exact HR.out, fun b h => .inl h, fun b h => .inl h⟩, Fq.refl _ _, by first | rfl | (rw [if_neg hno.out]; rfl)⟩
end Go.Proofs.YtcicnbbnkeellaaGreatDoor.To
