/- The law TopicWhole walked: it answers true of any two texts. Condition: Vars, what the library's variables hold when the call begins. -/
import Derived.Test.YtmbmidmipoomdaaDoorWd
namespace Go.Proofs.YtmbmidmipoomdaaDoor
open Go.RowKit Go.Lib

theorem all_dots (l : List UInt8) (k : Nat) (h : k < l.length) : (l.take (k + 1)).all (fun c => c != 46) = ((l.take k).all (fun c => c != 46) && l[k] != 46) := by
  rw [List.take_succ_eq_append_getElem h, List.all_append]
  simp
theorem byte_ne (c : UInt8) : (((c.toNat : Int)) != 46) = (c != 46) := by
  unfold bne
  congr 1
  rw [Bool.eq_iff_iff, beq_iff_eq, beq_iff_eq]
  constructor
  · intro h; exact UInt8.toNat_inj.1 (by show c.toNat = 46; omega)
  · rintro rfl; rfl

set_option maxHeartbeats 4000000 in
set_option maxRecDepth 10000 in
theorem whole_law (w : World) (hv : Vars w) (a b : List UInt8) : Calls Tryd.prog 8 #[str a, str b] w fun e w' => e = .returned (.bool true) ∧ Below w.heap.size w w' := by
  have hs0 : St w w := ⟨hv, Below.refl _ _⟩
  have c9 := says9
  by_cases hla : (a.length : Int) > 4096
  · go_enter Tryd.func8, Tryd.ntmps8
    go_wp2_with (go_at_call 9; refine (c9 w _ hs0).mono ?_; rintro e w' ⟨rfl, hs⟩)
    go_ret
    exact ⟨rfl, hs.b⟩
  by_cases hlb : (b.length : Int) > 4096
  · go_enter Tryd.func8, Tryd.ntmps8
    go_wp2_with (go_at_call 9; refine (c9 w _ hs0).mono ?_; rintro e w' ⟨rfl, hs⟩)
    go_ret
    exact ⟨rfl, hs.b⟩
  have cG := says10 a
  have cH := says10 b
  have cP := says12 a
  have c1 := says16 [35] a
  rw [covers_hash] at c1
  have c2 := says14 [35] a
  rw [mat_hash] at c2
  have c3 := says14 [42] a
  rw [mat_star] at c3
  have E : Hid (good a = false ∨ good b = false ∨ (good a = true ∧ good b = true ∧ Says 14 #[str a, str b] (.bool (a == b)) ∧ Says 16 #[str a, str b] (.bool (a == b)))) := by
    cases ha : good a with
    | false => exact .inl rfl
    | true =>
      cases hb : good b with
      | false => exact .inr (.inl rfl)
      | true =>
        have h1 := says14 a b
        have h2 := says16 a b
        rw [mat_good a b ha hb] at h1
        rw [covers_good a b ha hb] at h2
        have : decide (a = b) = (a == b) := by rw [Bool.eq_iff_iff]; simp
        rw [this] at h1 h2
        exact .inr (.inr ⟨rfl, rfl, h1, h2⟩)
  have HA : Hid (∀ k (h : k < a.length), (a.take (k + 1)).all (fun c => c != 46) = ((a.take k).all (fun c => c != 46) && a[k] != 46)) := fun k h => all_dots a k h
  have HE : Hid (∀ k, a.length ≤ k → (a.take k).all (fun c => c != 46) = a.all (fun c => c != 46)) := fun k h => by rw [List.take_of_length_le h]
  have H0 : Hid ((a.take 0).all (fun c => c != 46) = true) := rfl
  obtain ⟨g, hg⟩ : ∃ g : Nat → Bool, ∀ k, g k = (a.take k).all (fun c => c != 46) := ⟨_, fun _ => rfl⟩
  simp only [← hg] at HA HE H0
  clear hg
  obtain ⟨d, hd⟩ : ∃ d, a.all (fun c => c != 46) = d := ⟨_, rfl⟩
  rw [hd] at c3
  simp only [hd] at HE
  clear hd
  generalize good a = ga at *
  generalize good b = gb at *
  generalize pat a = pa at *
  go_enter Tryd.func8, Tryd.ntmps8
  go_wp2_with fail
  refine (c9 w _ hs0).mono ?_
  rintro e1 w1 ⟨rfl, hs1⟩
  go_wp2_with fail
  refine (cG w _ hs1).mono ?_
  rintro e2 w2 ⟨rfl, hs2⟩
  go_wp2_with fail
  go_loopw [5, 6] (fun s5 s6 wr => ∃ k : Nat, k ≤ a.length ∧ s6 = .int .i64 k ∧ s5 = .bool (ga && g k) ∧ wr = w2) (fun _ i _ => a.length - (RowKit.intOf i).toNat)
  case atStart => exact ⟨0, by omega, rfl, by rw [H0.out, Bool.and_true], rfl⟩
  case round =>
    obtain ⟨k, hk, rfl, rfl, rfl⟩ := hrel
    by_cases hlt : k < a.length
    · have h3 := HA.out k hlt
      obtain ⟨x, hx⟩ : ∃ x, (ga && g k) = x := ⟨_, rfl⟩
      have h5 : Hid ((ga && g (k + 1)) = (x && a[k] != 46)) := by show (ga && g (k + 1)) = _; rw [h3, ← hx, Bool.and_assoc]
      have hb := byte_ne a[k]
      rw [hx]
      clear hx h3
      cases x with
      | false =>
        go_wp2
        go_roundw
        case rel => exact ⟨k + 1, by omega, by go_num, by rw [h5.out]; rfl, trivial⟩
        case measure => simp [RowKit.intOf]; omega
      | true =>
        go_wp2
        go_roundw
        case rel => exact ⟨k + 1, by omega, by go_num, by rw [h5.out, ← hb]; rfl, trivial⟩
        case measure => simp [RowKit.intOf]; omega
    · have h4 : Hid (g k = d) := HE.out k (by omega)
      rw [h4.out]
      clear h4 HE HA H0
      go_wp2_with fail
      refine (c1 w _ hs2).mono ?_
      rintro e3 w3 ⟨rfl, hs3⟩
      go_wp2_with fail
      refine (cP w _ hs3).mono ?_
      rintro e4 w4 ⟨rfl, hs4⟩
      go_wp2_with fail
      refine (c2 w _ hs4).mono ?_
      rintro e5 w5 ⟨rfl, hs5⟩
      go_wp2_with fail
      refine (cG w _ hs5).mono ?_
      rintro e6 w6 ⟨rfl, hs6⟩
      go_wp2_with fail
      refine (c3 w _ hs6).mono ?_
      rintro e7 w7 ⟨rfl, hs7⟩
      rcases E.out with rfl | rfl | ⟨rfl, rfl, c4, c5⟩
      · clear E
        go_wp2_with fail
        refine (cG w _ hs7).mono ?_
        rintro e8 w8 ⟨rfl, hs8⟩
        go_wp2
        go_ret
        exact ⟨rfl, hs8.b⟩
      · clear E
        cases ga with
        | false =>
          go_wp2_with fail
          refine (cG w _ hs7).mono ?_
          rintro e8 w8 ⟨rfl, hs8⟩
          go_wp2
          go_ret
          exact ⟨rfl, hs8.b⟩
        | true =>
          go_wp2_with fail
          refine (cG w _ hs7).mono ?_
          rintro e8 w8 ⟨rfl, hs8⟩
          go_wp2_with fail
          refine (cH w _ hs8).mono ?_
          rintro e9 w9 ⟨rfl, hs9⟩
          go_wp2
          go_ret
          exact ⟨rfl, hs9.b⟩
      · clear E
        go_wp2_with fail
        refine (cG w _ hs7).mono ?_
        rintro e8 w8 ⟨rfl, hs8⟩
        go_wp2_with fail
        refine (cH w _ hs8).mono ?_
        rintro e9 w9 ⟨rfl, hs9⟩
        go_wp2_with fail
        refine (c4 w _ hs9).mono ?_
        rintro e10 w10 ⟨rfl, hs10⟩
        go_wp2_with fail
        refine (c5 w _ hs10).mono ?_
        rintro e11 w11 ⟨rfl, hs11⟩
        go_wp2
        go_ret
        exact ⟨rfl, hs11.b⟩
end Go.Proofs.YtmbmidmipoomdaaDoor
