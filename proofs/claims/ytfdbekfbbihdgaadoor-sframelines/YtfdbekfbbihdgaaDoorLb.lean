
/- The law of SframeBack: it answers true at any frame and any text. Conditions: those that each row states. -/
import Derived.Test.YtfdbekfbbihdgaaDoorCi
import Derived.Test.YtfdbekfbbihdgaaDoorPb
import Derived.Test.YtfdbekfbbihdgaaDoorLo
import Derived.Test.YtfdbekfbbihdgaaDoorSo
namespace Go.Proofs.YtfdbekfbbihdgaaDoor
open Go.RowKit Go.Lib
set_option maxRecDepth 100000
set_option linter.unusedSimpArgs false

theorem rdb_take {w : World} {a : Option Addr} {cp : Nat} {l : Bs} (h : RdB w (.slice a l.length cp) l) (i : Nat) (hi : i ≤ l.length) (hne : l ≠ []) : RdB w (.slice a i cp) (l.take i) := by
  have hlen : (l.take i).length = i := by rw [List.length_take]; omega
  rcases h with ⟨_, h⟩ | ⟨b, o, c, e, h1, h2⟩
  · exact absurd h hne
  · injection e with e1 _ e3
    subst e1 e3
    refine .inr ⟨b, o, cp, by rw [hlen], by omega, fun j hj => ?_⟩
    rw [hlen] at hj
    rw [h2 j (by omega)]
    congr 2
    simp [List.getD_eq_getElem?_getD, List.getElem?_take_of_lt hj]
set_option maxHeartbeats 4000000 in
theorem back_law (w : World) (c b t : Bs) (hv : Value) (H : List Hd) (hr : RdH w hv H) (hl : H.length ≤ 9000000000000000000) (hcb : c.length + b.length ≤ 1000000000000000000) (hw : ∀ h ∈ H, h.1.length + h.2.length ≤ 1000000000000000000) (hV : Vars w.heap.size w) :
    Calls Tryd.prog 4 #[frV c hv b, str t] w fun e w' => e = .returned (.bool true) ∧ Below w.heap.size w w' := by
  obtain ⟨ha, hn, hc, rfl⟩ : ∃ a n c, hv = .slice a n c := by
    rcases hr with ⟨⟨a, cp, rfl⟩, rfl⟩ | ⟨g, o, cp, rfl, _⟩
    · exact ⟨_, _, _, rfl⟩
    · exact ⟨_, _, _, rfl⟩
  have b2 := below_new w (.cells #[str c, .slice ha hn hc, str b] 24)
  have k1 := Blk.new w #[str c, .slice ha hn hc, str b] 24
  generalize hw1 : w.alloc (.cells #[str c, .slice ha hn hc, str b] 24) = w2 at *
  have W := wakes_any w2 ((hV.on b2).mono b2.size)
  have hr2 := hr.on b2
  clear hr
  go_enter Tryd.func4, Tryd.ntmps4
  go_wp2_with fail
  refine W.mono ?_
  rintro e w3 ⟨rfl, b3⟩
  have B3 := b2.trans (b3.mono b2.size)
  have k3 := k1.on b3
  have hr3 := hr2.on b3
  have HV := heavy_any w3 c b _ H hr3 hl hcb hw
  have d0 := k3.cell 0
  have d1 := k3.cell 1
  have d2 := k3.cell 2
  simp only [List.getElem?_toArray, List.getElem?_cons_zero, List.getElem?_cons_succ] at d0 d1 d2
  clear W b3 k1 hr2 hw1
  go_wp2_with fail
  refine HV.mono ?_
  rintro e w4 ⟨rfl | ⟨rfl, hwt⟩, b4⟩
  · go_wp2
    go_ret
    exact ⟨rfl, B3.trans (b4.mono B3.size)⟩
  have B4 := B3.trans (b4.mono B3.size)
  have k4 := k3.on b4
  have hr4 := hr3.on b4
  have hHl := (wtL_mem H).1
  have hHl2 : H.length ≤ 32768 := by omega
  clear HV d0 d1 d2 k3 hr3 b4 hcb hw hl hHl
  by_cases h4 : 4096 < t.length
  · have z4 : decide ((4096 : Int) < (t.length : Int)) = true := decide_eq_true (by omega)
    go_wp2
    go_ret
    exact ⟨rfl, B4⟩
  have z4 : decide ((4096 : Int) < (t.length : Int)) = false := decide_eq_false (by omega)
  have ht4 : t.length ≤ 4096 := by omega
  clear h4
  have EN := encode_any w4 w4.heap.size c b _ H hr4 hwt ((hV.on B4).mono B4.size) (Nat.le_refl _)
  have d0 := k4.cell 0
  have d1 := k4.cell 1
  have d2 := k4.cell 2
  simp only [List.getElem?_toArray, List.getElem?_cons_zero, List.getElem?_cons_succ] at d0 d1 d2
  go_wp2_with fail
  refine EN.mono ?_
  rintro e w5 ⟨⟨va, vc, rfl, hcan, hlen, ho5⟩ | rfl, b5⟩
  · have B5 := B4.trans (b5.mono B4.size)
    have k5 := k4.on b5
    have hr5 := hr4.on b5
    have hrd := ho5.rd
    have NB := next_back (.inl rfl) hcan (by rw [writeE_10]; exact hlen) t
    rw [writeE_10] at NB
    have NP : Hid (∀ n, n < (writeL ⟨c, H, b⟩).length → (nextL ((writeL ⟨c, H, b⟩).take n)).2 = (0, 41)) := fun n hn => next_part hcan hlen hn
    have hne : writeL ⟨c, H, b⟩ ≠ [] := by unfold writeL; simp
    obtain ⟨g5, rfl, hvc⟩ : ∃ g, va = some ⟨g, 0, none⟩ ∧ (writeL ⟨c, H, b⟩).length ≤ vc := by
      rcases ho5 with ⟨_, h⟩ | ⟨g, cap, cur, fz, e, _, _, _, h, _⟩
      · exact absurd h hne
      · injection e with e1 _ e3
        exact ⟨g, e1, by omega⟩
    have HT : Hid (∀ (w' : World) (i : Nat), Below w5.heap.size w5 w' → i ≤ (writeL ⟨c, H, b⟩).length → (convert 27 9 (.slice (some ⟨g5, 0, none⟩) i vc)).run Tryd.prog w' = .ok (.string ⟨((writeL ⟨c, H, b⟩).take i).toArray⟩) w') := fun w' i hb hi => conv_any (rdb_take (hrd.on hb) i hi hne)
    have NX := next_any w5 (writeL ⟨c, H, b⟩ ++ t) (by rw [List.length_append]; omega) ((hV.on B5).mono B5.size)
    unfold NextP at NX
    rw [NB] at NX
    dsimp only at NX
    have hcv := conv_any hrd
    clear NB hne hrd ho5 EN d0 d1 d2 b5 k4 hr4 hcan hwt
    generalize writeL ⟨c, H, b⟩ = L at *
    have happ := app_str L t
    go_wp2_with fail
    refine NX.mono ?_
    rintro e w6 ⟨b6, hv', rfl, ho6⟩
    obtain ⟨ha', hn', hc', rfl⟩ := ho6.shape
    have B6 := B5.trans (b6.mono B5.size)
    have k6 := (k5.on b6).alloc (.cells #[str c, .slice ha' hn' hc', str b] 24)
    have k6' := Blk.new w6 #[str c, .slice ha' hn' hc', str b] 24
    have b7 := below_new w6 (.cells #[str c, .slice ha' hn' hc', str b] 24)
    have B7 := B6.trans (b7.mono B6.size)
    have C7 := b6.trans (b7.mono b6.size)
    have hr7 := (hr5.on b6).on b7
    have hr7' := ho6.rd.on b7
    clear NX ho6 b6 b7 k5 hr5 happ
    go_upto_region 9 with fail
    generalize w6.alloc (.cells #[str c, .slice ha' hn' hc', str b] 24) = w7 at *
    have S := same_any w7 c b c b _ _ H H hr7' hr7 (by omega)
    have e1 : sameB c b H c b H = true := by unfold sameB; simp
    rw [e1] at S
    have d0 := k6.cell 0
    have d1 := k6.cell 1
    have d2 := k6.cell 2
    have d3 := k6'.cell 0
    have d4 := k6'.cell 1
    have d5 := k6'.cell 2
    simp only [List.getElem?_toArray, List.getElem?_cons_zero, List.getElem?_cons_succ] at d0 d1 d2 d3 d4 d5
    have z1 : decide ((16384 : Int) < (L.length : Int)) = false := decide_eq_false (by omega)
    go_wp2_with fail
    refine S.mono ?_
    rintro e w8 ⟨rfl, b8⟩
    have B8 := B7.trans (b8.mono B7.size)
    have C8 := C7.trans (b8.mono C7.size)
    clear S d0 d1 d2 d3 d4 d5 hr7 hr7' k6 k6' e1
    go_wp2_with fail
    go_loopw [9] (fun i wr => ∃ k : Nat, k ≤ 40000 ∧ i = .int .i64 k ∧ Below w8.heap.size w8 wr) (fun i _ => L.length - (RowKit.intOf i).toNat)
    case atStart => exact ⟨0, Nat.zero_le _, rfl, Below.refl _ _⟩
    case round =>
      obtain ⟨k, hk, rfl, hbr⟩ := hrel
      have Br := B8.trans (hbr.mono B8.size)
      have Cr := C8.trans (hbr.mono C8.size)
      by_cases hlt : k < L.length
      · have hkz : (k : Int) < (L.length : Int) := by omega
        have hkc : (k : Int) ≤ (vc : Int) := by omega
        have hkn : k ≤ vc := by omega
        have hcv2 := HT.out wr k Cr (by omega)
        have NX := next_any wr (L.take k) (by rw [List.length_take]; omega) ((hV.on Br).mono Br.size)
        unfold NextP at NX
        have h2 := NP.out k hlt
        have h3 : (nextL (L.take k)).2.1 = 0 := by rw [h2]
        have h4 : (nextL (L.take k)).2.2 = 41 := by rw [h2]
        rw [h3, h4] at NX
        generalize nextL (L.take k) = N at *
        generalize L.take k = lk at *
        clear h2 h3 h4
        go_wp2_with fail
        refine NX.mono ?_
        rintro e w9 ⟨b9, hv9, rfl, _⟩
        have hw9 := hbr.trans (b9.mono hbr.size)
        have hq : wrap64 (((L.length : Int) / 60)) = (L.length : Int) / 60 := by unfold wrap64; omega
        have hq2 : wrap64 (1 + ((L.length : Int) / 60)) = 1 + (L.length : Int) / 60 := by unfold wrap64; omega
        have hq3 : wrap64 ((k : Int) + (1 + (L.length : Int) / 60)) = ((k + (1 + L.length / 60) : Nat) : Int) := by unfold wrap64; omega
        clear NX
        go_wp2
        refine ⟨⟨k + (1 + L.length / 60), by omega, by simp, hw9⟩, ?_⟩
        simp [RowKit.intOf]
        omega
      · have hkz : decide ((k : Int) < (L.length : Int)) = false := decide_eq_false (by omega)
        go_wp2
        go_ret
        exact ⟨rfl, Br⟩
  · go_wp2
    go_ret
    exact ⟨rfl, B4.trans (b5.mono B4.size)⟩
end Go.Proofs.YtfdbekfbbihdgaaDoor
