/- The statement CordRows, walked: it answers true, and of what was there nothing has turned, for any ints and any two lists of parts that can be read, where the library's table and its two errors' variables read as they were laid. -/
import Derived.Test.YtbdfhmffdnlbfabDoorAppParts
import Derived.Test.YtbdfhmffdnlbfabDoorBack0
import Derived.Deep.RegionWith
import Derived.Deep.DeepCutAuto
namespace Go.Proofs.YtbdfhmffdnlbfabDoor
open Go.RowKit Go.Lib

theorem RdN.lenr {w : World} {v : Value} {l : List Int} (h : RdN w v l) : ∃ a c, v = .slice a l.length c := by
  rcases h.2 with ⟨⟨a, c, rfl⟩, rfl⟩ | ⟨b, o, c, rfl, _⟩
  · exact ⟨_, _, rfl⟩
  · exact ⟨_, _, rfl⟩
theorem RdN.cellr {w : World} {a : Option Addr} {n c : Nat} {zs : List Int} (h : RdN w (.slice a n c) zs) {k : Nat} (hk : k < zs.length) : ∃ b o, a = some ⟨b, o, none⟩ ∧ w.cell? ⟨b, o + k, none⟩ = some (.int .i64 (zs.getD k 0)) := by
  rcases h.2 with ⟨_, rfl⟩ | ⟨b, o, c, e, hc⟩
  · simp at hk
  · cases e
    exact ⟨b, o, rfl, hc k hk⟩
theorem pts_append (a b : List Pm) : encAll (pts (a ++ b)) = encAll (pts a) ++ encAll (pts b) := by
  rw [pts, List.map_append, encAll, List.flatMap_append]
  rfl

/-- Parts don't lie in a reader's block. -/
theorem RdP.past {w w' : World} {R : Nat} {v : Value} {bad : Bool} {ps : List Pm} {l : List UInt8} (h : RdP w v ps) (hr : Rdr w R bad l) (hg : w.grownBy w' (some R)) : RdP w' v ps := by
  obtain ⟨u, hu, hv⟩ := hr
  obtain ⟨ua, un, uc, rfl⟩ := hv.shape
  obtain ⟨hrg, h⟩ := h
  refine ⟨hrg, ?_⟩
  rcases h with h | ⟨b, o, c, rfl, hc⟩
  · exact .inl h
  · refine .inr ⟨b, o, c, rfl, fun i hi => ?_⟩
    obtain ⟨h0, h1, h2⟩ := hc i hi
    have hne : some b ≠ some R := fun e => by
      have eb : b = R := Option.some.inj e
      unfold RdrAt at hu
      rw [eb] at h1
      simp only [World.cell?, hu] at h1
      revert h1
      match o + i * 3 with
      | 0 => simp
      | k + 1 => simp
    exact ⟨hg.cell (a := ⟨b, o + i * 3, none⟩) h0 hne, hg.cell (a := ⟨b, o + i * 3 + 1, none⟩) h1 hne, hg.cell (a := ⟨b, o + i * 3 + 2, none⟩) h2 hne⟩

set_option maxHeartbeats 8000000 in
set_option maxRecDepth 100000 in
theorem rows_any (w : World) (v u t : Value) (zs : List Int) (xs ys : List Pm) (hz : RdN w v zs) (h : RdP w u xs) (hu : RdP w t ys) (hn1 : ∀ c, u = .slice none 0 c → c = 0) (hn2 : ∀ c, t = .slice none 0 c → c = 0) (hl0 : zs.length ≤ 140737488355328) (hl : xs.length ≤ 140737488355328) (hl2 : ys.length ≤ 140737488355328) (hV : Vars w.heap.size w) :
    Calls Tryd.prog 3 #[v, u, t] w fun e w' => e = .returned (.bool true) ∧ Below w.heap.size w w' := by
  obtain ⟨a0, c0, rfl⟩ := hz.lenr
  obtain ⟨a, c, rfl⟩ := h.len
  obtain ⟨a', c', rfl⟩ := hu.len
  have HZ : Hid (RdN w (.slice a0 zs.length c0) zs) := hz
  have HP : Hid (RdP w (.slice a xs.length c) xs) := h
  have HQ : Hid (RdP w (.slice a' ys.length c') ys) := hu
  have HN1 : Hid (∀ k, Value.slice a xs.length c = .slice none 0 k → k = 0) := hn1
  have HN2 : Hid (∀ k, Value.slice a' ys.length c' = .slice none 0 k → k = 0) := hn2
  have HV : Hid (Vars w.heap.size w) := hV
  clear h hu hV hz hn1 hn2
  go_enter Tryd.func3, Tryd.ntmps3
  go_wp2_with fail
  refine (wakes_any w HV.out).mono ?_
  rintro e w1 ⟨rfl, b1⟩
  have hs1 := b1.size
  go_wp2_with fail
  refine (put_any w1 _ xs (HP.out.on b1) hl (HV.out.up b1 hs1)).mono ?_
  rintro e w2 ⟨hb2, rfl | ⟨v2, rfl, hr2, hp2⟩⟩
  · have b2 := b1.trans (hb2.mono hs1)
    have hs2 := b2.size
    clear hb2 b1
    go_wp2_with fail
    refine (put_any w2 _ ys (HQ.out.on b2) hl2 (HV.out.up b2 hs2)).mono ?_
    rintro e w3 ⟨hb3, rfl | ⟨v3, rfl, hr3, hp3⟩⟩
    · go_wp2
      go_ret
      exact ⟨rfl, b2.trans (hb3.mono hs2)⟩
    · go_wp2
      go_ret
      exact ⟨rfl, b2.trans (hb3.mono hs2)⟩
  have b2 := b1.trans (hb2.mono hs1)
  have hs2 := b2.size
  clear hb2 b1
  go_wp2_with fail
  refine (put_any w2 _ ys (HQ.out.on b2) hl2 (HV.out.up b2 hs2)).mono ?_
  rintro e w3 ⟨hb3, rfl | ⟨v3, rfl, hr3, hp3⟩⟩
  · go_wp2
    go_ret
    exact ⟨rfl, b2.trans (hb3.mono hs2)⟩
  have hrx := hr2.on hb3
  have b3 := b2.trans (hb3.mono hs2)
  have hs3 := b3.size
  clear hb3 b2 hr2
  by_cases hbig : 500 < zs.length
  · have hbi : (500 : Int) < (zs.length : Int) := by omega
    go_wp2
    go_ret
    exact ⟨rfl, b3⟩
  have hbi : (zs.length : Int) ≤ 500 := by omega
  have hxl := played_len HP.out hp2
  have hyl := played_len HQ.out hp3
  have HO1 : Hid (∀ p ∈ pts xs, PtOk p) := pts_ok HP.out hp2
  have HO2 : Hid (∀ p ∈ pts ys, PtOk p) := pts_ok HQ.out hp3
  have hx200 : xs.length ≤ 200 := hp2.1
  have hy200 : ys.length ≤ 200 := hp3.1
  clear hp2 hp3
  go_wp2_with fail
  go_loopw [11, 42] (fun v i wr => ∃ k : Nat, k ≤ zs.length ∧ i = .int .i64 k ∧ RdB wr v (encNs (zs.take k)) ∧ Below w3.heap.size w3 wr) (fun _ i _ => zs.length - (RowKit.intOf i).toNat)
  case atStart => exact ⟨0, Nat.zero_le _, rfl, .inl ⟨rfl, rfl⟩, Below.refl _ _⟩
  case round =>
    obtain ⟨k, hk, rfl, hr, hbr⟩ := hrel
    have hwr := hbr.size
    have b4 : Below w.heap.size w wr := b3.trans (hbr.mono hs3)
    have hs4 := b4.size
    by_cases hlt : k < zs.length
    · obtain ⟨b, o, rfl, hc0⟩ := HZ.out.cellr hlt
      have hc : wr.cell? ⟨b, o + k, none⟩ = some (.int .i64 (zs.getD k 0)) := by
        rw [b4.cell (p := ⟨b, o + k, none⟩) (World.block_lt_of_cell? w _ hc0)]; exact hc0
      clear hc0
      have hrg := getD_range HZ.out.1 k
      have htl := take_range HZ.out.1 k
      have HT : Hid (encNs (zs.take (k + 1)) = encNs (zs.take k) ++ encNs [zs.getD k 0]) := by
        show _ = _
        rw [encNs_take zs k hlt]
        simp [encNs, encN]
      generalize zs.getD k 0 = z at *
      generalize encNs (zs.take k) = l at *
      go_wp2_with fail
      refine (num_any (wr.alloc (.cells #[.int .i64 z] 3)) _ _ l [z] (.inl (hr.on (below_new wr _))) (lit1 wr _ rfl z hrg) (by simp; omega) (HV.out.up (b4.alloc hs4 _) (by simp; omega)).tab).mono ?_
      rintro e w5 ⟨v5, rfl, ho5, hb5⟩
      have hr5 := ho5.rd
      rw [← HT.out] at hr5
      have b5 := hbr.trans ((below_alloc hb5).mono hwr)
      clear ho5 hb5 HT hr hbr b4
      go_wp2
      go_roundw
      case rel => exact ⟨k + 1, by omega, by go_num, hr5, b5⟩
      case measure => simp [RowKit.intOf]; omega
    · have ek : zs.take k = zs := List.take_of_length_le (by omega)
      rw [ek] at hr
      clear ek
      have bd : Below wr.heap.size wr wr.drew := (Below.refl _ _).drew
      have bb := b4.trans (bd.mono hs4)
      have hco := conv_any (hr.on bd)
      have N6 : Calls Tryd.prog 6 #[.slice none 0 0, .slice a0 zs.length c0] wr.drew fun e w' => ∃ v', e = .returned v' ∧ (convert 25 9 v').run Tryd.prog w' = .ok (.string ⟨(encNs zs).toArray⟩) w' ∧ (convert 25 9 u11).run Tryd.prog w' = .ok (.string ⟨(encNs zs).toArray⟩) w' ∧ Hid (Below w3.heap.size w3 w') := by
        refine (num_any wr.drew _ _ [] zs (.inl (.inl ⟨rfl, rfl⟩)) (HZ.out.on bb) (by simp; omega) (HV.out.up bb bb.size).tab).mono ?_
        rintro e w' ⟨v', rfl, ho, hb'⟩
        have b2 := bd.trans (hb'.mono (Nat.le_refl _))
        exact ⟨v', rfl, conv_any ho.rd, conv_any (hr.on b2), hbr.trans (b2.mono hwr)⟩
      generalize (⟨(encNs zs).toArray⟩ : ByteArray) = N at *
      clear hr hbr b4 bd bb
      go_wp2_with fail
      go_cut [56] (fun s w' => s = .bool false ∧ Hid (Below w3.heap.size w3 w'))
      case first =>
        first | go_region_with (first | (go_at_call 6; refine N6.mono ?_; rintro e w6 ⟨v6, rfl, g1, g2, g3⟩)) | fail
        all_goals go_wp2_with fail
        all_goals go_meet
        all_goals exact ⟨rfl, g3⟩
      case rest =>
        obtain ⟨rfl, hbc⟩ := hcut
        have b4 := b3.trans (hbc.out.mono hs3)
        have hs4 := b4.size
        have hbc : Below w3.heap.size w3 wc := hbc
        have hrx4 := hrx.on hbc
        have hry4 := hr3.on hbc
        clear N6 hco hbc hrx hr3 b3
        have hra := RdA.on (.inl hrx4) (below_new wc (.cells #[] 5))
        go_wp2_with (at_builtin; refine appB rfl (.tmp 57) (.tmp 58) rfl wc.heap.size _ v2 [] _ (wc.alloc (.cells #[] 5)) rfl (own_empty wc _ (Nat.le_refl _)) rfl hra (by simp; omega) (by simp) ?_)
        intro v5 w5 ho5 hb5
        have q5 := (below_new wc (.cells #[] 5)).trans hb5
        have hs5 := q5.size
        clear hra hb5
        go_wp2_with (at_builtin; refine appB rfl (.tmp 59) (.tmp 60) rfl wc.heap.size v5 v3 _ _ w5 rfl ho5 rfl (.inl (hry4.on q5)) (by omega) (by omega) ?_)
        intro v6 w6 ho6 hb6
        have q6 := q5.trans hb6
        have hs6 := q6.size
        clear ho5 hb6 q5 hs5
        go_wp2_with fail
        refine (new_any w6 _ _ (.inl ho6.rd) (by simp; omega)).mono ?_
        rintro e w7 ⟨R, rfl, hR, hr7, hb7⟩
        have q7 := q6.trans (hb7.mono hs6)
        have b7 := b4.trans (q7.mono hs4)
        have hs7 := b7.size
        have hwR : w.heap.size ≤ R := by omega
        have hRl : R < w7.heap.size := by obtain ⟨_, h, _⟩ := hr7; exact h.lt
        clear ho6 hb7 q6 hs6 hrx4 hry4 q7
        have hpx := (HP.out.on b7).on (below_new w7 (.cells #[] 32))
        go_wp2_with (at_builtin; refine appP rfl (.tmp 63) (.tmp 64) rfl w7.heap.size _ _ [] xs (w7.alloc (.cells #[] 32)) rfl (ownP_empty w7 _ (Nat.le_refl _)) rfl HN1.out hpx (by simp; omega) (by simp) ?_)
        intro v8 w8 ho8 hb8
        have q8 := (below_new w7 (.cells #[] 32)).trans hb8
        have b8 := b7.trans (q8.mono hs7)
        have hs8 := q8.size
        clear hpx hb8
        go_wp2_with (at_builtin; refine appP rfl (.tmp 65) (.tmp 66) rfl w7.heap.size v8 _ _ ys w8 rfl ho8 rfl HN2.out (HQ.out.on b8) (by omega) (by omega) ?_)
        intro v9 w9 ho9 hb9
        have q9 := q8.trans hb9
        have b9 := b7.trans (q9.mono hs7)
        have hs9 := b9.size
        have hr9 := hr7.on q9
        have ho9 : OwnP w9 w7.heap.size v9 (xs ++ ys) := ho9
        have hrp : RdP w9 v9 (xs ++ ys) := ho9.rd (fun p hp => by
          rcases List.mem_append.1 hp with hp | hp
          · exact HP.out.1 p hp
          · exact HQ.out.1 p hp)
        have hr9 : Rdr w9 R false (encAll (pts (xs ++ ys))) := by rw [pts_append]; exact hr9
        have hpl : (encAll (pts (xs ++ ys))).length ≤ 2000000 := by rw [pts_append]; simp; omega
        have hps : (xs ++ ys).length ≤ 400 := by simp; omega
        clear ho9 ho8 hb9 q8 q9 hr7 b7 b8 HP HQ HN1 HN2 HZ HO1 HO2
        generalize xs ++ ys = ps at *
        obtain ⟨pa, pc, rfl⟩ := hrp.len
        have HP : Hid (RdP w9 (.slice pa ps.length pc) ps) := hrp
        clear hrp
        have hpi : (ps.length : Int) ≤ 400 := by omega
        go_wp2_with fail
        clear hRl
        go_loopw [69] (fun i wr => ∃ k2 : Nat, k2 ≤ ps.length ∧ i = .int .i64 k2 ∧ RdP wr (.slice pa ps.length pc) ps ∧ Rdr wr R false (encAll (pts (ps.drop k2))) ∧ Below w.heap.size w wr) (fun i _ => ps.length - (RowKit.intOf i).toNat)
        case atStart => exact ⟨0, Nat.zero_le _, rfl, HP.out, hr9, b9⟩
        case round =>
          clear hr9 b9 HP
          obtain ⟨k2, hk2, rfl, hP, hr, hbr⟩ := hrel
          have hwr2 := hbr.size
          have hRl : R < wr.heap.size := by obtain ⟨_, h, _⟩ := hr; exact h.lt
          by_cases hlt2 : k2 < ps.length
          · obtain ⟨b, o, rfl, hc0, hc1, hc2⟩ := hP.at hlt2
            have hrg := hP.rng k2
            have hdl : (encAll (pts (ps.drop k2))).length ≤ 140737488355328 := by have := drop_len ps k2; omega
            rw [pts_drop ps k2 hlt2] at hr hdl
            obtain ⟨r, er⟩ : ∃ r, encAll (pts (ps.drop (k2 + 1))) = r := ⟨_, rfl⟩
            rw [er] at hr hdl
            have HE : Hid (encAll (pts (ps.drop (k2 + 1))) = r) := er
            clear er
            generalize ps.getD k2 pmZ = pm at *
            obtain ⟨tx, n, s⟩ := pm
            simp only at hc0 hc1 hc2 hrg
            have bnew : Below wr.heap.size wr (wr.alloc (.cells #[.bool tx, .int .i64 n, .string s] 32)).drew := (below_new wr _).drew
            have brn : Below w.heap.size w (wr.alloc (.cells #[.bool tx, .int .i64 n, .string s] 32)).drew := hbr.trans (bnew.mono hwr2)
            have hsn : w.heap.size ≤ (wr.alloc (.cells #[.bool tx, .int .i64 n, .string s] 32)).drew.heap.size := by simp; omega
            cases tx with
            | true =>
              have e : encP (ptOf (true, n, s)) ++ r = encS s.data.toList ++ r := by simp [encP, ptOf]
              rw [e] at hr hdl
              have hS := rstr_put _ w.heap.size R s r (hr.on bnew) hdl (HV.out.on brn) hwR
              have HK : Hid (∀ w', ((wr.alloc (.cells #[.bool true, .int .i64 n, .string s] 32)).drew).grownBy w' (some R) → _) := fun w' hg => box_cells wr R hRl true n s hg
              have HR : Hid (∀ w', ((wr.alloc (.cells #[.bool true, .int .i64 n, .string s] 32)).drew).grownBy w' (some R) → RdP w' (.slice (some ⟨b, o, none⟩) ps.length pc) ps ∧ Below w.heap.size w w') := fun w' hg =>
                ⟨(hP.on bnew).past (hr.on bnew) hg, brn.grown hg hsn (by intro k hk; cases hk; exact hwR)⟩
              clear hr hdl bnew brn hsn hP hbr e
              go_wp2_with fail
              first | go_region_with (first | (go_at_call 8; refine hS.mono ?_; rintro e w11 ⟨rfl, hr11, hg11⟩; obtain ⟨q0, q1, q2⟩ := HK.out _ hg11; obtain ⟨hp11, b11⟩ := HR.out _ hg11; clear hg11)) | fail
              all_goals go_wp2
              all_goals go_roundw
              all_goals first | exact ⟨k2 + 1, by omega, by go_num, hp11, by rw [HE.out]; exact hr11, b11⟩ | (simp [RowKit.intOf]; omega)
            | false =>
              have e : encP (ptOf (false, n, s)) ++ r = encN n ++ r := by simp [encP, ptOf]
              rw [e] at hr hdl
              have hS := rnum_put _ w.heap.size R n hrg r (hr.on bnew) (HV.out.on brn) hwR
              have HK : Hid (∀ w', ((wr.alloc (.cells #[.bool false, .int .i64 n, .string s] 32)).drew).grownBy w' (some R) → _) := fun w' hg => box_cells wr R hRl false n s hg
              have HR : Hid (∀ w', ((wr.alloc (.cells #[.bool false, .int .i64 n, .string s] 32)).drew).grownBy w' (some R) → RdP w' (.slice (some ⟨b, o, none⟩) ps.length pc) ps ∧ Below w.heap.size w w') := fun w' hg =>
                ⟨(hP.on bnew).past (hr.on bnew) hg, brn.grown hg hsn (by intro k hk; cases hk; exact hwR)⟩
              clear hr hdl bnew brn hsn hP hbr e
              go_wp2_with fail
              first | go_region_with (first | (go_at_call 9; refine hS.mono ?_; rintro e w11 ⟨rfl, hr11, hg11⟩; obtain ⟨q0, q1, q2⟩ := HK.out _ hg11; obtain ⟨hp11, b11⟩ := HR.out _ hg11; clear hg11)) | fail
              all_goals go_wp2
              all_goals go_roundw
              all_goals first | exact ⟨k2 + 1, by omega, by go_num, hp11, by rw [HE.out]; exact hr11, b11⟩ | (simp [RowKit.intOf]; omega)
          · have ek : ps.drop k2 = [] := List.drop_eq_nil_of_le (by omega)
            have hr : Rdr wr R false [] := by
              have h' := hr
              rw [ek] at h'
              exact h'
            have hE := end_any wr R false [] hr
            clear ek hr hP
            go_wp2_with fail
            refine hE.mono ?_
            rintro e w11 ⟨rfl, rfl⟩
            clear hE
            go_wp2
            go_ret
            exact ⟨rfl, hbr⟩
end Go.Proofs.YtbdfhmffdnlbfabDoor
