/- The document's Good of a queue. Conditions: those that each row states. -/
import Derived.Test.YtlbcefocmdnlgaaGreatDoorRgb
import Derived.BigQuiet
namespace Go.Proofs.YtlbcefocmdnlgaaGreatDoor
open Go.RowKit Go.Lib
set_option maxRecDepth 100000
set_option linter.unusedSimpArgs false

set_option maxHeartbeats 8000000 in
theorem rgoodq_ok (w : World) (v : Value) (q : Que) (h : RdQ w v q) (hf : FitQ q) (hs : lenQ q ≤ 1000) (hok : nameL q.name = true ∧ ¬ q.depth < 1 ∧ ¬ q.depth > 64 ∧ ¬ ((lenQ q : Nat) : Int) > q.depth ∧ ¬ q.seq < 0 ∧ ¬ q.seq > 1099511627776 ∧ ¬ q.tag < 0 ∧ ¬ q.tag > 1099511627776) :
    Calls Tryz.prog 14 #[v] w fun e w' => e = .returned (.bool (goodQ q)) ∧ Below w.heap.size w w' := by
  have HOK : Hid (nameL q.name = true ∧ ¬ q.depth < 1 ∧ ¬ q.depth > 64 ∧ ¬ ((lenQ q : Nat) : Int) > q.depth ∧ ¬ q.seq < 0 ∧ ¬ q.seq > 1099511627776 ∧ ¬ q.tag < 0 ∧ ¬ q.tag > 1099511627776) := hok
  clear hok
  obtain ⟨iv, hv, rfl, ⟨zi, ei, hi⟩, ⟨zh, eh, hh⟩⟩ := h
  obtain ⟨ai, ci, rfl⟩ := hi.len
  obtain ⟨ah, ch, rfl⟩ := hh.len
  obtain ⟨ni, hni⟩ : ∃ n, zi.length = n := ⟨_, rfl⟩
  obtain ⟨nh, hnh⟩ : ∃ n, zh.length = n := ⟨_, rfl⟩
  rw [hni] at hi ⊢
  rw [hnh] at hh ⊢
  have li : q.items.length = ni := by rw [← hni, ← ei, List.length_map]
  have lh : q.held.length = nh := by rw [← hnh, ← eh, List.length_map]
  have lq : lenQ q = ni + nh := by unfold lenQ; rw [li, lh]
  have hsum : ni + nh ≤ 1000 := by omega
  have HI : Hid (RdZ 7 (ItR (RdP w)) w (.slice ai ni ci) zi ∧ zi.map (·.2) = q.items ∧ zi.length = ni) := ⟨hi, ei, hni⟩
  have HH : Hid (RdZ 10 (HeR (RdP w)) w (.slice ah nh ch) zh ∧ zh.map (·.2) = q.held ∧ zh.length = nh) := ⟨hh, eh, hnh⟩
  have LQ : Hid (q.items.length = ni ∧ q.held.length = nh ∧ lenQ q = ni + nh) := ⟨li, lh, lq⟩
  have HF : Hid (FitQ q) := hf
  have H1 : ∀ W, Calls Tryz.prog 31 #[tx q.name] W fun e w' => e = .returned (.bool (nameL q.name)) ∧ w' = W := fun W => (rname7 W ⟨q.name.toArray⟩ hf.name).mono fun e w' ⟨h1, h2⟩ => ⟨by rw [h1, Go.ByteArray.toList_mk], h2⟩
  have hmix : Tryz.prog.follows .mixedOrders = true := by kernel_rfl
  clear hi ei hni hh eh hnh hs hf li lh lq
  have b0 := (Below.refl w.heap.size w).alloc (Nat.le_refl _) (.cells #[tx q.name, .bool q.dur, .int .i64 q.depth, .int .i64 q.seq, .int .i64 q.tag, .slice ai ni ci, .slice ah nh ch] 25)
  have k0 := Blk.new w #[tx q.name, .bool q.dur, .int .i64 q.depth, .int .i64 q.seq, .int .i64 q.tag, .slice ai ni ci, .slice ah nh ch] 25
  unfold queV
  go_enter Tryz.func14, Tryz.ntmps14
  go_upto_region 1 with fail
  generalize w.alloc (.cells #[tx q.name, .bool q.dur, .int .i64 q.depth, .int .i64 q.seq, .int .i64 q.tag, .slice ai ni ci, .slice ah nh ch] 25) = w1 at *
  obtain ⟨c0, c1, c2, c3, c4, c5, c6⟩ := k0.c7
  have KB : Hid (Blk w1 w.heap.size #[tx q.name, .bool q.dur, .int .i64 q.depth, .int .i64 q.seq, .int .i64 q.tag, .slice ai ni ci, .slice ah nh ch] 25 ∧ Below w.heap.size w w1) := ⟨k0, b0⟩
  clear k0 b0
  go_wp2_with fail
  refine (H1 _).mono ?_
  rintro e w2 ⟨rfl, rfl⟩
  clear H1
  obtain ⟨hn1, h2, h3, h4, h5, h6, h7, h8⟩ := HOK.out
  clear HOK
  have lq : ((lenQ q : Nat) : Int) = (ni : Int) + (nh : Int) := by rw [LQ.out.2.2]; simp
  have h2 : ¬ q.depth < 1 := by omega
  have h3 : ¬ q.depth > 64 := by omega
  have h4 : ¬ ((ni : Int) + (nh : Int)) > q.depth := by omega
  have h5 : ¬ q.seq < 0 := by omega
  have h6 : ¬ q.seq > 1099511627776 := by omega
  have h7 : ¬ q.tag < 0 := by omega
  have h8 : ¬ q.tag > 1099511627776 := by omega
  clear lq
  have HN1 : Hid (nameL q.name = true) := hn1
  rw [hn1]
  clear hn1
  have GA : Hid (GI q q.items.length → GH q q.held.length → goodQ q = true) := fun hi hh => good_all HN1.out (by simp only [depB, Bool.and_eq_true, decide_eq_true_eq]; omega) (by simp only [numB, Bool.and_eq_true, decide_eq_true_eq]; omega) (by simp only [numB, Bool.and_eq_true, decide_eq_true_eq]; omega) (by rw [LQ.out.2.2]; omega) hi hh
  go_wp2_with fail
  clear c0 c1 c2 c3 c4 c5 c6 HN1
  go_loopg [61] ni (fun gg s61 wr => ∃ k : Nat, k ≤ ni ∧ ni - k ≤ gg ∧ s61 = .int .i64 k ∧ Hid (GI q k) ∧ Hid (Blk wr w.heap.size #[tx q.name, .bool q.dur, .int .i64 q.depth, .int .i64 q.seq, .int .i64 q.tag, .slice ai ni ci, .slice ah nh ch] 25 ∧ Below w.heap.size w wr))
  case atStart => exact ⟨0, Nat.zero_le _, by omega, rfl, GI.zero q, KB⟩
  case round =>
    obtain ⟨k, hk, hgk, rfl, HG, HB⟩ := hrel
    clear KB
    obtain ⟨wy, hwy⟩ : ∃ W, W = wr := ⟨_, rfl⟩
    subst hwy
    by_cases hlk : k < ni
    · have hlkz : (k : Int) < (ni : Int) := by omega
      have hkl : k < q.items.length := by rw [LQ.out.1]; exact hlk
      have hzi : ∀ j (hj : j < zi.length) (hj' : j < q.items.length), (zi[j]).2 = q.items[j] := fun j hj hj' => by simp only [← HI.out.2.1, List.getElem_map]
      obtain ⟨b2, o2, pv2, rfl, hz2, hp2, e0, e1, e2, e3, e4, e5, e6⟩ := itm_at HI.out.1 HB.out.2 (i := k) (by rw [HI.out.2.2]; exact hlk)
      have HPV : Hid (∃ py : Int, ∀ k', k = k' + 1 → wy.cell? ⟨b2, o2 + k' * 7, none⟩ = some (.int .i64 py) ∧ ∃ hk' : k' < q.items.length, py = (q.items[k']).seq) := by
        rcases Nat.eq_zero_or_pos k with h0 | h0
        · exact ⟨0, fun k' e => by omega⟩
        · obtain ⟨b3, o3, pv3, e9, _, _, f0, _⟩ := itm_at HI.out.1 HB.out.2 (i := k - 1) (by rw [HI.out.2.2]; omega)
          injection e9 with e9
          injection e9 with e9 e10
          subst e9 e10
          refine ⟨((zi[k - 1]'(by rw [HI.out.2.2]; omega)).2).seq, fun k' e => ?_⟩
          subst e
          simp only [Nat.add_sub_cancel] at f0 ⊢
          exact ⟨f0, by omega, by rw [hzi k' (by rw [HI.out.2.2]; omega) (by omega)]⟩
      have hx0 := hzi k (by rw [HI.out.2.2]; exact hlk) hkl
      rw [hx0] at hp2 e0 e1 e2 e3 e5 e6
      clear hz2 hx0 hzi
      have HFM : Hid (FitM (q.items[k]).msg) := HF.out.items _ (List.getElem_mem hkl)
      obtain ⟨x, hx⟩ : ∃ x, q.items[k] = x := ⟨_, rfl⟩
      rw [hx] at hp2 e0 e1 e2 e3 e5 e6 HFM
      have HX : Hid (∃ h : k < q.items.length, q.items[k] = x) := ⟨hkl, hx⟩
      clear hx hkl
      obtain ⟨pa, pc, rfl⟩ := hp2.shape
      obtain ⟨np, hnp⟩ : ∃ n, x.msg.props.length = n := ⟨_, rfl⟩
      rw [hnp] at e4 hp2
      have HPX : Hid (RdP wy (.slice pa np pc) x.msg.props ∧ x.msg.props.length = np) := ⟨hp2, hnp⟩
      clear hp2 hnp
      go_wp2_with (refine wpl_fresh rfl (.tmp 5) (.tmp 65) rfl _ _ rfl rfl (by kernel_rfl) rfl (by simp [Value.oneCell']) ?_)
      intro wq kz bz sz
      have KZ : Hid (Blk wq w.heap.size #[tx q.name, .bool q.dur, .int .i64 q.depth, .int .i64 q.seq, .int .i64 q.tag, .slice (some ⟨b2, o2, none⟩) ni ci, .slice ah nh ch] 25 ∧ Blk wq wy.heap.size #[.int .i64 x.seq, .bool x.again, tx x.msg.topic, tx x.msg.body, .slice pa np pc, .bool x.msg.dur, .int .i64 x.msg.til] 43 ∧ Below w.heap.size w wq) := ⟨HB.out.1.on bz, kz, nxt HB.out.2 bz⟩
      have HPZ : Hid (∃ py : Int, ∀ k', k = k' + 1 → wq.cell? ⟨b2, o2 + k' * 7, none⟩ = some (.int .i64 py) ∧ ∃ hk' : k' < q.items.length, py = (q.items[k']).seq) := by
        obtain ⟨py, h⟩ := HPV.out
        exact ⟨py, fun k' e => ⟨(bz.cell (World.block_lt_of_cell? wy _ (h k' e).1)).trans (h k' e).1, (h k' e).2⟩⟩
      have HM := fun (W : World) (b : Below wq.heap.size wq W) => rmessage_any W x.msg (.slice pa np pc) ((HPX.out.1.on bz).on b) HFM.out.1 HFM.out.2
      unfold msgV at HM
      clear HB e0 e1 e2 e3 e4 e5 e6 bz kz sz HPV HPX HFM
      generalize wy.heap.size = V at *
      obtain ⟨py, hpy⟩ := HPZ.out
      have HPY : Hid (∀ k', k = k' + 1 → wq.cell? ⟨b2, o2 + k' * 7, none⟩ = some (.int .i64 py) ∧ ∃ hk' : k' < q.items.length, py = (q.items[k']).seq) := hpy
      clear HPZ hpy
      go_upto_region 7 with fail
      go_cut [97] (fun s97 wx => ∃ bd : Bool, s97 = .bool bd ∧ Hid (bd = true → goodQ q = false) ∧ Hid (bd = false → GI q (k + 1)) ∧ Hid (Blk wx w.heap.size #[tx q.name, .bool q.dur, .int .i64 q.depth, .int .i64 q.seq, .int .i64 q.tag, .slice (some ⟨b2, o2, none⟩) ni ci, .slice ah nh ch] 25 ∧ Below w.heap.size w wx))
      case first =>
        obtain ⟨kb, hkb⟩ : ∃ b : Bool, b = decide (0 < k) := ⟨_, rfl⟩
        obtain ⟨k1, hk1⟩ : ∃ k1, k1 = k - 1 := ⟨_, rfl⟩
        have HKB : Hid (kb = decide (0 < k)) := hkb
        have HK1 : Hid (kb = true → k = k1 + 1) := fun h => by
          rw [hkb] at h
          have := of_decide_eq_true h
          omega
        clear hkb hk1
        refine wp_region_held (S := fun W => RgS w wq W 43 #[tx q.name, .bool q.dur, .int .i64 q.depth, .int .i64 q.seq, .int .i64 q.tag, .slice (some ⟨b2, o2, none⟩) ni ci, .slice ah nh ch] #[.int .i64 x.seq, .bool x.again, tx x.msg.topic, tx x.msg.body, .slice pa np pc, .bool x.msg.dur, .int .i64 x.msg.til] V b2 (o2 + k1 * 7) kb py) hmix ?_
        show wpAnyH _ _ _ _ _ _ _ _ (World.drew _)
        have hS : RgS w wq wq.drew 43 #[tx q.name, .bool q.dur, .int .i64 q.depth, .int .i64 q.seq, .int .i64 q.tag, .slice (some ⟨b2, o2, none⟩) ni ci, .slice ah nh ch] #[.int .i64 x.seq, .bool x.again, tx x.msg.topic, tx x.msg.body, .slice pa np pc, .bool x.msg.dur, .int .i64 x.msg.til] V b2 (o2 + k1 * 7) kb py := ⟨⟨KZ.out.1.h⟩, ⟨KZ.out.2.1.h⟩, fun hb => (HPY.out k1 (HK1.out hb)).1, KZ.out.2.2.drew, (Below.refl _ wq).drew⟩
        generalize wq.drew = w9 at *
        refine wpAnyH_take (i := 0) (v := .pointer (some ⟨V, 0, none⟩)) rfl (by kernel_rfl) (by kernel_rfl) (by kernel_rfl) (fun _ _ _ h => h) (.inl ⟨by rfl, fun W' hW' => ?_⟩) hS ?_
        · go_simp
        simp only [Act.put, List.getElem_toArray, List.getElem_cons_zero, List.setIfInBounds_toArray, List.set_cons_succ, List.set_cons_zero]
        refine wpAnyH_take (i := 1) (v := .int .i64 x.seq) rfl (by kernel_rfl) (by kernel_rfl) (by kernel_rfl) (fun _ _ _ h => h) (.inl ⟨by rfl, fun W' hW' => ?_⟩) hS ?_
        · obtain ⟨v0, v1, v2, v3, v4, v5, v6⟩ := hW'.b.c7; go_simp
        simp only [Act.put, List.getElem_toArray, List.getElem_cons_succ, List.getElem_cons_zero, List.setIfInBounds_toArray, List.set_cons_succ, List.set_cons_zero]
        refine wpAnyH_take (i := 2) (v := .bool (decide (x.seq < 1))) rfl (by kernel_rfl) (by kernel_rfl) (by kernel_rfl) (fun _ _ _ h => h) (.inl ⟨by rfl, fun W' hW' => ?_⟩) hS ?_
        · go_simp
        simp only [Act.put, List.getElem_toArray, List.getElem_cons_succ, List.getElem_cons_zero, List.setIfInBounds_toArray, List.set_cons_succ, List.set_cons_zero]
        generalize hca : (decide (x.seq < 1)) = ca
        have Hca : Hid ((decide (x.seq < 1)) = ca) := hca
        clear hca
        refine wpAnyH_take (i := 3) (v := .bool ca) rfl (by kernel_rfl) (by kernel_rfl) (by kernel_rfl) (fun _ _ _ h => h) (.inl ⟨by rfl, fun W' hW' => ?_⟩) hS ?_
        · go_simp
        simp only [Act.put, List.getElem_toArray, List.getElem_cons_succ, List.getElem_cons_zero, List.setIfInBounds_toArray, List.set_cons_succ, List.set_cons_zero]
        refine wpAnyH_take (i := 4) (v := bif ca then undef else .pointer (some ⟨V, 0, none⟩)) rfl (by kernel_rfl) (by kernel_rfl) (by kernel_rfl) (fun _ _ _ h => h) ?_ hS ?_
        · cases ca with
          | true => exact .inr ⟨by rfl, rfl⟩
          | false => exact .inl ⟨by rfl, fun W' hW' => by go_simp⟩
        simp only [Act.put, List.getElem_toArray, List.getElem_cons_succ, List.getElem_cons_zero, List.setIfInBounds_toArray, List.set_cons_succ, List.set_cons_zero]
        refine wpAnyH_take (i := 5) (v := bif ca then undef else .int .i64 x.seq) rfl (by kernel_rfl) (by kernel_rfl) (by kernel_rfl) (fun _ _ _ h => h) ?_ hS ?_
        · cases ca with
          | true => exact .inr ⟨by rfl, rfl⟩
          | false => exact .inl ⟨by rfl, fun W' hW' => by obtain ⟨v0, v1, v2, v3, v4, v5, v6⟩ := hW'.b.c7; go_simp⟩
        simp only [Act.put, List.getElem_toArray, List.getElem_cons_succ, List.getElem_cons_zero, List.setIfInBounds_toArray, List.set_cons_succ, List.set_cons_zero]
        refine wpAnyH_take (i := 6) (v := bif ca then undef else .pointer (some ⟨w.heap.size, 3, none⟩)) rfl (by kernel_rfl) (by kernel_rfl) (by kernel_rfl) (fun _ _ _ h => h) ?_ hS ?_
        · cases ca with
          | true => exact .inr ⟨by rfl, rfl⟩
          | false => exact .inl ⟨by rfl, fun W' hW' => by go_simp⟩
        simp only [Act.put, List.getElem_toArray, List.getElem_cons_succ, List.getElem_cons_zero, List.setIfInBounds_toArray, List.set_cons_succ, List.set_cons_zero]
        refine wpAnyH_take (i := 7) (v := bif ca then undef else .int .i64 q.seq) rfl (by kernel_rfl) (by kernel_rfl) (by kernel_rfl) (fun _ _ _ h => h) ?_ hS ?_
        · cases ca with
          | true => exact .inr ⟨by rfl, rfl⟩
          | false => exact .inl ⟨by rfl, fun W' hW' => by obtain ⟨q0, q1, q2, q3, q4, q5, q6⟩ := hW'.a.c7; go_simp⟩
        simp only [Act.put, List.getElem_toArray, List.getElem_cons_succ, List.getElem_cons_zero, List.setIfInBounds_toArray, List.set_cons_succ, List.set_cons_zero]
        refine wpAnyH_take (i := 8) (v := bif ca then undef else .bool (decide (x.seq > q.seq))) rfl (by kernel_rfl) (by kernel_rfl) (by kernel_rfl) (fun _ _ _ h => h) ?_ hS ?_
        · cases ca with
          | true => exact .inr ⟨by rfl, rfl⟩
          | false => exact .inl ⟨by rfl, fun W' hW' => by go_simp⟩
        simp only [Act.put, List.getElem_toArray, List.getElem_cons_succ, List.getElem_cons_zero, List.setIfInBounds_toArray, List.set_cons_succ, List.set_cons_zero]
        generalize hcb : (decide (x.seq > q.seq)) = cb
        have Hcb : Hid ((decide (x.seq > q.seq)) = cb) := hcb
        clear hcb
        refine wpAnyH_take (i := 9) (v := .bool (ca || cb)) rfl (by kernel_rfl) (by kernel_rfl) (by kernel_rfl) (fun _ _ _ h => h) (.inl ⟨by rfl, fun W' hW' => ?_⟩) hS ?_
        · cases ca <;> cases cb <;> go_simp
        simp only [Act.put, List.getElem_toArray, List.getElem_cons_succ, List.getElem_cons_zero, List.setIfInBounds_toArray, List.set_cons_succ, List.set_cons_zero]
        generalize hcc : (ca || cb) = cc
        have Hcc : Hid ((ca || cb) = cc) := hcc
        clear hcc
        refine wpAnyH_take (i := 10) (v := .bool cc) rfl (by kernel_rfl) (by kernel_rfl) (by kernel_rfl) (fun _ _ _ h => h) (.inl ⟨by rfl, fun W' hW' => ?_⟩) hS ?_
        · go_simp
        simp only [Act.put, List.getElem_toArray, List.getElem_cons_succ, List.getElem_cons_zero, List.setIfInBounds_toArray, List.set_cons_succ, List.set_cons_zero]
        refine wpAnyH_take (i := 11) (v := bif cc then undef else .int .i64 (k : Int)) rfl (by kernel_rfl) (by kernel_rfl) (by kernel_rfl) (fun _ _ _ h => h) ?_ hS ?_
        · cases cc with
          | true => exact .inr ⟨by rfl, rfl⟩
          | false => exact .inl ⟨by rfl, fun W' hW' => by go_simp⟩
        simp only [Act.put, List.getElem_toArray, List.getElem_cons_succ, List.getElem_cons_zero, List.setIfInBounds_toArray, List.set_cons_succ, List.set_cons_zero]
        refine wpAnyH_take (i := 12) (v := bif cc then undef else .bool kb) rfl (by kernel_rfl) (by kernel_rfl) (by kernel_rfl) (fun _ _ _ h => h) ?_ hS ?_
        · cases cc with
          | true => exact .inr ⟨by rfl, rfl⟩
          | false => exact .inl ⟨by rfl, fun W' hW' => by have hkb := HKB.out; go_simp⟩
        simp only [Act.put, List.getElem_toArray, List.getElem_cons_succ, List.getElem_cons_zero, List.setIfInBounds_toArray, List.set_cons_succ, List.set_cons_zero]
        refine wpAnyH_take (i := 13) (v := bif cc then undef else .bool kb) rfl (by kernel_rfl) (by kernel_rfl) (by kernel_rfl) (fun _ _ _ h => h) ?_ hS ?_
        · cases cc with
          | true => exact .inr ⟨by rfl, rfl⟩
          | false => exact .inl ⟨by rfl, fun W' hW' => by go_simp⟩
        simp only [Act.put, List.getElem_toArray, List.getElem_cons_succ, List.getElem_cons_zero, List.setIfInBounds_toArray, List.set_cons_succ, List.set_cons_zero]
        refine wpAnyH_take (i := 14) (v := bif cc then undef else bif kb then .pointer (some ⟨w.heap.size, 5, none⟩) else undef) rfl (by kernel_rfl) (by kernel_rfl) (by kernel_rfl) (fun _ _ _ h => h) ?_ hS ?_
        · cases cc with
          | true => exact .inr ⟨by rfl, rfl⟩
          | false =>
            cases kb with
            | true => exact .inl ⟨by rfl, fun W' hW' => by go_simp⟩
            | false => exact .inr ⟨by rfl, rfl⟩
        simp only [Act.put, List.getElem_toArray, List.getElem_cons_succ, List.getElem_cons_zero, List.setIfInBounds_toArray, List.set_cons_succ, List.set_cons_zero]
        refine wpAnyH_take (i := 15) (v := bif cc then undef else bif kb then .slice (some ⟨b2, o2, none⟩) ni ci else undef) rfl (by kernel_rfl) (by kernel_rfl) (by kernel_rfl) (fun _ _ _ h => h) ?_ hS ?_
        · cases cc with
          | true => exact .inr ⟨by rfl, rfl⟩
          | false =>
            cases kb with
            | true => exact .inl ⟨by rfl, fun W' hW' => by obtain ⟨q0, q1, q2, q3, q4, q5, q6⟩ := hW'.a.c7; go_simp⟩
            | false => exact .inr ⟨by rfl, rfl⟩
        simp only [Act.put, List.getElem_toArray, List.getElem_cons_succ, List.getElem_cons_zero, List.setIfInBounds_toArray, List.set_cons_succ, List.set_cons_zero]
        refine wpAnyH_take (i := 16) (v := bif cc then undef else bif kb then .int .i64 (k : Int) else undef) rfl (by kernel_rfl) (by kernel_rfl) (by kernel_rfl) (fun _ _ _ h => h) ?_ hS ?_
        · cases cc with
          | true => exact .inr ⟨by rfl, rfl⟩
          | false =>
            cases kb with
            | true => exact .inl ⟨by rfl, fun W' hW' => by go_simp⟩
            | false => exact .inr ⟨by rfl, rfl⟩
        simp only [Act.put, List.getElem_toArray, List.getElem_cons_succ, List.getElem_cons_zero, List.setIfInBounds_toArray, List.set_cons_succ, List.set_cons_zero]
        refine wpAnyH_take (i := 17) (v := bif cc then undef else bif kb then .int .i64 (k1 : Int) else undef) rfl (by kernel_rfl) (by kernel_rfl) (by kernel_rfl) (fun _ _ _ h => h) ?_ hS ?_
        · cases cc with
          | true => exact .inr ⟨by rfl, rfl⟩
          | false =>
            cases kb with
            | true => exact .inl ⟨by rfl, fun W' hW' => by have hkb := HK1.out rfl; go_simp; rw [IntKind.wrap_i64]; omega⟩
            | false => exact .inr ⟨by rfl, rfl⟩
        simp only [Act.put, List.getElem_toArray, List.getElem_cons_succ, List.getElem_cons_zero, List.setIfInBounds_toArray, List.set_cons_succ, List.set_cons_zero]
        refine wpAnyH_take (i := 18) (v := bif cc then undef else bif kb then .pointer (some ⟨b2, o2 + k1 * 7, none⟩) else undef) rfl (by kernel_rfl) (by kernel_rfl) (by kernel_rfl) (fun _ _ _ h => h) ?_ hS ?_
        · cases cc with
          | true => exact .inr ⟨by rfl, rfl⟩
          | false =>
            cases kb with
            | true => exact .inl ⟨by rfl, fun W' hW' => by have hkb := HK1.out rfl; go_simp; exact fun h => absurd h (by omega)⟩
            | false => exact .inr ⟨by rfl, rfl⟩
        simp only [Act.put, List.getElem_toArray, List.getElem_cons_succ, List.getElem_cons_zero, List.setIfInBounds_toArray, List.set_cons_succ, List.set_cons_zero]
        refine wpAnyH_take (i := 19) (v := bif cc then undef else bif kb then .pointer (some ⟨b2, o2 + k1 * 7, none⟩) else undef) rfl (by kernel_rfl) (by kernel_rfl) (by kernel_rfl) (fun _ _ _ h => h) ?_ hS ?_
        · cases cc with
          | true => exact .inr ⟨by rfl, rfl⟩
          | false =>
            cases kb with
            | true => exact .inl ⟨by rfl, fun W' hW' => by go_simp⟩
            | false => exact .inr ⟨by rfl, rfl⟩
        simp only [Act.put, List.getElem_toArray, List.getElem_cons_succ, List.getElem_cons_zero, List.setIfInBounds_toArray, List.set_cons_succ, List.set_cons_zero]
        refine wpAnyH_take (i := 20) (v := bif cc then undef else bif kb then .int .i64 py else undef) rfl (by kernel_rfl) (by kernel_rfl) (by kernel_rfl) (fun _ _ _ h => h) ?_ hS ?_
        · cases cc with
          | true => exact .inr ⟨by rfl, rfl⟩
          | false =>
            cases kb with
            | true => exact .inl ⟨by rfl, fun W' hW' => by have p0 := hW'.p rfl; go_simp⟩
            | false => exact .inr ⟨by rfl, rfl⟩
        simp only [Act.put, List.getElem_toArray, List.getElem_cons_succ, List.getElem_cons_zero, List.setIfInBounds_toArray, List.set_cons_succ, List.set_cons_zero]
        refine wpAnyH_take (i := 21) (v := bif cc then undef else bif kb then .pointer (some ⟨V, 0, none⟩) else undef) rfl (by kernel_rfl) (by kernel_rfl) (by kernel_rfl) (fun _ _ _ h => h) ?_ hS ?_
        · cases cc with
          | true => exact .inr ⟨by rfl, rfl⟩
          | false =>
            cases kb with
            | true => exact .inl ⟨by rfl, fun W' hW' => by go_simp⟩
            | false => exact .inr ⟨by rfl, rfl⟩
        simp only [Act.put, List.getElem_toArray, List.getElem_cons_succ, List.getElem_cons_zero, List.setIfInBounds_toArray, List.set_cons_succ, List.set_cons_zero]
        refine wpAnyH_take (i := 22) (v := bif cc then undef else bif kb then .int .i64 x.seq else undef) rfl (by kernel_rfl) (by kernel_rfl) (by kernel_rfl) (fun _ _ _ h => h) ?_ hS ?_
        · cases cc with
          | true => exact .inr ⟨by rfl, rfl⟩
          | false =>
            cases kb with
            | true => exact .inl ⟨by rfl, fun W' hW' => by obtain ⟨v0, v1, v2, v3, v4, v5, v6⟩ := hW'.b.c7; go_simp⟩
            | false => exact .inr ⟨by rfl, rfl⟩
        simp only [Act.put, List.getElem_toArray, List.getElem_cons_succ, List.getElem_cons_zero, List.setIfInBounds_toArray, List.set_cons_succ, List.set_cons_zero]
        refine wpAnyH_take (i := 23) (v := bif cc then undef else bif kb then .bool (decide (py ≥ x.seq)) else undef) rfl (by kernel_rfl) (by kernel_rfl) (by kernel_rfl) (fun _ _ _ h => h) ?_ hS ?_
        · cases cc with
          | true => exact .inr ⟨by rfl, rfl⟩
          | false =>
            cases kb with
            | true => exact .inl ⟨by rfl, fun W' hW' => by go_simp⟩
            | false => exact .inr ⟨by rfl, rfl⟩
        simp only [Act.put, List.getElem_toArray, List.getElem_cons_succ, List.getElem_cons_zero, List.setIfInBounds_toArray, List.set_cons_succ, List.set_cons_zero]
        generalize hcd : (decide (py ≥ x.seq)) = cd
        have Hcd : Hid ((decide (py ≥ x.seq)) = cd) := hcd
        clear hcd
        refine wpAnyH_take (i := 24) (v := bif cc then undef else .bool (kb && cd)) rfl (by kernel_rfl) (by kernel_rfl) (by kernel_rfl) (fun _ _ _ h => h) ?_ hS ?_
        · cases cc with
          | true => exact .inr ⟨by rfl, rfl⟩
          | false => exact .inl ⟨by rfl, fun W' hW' => by cases kb <;> cases cd <;> go_simp⟩
        simp only [Act.put, List.getElem_toArray, List.getElem_cons_succ, List.getElem_cons_zero, List.setIfInBounds_toArray, List.set_cons_succ, List.set_cons_zero]
        refine wpAnyH_take (i := 25) (v := .bool (cc || (kb && cd))) rfl (by kernel_rfl) (by kernel_rfl) (by kernel_rfl) (fun _ _ _ h => h) (.inl ⟨by rfl, fun W' hW' => ?_⟩) hS ?_
        · cases cc <;> cases kb <;> cases cd <;> go_simp
        simp only [Act.put, List.getElem_toArray, List.getElem_cons_succ, List.getElem_cons_zero, List.setIfInBounds_toArray, List.set_cons_succ, List.set_cons_zero]
        generalize hce : (cc || (kb && cd)) = ce
        have Hce : Hid ((cc || (kb && cd)) = ce) := hce
        clear hce
        refine wpAnyH_take (i := 26) (v := .bool ce) rfl (by kernel_rfl) (by kernel_rfl) (by kernel_rfl) (fun _ _ _ h => h) (.inl ⟨by rfl, fun W' hW' => ?_⟩) hS ?_
        · go_simp
        simp only [Act.put, List.getElem_toArray, List.getElem_cons_succ, List.getElem_cons_zero, List.setIfInBounds_toArray, List.set_cons_succ, List.set_cons_zero]
        refine wpAnyH_take (i := 27) (v := bif ce then undef else .pointer (some ⟨V, 2, none⟩)) rfl (by kernel_rfl) (by kernel_rfl) (by kernel_rfl) (fun _ _ _ h => h) ?_ hS ?_
        · cases ce with
          | true => exact .inr ⟨by rfl, rfl⟩
          | false => exact .inl ⟨by rfl, fun W' hW' => by go_simp⟩
        simp only [Act.put, List.getElem_toArray, List.getElem_cons_succ, List.getElem_cons_zero, List.setIfInBounds_toArray, List.set_cons_succ, List.set_cons_zero]
        refine wpAnyH_take (i := 28) (v := bif ce then undef else .agg #[tx x.msg.topic, tx x.msg.body, .slice pa np pc, .bool x.msg.dur, .int .i64 x.msg.til]) rfl (by kernel_rfl) (by kernel_rfl) (by kernel_rfl) (fun _ _ _ h => h) ?_ hS ?_
        · cases ce with
          | true => exact .inr ⟨by rfl, rfl⟩
          | false => exact .inl ⟨by rfl, fun W' hW' => by obtain ⟨v0, v1, v2, v3, v4, v5, v6⟩ := hW'.b.c7; go_simp⟩
        simp only [Act.put, List.getElem_toArray, List.getElem_cons_succ, List.getElem_cons_zero, List.setIfInBounds_toArray, List.set_cons_succ, List.set_cons_zero]
        have FIN : Hid ((ce = true → goodQ q = false) ∧ (ce = false → givB x.seq q.seq = true ∧ ∀ h0 : 0 < k, ∀ (a : k - 1 < q.items.length) (b : k < q.items.length), (q.items[k - 1]).seq < (q.items[k]).seq)) := by
          have e1 := Hce.out
          have e2 := Hcc.out
          have e3 := Hca.out
          have e4 := Hcb.out
          have e5 := Hcd.out
          have e6 := HKB.out
          obtain ⟨h1, h2⟩ := HX.out
          have hpv : ∀ h0 : 0 < k, ∃ hk' : k - 1 < q.items.length, py = (q.items[k - 1]).seq := fun h0 => by
            have hk1' : k = (k - 1) + 1 := by omega
            exact (HPY.out (k - 1) hk1').2
          subst e1 e2 e3 e4 e5 e6
          refine (⟨fun hb => ?_, fun hb => ?_⟩ : _ ∧ _)
          · simp only [Bool.or_eq_true, Bool.and_eq_true, decide_eq_true_eq] at hb
            rcases hb with (hb | hb) | ⟨hb, hb'⟩
            · exact bad_item h1 (.inl (by rw [h2]; simp [itmB, givB]; omega))
            · exact bad_item h1 (.inl (by rw [h2]; simp [itmB, givB]; omega))
            · obtain ⟨h3, h4⟩ := hpv hb
              exact bad_item h1 (.inr ⟨hb, by rw [h2, ← h4]; exact hb'⟩)
          · simp only [Bool.or_eq_false_iff, Bool.and_eq_false_iff, decide_eq_false_iff_not] at hb
            refine ⟨by simp [givB]; omega, fun h0 a b => ?_⟩
            obtain ⟨h3, h4⟩ := hpv h0
            rw [h2, ← h4]
            omega
        clear Hce Hcc Hca Hcb Hcd HKB HK1
        cases ce with
        | true =>
          have FT : Hid (goodQ q = false) := FIN.out.1 rfl
          clear FIN
          refine wpAnyH_take (i := 29) (v := undef) rfl (by kernel_rfl) (by kernel_rfl) (by kernel_rfl) (fun _ _ _ h => h) (.inr ⟨by rfl, rfl⟩) hS ?_
          simp only [Act.put, List.getElem_toArray, List.getElem_cons_succ, List.getElem_cons_zero, List.setIfInBounds_toArray, List.set_cons_succ, List.set_cons_zero]
          refine wpAnyH_take (i := 30) (v := undef) rfl (by kernel_rfl) (by kernel_rfl) (by kernel_rfl) (fun _ _ _ h => h) (.inr ⟨by rfl, rfl⟩) hS ?_
          simp only [Act.put, List.getElem_toArray, List.getElem_cons_succ, List.getElem_cons_zero, List.setIfInBounds_toArray, List.set_cons_succ, List.set_cons_zero]
          refine wpAnyH_take (i := 31) (v := .bool true) rfl (by kernel_rfl) (by kernel_rfl) (by kernel_rfl) (fun _ _ _ h => h) (.inl ⟨by rfl, fun W' hW' => ?_⟩) hS ?_
          · go_simp
          simp only [Act.put, List.getElem_toArray, List.getElem_cons_succ, List.getElem_cons_zero, List.setIfInBounds_toArray, List.set_cons_succ, List.set_cons_zero]
          refine wpAnyH_done (by kernel_rfl) ?_ _
          go_wp2_with fail
          go_meet
          exact ⟨true, rfl, fun _ => FT.out, fun h => (by cases h), hS.a, hS.l⟩
        | false =>
          have FF : Hid (givB x.seq q.seq = true ∧ ∀ h0 : 0 < k, ∀ (a : k - 1 < q.items.length) (b : k < q.items.length), (q.items[k - 1]).seq < (q.items[k]).seq) := FIN.out.2 rfl
          clear FIN
          refine wpAnyH_one (i := 29) (by kernel_rfl) rfl (by rfl) (fun K hK => ?_)
          go_simp
          refine (HM _ hS.n).mono ?_
          rintro e w5 ⟨rfl, b5⟩
          replace hS := hS.on b5
          show K _ _
          refine hK _ _ hS ?_
          clear hK K b5
          refine wpAnyH_take (i := 30) (v := .bool (!msgB x.msg)) rfl (by kernel_rfl) (by kernel_rfl) (by kernel_rfl) (fun _ _ _ h => h) (.inl ⟨by rfl, fun W' hW' => ?_⟩) hS ?_
          · go_simp
          simp only [Act.put, List.getElem_toArray, List.getElem_cons_succ, List.getElem_cons_zero, List.setIfInBounds_toArray, List.set_cons_succ, List.set_cons_zero]
          refine wpAnyH_take (i := 31) (v := .bool (!msgB x.msg)) rfl (by kernel_rfl) (by kernel_rfl) (by kernel_rfl) (fun _ _ _ h => h) (.inl ⟨by rfl, fun W' hW' => ?_⟩) hS ?_
          · go_simp
          simp only [Act.put, List.getElem_toArray, List.getElem_cons_succ, List.getElem_cons_zero, List.setIfInBounds_toArray, List.set_cons_succ, List.set_cons_zero]
          refine wpAnyH_done (by kernel_rfl) ?_ _
          go_wp2_with fail
          go_meet
          refine ⟨(!msgB x.msg), rfl, fun h => ?_, fun h => ?_, hS.a, hS.l⟩
          · obtain ⟨h1, h2⟩ := HX.out
            exact bad_item h1 (.inl (by rw [h2]; simp only [itmB, FF.out.1, Bool.true_and]; simpa using h))
          · obtain ⟨h1, h2⟩ := HX.out
            exact HG.out.next h1 (by rw [h2]; simp only [itmB, FF.out.1, Bool.true_and]; simpa using h) (fun h0 => FF.out.2 h0 _ _)
      case rest =>
        obtain ⟨bd, rfl, HC1, HC2, HBX⟩ := hcut
        clear HM KZ HPY HX
        cases bd with
        | true =>
          have hg := HC1.out rfl
          go_wp2
          go_ret
          exact ⟨by first | rfl | (rw [hg]; done) | (rw [hg]; rfl), HBX.out.2⟩
        | false =>
          have HG1 : Hid (GI q (k + 1)) := HC2.out rfl
          clear HC1 HC2 HG
          go_wp2_with fail
          go_roundg (ni - (k + 1))
          case measure => omega
          case rel => exact ⟨k + 1, by omega, by omega, by go_num, HG1, HBX⟩
    · have HGI : Hid (GI q q.items.length) := by
        have : k = q.items.length := by rw [LQ.out.1]; omega
        rw [← this]
        exact HG.out
      have hlkz : ¬ (k : Int) < (ni : Int) := by omega
      have c6 : wy.cell? ⟨w.heap.size, 6, none⟩ = some (.slice ah nh ch) := HB.out.1.cell 6
      clear HG
      go_wp2_with fail
      clear c6
      go_loopg [102] nh (fun gg s102 wr => ∃ k : Nat, k ≤ nh ∧ nh - k ≤ gg ∧ s102 = .int .i64 k ∧ Hid (GH q k) ∧ Hid (Blk wr w.heap.size #[tx q.name, .bool q.dur, .int .i64 q.depth, .int .i64 q.seq, .int .i64 q.tag, .slice ai ni ci, .slice ah nh ch] 25 ∧ Below w.heap.size w wr))
      case atStart => exact ⟨0, Nat.zero_le _, by omega, rfl, GH.zero q, HB⟩
      case round =>
        clear hk hgk hlk hlkz HB
        obtain ⟨k, hk, hgk, rfl, HG, HB⟩ := hrel
        obtain ⟨wt, hwt⟩ : ∃ W, W = wr := ⟨_, rfl⟩
        subst hwt
        by_cases hlk : k < nh
        · have hlkz : (k : Int) < (nh : Int) := by omega
          have hkl : k < q.held.length := by rw [LQ.out.2.1]; exact hlk
          have hzh : ∀ j (hj : j < zh.length) (hj' : j < q.held.length), (zh[j]).2 = q.held[j] := fun j hj hj' => by simp only [← HH.out.2.1, List.getElem_map]
          obtain ⟨b2, o2, pv2, rfl, hz2, hp2, e0, e1, e2, e3, e4, e5, e6, e7, e8, e9⟩ := hld_at HH.out.1 HB.out.2 (i := k) (by rw [HH.out.2.2]; exact hlk)
          have HPV : Hid (∃ py : Int, ∀ k', k = k' + 1 → wt.cell? ⟨b2, o2 + k' * 10, none⟩ = some (.int .i64 py) ∧ ∃ hk' : k' < q.held.length, py = (q.held[k']).tag) := by
            rcases Nat.eq_zero_or_pos k with h0 | h0
            · exact ⟨0, fun k' e => by omega⟩
            · obtain ⟨b3, o3, pv3, e9, _, _, f0, _⟩ := hld_at HH.out.1 HB.out.2 (i := k - 1) (by rw [HH.out.2.2]; omega)
              injection e9 with e9
              injection e9 with e9 e10
              subst e9 e10
              refine ⟨((zh[k - 1]'(by rw [HH.out.2.2]; omega)).2).tag, fun k' e => ?_⟩
              subst e
              simp only [Nat.add_sub_cancel] at f0 ⊢
              exact ⟨f0, by omega, by rw [hzh k' (by rw [HH.out.2.2]; omega) (by omega)]⟩
          have hx0 := hzh k (by rw [HH.out.2.2]; exact hlk) hkl
          rw [hx0] at hp2 e0 e1 e2 e3 e4 e5 e6 e8 e9
          clear hz2 hx0 hzh
          have HFM : Hid (FitM (q.held[k]).itm.msg) := HF.out.held _ (List.getElem_mem hkl)
          obtain ⟨h, hx⟩ : ∃ h, q.held[k] = h := ⟨_, rfl⟩
          rw [hx] at hp2 e0 e1 e2 e3 e4 e5 e6 e8 e9 HFM
          have HX : Hid (∃ h1 : k < q.held.length, q.held[k] = h) := ⟨hkl, hx⟩
          clear hx hkl
          obtain ⟨pa, pc, rfl⟩ := hp2.shape
          obtain ⟨np, hnp⟩ : ∃ n, h.itm.msg.props.length = n := ⟨_, rfl⟩
          rw [hnp] at e7 hp2
          have HPX : Hid (RdP wt (.slice pa np pc) h.itm.msg.props ∧ h.itm.msg.props.length = np) := ⟨hp2, hnp⟩
          clear hp2 hnp
          go_wp2_with (refine wpl_fresh rfl (.tmp 7) (.tmp 106) rfl _ _ rfl rfl (by kernel_rfl) rfl (by simp [Value.oneCell']) ?_)
          intro wq kz bz sz
          have KZ : Hid (Blk wq w.heap.size #[tx q.name, .bool q.dur, .int .i64 q.depth, .int .i64 q.seq, .int .i64 q.tag, .slice ai ni ci, .slice (some ⟨b2, o2, none⟩) nh ch] 25 ∧ Blk wq wt.heap.size #[.int .i64 h.tag, .int .i64 h.conn, .int .i64 h.sub, .int .i64 h.itm.seq, .bool h.itm.again, tx h.itm.msg.topic, tx h.itm.msg.body, .slice pa np pc, .bool h.itm.msg.dur, .int .i64 h.itm.msg.til] 61 ∧ Below w.heap.size w wq) := ⟨HB.out.1.on bz, kz, nxt HB.out.2 bz⟩
          have HPZ : Hid (∃ py : Int, ∀ k', k = k' + 1 → wq.cell? ⟨b2, o2 + k' * 10, none⟩ = some (.int .i64 py) ∧ ∃ hk' : k' < q.held.length, py = (q.held[k']).tag) := by
            obtain ⟨py, h⟩ := HPV.out
            exact ⟨py, fun k' e => ⟨(bz.cell (World.block_lt_of_cell? wt _ (h k' e).1)).trans (h k' e).1, (h k' e).2⟩⟩
          have HM := fun (W : World) (b : Below wq.heap.size wq W) => rmessage_any W h.itm.msg (.slice pa np pc) ((HPX.out.1.on bz).on b) HFM.out.1 HFM.out.2
          unfold msgV at HM
          clear HB e0 e1 e2 e3 e4 e5 e6 e7 e8 e9 bz kz sz HPV HPX HFM
          generalize wt.heap.size = V at *
          obtain ⟨py, hpy⟩ := HPZ.out
          have HPY : Hid (∀ k', k = k' + 1 → wq.cell? ⟨b2, o2 + k' * 10, none⟩ = some (.int .i64 py) ∧ ∃ hk' : k' < q.held.length, py = (q.held[k']).tag) := hpy
          clear HPZ hpy
          go_upto_region 13 with fail
          go_cut [173] (fun s173 wx => ∃ bd : Bool, s173 = .bool bd ∧ Hid (bd = true → goodQ q = false) ∧ Hid (bd = false → hldB q.seq q.tag h = true ∧ ∀ h0 : 0 < k, ∀ (a : k - 1 < q.held.length) (b : k < q.held.length), (q.held[k - 1]).tag < (q.held[k]).tag) ∧ Hid (Blk wx w.heap.size #[tx q.name, .bool q.dur, .int .i64 q.depth, .int .i64 q.seq, .int .i64 q.tag, .slice ai ni ci, .slice (some ⟨b2, o2, none⟩) nh ch] 25 ∧ Blk wx V #[.int .i64 h.tag, .int .i64 h.conn, .int .i64 h.sub, .int .i64 h.itm.seq, .bool h.itm.again, tx h.itm.msg.topic, tx h.itm.msg.body, .slice pa np pc, .bool h.itm.msg.dur, .int .i64 h.itm.msg.til] 61 ∧ Below w.heap.size w wx))
          case first =>
            obtain ⟨kb, hkb⟩ : ∃ b : Bool, b = decide (0 < k) := ⟨_, rfl⟩
            obtain ⟨k1, hk1⟩ : ∃ k1, k1 = k - 1 := ⟨_, rfl⟩
            have HKB : Hid (kb = decide (0 < k)) := hkb
            have HK1 : Hid (kb = true → k = k1 + 1) := fun h => by
              rw [hkb] at h
              have := of_decide_eq_true h
              omega
            clear hkb hk1
            refine wp_region_held (S := fun W => RgS w wq W 61 #[tx q.name, .bool q.dur, .int .i64 q.depth, .int .i64 q.seq, .int .i64 q.tag, .slice ai ni ci, .slice (some ⟨b2, o2, none⟩) nh ch] #[.int .i64 h.tag, .int .i64 h.conn, .int .i64 h.sub, .int .i64 h.itm.seq, .bool h.itm.again, tx h.itm.msg.topic, tx h.itm.msg.body, .slice pa np pc, .bool h.itm.msg.dur, .int .i64 h.itm.msg.til] V b2 (o2 + k1 * 10) kb py) hmix ?_
            show wpAnyH _ _ _ _ _ _ _ _ (World.drew _)
            have hS : RgS w wq wq.drew 61 #[tx q.name, .bool q.dur, .int .i64 q.depth, .int .i64 q.seq, .int .i64 q.tag, .slice ai ni ci, .slice (some ⟨b2, o2, none⟩) nh ch] #[.int .i64 h.tag, .int .i64 h.conn, .int .i64 h.sub, .int .i64 h.itm.seq, .bool h.itm.again, tx h.itm.msg.topic, tx h.itm.msg.body, .slice pa np pc, .bool h.itm.msg.dur, .int .i64 h.itm.msg.til] V b2 (o2 + k1 * 10) kb py := ⟨⟨KZ.out.1.h⟩, ⟨KZ.out.2.1.h⟩, fun hb => (HPY.out k1 (HK1.out hb)).1, KZ.out.2.2.drew, (Below.refl _ wq).drew⟩
            generalize wq.drew = w9 at *
            refine wpAnyH_take (i := 0) (v := .pointer (some ⟨V, 0, none⟩)) rfl (by kernel_rfl) (by kernel_rfl) (by kernel_rfl) (fun _ _ _ h => h) (.inl ⟨by rfl, fun W' hW' => ?_⟩) hS ?_
            · go_simp
            simp only [Act.put, List.getElem_toArray, List.getElem_cons_zero, List.setIfInBounds_toArray, List.set_cons_succ, List.set_cons_zero]
            refine wpAnyH_take (i := 1) (v := .int .i64 h.tag) rfl (by kernel_rfl) (by kernel_rfl) (by kernel_rfl) (fun _ _ _ h => h) (.inl ⟨by rfl, fun W' hW' => ?_⟩) hS ?_
            · obtain ⟨v0, v1, v2, v3, v4, v5, v6, v7, v8, v9⟩ := hW'.b.c10; go_simp
            simp only [Act.put, List.getElem_toArray, List.getElem_cons_succ, List.getElem_cons_zero, List.setIfInBounds_toArray, List.set_cons_succ, List.set_cons_zero]
            refine wpAnyH_take (i := 2) (v := .bool (decide (h.tag < 1))) rfl (by kernel_rfl) (by kernel_rfl) (by kernel_rfl) (fun _ _ _ h => h) (.inl ⟨by rfl, fun W' hW' => ?_⟩) hS ?_
            · go_simp
            simp only [Act.put, List.getElem_toArray, List.getElem_cons_succ, List.getElem_cons_zero, List.setIfInBounds_toArray, List.set_cons_succ, List.set_cons_zero]
            generalize hca : (decide (h.tag < 1)) = ca
            have Hca : Hid ((decide (h.tag < 1)) = ca) := hca
            clear hca
            refine wpAnyH_take (i := 3) (v := .bool ca) rfl (by kernel_rfl) (by kernel_rfl) (by kernel_rfl) (fun _ _ _ h => h) (.inl ⟨by rfl, fun W' hW' => ?_⟩) hS ?_
            · go_simp
            simp only [Act.put, List.getElem_toArray, List.getElem_cons_succ, List.getElem_cons_zero, List.setIfInBounds_toArray, List.set_cons_succ, List.set_cons_zero]
            refine wpAnyH_take (i := 4) (v := bif ca then undef else .pointer (some ⟨V, 0, none⟩)) rfl (by kernel_rfl) (by kernel_rfl) (by kernel_rfl) (fun _ _ _ h => h) ?_ hS ?_
            · cases ca with
              | true => exact .inr ⟨by rfl, rfl⟩
              | false => exact .inl ⟨by rfl, fun W' hW' => by go_simp⟩
            simp only [Act.put, List.getElem_toArray, List.getElem_cons_succ, List.getElem_cons_zero, List.setIfInBounds_toArray, List.set_cons_succ, List.set_cons_zero]
            refine wpAnyH_take (i := 5) (v := bif ca then undef else .int .i64 h.tag) rfl (by kernel_rfl) (by kernel_rfl) (by kernel_rfl) (fun _ _ _ h => h) ?_ hS ?_
            · cases ca with
              | true => exact .inr ⟨by rfl, rfl⟩
              | false => exact .inl ⟨by rfl, fun W' hW' => by obtain ⟨v0, v1, v2, v3, v4, v5, v6, v7, v8, v9⟩ := hW'.b.c10; go_simp⟩
            simp only [Act.put, List.getElem_toArray, List.getElem_cons_succ, List.getElem_cons_zero, List.setIfInBounds_toArray, List.set_cons_succ, List.set_cons_zero]
            refine wpAnyH_take (i := 6) (v := bif ca then undef else .pointer (some ⟨w.heap.size, 4, none⟩)) rfl (by kernel_rfl) (by kernel_rfl) (by kernel_rfl) (fun _ _ _ h => h) ?_ hS ?_
            · cases ca with
              | true => exact .inr ⟨by rfl, rfl⟩
              | false => exact .inl ⟨by rfl, fun W' hW' => by go_simp⟩
            simp only [Act.put, List.getElem_toArray, List.getElem_cons_succ, List.getElem_cons_zero, List.setIfInBounds_toArray, List.set_cons_succ, List.set_cons_zero]
            refine wpAnyH_take (i := 7) (v := bif ca then undef else .int .i64 q.tag) rfl (by kernel_rfl) (by kernel_rfl) (by kernel_rfl) (fun _ _ _ h => h) ?_ hS ?_
            · cases ca with
              | true => exact .inr ⟨by rfl, rfl⟩
              | false => exact .inl ⟨by rfl, fun W' hW' => by obtain ⟨q0, q1, q2, q3, q4, q5, q6⟩ := hW'.a.c7; go_simp⟩
            simp only [Act.put, List.getElem_toArray, List.getElem_cons_succ, List.getElem_cons_zero, List.setIfInBounds_toArray, List.set_cons_succ, List.set_cons_zero]
            refine wpAnyH_take (i := 8) (v := bif ca then undef else .bool (decide (h.tag > q.tag))) rfl (by kernel_rfl) (by kernel_rfl) (by kernel_rfl) (fun _ _ _ h => h) ?_ hS ?_
            · cases ca with
              | true => exact .inr ⟨by rfl, rfl⟩
              | false => exact .inl ⟨by rfl, fun W' hW' => by go_simp⟩
            simp only [Act.put, List.getElem_toArray, List.getElem_cons_succ, List.getElem_cons_zero, List.setIfInBounds_toArray, List.set_cons_succ, List.set_cons_zero]
            generalize hcb : (decide (h.tag > q.tag)) = cb
            have Hcb : Hid ((decide (h.tag > q.tag)) = cb) := hcb
            clear hcb
            refine wpAnyH_take (i := 9) (v := .bool (ca || cb)) rfl (by kernel_rfl) (by kernel_rfl) (by kernel_rfl) (fun _ _ _ h => h) (.inl ⟨by rfl, fun W' hW' => ?_⟩) hS ?_
            · cases ca <;> cases cb <;> go_simp
            simp only [Act.put, List.getElem_toArray, List.getElem_cons_succ, List.getElem_cons_zero, List.setIfInBounds_toArray, List.set_cons_succ, List.set_cons_zero]
            generalize hcc : (ca || cb) = cc
            have Hcc : Hid ((ca || cb) = cc) := hcc
            clear hcc
            refine wpAnyH_take (i := 10) (v := .bool cc) rfl (by kernel_rfl) (by kernel_rfl) (by kernel_rfl) (fun _ _ _ h => h) (.inl ⟨by rfl, fun W' hW' => ?_⟩) hS ?_
            · go_simp
            simp only [Act.put, List.getElem_toArray, List.getElem_cons_succ, List.getElem_cons_zero, List.setIfInBounds_toArray, List.set_cons_succ, List.set_cons_zero]
            refine wpAnyH_take (i := 11) (v := bif cc then undef else .int .i64 (k : Int)) rfl (by kernel_rfl) (by kernel_rfl) (by kernel_rfl) (fun _ _ _ h => h) ?_ hS ?_
            · cases cc with
              | true => exact .inr ⟨by rfl, rfl⟩
              | false => exact .inl ⟨by rfl, fun W' hW' => by go_simp⟩
            simp only [Act.put, List.getElem_toArray, List.getElem_cons_succ, List.getElem_cons_zero, List.setIfInBounds_toArray, List.set_cons_succ, List.set_cons_zero]
            refine wpAnyH_take (i := 12) (v := bif cc then undef else .bool kb) rfl (by kernel_rfl) (by kernel_rfl) (by kernel_rfl) (fun _ _ _ h => h) ?_ hS ?_
            · cases cc with
              | true => exact .inr ⟨by rfl, rfl⟩
              | false => exact .inl ⟨by rfl, fun W' hW' => by have hkb := HKB.out; go_simp⟩
            simp only [Act.put, List.getElem_toArray, List.getElem_cons_succ, List.getElem_cons_zero, List.setIfInBounds_toArray, List.set_cons_succ, List.set_cons_zero]
            refine wpAnyH_take (i := 13) (v := bif cc then undef else .bool kb) rfl (by kernel_rfl) (by kernel_rfl) (by kernel_rfl) (fun _ _ _ h => h) ?_ hS ?_
            · cases cc with
              | true => exact .inr ⟨by rfl, rfl⟩
              | false => exact .inl ⟨by rfl, fun W' hW' => by go_simp⟩
            simp only [Act.put, List.getElem_toArray, List.getElem_cons_succ, List.getElem_cons_zero, List.setIfInBounds_toArray, List.set_cons_succ, List.set_cons_zero]
            refine wpAnyH_take (i := 14) (v := bif cc then undef else bif kb then .pointer (some ⟨w.heap.size, 6, none⟩) else undef) rfl (by kernel_rfl) (by kernel_rfl) (by kernel_rfl) (fun _ _ _ h => h) ?_ hS ?_
            · cases cc with
              | true => exact .inr ⟨by rfl, rfl⟩
              | false =>
                cases kb with
                | true => exact .inl ⟨by rfl, fun W' hW' => by go_simp⟩
                | false => exact .inr ⟨by rfl, rfl⟩
            simp only [Act.put, List.getElem_toArray, List.getElem_cons_succ, List.getElem_cons_zero, List.setIfInBounds_toArray, List.set_cons_succ, List.set_cons_zero]
            refine wpAnyH_take (i := 15) (v := bif cc then undef else bif kb then .slice (some ⟨b2, o2, none⟩) nh ch else undef) rfl (by kernel_rfl) (by kernel_rfl) (by kernel_rfl) (fun _ _ _ h => h) ?_ hS ?_
            · cases cc with
              | true => exact .inr ⟨by rfl, rfl⟩
              | false =>
                cases kb with
                | true => exact .inl ⟨by rfl, fun W' hW' => by obtain ⟨q0, q1, q2, q3, q4, q5, q6⟩ := hW'.a.c7; go_simp⟩
                | false => exact .inr ⟨by rfl, rfl⟩
            simp only [Act.put, List.getElem_toArray, List.getElem_cons_succ, List.getElem_cons_zero, List.setIfInBounds_toArray, List.set_cons_succ, List.set_cons_zero]
            refine wpAnyH_take (i := 16) (v := bif cc then undef else bif kb then .int .i64 (k : Int) else undef) rfl (by kernel_rfl) (by kernel_rfl) (by kernel_rfl) (fun _ _ _ h => h) ?_ hS ?_
            · cases cc with
              | true => exact .inr ⟨by rfl, rfl⟩
              | false =>
                cases kb with
                | true => exact .inl ⟨by rfl, fun W' hW' => by go_simp⟩
                | false => exact .inr ⟨by rfl, rfl⟩
            simp only [Act.put, List.getElem_toArray, List.getElem_cons_succ, List.getElem_cons_zero, List.setIfInBounds_toArray, List.set_cons_succ, List.set_cons_zero]
            refine wpAnyH_take (i := 17) (v := bif cc then undef else bif kb then .int .i64 (k1 : Int) else undef) rfl (by kernel_rfl) (by kernel_rfl) (by kernel_rfl) (fun _ _ _ h => h) ?_ hS ?_
            · cases cc with
              | true => exact .inr ⟨by rfl, rfl⟩
              | false =>
                cases kb with
                | true => exact .inl ⟨by rfl, fun W' hW' => by have hkb := HK1.out rfl; go_simp; rw [IntKind.wrap_i64]; omega⟩
                | false => exact .inr ⟨by rfl, rfl⟩
            simp only [Act.put, List.getElem_toArray, List.getElem_cons_succ, List.getElem_cons_zero, List.setIfInBounds_toArray, List.set_cons_succ, List.set_cons_zero]
            refine wpAnyH_take (i := 18) (v := bif cc then undef else bif kb then .pointer (some ⟨b2, o2 + k1 * 10, none⟩) else undef) rfl (by kernel_rfl) (by kernel_rfl) (by kernel_rfl) (fun _ _ _ h => h) ?_ hS ?_
            · cases cc with
              | true => exact .inr ⟨by rfl, rfl⟩
              | false =>
                cases kb with
                | true => exact .inl ⟨by rfl, fun W' hW' => by have hkb := HK1.out rfl; go_simp; exact fun h => absurd h (by omega)⟩
                | false => exact .inr ⟨by rfl, rfl⟩
            simp only [Act.put, List.getElem_toArray, List.getElem_cons_succ, List.getElem_cons_zero, List.setIfInBounds_toArray, List.set_cons_succ, List.set_cons_zero]
            refine wpAnyH_take (i := 19) (v := bif cc then undef else bif kb then .pointer (some ⟨b2, o2 + k1 * 10, none⟩) else undef) rfl (by kernel_rfl) (by kernel_rfl) (by kernel_rfl) (fun _ _ _ h => h) ?_ hS ?_
            · cases cc with
              | true => exact .inr ⟨by rfl, rfl⟩
              | false =>
                cases kb with
                | true => exact .inl ⟨by rfl, fun W' hW' => by go_simp⟩
                | false => exact .inr ⟨by rfl, rfl⟩
            simp only [Act.put, List.getElem_toArray, List.getElem_cons_succ, List.getElem_cons_zero, List.setIfInBounds_toArray, List.set_cons_succ, List.set_cons_zero]
            refine wpAnyH_take (i := 20) (v := bif cc then undef else bif kb then .int .i64 py else undef) rfl (by kernel_rfl) (by kernel_rfl) (by kernel_rfl) (fun _ _ _ h => h) ?_ hS ?_
            · cases cc with
              | true => exact .inr ⟨by rfl, rfl⟩
              | false =>
                cases kb with
                | true => exact .inl ⟨by rfl, fun W' hW' => by have p0 := hW'.p rfl; go_simp⟩
                | false => exact .inr ⟨by rfl, rfl⟩
            simp only [Act.put, List.getElem_toArray, List.getElem_cons_succ, List.getElem_cons_zero, List.setIfInBounds_toArray, List.set_cons_succ, List.set_cons_zero]
            refine wpAnyH_take (i := 21) (v := bif cc then undef else bif kb then .pointer (some ⟨V, 0, none⟩) else undef) rfl (by kernel_rfl) (by kernel_rfl) (by kernel_rfl) (fun _ _ _ h => h) ?_ hS ?_
            · cases cc with
              | true => exact .inr ⟨by rfl, rfl⟩
              | false =>
                cases kb with
                | true => exact .inl ⟨by rfl, fun W' hW' => by go_simp⟩
                | false => exact .inr ⟨by rfl, rfl⟩
            simp only [Act.put, List.getElem_toArray, List.getElem_cons_succ, List.getElem_cons_zero, List.setIfInBounds_toArray, List.set_cons_succ, List.set_cons_zero]
            refine wpAnyH_take (i := 22) (v := bif cc then undef else bif kb then .int .i64 h.tag else undef) rfl (by kernel_rfl) (by kernel_rfl) (by kernel_rfl) (fun _ _ _ h => h) ?_ hS ?_
            · cases cc with
              | true => exact .inr ⟨by rfl, rfl⟩
              | false =>
                cases kb with
                | true => exact .inl ⟨by rfl, fun W' hW' => by obtain ⟨v0, v1, v2, v3, v4, v5, v6, v7, v8, v9⟩ := hW'.b.c10; go_simp⟩
                | false => exact .inr ⟨by rfl, rfl⟩
            simp only [Act.put, List.getElem_toArray, List.getElem_cons_succ, List.getElem_cons_zero, List.setIfInBounds_toArray, List.set_cons_succ, List.set_cons_zero]
            refine wpAnyH_take (i := 23) (v := bif cc then undef else bif kb then .bool (decide (py ≥ h.tag)) else undef) rfl (by kernel_rfl) (by kernel_rfl) (by kernel_rfl) (fun _ _ _ h => h) ?_ hS ?_
            · cases cc with
              | true => exact .inr ⟨by rfl, rfl⟩
              | false =>
                cases kb with
                | true => exact .inl ⟨by rfl, fun W' hW' => by go_simp⟩
                | false => exact .inr ⟨by rfl, rfl⟩
            simp only [Act.put, List.getElem_toArray, List.getElem_cons_succ, List.getElem_cons_zero, List.setIfInBounds_toArray, List.set_cons_succ, List.set_cons_zero]
            generalize hcd : (decide (py ≥ h.tag)) = cd
            have Hcd : Hid ((decide (py ≥ h.tag)) = cd) := hcd
            clear hcd
            refine wpAnyH_take (i := 24) (v := bif cc then undef else .bool (kb && cd)) rfl (by kernel_rfl) (by kernel_rfl) (by kernel_rfl) (fun _ _ _ h => h) ?_ hS ?_
            · cases cc with
              | true => exact .inr ⟨by rfl, rfl⟩
              | false => exact .inl ⟨by rfl, fun W' hW' => by cases kb <;> cases cd <;> go_simp⟩
            simp only [Act.put, List.getElem_toArray, List.getElem_cons_succ, List.getElem_cons_zero, List.setIfInBounds_toArray, List.set_cons_succ, List.set_cons_zero]
            refine wpAnyH_take (i := 25) (v := .bool (cc || (kb && cd))) rfl (by kernel_rfl) (by kernel_rfl) (by kernel_rfl) (fun _ _ _ h => h) (.inl ⟨by rfl, fun W' hW' => ?_⟩) hS ?_
            · cases cc <;> cases kb <;> cases cd <;> go_simp
            simp only [Act.put, List.getElem_toArray, List.getElem_cons_succ, List.getElem_cons_zero, List.setIfInBounds_toArray, List.set_cons_succ, List.set_cons_zero]
            generalize hce : (cc || (kb && cd)) = ce
            have Hce : Hid ((cc || (kb && cd)) = ce) := hce
            clear hce
            refine wpAnyH_take (i := 26) (v := .bool ce) rfl (by kernel_rfl) (by kernel_rfl) (by kernel_rfl) (fun _ _ _ h => h) (.inl ⟨by rfl, fun W' hW' => ?_⟩) hS ?_
            · go_simp
            simp only [Act.put, List.getElem_toArray, List.getElem_cons_succ, List.getElem_cons_zero, List.setIfInBounds_toArray, List.set_cons_succ, List.set_cons_zero]
            refine wpAnyH_take (i := 27) (v := bif ce then undef else .pointer (some ⟨V, 1, none⟩)) rfl (by kernel_rfl) (by kernel_rfl) (by kernel_rfl) (fun _ _ _ h => h) ?_ hS ?_
            · cases ce with
              | true => exact .inr ⟨by rfl, rfl⟩
              | false => exact .inl ⟨by rfl, fun W' hW' => by go_simp⟩
            simp only [Act.put, List.getElem_toArray, List.getElem_cons_succ, List.getElem_cons_zero, List.setIfInBounds_toArray, List.set_cons_succ, List.set_cons_zero]
            refine wpAnyH_take (i := 28) (v := bif ce then undef else .int .i64 h.conn) rfl (by kernel_rfl) (by kernel_rfl) (by kernel_rfl) (fun _ _ _ h => h) ?_ hS ?_
            · cases ce with
              | true => exact .inr ⟨by rfl, rfl⟩
              | false => exact .inl ⟨by rfl, fun W' hW' => by obtain ⟨v0, v1, v2, v3, v4, v5, v6, v7, v8, v9⟩ := hW'.b.c10; go_simp⟩
            simp only [Act.put, List.getElem_toArray, List.getElem_cons_succ, List.getElem_cons_zero, List.setIfInBounds_toArray, List.set_cons_succ, List.set_cons_zero]
            refine wpAnyH_take (i := 29) (v := bif ce then undef else .bool (decide (h.conn < 0))) rfl (by kernel_rfl) (by kernel_rfl) (by kernel_rfl) (fun _ _ _ h => h) ?_ hS ?_
            · cases ce with
              | true => exact .inr ⟨by rfl, rfl⟩
              | false => exact .inl ⟨by rfl, fun W' hW' => by go_simp⟩
            simp only [Act.put, List.getElem_toArray, List.getElem_cons_succ, List.getElem_cons_zero, List.setIfInBounds_toArray, List.set_cons_succ, List.set_cons_zero]
            generalize hx1 : (decide (h.conn < 0)) = x1
            have Hx1 : Hid ((decide (h.conn < 0)) = x1) := hx1
            clear hx1
            refine wpAnyH_take (i := 30) (v := .bool (ce || x1)) rfl (by kernel_rfl) (by kernel_rfl) (by kernel_rfl) (fun _ _ _ h => h) (.inl ⟨by rfl, fun W' hW' => ?_⟩) hS ?_
            · cases ce <;> cases x1 <;> go_simp
            simp only [Act.put, List.getElem_toArray, List.getElem_cons_succ, List.getElem_cons_zero, List.setIfInBounds_toArray, List.set_cons_succ, List.set_cons_zero]
            generalize hy1 : (ce || x1) = y1
            have Hy1 : Hid ((ce || x1) = y1) := hy1
            clear hy1
            refine wpAnyH_take (i := 31) (v := .bool y1) rfl (by kernel_rfl) (by kernel_rfl) (by kernel_rfl) (fun _ _ _ h => h) (.inl ⟨by rfl, fun W' hW' => ?_⟩) hS ?_
            · go_simp
            simp only [Act.put, List.getElem_toArray, List.getElem_cons_succ, List.getElem_cons_zero, List.setIfInBounds_toArray, List.set_cons_succ, List.set_cons_zero]
            refine wpAnyH_take (i := 32) (v := bif y1 then undef else .pointer (some ⟨V, 1, none⟩)) rfl (by kernel_rfl) (by kernel_rfl) (by kernel_rfl) (fun _ _ _ h => h) ?_ hS ?_
            · cases y1 with
              | true => exact .inr ⟨by rfl, rfl⟩
              | false => exact .inl ⟨by rfl, fun W' hW' => by go_simp⟩
            simp only [Act.put, List.getElem_toArray, List.getElem_cons_succ, List.getElem_cons_zero, List.setIfInBounds_toArray, List.set_cons_succ, List.set_cons_zero]
            refine wpAnyH_take (i := 33) (v := bif y1 then undef else .int .i64 h.conn) rfl (by kernel_rfl) (by kernel_rfl) (by kernel_rfl) (fun _ _ _ h => h) ?_ hS ?_
            · cases y1 with
              | true => exact .inr ⟨by rfl, rfl⟩
              | false => exact .inl ⟨by rfl, fun W' hW' => by obtain ⟨v0, v1, v2, v3, v4, v5, v6, v7, v8, v9⟩ := hW'.b.c10; go_simp⟩
            simp only [Act.put, List.getElem_toArray, List.getElem_cons_succ, List.getElem_cons_zero, List.setIfInBounds_toArray, List.set_cons_succ, List.set_cons_zero]
            refine wpAnyH_take (i := 34) (v := bif y1 then undef else .bool (decide (h.conn > 7))) rfl (by kernel_rfl) (by kernel_rfl) (by kernel_rfl) (fun _ _ _ h => h) ?_ hS ?_
            · cases y1 with
              | true => exact .inr ⟨by rfl, rfl⟩
              | false => exact .inl ⟨by rfl, fun W' hW' => by go_simp⟩
            simp only [Act.put, List.getElem_toArray, List.getElem_cons_succ, List.getElem_cons_zero, List.setIfInBounds_toArray, List.set_cons_succ, List.set_cons_zero]
            generalize hx2 : (decide (h.conn > 7)) = x2
            have Hx2 : Hid ((decide (h.conn > 7)) = x2) := hx2
            clear hx2
            refine wpAnyH_take (i := 35) (v := .bool (y1 || x2)) rfl (by kernel_rfl) (by kernel_rfl) (by kernel_rfl) (fun _ _ _ h => h) (.inl ⟨by rfl, fun W' hW' => ?_⟩) hS ?_
            · cases y1 <;> cases x2 <;> go_simp
            simp only [Act.put, List.getElem_toArray, List.getElem_cons_succ, List.getElem_cons_zero, List.setIfInBounds_toArray, List.set_cons_succ, List.set_cons_zero]
            generalize hy2 : (y1 || x2) = y2
            have Hy2 : Hid ((y1 || x2) = y2) := hy2
            clear hy2
            refine wpAnyH_take (i := 36) (v := .bool y2) rfl (by kernel_rfl) (by kernel_rfl) (by kernel_rfl) (fun _ _ _ h => h) (.inl ⟨by rfl, fun W' hW' => ?_⟩) hS ?_
            · go_simp
            simp only [Act.put, List.getElem_toArray, List.getElem_cons_succ, List.getElem_cons_zero, List.setIfInBounds_toArray, List.set_cons_succ, List.set_cons_zero]
            refine wpAnyH_take (i := 37) (v := bif y2 then undef else .pointer (some ⟨V, 2, none⟩)) rfl (by kernel_rfl) (by kernel_rfl) (by kernel_rfl) (fun _ _ _ h => h) ?_ hS ?_
            · cases y2 with
              | true => exact .inr ⟨by rfl, rfl⟩
              | false => exact .inl ⟨by rfl, fun W' hW' => by go_simp⟩
            simp only [Act.put, List.getElem_toArray, List.getElem_cons_succ, List.getElem_cons_zero, List.setIfInBounds_toArray, List.set_cons_succ, List.set_cons_zero]
            refine wpAnyH_take (i := 38) (v := bif y2 then undef else .int .i64 h.sub) rfl (by kernel_rfl) (by kernel_rfl) (by kernel_rfl) (fun _ _ _ h => h) ?_ hS ?_
            · cases y2 with
              | true => exact .inr ⟨by rfl, rfl⟩
              | false => exact .inl ⟨by rfl, fun W' hW' => by obtain ⟨v0, v1, v2, v3, v4, v5, v6, v7, v8, v9⟩ := hW'.b.c10; go_simp⟩
            simp only [Act.put, List.getElem_toArray, List.getElem_cons_succ, List.getElem_cons_zero, List.setIfInBounds_toArray, List.set_cons_succ, List.set_cons_zero]
            refine wpAnyH_take (i := 39) (v := bif y2 then undef else .bool (decide (h.sub < 0))) rfl (by kernel_rfl) (by kernel_rfl) (by kernel_rfl) (fun _ _ _ h => h) ?_ hS ?_
            · cases y2 with
              | true => exact .inr ⟨by rfl, rfl⟩
              | false => exact .inl ⟨by rfl, fun W' hW' => by go_simp⟩
            simp only [Act.put, List.getElem_toArray, List.getElem_cons_succ, List.getElem_cons_zero, List.setIfInBounds_toArray, List.set_cons_succ, List.set_cons_zero]
            generalize hx3 : (decide (h.sub < 0)) = x3
            have Hx3 : Hid ((decide (h.sub < 0)) = x3) := hx3
            clear hx3
            refine wpAnyH_take (i := 40) (v := .bool (y2 || x3)) rfl (by kernel_rfl) (by kernel_rfl) (by kernel_rfl) (fun _ _ _ h => h) (.inl ⟨by rfl, fun W' hW' => ?_⟩) hS ?_
            · cases y2 <;> cases x3 <;> go_simp
            simp only [Act.put, List.getElem_toArray, List.getElem_cons_succ, List.getElem_cons_zero, List.setIfInBounds_toArray, List.set_cons_succ, List.set_cons_zero]
            generalize hy3 : (y2 || x3) = y3
            have Hy3 : Hid ((y2 || x3) = y3) := hy3
            clear hy3
            refine wpAnyH_take (i := 41) (v := .bool y3) rfl (by kernel_rfl) (by kernel_rfl) (by kernel_rfl) (fun _ _ _ h => h) (.inl ⟨by rfl, fun W' hW' => ?_⟩) hS ?_
            · go_simp
            simp only [Act.put, List.getElem_toArray, List.getElem_cons_succ, List.getElem_cons_zero, List.setIfInBounds_toArray, List.set_cons_succ, List.set_cons_zero]
            refine wpAnyH_take (i := 42) (v := bif y3 then undef else .pointer (some ⟨V, 2, none⟩)) rfl (by kernel_rfl) (by kernel_rfl) (by kernel_rfl) (fun _ _ _ h => h) ?_ hS ?_
            · cases y3 with
              | true => exact .inr ⟨by rfl, rfl⟩
              | false => exact .inl ⟨by rfl, fun W' hW' => by go_simp⟩
            simp only [Act.put, List.getElem_toArray, List.getElem_cons_succ, List.getElem_cons_zero, List.setIfInBounds_toArray, List.set_cons_succ, List.set_cons_zero]
            refine wpAnyH_take (i := 43) (v := bif y3 then undef else .int .i64 h.sub) rfl (by kernel_rfl) (by kernel_rfl) (by kernel_rfl) (fun _ _ _ h => h) ?_ hS ?_
            · cases y3 with
              | true => exact .inr ⟨by rfl, rfl⟩
              | false => exact .inl ⟨by rfl, fun W' hW' => by obtain ⟨v0, v1, v2, v3, v4, v5, v6, v7, v8, v9⟩ := hW'.b.c10; go_simp⟩
            simp only [Act.put, List.getElem_toArray, List.getElem_cons_succ, List.getElem_cons_zero, List.setIfInBounds_toArray, List.set_cons_succ, List.set_cons_zero]
            refine wpAnyH_take (i := 44) (v := bif y3 then undef else .bool (decide (h.sub > 1099511627776))) rfl (by kernel_rfl) (by kernel_rfl) (by kernel_rfl) (fun _ _ _ h => h) ?_ hS ?_
            · cases y3 with
              | true => exact .inr ⟨by rfl, rfl⟩
              | false => exact .inl ⟨by rfl, fun W' hW' => by go_simp⟩
            simp only [Act.put, List.getElem_toArray, List.getElem_cons_succ, List.getElem_cons_zero, List.setIfInBounds_toArray, List.set_cons_succ, List.set_cons_zero]
            generalize hx4 : (decide (h.sub > 1099511627776)) = x4
            have Hx4 : Hid ((decide (h.sub > 1099511627776)) = x4) := hx4
            clear hx4
            refine wpAnyH_take (i := 45) (v := .bool (y3 || x4)) rfl (by kernel_rfl) (by kernel_rfl) (by kernel_rfl) (fun _ _ _ h => h) (.inl ⟨by rfl, fun W' hW' => ?_⟩) hS ?_
            · cases y3 <;> cases x4 <;> go_simp
            simp only [Act.put, List.getElem_toArray, List.getElem_cons_succ, List.getElem_cons_zero, List.setIfInBounds_toArray, List.set_cons_succ, List.set_cons_zero]
            generalize hy4 : (y3 || x4) = y4
            have Hy4 : Hid ((y3 || x4) = y4) := hy4
            clear hy4
            refine wpAnyH_take (i := 46) (v := .bool y4) rfl (by kernel_rfl) (by kernel_rfl) (by kernel_rfl) (fun _ _ _ h => h) (.inl ⟨by rfl, fun W' hW' => ?_⟩) hS ?_
            · go_simp
            simp only [Act.put, List.getElem_toArray, List.getElem_cons_succ, List.getElem_cons_zero, List.setIfInBounds_toArray, List.set_cons_succ, List.set_cons_zero]
            refine wpAnyH_take (i := 47) (v := bif y4 then undef else .pointer (some ⟨V, 3, none⟩)) rfl (by kernel_rfl) (by kernel_rfl) (by kernel_rfl) (fun _ _ _ h => h) ?_ hS ?_
            · cases y4 with
              | true => exact .inr ⟨by rfl, rfl⟩
              | false => exact .inl ⟨by rfl, fun W' hW' => by go_simp⟩
            simp only [Act.put, List.getElem_toArray, List.getElem_cons_succ, List.getElem_cons_zero, List.setIfInBounds_toArray, List.set_cons_succ, List.set_cons_zero]
            refine wpAnyH_take (i := 48) (v := bif y4 then undef else .pointer (some ⟨V, 3, none⟩)) rfl (by kernel_rfl) (by kernel_rfl) (by kernel_rfl) (fun _ _ _ h => h) ?_ hS ?_
            · cases y4 with
              | true => exact .inr ⟨by rfl, rfl⟩
              | false => exact .inl ⟨by rfl, fun W' hW' => by go_simp⟩
            simp only [Act.put, List.getElem_toArray, List.getElem_cons_succ, List.getElem_cons_zero, List.setIfInBounds_toArray, List.set_cons_succ, List.set_cons_zero]
            refine wpAnyH_take (i := 49) (v := bif y4 then undef else .int .i64 h.itm.seq) rfl (by kernel_rfl) (by kernel_rfl) (by kernel_rfl) (fun _ _ _ h => h) ?_ hS ?_
            · cases y4 with
              | true => exact .inr ⟨by rfl, rfl⟩
              | false => exact .inl ⟨by rfl, fun W' hW' => by obtain ⟨v0, v1, v2, v3, v4, v5, v6, v7, v8, v9⟩ := hW'.b.c10; go_simp⟩
            simp only [Act.put, List.getElem_toArray, List.getElem_cons_succ, List.getElem_cons_zero, List.setIfInBounds_toArray, List.set_cons_succ, List.set_cons_zero]
            refine wpAnyH_take (i := 50) (v := bif y4 then undef else .bool (decide (h.itm.seq < 1))) rfl (by kernel_rfl) (by kernel_rfl) (by kernel_rfl) (fun _ _ _ h => h) ?_ hS ?_
            · cases y4 with
              | true => exact .inr ⟨by rfl, rfl⟩
              | false => exact .inl ⟨by rfl, fun W' hW' => by go_simp⟩
            simp only [Act.put, List.getElem_toArray, List.getElem_cons_succ, List.getElem_cons_zero, List.setIfInBounds_toArray, List.set_cons_succ, List.set_cons_zero]
            generalize hx5 : (decide (h.itm.seq < 1)) = x5
            have Hx5 : Hid ((decide (h.itm.seq < 1)) = x5) := hx5
            clear hx5
            refine wpAnyH_take (i := 51) (v := .bool (y4 || x5)) rfl (by kernel_rfl) (by kernel_rfl) (by kernel_rfl) (fun _ _ _ h => h) (.inl ⟨by rfl, fun W' hW' => ?_⟩) hS ?_
            · cases y4 <;> cases x5 <;> go_simp
            simp only [Act.put, List.getElem_toArray, List.getElem_cons_succ, List.getElem_cons_zero, List.setIfInBounds_toArray, List.set_cons_succ, List.set_cons_zero]
            generalize hy5 : (y4 || x5) = y5
            have Hy5 : Hid ((y4 || x5) = y5) := hy5
            clear hy5
            refine wpAnyH_take (i := 52) (v := .bool y5) rfl (by kernel_rfl) (by kernel_rfl) (by kernel_rfl) (fun _ _ _ h => h) (.inl ⟨by rfl, fun W' hW' => ?_⟩) hS ?_
            · go_simp
            simp only [Act.put, List.getElem_toArray, List.getElem_cons_succ, List.getElem_cons_zero, List.setIfInBounds_toArray, List.set_cons_succ, List.set_cons_zero]
            refine wpAnyH_take (i := 53) (v := bif y5 then undef else .pointer (some ⟨V, 3, none⟩)) rfl (by kernel_rfl) (by kernel_rfl) (by kernel_rfl) (fun _ _ _ h => h) ?_ hS ?_
            · cases y5 with
              | true => exact .inr ⟨by rfl, rfl⟩
              | false => exact .inl ⟨by rfl, fun W' hW' => by go_simp⟩
            simp only [Act.put, List.getElem_toArray, List.getElem_cons_succ, List.getElem_cons_zero, List.setIfInBounds_toArray, List.set_cons_succ, List.set_cons_zero]
            refine wpAnyH_take (i := 54) (v := bif y5 then undef else .pointer (some ⟨V, 3, none⟩)) rfl (by kernel_rfl) (by kernel_rfl) (by kernel_rfl) (fun _ _ _ h => h) ?_ hS ?_
            · cases y5 with
              | true => exact .inr ⟨by rfl, rfl⟩
              | false => exact .inl ⟨by rfl, fun W' hW' => by go_simp⟩
            simp only [Act.put, List.getElem_toArray, List.getElem_cons_succ, List.getElem_cons_zero, List.setIfInBounds_toArray, List.set_cons_succ, List.set_cons_zero]
            refine wpAnyH_take (i := 55) (v := bif y5 then undef else .int .i64 h.itm.seq) rfl (by kernel_rfl) (by kernel_rfl) (by kernel_rfl) (fun _ _ _ h => h) ?_ hS ?_
            · cases y5 with
              | true => exact .inr ⟨by rfl, rfl⟩
              | false => exact .inl ⟨by rfl, fun W' hW' => by obtain ⟨v0, v1, v2, v3, v4, v5, v6, v7, v8, v9⟩ := hW'.b.c10; go_simp⟩
            simp only [Act.put, List.getElem_toArray, List.getElem_cons_succ, List.getElem_cons_zero, List.setIfInBounds_toArray, List.set_cons_succ, List.set_cons_zero]
            refine wpAnyH_take (i := 56) (v := bif y5 then undef else .pointer (some ⟨w.heap.size, 3, none⟩)) rfl (by kernel_rfl) (by kernel_rfl) (by kernel_rfl) (fun _ _ _ h => h) ?_ hS ?_
            · cases y5 with
              | true => exact .inr ⟨by rfl, rfl⟩
              | false => exact .inl ⟨by rfl, fun W' hW' => by go_simp⟩
            simp only [Act.put, List.getElem_toArray, List.getElem_cons_succ, List.getElem_cons_zero, List.setIfInBounds_toArray, List.set_cons_succ, List.set_cons_zero]
            refine wpAnyH_take (i := 57) (v := bif y5 then undef else .int .i64 q.seq) rfl (by kernel_rfl) (by kernel_rfl) (by kernel_rfl) (fun _ _ _ h => h) ?_ hS ?_
            · cases y5 with
              | true => exact .inr ⟨by rfl, rfl⟩
              | false => exact .inl ⟨by rfl, fun W' hW' => by obtain ⟨q0, q1, q2, q3, q4, q5, q6⟩ := hW'.a.c7; go_simp⟩
            simp only [Act.put, List.getElem_toArray, List.getElem_cons_succ, List.getElem_cons_zero, List.setIfInBounds_toArray, List.set_cons_succ, List.set_cons_zero]
            refine wpAnyH_take (i := 58) (v := bif y5 then undef else .bool (decide (h.itm.seq > q.seq))) rfl (by kernel_rfl) (by kernel_rfl) (by kernel_rfl) (fun _ _ _ h => h) ?_ hS ?_
            · cases y5 with
              | true => exact .inr ⟨by rfl, rfl⟩
              | false => exact .inl ⟨by rfl, fun W' hW' => by go_simp⟩
            simp only [Act.put, List.getElem_toArray, List.getElem_cons_succ, List.getElem_cons_zero, List.setIfInBounds_toArray, List.set_cons_succ, List.set_cons_zero]
            generalize hx6 : (decide (h.itm.seq > q.seq)) = x6
            have Hx6 : Hid ((decide (h.itm.seq > q.seq)) = x6) := hx6
            clear hx6
            refine wpAnyH_take (i := 59) (v := .bool (y5 || x6)) rfl (by kernel_rfl) (by kernel_rfl) (by kernel_rfl) (fun _ _ _ h => h) (.inl ⟨by rfl, fun W' hW' => ?_⟩) hS ?_
            · cases y5 <;> cases x6 <;> go_simp
            simp only [Act.put, List.getElem_toArray, List.getElem_cons_succ, List.getElem_cons_zero, List.setIfInBounds_toArray, List.set_cons_succ, List.set_cons_zero]
            generalize hy6 : (y5 || x6) = y6
            have Hy6 : Hid ((y5 || x6) = y6) := hy6
            clear hy6
            refine wpAnyH_take (i := 60) (v := .bool y6) rfl (by kernel_rfl) (by kernel_rfl) (by kernel_rfl) (fun _ _ _ h => h) (.inl ⟨by rfl, fun W' hW' => ?_⟩) hS ?_
            · go_simp
            simp only [Act.put, List.getElem_toArray, List.getElem_cons_succ, List.getElem_cons_zero, List.setIfInBounds_toArray, List.set_cons_succ, List.set_cons_zero]
            refine wpAnyH_take (i := 61) (v := bif y6 then undef else .pointer (some ⟨V, 3, none⟩)) rfl (by kernel_rfl) (by kernel_rfl) (by kernel_rfl) (fun _ _ _ h => h) ?_ hS ?_
            · cases y6 with
              | true => exact .inr ⟨by rfl, rfl⟩
              | false => exact .inl ⟨by rfl, fun W' hW' => by go_simp⟩
            simp only [Act.put, List.getElem_toArray, List.getElem_cons_succ, List.getElem_cons_zero, List.setIfInBounds_toArray, List.set_cons_succ, List.set_cons_zero]
            refine wpAnyH_take (i := 62) (v := bif y6 then undef else .pointer (some ⟨V, 5, none⟩)) rfl (by kernel_rfl) (by kernel_rfl) (by kernel_rfl) (fun _ _ _ h => h) ?_ hS ?_
            · cases y6 with
              | true => exact .inr ⟨by rfl, rfl⟩
              | false => exact .inl ⟨by rfl, fun W' hW' => by go_simp⟩
            simp only [Act.put, List.getElem_toArray, List.getElem_cons_succ, List.getElem_cons_zero, List.setIfInBounds_toArray, List.set_cons_succ, List.set_cons_zero]
            refine wpAnyH_take (i := 63) (v := bif y6 then undef else .agg #[tx h.itm.msg.topic, tx h.itm.msg.body, .slice pa np pc, .bool h.itm.msg.dur, .int .i64 h.itm.msg.til]) rfl (by kernel_rfl) (by kernel_rfl) (by kernel_rfl) (fun _ _ _ h => h) ?_ hS ?_
            · cases y6 with
              | true => exact .inr ⟨by rfl, rfl⟩
              | false => exact .inl ⟨by rfl, fun W' hW' => by obtain ⟨v0, v1, v2, v3, v4, v5, v6, v7, v8, v9⟩ := hW'.b.c10; go_simp⟩
            simp only [Act.put, List.getElem_toArray, List.getElem_cons_succ, List.getElem_cons_zero, List.setIfInBounds_toArray, List.set_cons_succ, List.set_cons_zero]
            have FIN : Hid ((y6 = true → goodQ q = false) ∧ (y6 = false → hldB q.seq q.tag h = msgB h.itm.msg ∧ ∀ h0 : 0 < k, ∀ (a : k - 1 < q.held.length) (b : k < q.held.length), (q.held[k - 1]).tag < (q.held[k]).tag)) := by
              have e1 := Hce.out
              have e2 := Hcc.out
              have e3 := Hca.out
              have e4 := Hcb.out
              have e5 := Hcd.out
              have e6 := HKB.out
              have f1 := Hx1.out
              have f2 := Hx2.out
              have f3 := Hx3.out
              have f4 := Hx4.out
              have f5 := Hx5.out
              have f6 := Hx6.out
              have i1 := Hy1.out
              have i2 := Hy2.out
              have i3 := Hy3.out
              have i4 := Hy4.out
              have i5 := Hy5.out
              have i6 := Hy6.out
              obtain ⟨h1, h2⟩ := HX.out
              have hpv : ∀ h0 : 0 < k, ∃ hk' : k - 1 < q.held.length, py = (q.held[k - 1]).tag := fun h0 => by
                have hk1' : k = (k - 1) + 1 := by omega
                exact (HPY.out (k - 1) hk1').2
              subst i6 i5 i4 i3 i2 i1 f6 f5 f4 f3 f2 f1 e1 e2 e3 e4 e5 e6
              refine (⟨fun hb => ?_, fun hb => ?_⟩ : _ ∧ _)
              · simp only [Bool.or_eq_true, Bool.and_eq_true, decide_eq_true_eq] at hb
                by_cases hp : 0 < k ∧ py ≥ h.tag
                · obtain ⟨h3, h4⟩ := hpv hp.1
                  exact bad_held h1 (.inr (.inl ⟨hp.1, by rw [h2, ← h4]; exact hp.2⟩))
                · refine bad_held h1 (.inl ?_)
                  rw [h2]
                  cases hh : hldB q.seq q.tag h with
                  | false => rfl
                  | true =>
                    simp only [hldB, givB, conB, numB, itmB, Bool.and_eq_true, decide_eq_true_eq] at hh
                    omega
              · simp only [Bool.or_eq_false_iff, Bool.and_eq_false_iff, decide_eq_false_iff_not] at hb
                refine ⟨?_, fun h0 a b => ?_⟩
                · have e1 : givB h.tag q.tag = true := by simp only [givB, Bool.and_eq_true, decide_eq_true_eq]; omega
                  have e2 : conB h.conn = true := by simp only [conB, Bool.and_eq_true, decide_eq_true_eq]; omega
                  have e3 : numB h.sub = true := by simp only [numB, Bool.and_eq_true, decide_eq_true_eq]; omega
                  have e4 : givB h.itm.seq q.seq = true := by simp only [givB, Bool.and_eq_true, decide_eq_true_eq]; omega
                  simp only [hldB, itmB, e1, e2, e3, e4, Bool.true_and, Bool.and_true]
                · obtain ⟨h3, h4⟩ := hpv h0
                  rw [h2, ← h4]
                  omega
            clear Hce Hcc Hca Hcb Hcd HKB HK1 Hx1 Hx2 Hx3 Hx4 Hx5 Hx6 Hy1 Hy2 Hy3 Hy4 Hy5 Hy6
            cases y6 with
            | true =>
              have FT : Hid (goodQ q = false) := FIN.out.1 rfl
              clear FIN
              refine wpAnyH_take (i := 64) (v := undef) rfl (by kernel_rfl) (by kernel_rfl) (by kernel_rfl) (fun _ _ _ h => h) (.inr ⟨by rfl, rfl⟩) hS ?_
              simp only [Act.put, List.getElem_toArray, List.getElem_cons_succ, List.getElem_cons_zero, List.setIfInBounds_toArray, List.set_cons_succ, List.set_cons_zero]
              refine wpAnyH_take (i := 65) (v := undef) rfl (by kernel_rfl) (by kernel_rfl) (by kernel_rfl) (fun _ _ _ h => h) (.inr ⟨by rfl, rfl⟩) hS ?_
              simp only [Act.put, List.getElem_toArray, List.getElem_cons_succ, List.getElem_cons_zero, List.setIfInBounds_toArray, List.set_cons_succ, List.set_cons_zero]
              refine wpAnyH_take (i := 66) (v := .bool true) rfl (by kernel_rfl) (by kernel_rfl) (by kernel_rfl) (fun _ _ _ h => h) (.inl ⟨by rfl, fun W' hW' => ?_⟩) hS ?_
              · go_simp
              simp only [Act.put, List.getElem_toArray, List.getElem_cons_succ, List.getElem_cons_zero, List.setIfInBounds_toArray, List.set_cons_succ, List.set_cons_zero]
              refine wpAnyH_done (by kernel_rfl) ?_ _
              go_wp2_with fail
              go_meet
              exact ⟨true, rfl, fun _ => FT.out, fun h => (by cases h), hS.a, hS.b, hS.l⟩
            | false =>
              have FF : Hid (hldB q.seq q.tag h = msgB h.itm.msg ∧ ∀ h0 : 0 < k, ∀ (a : k - 1 < q.held.length) (b : k < q.held.length), (q.held[k - 1]).tag < (q.held[k]).tag) := FIN.out.2 rfl
              clear FIN
              refine wpAnyH_one (i := 64) (by kernel_rfl) rfl (by rfl) (fun K hK => ?_)
              go_simp
              refine (HM _ hS.n).mono ?_
              rintro e w5 ⟨rfl, b5⟩
              replace hS := hS.on b5
              show K _ _
              refine hK _ _ hS ?_
              clear hK K b5
              refine wpAnyH_take (i := 65) (v := .bool (!msgB h.itm.msg)) rfl (by kernel_rfl) (by kernel_rfl) (by kernel_rfl) (fun _ _ _ h => h) (.inl ⟨by rfl, fun W' hW' => ?_⟩) hS ?_
              · go_simp
              simp only [Act.put, List.getElem_toArray, List.getElem_cons_succ, List.getElem_cons_zero, List.setIfInBounds_toArray, List.set_cons_succ, List.set_cons_zero]
              refine wpAnyH_take (i := 66) (v := .bool (!msgB h.itm.msg)) rfl (by kernel_rfl) (by kernel_rfl) (by kernel_rfl) (fun _ _ _ h => h) (.inl ⟨by rfl, fun W' hW' => ?_⟩) hS ?_
              · go_simp
              simp only [Act.put, List.getElem_toArray, List.getElem_cons_succ, List.getElem_cons_zero, List.setIfInBounds_toArray, List.set_cons_succ, List.set_cons_zero]
              refine wpAnyH_done (by kernel_rfl) ?_ _
              go_wp2_with fail
              go_meet
              refine ⟨(!msgB h.itm.msg), rfl, fun hb => ?_, fun hb => ?_, hS.a, hS.b, hS.l⟩
              · obtain ⟨h1, h2⟩ := HX.out
                exact bad_held h1 (.inl (by rw [h2, FF.out.1]; simpa using hb))
              · exact ⟨by rw [FF.out.1]; simpa using hb, FF.out.2⟩
          case rest =>
            obtain ⟨bd, rfl, HC1, HC2, HBX⟩ := hcut
            clear HM KZ HPY
            cases bd with
            | true =>
              have hg := HC1.out rfl
              go_wp2
              go_ret
              exact ⟨by first | rfl | (rw [hg]; done) | (rw [hg]; rfl), HBX.out.2.2⟩
            | false =>
              have HF2 : Hid (hldB q.seq q.tag h = true ∧ ∀ h0 : 0 < k, ∀ (a : k - 1 < q.held.length) (b : k < q.held.length), (q.held[k - 1]).tag < (q.held[k]).tag) := HC2.out rfl
              have KX : Hid (Blk wc w.heap.size #[tx q.name, .bool q.dur, .int .i64 q.depth, .int .i64 q.seq, .int .i64 q.tag, .slice ai ni ci, .slice (some ⟨b2, o2, none⟩) nh ch] 25) := HBX.out.1
              have KH : Hid (Blk wc V #[.int .i64 h.tag, .int .i64 h.conn, .int .i64 h.sub, .int .i64 h.itm.seq, .bool h.itm.again, tx h.itm.msg.topic, tx h.itm.msg.body, .slice pa np pc, .bool h.itm.msg.dur, .int .i64 h.itm.msg.til] 61) := HBX.out.2.1
              have BX : Hid (Below w.heap.size w wc) := HBX.out.2.2
              clear HC1 HC2 HBX
              have c5 : wc.cell? ⟨w.heap.size, 5, none⟩ = some (.slice ai ni ci) := KX.out.cell 5
              go_wp2_with fail
              go_loopg [177] ni (fun gg s177 wz => ∃ j : Nat, j ≤ ni ∧ ni - j ≤ gg ∧ s177 = .int .i64 j ∧ Hid (∀ x ∈ q.items.take j, x.seq ≠ h.itm.seq) ∧ Hid (Below wc.heap.size wc wz))
              case atStart => exact ⟨0, Nat.zero_le _, by omega, rfl, fun x hx => by simp at hx, Below.refl _ wc⟩
              case round =>
                obtain ⟨j, hj, hgj, rfl, HE, HBz⟩ := hrel
                clear c5
                obtain ⟨wz, hwz⟩ : ∃ W, W = wr := ⟨_, rfl⟩
                subst hwz
                by_cases hlj : j < ni
                · have hljz : (j : Int) < (ni : Int) := by omega
                  obtain ⟨b3, o3, pv3, rfl, hz3, hp3, e0, e1, e2, e3, e4, e5, e6⟩ := itm_at HI.out.1 (nxt BX.out HBz.out) (i := j) (by rw [HI.out.2.2]; exact hlj)
                  have EZ : Hid (q.items.take (j + 1) = q.items.take j ++ [(zi[j]'(by rw [HI.out.2.2]; exact hlj)).2]) := by
                    show q.items.take (j + 1) = _
                    rw [List.take_succ_eq_append_getElem (by rw [LQ.out.1]; exact hlj)]
                    congr 2
                    simp only [← HI.out.2.1, List.getElem_map]
                  have MZ : Hid ((zi[j]'(by rw [HI.out.2.2]; exact hlj)).2 ∈ q.items) := by
                    show (zi[j]'(by rw [HI.out.2.2]; exact hlj)).2 ∈ q.items
                    exact (fun a (ha : a ∈ zi.map (·.2)) => (HI.out.2.1 ▸ ha : a ∈ q.items)) _ (List.mem_map_of_mem (List.getElem_mem _))
                  generalize (zi[j]'(by rw [HI.out.2.2]; exact hlj)).2 = z at *
                  clear hz3
                  obtain ⟨pa3, pc3, rfl⟩ := hp3.shape
                  clear hp3
                  generalize z.msg.props.length = np3 at *
                  go_wp2_with (refine wpl_fresh rfl (.tmp 9) (.tmp 180) rfl _ _ rfl rfl (by kernel_rfl) rfl (by simp [Value.oneCell']) ?_)
                  intro wv kv bv sv
                  have HB2 : Hid (Below wc.heap.size wc wv) := nxt HBz.out bv
                  have d0 : wv.cell? ⟨wz.heap.size, 0, none⟩ = some (.int .i64 z.seq) := kv.cell 0
                  have d3 : wv.cell? ⟨V, 3, none⟩ = some (.int .i64 h.itm.seq) := (KH.out.on HB2.out).cell 3
                  clear HBz e0 e1 e2 e3 e4 e5 e6 bv kv sv
                  by_cases hz : z.seq = h.itm.seq
                  · have hg : goodQ q = false := by
                      obtain ⟨h1, h2⟩ := HX.out
                      exact bad_held h1 (.inr (.inr (.inl ⟨z, MZ.out, by rw [h2]; exact hz⟩)))
                    rw [hz] at d0
                    clear hz
                    go_wp2
                    go_ret
                    exact ⟨by first | rfl | (rw [hg]; done) | (rw [hg]; rfl), nxt BX.out HB2.out⟩
                  · have HE1 : Hid (∀ x ∈ q.items.take (j + 1), x.seq ≠ h.itm.seq) := fun x hx => by
                      rw [EZ.out] at hx
                      rcases List.mem_append.1 hx with hx | hx
                      · exact HE.out x hx
                      · rw [List.mem_singleton.1 hx]
                        exact hz
                    go_wp2_with fail
                    go_roundg (ni - (j + 1))
                    case measure => omega
                    case rel => exact ⟨j + 1, by omega, by omega, by go_num, HE1, HB2⟩
                · have hljz : ¬ (j : Int) < (ni : Int) := by omega
                  have HEA : Hid (∀ x ∈ q.items, x.seq ≠ h.itm.seq) := fun x hx => HE.out x (by rw [List.take_of_length_le (by rw [LQ.out.1]; omega)]; exact hx)
                  clear HE
                  go_wp2_with fail
                  go_loopg [10] k (fun gg s10 wx => ∃ i : Nat, i ≤ k ∧ k - i ≤ gg ∧ s10 = .int .i64 i ∧ Hid (∀ x ∈ q.held.take i, x.itm.seq ≠ h.itm.seq) ∧ Hid (Below wc.heap.size wc wx))
                  case atStart => exact ⟨0, Nat.zero_le _, by omega, rfl, fun x hx => by simp at hx, HBz⟩
                  case round =>
                    obtain ⟨i, hi, hgi, rfl, HE, HBx⟩ := hrel
                    clear HBz
                    obtain ⟨wx, hwx⟩ : ∃ W, W = wr := ⟨_, rfl⟩
                    subst hwx
                    by_cases hli : i < k
                    · have hliz : (i : Int) < (k : Int) := by omega
                      have hin : ¬ (nh : Int) ≤ (i : Int) := by omega
                      obtain ⟨b4, o4, pv4, e10, hz4, hp4, e0, e1, e2, e3, e4, e5, e6, e7, e8, e9⟩ := hld_at HH.out.1 (nxt BX.out HBx.out) (i := i) (by rw [HH.out.2.2]; omega)
                      injection e10 with e10
                      injection e10 with e10 e11
                      subst e10 e11
                      have EZ : Hid (q.held.take (i + 1) = q.held.take i ++ [(zh[i]'(by rw [HH.out.2.2]; omega)).2]) := by
                        show q.held.take (i + 1) = _
                        rw [List.take_succ_eq_append_getElem (by rw [LQ.out.2.1]; omega)]
                        congr 2
                        simp only [← HH.out.2.1, List.getElem_map]
                      generalize (zh[i]'(by rw [HH.out.2.2]; omega)).2 = z at *
                      clear hz4 hp4 e0 e1 e2 e4 e5 e6 e7 e8 e9
                      have d3 := (KH.out.on HBx.out).cell 3
                      have d6 := (KX.out.on HBx.out).cell 6
                      have f1 : ∀ d, (wx.drewN d).cell? ⟨b2, o2 + i * 10 + 3, none⟩ = some (.int .i64 z.itm.seq) := fun d => e3
                      have f2 : ∀ d, (wx.drewN d).cell? ⟨V, 3, none⟩ = some (.int .i64 h.itm.seq) := fun d => d3
                      have f3 : ∀ d, (wx.drewN d).cell? ⟨w.heap.size, 6, none⟩ = some (.slice (some ⟨b2, o2, none⟩) nh ch) := fun d => d6
                      have HBd : Hid (∀ d, Below wc.heap.size wc (wx.drewN d)) := fun d => below_drewN HBx.out d
                      clear e3 d3 d6 HBx
                      by_cases hz : z.itm.seq = h.itm.seq
                      · have hg : goodQ q = false := by
                          obtain ⟨h1, h2⟩ := HX.out
                          refine bad_held h1 (.inr (.inr (.inr ⟨z, ?_, by rw [h2]; exact hz⟩)))
                          have hm : z ∈ q.held.take (i + 1) := by rw [EZ.out]; simp
                          exact (List.take_sublist_take_left (by omega)).subset hm
                        rw [hz] at f1
                        clear hz
                        go_upto_region 24 with fail
                        have hge : decide ((nh : Int) ≤ (i : Int)) = false := by simp; omega
                        go_quiet (fail)
                        go_wp2
                        go_ret
                        exact ⟨by first | rfl | (rw [hg]; done) | (rw [hg]; rfl), nxt BX.out (HBd.out _)⟩
                      · have HE1 : Hid (∀ x ∈ q.held.take (i + 1), x.itm.seq ≠ h.itm.seq) := fun x hx => by
                          rw [EZ.out] at hx
                          rcases List.mem_append.1 hx with hx | hx
                          · exact HE.out x hx
                          · rw [List.mem_singleton.1 hx]
                            exact hz
                        go_upto_region 24 with fail
                        have hge : decide ((nh : Int) ≤ (i : Int)) = false := by simp; omega
                        have hne : decide (z.itm.seq = h.itm.seq) = false := by simpa using hz
                        go_quiet (fail)
                        go_wp2_with fail
                        go_roundg (k - (i + 1))
                        case measure => omega
                        case rel => exact ⟨i + 1, by omega, by omega, by go_num, HE1, HBd.out _⟩
                    · have hliz : ¬ (i : Int) < (k : Int) := by omega
                      have HG1 : Hid (GH q (k + 1)) := by
                        obtain ⟨h1, h2⟩ := HX.out
                        have hik : i = k := by omega
                        subst hik
                        exact HG.out.next h1 (by rw [h2]; exact HF2.out.1) (fun h0 => HF2.out.2 h0 _ _) (by rw [h2]; exact HEA.out) (by rw [h2]; exact HE.out)
                      have HB9 : Hid (Blk wx w.heap.size #[tx q.name, .bool q.dur, .int .i64 q.depth, .int .i64 q.seq, .int .i64 q.tag, .slice ai ni ci, .slice (some ⟨b2, o2, none⟩) nh ch] 25 ∧ Below w.heap.size w wx) := ⟨KX.out.on HBx.out, nxt BX.out HBx.out⟩
                      clear HE HEA HG HBx KX KH BX HX HF2
                      go_wp2_with fail
                      go_roundg (nh - (k + 1))
                      case measure => omega
                      case rel => exact ⟨k + 1, by omega, by omega, by go_num, HG1, HB9⟩
        · have hlkz : ¬ (k : Int) < (nh : Int) := by omega
          have hg : goodQ q = true := by
            have : k = q.held.length := by rw [LQ.out.2.1]; omega
            exact GA.out HGI.out (by rw [← this]; exact HG.out)
          clear HG GA HGI
          go_wp2
          go_ret
          exact ⟨by first | rfl | (rw [hg]; done) | (rw [hg]; rfl), HB.out.2⟩
theorem rgoodq_any (w : World) (v : Value) (q : Que) (h : RdQ w v q) (hf : FitQ q) (hs : lenQ q ≤ 1000) :
    Calls Tryz.prog 14 #[v] w fun e w' => e = .returned (.bool (goodQ q)) ∧ Below w.heap.size w w' := by
  by_cases hc : nameL q.name = true ∧ ¬ q.depth < 1 ∧ ¬ q.depth > 64 ∧ ¬ ((lenQ q : Nat) : Int) > q.depth ∧ ¬ q.seq < 0 ∧ ¬ q.seq > 1099511627776 ∧ ¬ q.tag < 0 ∧ ¬ q.tag > 1099511627776
  · exact rgoodq_ok w v q h hf hs hc
  · exact rgoodq_bad w v q h hf hs hc
end Go.Proofs.YtlbcefocmdnlgaaGreatDoor
