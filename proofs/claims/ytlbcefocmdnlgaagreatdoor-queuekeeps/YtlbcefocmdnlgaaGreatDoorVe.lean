/- The document's back: an item in the place of its number. Conditions: those that each row states. -/
import Derived.Test.YtlbcefocmdnlgaaGreatDoorVa
import Derived.Test.YtlbcefocmdnlgaaGreatDoorVb
namespace Go.Proofs.YtlbcefocmdnlgaaGreatDoor
open Go.RowKit Go.Lib
set_option maxRecDepth 100000

/-- Halfway: the item's block, and the list that grows. -/
structure BkS (w W : World) (B : Nat) (xs : Array Value) (v5 : Value) (l : List Itm) : Prop where
  o : ∃ zs : Zs Itm, zs.map (·.2) = l ∧ OwnZ 43 7 (ItR (OwnP W B)) W (w.heap.size + 1) v5 zs
  x : Blk W w.heap.size xs 43
  b : Below w.heap.size w W
theorem BkS.on {w W W' : World} {B : Nat} {xs : Array Value} {v5 : Value} {l : List Itm} (h : BkS w W B xs v5 l) (hb : Below W.heap.size W W') : BkS w W' B xs v5 l := by
  obtain ⟨⟨zs, h1, h2⟩, h3, h4⟩ := h
  exact ⟨⟨zs, h1, (h2.keep (.of_below hb)).imp fun _ _ h => h.keep (.of_below hb)⟩, h3.on hb, nxt h4 hb⟩
theorem BkS.app {w W : World} {B : Nat} {xs : Array Value} {v5 : Value} {l : List Itm} (h : BkS w W B xs v5 l) {ops : Array Oper} {rest : List Oper} {o : Oper} {a : Act} {Q : Exit → Act → World → Prop} (hgd : o.guard = none) (s x : Operand)
    (ho : o.op = .call { callee := .builtin .append, args := #[s, x], argTypes := #[22, 22] }) (hs : a.eval s = v5) (it : Itm) (pv : Value) (hx : a.eval x = .slice (some ⟨W.heap.size, 0, none⟩) 1 1) (hp : OwnP W B pv it.msg.props) (hk : l.length ≤ 90000)
    (cont : ∀ v' w', BkS w w' B xs v' (l ++ [it]) → Kt 54 W w' → (∀ g cs t, Blk W g cs t → some g ≠ v5.ownBlock → Blk w' g cs t) → wpList Tryz.prog ops Q rest (a.put o.dst v') w') : wpList Tryz.prog ops Q (o :: rest) a (W.alloc (.cells (itmV it pv).toArray 43)) := by
  have hb := (Below.refl W.heap.size W).alloc (Nat.le_refl _) (.cells (itmV it pv).toArray 43)
  have hn := Blk.new W (itmV it pv).toArray 43
  obtain ⟨⟨zs, h1, h2⟩, h3, h4⟩ := h.on hb
  have hlen : zs.length ≤ 90000 := by
    rw [← h1, List.length_map] at hk
    exact hk
  have hp2 := hp.keep (.of_below hb)
  have hone : pv.oneCell' = true := hp.rd.one
  have hsz := h3.lt
  refine wpl_appI hgd s x ho (w.heap.size + 1) v5 zs _ _ hs h2 W.heap.size 1 (itmV it pv, it) hx ⟨itmV_one it hone, pv, rfl, hp2⟩ (fun j u hu => ?_) (by omega) (by omega) ?_
  · rw [hn.cell j]
    simpa using hu
  · intro v' w' h6 h7
    have k54 : Kt 54 _ w' := Kt.of_grown h2.1 h7 (by decide)
    have b5 := h4.grown h7 h4.size (fun k hk => Nat.le_of_succ_le (World.ownsRow.lt h2.1 k hk).1)
    exact cont v' w' ⟨⟨zs ++ [(itmV it pv, it)], by rw [List.map_append, h1]; rfl, h6.imp fun _ _ h => h.keep k54⟩, h3.grown h7 (fun e => by have := (World.ownsRow.lt h2.1 _ e.symm).1; omega), b5⟩ ((Kt.of_below hb).trans k54) (fun g cs t hg hne => (hg.on hb).grown h7 hne)

set_option maxHeartbeats 4000000 in
theorem rback_any (w : World) (B : Nat) (v : Value) (zs : Zs Itm) (h : RdZ 7 (ItR (OwnP w B)) w v zs) (x : Itm) (pv : Value) (hp : OwnP w B pv x.msg.props) (hx : x.seq ∉ (zs.map (·.2)).map (·.seq)) (hn : zs.length ≤ 1000) :
    Calls Tryz.prog 71 #[v, .agg (itmV x pv).toArray] w fun e w' => ∃ v', e = .returned v' ∧ (∃ zs' : Zs Itm, zs'.map (·.2) = putB (zs.map (·.2)) x ∧ OwnZ 43 7 (ItR (OwnP w' B)) w' w.heap.size v' zs') ∧ Below w.heap.size w w' := by
  obtain ⟨a, c, rfl⟩ := h.len
  obtain ⟨pa, pc, rfl⟩ := hp.shape
  obtain ⟨pn, hpn⟩ : ∃ pn, x.msg.props.length = pn := ⟨_, rfl⟩
  rw [hpn] at hp ⊢
  obtain ⟨n, hnn⟩ : ∃ n, zs.length = n := ⟨_, rfl⟩
  rw [hnn] at h hn ⊢
  have HZ : Hid (RdZ 7 (ItR (OwnP w B)) w (.slice a n c) zs) := h
  have HN : Hid (zs.length = n) := hnn
  have HX : Hid (x.seq ∉ (zs.map (·.2)).map (·.seq)) := hx
  have HP : Hid (OwnP w B (.slice pa pn pc) x.msg.props) := hp
  clear h hnn hx hp hpn
  have k0 := Blk.new w #[.int .i64 x.seq, .bool true, tx x.msg.topic, tx x.msg.body, .slice pa pn pc, .bool x.msg.dur, .int .i64 x.msg.til] 43
  have b0 := (Below.refl w.heap.size w).alloc (Nat.le_refl _) (.cells #[.int .i64 x.seq, .bool true, tx x.msg.topic, tx x.msg.body, .slice pa pn pc, .bool x.msg.dur, .int .i64 x.msg.til] 43)
  unfold itmV
  go_enter Tryz.func71, Tryz.ntmps71
  go_upto_region 2 with fail
  have H0 : Hid (BkS w (w.alloc (.cells #[.int .i64 x.seq, .bool true, tx x.msg.topic, tx x.msg.body, .slice pa pn pc, .bool x.msg.dur, .int .i64 x.msg.til] 43)) B #[.int .i64 x.seq, .bool true, tx x.msg.topic, tx x.msg.body, .slice pa pn pc, .bool x.msg.dur, .int .i64 x.msg.til] (.slice none 0 0) ((((zs.map (·.2)).take 0).foldl (bkS x) ([], false)).1)) := ⟨⟨[], by simp, World.ownsRow_nil .., by simp⟩, k0, b0⟩
  clear k0 b0
  generalize w.alloc (.cells #[.int .i64 x.seq, .bool true, tx x.msg.topic, tx x.msg.body, .slice pa pn pc, .bool x.msg.dur, .int .i64 x.msg.til] 43) = w1 at *
  go_wp2_with fail
  go_loopg [5, 6, 8, 12] n (fun gg s5 s6 _ s12 wr => ∃ (k : Nat) (fb : Bool), k ≤ n ∧ n - k ≤ gg ∧ s12 = .int .i64 k ∧ s6 = .bool fb ∧ Hid (fb = ((((zs.map (·.2)).take k).foldl (bkS x) ([], false)).2)) ∧ Hid (BkS w wr B #[.int .i64 x.seq, .bool true, tx x.msg.topic, tx x.msg.body, .slice pa pn pc, .bool x.msg.dur, .int .i64 x.msg.til] s5 ((((zs.map (·.2)).take k).foldl (bkS x) ([], false)).1)))
  case atStart => exact ⟨0, false, Nat.zero_le _, by omega, rfl, rfl, rfl, H0.out⟩
  case round =>
    obtain ⟨k, fb, hk, hgg, rfl, rfl, HB, HS⟩ := hrel
    clear H0
    obtain ⟨wt, hwt⟩ : ∃ W, W = wr := ⟨_, rfl⟩
    subst hwt
    have HLN : Hid ((((zs.map (·.2)).take k).foldl (bkS x) ([], false)).1.length ≤ 2000) := by
      have := bk_len x ((zs.map (·.2)).take k) ([], false)
      have h2 : ((zs.map (·.2)).take k).length ≤ n := by rw [List.length_take, List.length_map, HN.out]; omega
      exact Nat.le_trans this (by rw [List.length_nil]; omega)
    by_cases hlt : k < n
    · have hltz : (k : Int) < (n : Int) := by omega
      have hjz : k < zs.length := by rw [HN.out]; exact hlt
      obtain ⟨b, o, pv2, rfl, hz1, hp2, c0, c1, c2, c3, c4, c5, c6⟩ := itm_atP HZ.out HS.out.b (i := k) hjz
      have HK : Hid (((zs.map (·.2)).take (k + 1)).foldl (bkS x) ([], false) = bkS x (((zs.map (·.2)).take k).foldl (bkS x) ([], false)) (zs[k]).2) := by
        have h1 : k < (zs.map (·.2)).length := by rw [List.length_map]; exact hjz
        have := bk_snoc x (zs.map (·.2)) k h1
        simp only [List.getElem_map] at this
        exact this
      generalize (zs[k]).2 = y at *
      have hp3 : OwnP wt B pv2 y.msg.props := hp2.keep (.of_below HS.out.b)
      obtain ⟨pa2, pc2, rfl⟩ := hp3.shape
      obtain ⟨pn2, hpn2⟩ : ∃ n, y.msg.props.length = n := ⟨_, rfl⟩
      rw [hpn2] at c4 hp3
      clear hz1 hp2 hpn2
      obtain ⟨f1, hf1⟩ : ∃ f, f = (((zs.map (·.2)).take k).foldl (bkS x) ([], false)) := ⟨_, rfl⟩
      obtain ⟨f2, hf2⟩ : ∃ f, f = (((zs.map (·.2)).take (k + 1)).foldl (bkS x) ([], false)) := ⟨_, rfl⟩
      rw [← hf1] at HB HS HLN
      rw [← hf1, ← hf2] at HK
      go_wp2_with (refine wpl_fresh rfl (.tmp 8) (.tmp 15) rfl _ _ rfl rfl (by kernel_rfl) rfl (by simp [Value.oneCell']) ?_)
      intro w7 k7 b7 s7
      have S7 := HS.out.on b7
      have hp7 := hp3.keep (.of_below b7)
      have hx7 := HP.out.keep (.of_below S7.b)
      have x7 := S7.x
      have d0 : w7.cell? ⟨wt.heap.size, 0, none⟩ = some (.int .i64 y.seq) := k7.cell 0
      have x0 : w7.cell? ⟨w.heap.size, 0, none⟩ = some (.int .i64 x.seq) := x7.cell 0
      have hne7 : some wt.heap.size ≠ Value.ownBlock u5 := fun e => by
        obtain ⟨⟨zs5, _, h5⟩, _, _⟩ := HS.out
        have := (World.ownsRow.lt h5.1 _ e.symm).2
        omega
      clear HS hp3 c0 c1 c2 c3 c4 c5 c6 b7 s7
      generalize wt.heap.size = bi at *
      by_cases hlay : fb = false ∧ x.seq < y.seq
      · obtain ⟨rfl, hxy⟩ := hlay
        have E2 : Hid (f2 = (f1.1 ++ [{ x with again := true }] ++ [y], true)) := by
          show f2 = _
          rw [HK.out]
          simp [bkS, ← HB.out, hxy]
        go_wp2_with (first | (refine wpl_load43 rfl (.tmp 3) rfl _ _ rfl x7 rfl ?_) | (at_builtin; refine wpl_halt ?_))
        intro _
        refine S7.app rfl (.tmp 25) (.tmp 27) rfl rfl { x with again := true } (.slice pa pn pc) rfl hx7 (by have := HLN.out; omega) ?_
        intro v8 w8 S8 t8 f8
        have k8 : Blk w8 bi #[.int .i64 y.seq, .bool y.again, tx y.msg.topic, tx y.msg.body, .slice pa2 pn2 pc2, .bool y.msg.dur, .int .i64 y.msg.til] 43 := f8 _ _ _ k7 hne7
        have hp8 := hp7.keep t8
        clear S7 hp7 hx7 x7 d0 x0 k7 t8 f8 hne7
        go_wp2_with (first | (refine wpl_load43 rfl (.tmp 8) rfl _ _ rfl k8 rfl ?_) | (at_builtin; refine wpl_halt ?_))
        intro _
        refine S8.app rfl (.tmp 29) (.tmp 31) rfl rfl y (.slice pa2 pn2 pc2) rfl hp8 (by have := HLN.out; rw [List.length_append]; simp; omega) ?_
        intro v9 w9 S9 t9 f9
        have S10 : BkS w w9 B #[.int .i64 x.seq, .bool true, tx x.msg.topic, tx x.msg.body, .slice pa pn pc, .bool x.msg.dur, .int .i64 x.msg.til] v9 f2.1 := by rw [E2.out]; exact S9
        have HB2 : Hid (true = f2.2) := by show true = f2.2; rw [E2.out]
        clear S8 S9 hp8 k8 t9 f9
        go_wp2_with fail
        go_roundg (n - (k + 1))
        case measure => omega
        case rel => exact ⟨k + 1, true, by omega, by omega, by go_num, rfl, by rw [← hf2]; exact HB2.out, by rw [← hf2]; exact S10⟩
      · have E2 : Hid (f2 = (f1.1 ++ [y], fb)) := by
          show f2 = _
          rw [HK.out]
          cases fb with
          | true => simp [bkS, ← HB.out]
          | false =>
            have hxy : ¬ x.seq < y.seq := fun e => hlay ⟨rfl, e⟩
            simp [bkS, ← HB.out, hxy]
        have S8 := S7
        have hp8 := hp7
        have k8 := k7
        clear S7 hp7 hx7 k7 hne7
        have hgo : fb = true ∨ (fb = false ∧ ¬ x.seq < y.seq) := by
          cases fb with
          | true => exact .inl rfl
          | false => exact .inr ⟨rfl, fun e => hlay ⟨rfl, e⟩⟩
        clear hlay
        rcases hgo with rfl | ⟨rfl, hxy⟩
        all_goals
          go_wp2_with (first | (refine wpl_load43 rfl (.tmp 8) rfl _ _ rfl k8 rfl ?_) | (at_builtin; refine wpl_halt ?_))
          intro _
          refine S8.app rfl (.tmp 29) (.tmp 31) rfl rfl y (.slice pa2 pn2 pc2) rfl hp8 (by have := HLN.out; omega) ?_
          intro v9 w9 S9 t9 f9
          have S10 : BkS w w9 B #[.int .i64 x.seq, .bool true, tx x.msg.topic, tx x.msg.body, .slice pa pn pc, .bool x.msg.dur, .int .i64 x.msg.til] v9 f2.1 := by rw [E2.out]; exact S9
          have HB2 : Hid (f2.2 = f2.2) := rfl
          have HB3 := congrArg Prod.snd E2.out
          clear S8 S9 hp8 k8 t9 f9
          go_wp2_with fail
          go_roundg (n - (k + 1))
          case measure => omega
          case rel => exact ⟨k + 1, _, by omega, by omega, by go_num, rfl, by rw [← hf2]; exact HB3.symm, by rw [← hf2]; exact S10⟩
    · have hltz : ¬ (k : Int) < (n : Int) := by omega
      have hkn : k = n := by omega
      have HT : Hid ((zs.map (·.2)).take k = zs.map (·.2)) := List.take_of_length_le (by rw [List.length_map, HN.out]; omega)
      have HA := bk_all x (zs.map (·.2)) [] HX.out
      rw [HT.out] at HB HS HLN
      obtain ⟨f1, hf1⟩ : ∃ f, f = ((zs.map (·.2)).foldl (bkS x) ([], false)) := ⟨_, rfl⟩
      rw [← hf1] at HB HS HLN HA
      have HF : Hid (bkF x f1 = putB (zs.map (·.2)) x) := by rw [HA]; rfl
      have S7 := HS.out
      have hx7 := HP.out.keep (.of_below S7.b)
      have x7 := S7.x
      clear HS HA hf1
      cases fb with
      | true =>
        have HE : Hid (bkF x f1 = f1.1) := by show bkF x f1 = f1.1; simp [bkF, ← HB.out]
        go_wp2_with fail
        go_ret
        obtain ⟨⟨zs', e1, e2⟩, _, e4⟩ := S7
        exact ⟨_, rfl, ⟨zs', by rw [e1, ← HF.out, HE.out], e2.low (Nat.le_succ _)⟩, e4⟩
      | false =>
        have HE : Hid (bkF x f1 = f1.1 ++ [{ x with again := true }]) := by show bkF x f1 = _; simp [bkF, ← HB.out]
        go_wp2_with (first | (refine wpl_load43 rfl (.tmp 3) rfl _ _ rfl x7 rfl ?_) | (at_builtin; refine wpl_halt ?_))
        intro _
        refine S7.app rfl (.tmp 36) (.tmp 38) rfl rfl { x with again := true } (.slice pa pn pc) rfl hx7 (by have := HLN.out; omega) ?_
        intro v9 w9 S9 t9 f9
        clear S7 hx7 x7
        go_wp2_with fail
        go_ret
        obtain ⟨⟨zs', e1, e2⟩, _, e4⟩ := S9
        exact ⟨_, rfl, ⟨zs', by rw [e1, ← HF.out, HE.out], e2.low (Nat.le_succ _)⟩, e4⟩
end Go.Proofs.YtlbcefocmdnlgaaGreatDoor
