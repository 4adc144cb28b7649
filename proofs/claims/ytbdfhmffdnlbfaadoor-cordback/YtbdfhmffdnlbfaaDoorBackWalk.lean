/- The statement CordBack, walked: it answers true, and of what was there nothing has turned, for any list of parts that can be read, where the library's table and its two errors' variables read as they were laid. -/
import Derived.Test.YtbdfhmffdnlbfaaDoorParts
import Derived.Test.YtbdfhmffdnlbfaaDoorReadMath
import Derived.Test.YtbdfhmffdnlbfaaDoorRef
import Derived.Deep.RegionWith
namespace Go.Proofs.YtbdfhmffdnlbfaaDoor
open Go.RowKit Go.Lib

theorem pts_ok {w : World} {v : Value} {ps : List Pm} (h : RdP w v ps) (hp : Played ps) : ∀ p ∈ pts ps, PtOk p := by
  intro p hp'
  obtain ⟨q, hq, rfl⟩ := List.mem_map.1 hp'
  refine ⟨h.1 q hq, ?_⟩
  have := hp.2 q hq
  show q.2.2.data.toList.length ≤ _
  have e : q.2.2.data.toList.length = q.2.2.size := rfl
  omega
theorem encP_len (p : Pt) (hp : PtOk p) (h : p.2.2.length ≤ 4096) : (encP p).length ≤ 5000 := by
  obtain ⟨t, n, s⟩ := p
  have h1 := itoa_length n hp.1.1 hp.1.2
  have h2 := itoa_length (s.length : Int) (by omega) (by simp only at h; omega)
  simp only at h
  cases t
  · simp [encP, encN]; omega
  · simp [encP, encS]; omega
theorem encAll_len (ps : List Pt) : (∀ p ∈ ps, PtOk p ∧ p.2.2.length ≤ 4096) → (encAll ps).length ≤ 5000 * ps.length := by
  induction ps with
  | nil => intro _; simp [encAll]
  | cons p ps ih =>
    intro h
    have h1 := ih (fun q hq => h q (List.mem_cons_of_mem _ hq))
    have h2 := encP_len p (h p (by simp)).1 (h p (by simp)).2
    rw [encAll_cons]
    simp
    omega
theorem played_len {w : World} {v : Value} {ps : List Pm} (h : RdP w v ps) (hp : Played ps) : (encAll (pts ps)).length ≤ 1000000 := by
  have h1 := encAll_len (pts ps) (fun p hp' => ⟨pts_ok h hp p hp', by
    obtain ⟨q, hq, rfl⟩ := List.mem_map.1 hp'
    exact hp.2 q hq⟩)
  have h2 : (pts ps).length = ps.length := by simp [pts]
  have := hp.1
  omega
theorem pts_drop (ps : List Pm) (k : Nat) (h : k < ps.length) : encAll (pts (ps.drop k)) = encP (ptOf (ps.getD k pmZ)) ++ encAll (pts (ps.drop (k + 1))) := by
  rw [List.drop_eq_getElem_cons h, pts, List.map_cons, encAll_cons, List.getD_eq_getElem?_getD, List.getElem?_eq_getElem h, Option.getD_some]
  rfl

theorem drop_len (ps : List Pm) (k : Nat) : (encAll (pts (ps.drop k))).length ≤ (encAll (pts ps)).length := by
  have e : encAll (pts ps) = encAll (pts (ps.take k)) ++ encAll (pts (ps.drop k)) := by
    have e1 : encAll (pts (ps.take k ++ ps.drop k)) = encAll (pts (ps.take k)) ++ encAll (pts (ps.drop k)) := by
      rw [pts, List.map_append, encAll, List.flatMap_append]
      rfl
    rw [List.take_append_drop] at e1
    exact e1
  rw [e, List.length_append]
  omega

/-- A text that was put is read as it is. -/
theorem rstr_put (w : World) (B R : Nat) (s : ByteArray) (r : List UInt8) (h : Rdr w R false (encS s.data.toList ++ r)) (hl : (encS s.data.toList ++ r).length ≤ 140737488355328) (hV : Vars B w) (hBR : B ≤ R) :
    Calls Tryd.prog 19 #[.pointer (some ⟨R, 0, none⟩)] w fun e w' => e = .returned (.string s) ∧ Rdr w' R false r ∧ w.grownBy w' (some R) := by
  have hs : s.data.toList.length ≤ 140737488355328 := by simp only [List.length_append, encS, List.length_cons] at hl; omega
  have := rstr_any w B R false _ h hl hV hBR
  rw [strR_enc _ hs r] at this
  simpa using this
theorem rnum_put (w : World) (B R : Nat) (n : Int) (hn : I64 n) (r : List UInt8) (h : Rdr w R false (encN n ++ r)) (hV : Vars B w) (hBR : B ≤ R) :
    Calls Tryd.prog 15 #[.pointer (some ⟨R, 0, none⟩)] w fun e w' => e = .returned (.int .i64 n) ∧ Rdr w' R false r ∧ w.grownBy w' (some R) := by
  have := rnum_any w B R false _ h hV hBR
  rw [numR_enc _ n hn hn.1 r] at this
  exact this

theorem box_cells (w : World) (R : Nat) (hR : R < w.heap.size) (t : Bool) (n : Int) (s : ByteArray) {w' : World} (hg : ((w.alloc (.cells #[.bool t, .int .i64 n, .string s] 41)).drew).grownBy w' (some R)) :
    w'.cell? ⟨w.heap.size, 0, none⟩ = some (.bool t) ∧ w'.cell? ⟨w.heap.size, 1, none⟩ = some (.int .i64 n) ∧ w'.cell? ⟨w.heap.size, 2, none⟩ = some (.string s) := by
  have hne : some w.heap.size ≠ some R := fun e => by cases e; omega
  exact ⟨hg.cell (a := ⟨w.heap.size, 0, none⟩) (World.cell?_alloc_new w _ _ 0) hne, hg.cell (a := ⟨w.heap.size, 1, none⟩) (World.cell?_alloc_new w _ _ 1) hne, hg.cell (a := ⟨w.heap.size, 2, none⟩) (World.cell?_alloc_new w _ _ 2) hne⟩

/-- Of the states of a reading. -/
theorem readAll_snoc (ts : List Bool) (t : Bool) : ∀ (bad : Bool) (l : List UInt8), readAll (ts ++ [t]) bad l = readR t (readAll ts bad l).1 (readAll ts bad l).2 := by
  induction ts with
  | nil => intro bad l; rfl
  | cons x ts ih => intro bad l; exact ih _ _
theorem readR_len (t bad : Bool) (l : List UInt8) : (readR t bad l).2.length ≤ l.length := by
  cases t
  · simp only [readR, Bool.false_eq_true, if_false]
    unfold numR
    split
    · exact Nat.le_refl _
    · split
      · split
        · simp
        · simp
      · simp
  · simp only [readR, if_true]
    unfold strR
    split
    · exact Nat.le_refl _
    · split
      · split
        · simp
        · simp only [List.length_drop]; omega
      · simp
theorem readAll_len (ts : List Bool) : ∀ (bad : Bool) (l : List UInt8), (readAll ts bad l).2.length ≤ l.length := by
  induction ts with
  | nil => intro bad l; exact Nat.le_refl _
  | cons x ts ih => intro bad l; exact Nat.le_trans (ih _ _) (readR_len x bad l)
def stAt (ps : List Pm) (l : List UInt8) (k : Nat) : Bool × List UInt8 := readAll (((pts ps).map (·.1)).take k) false l
theorem stAt_succ (ps : List Pm) (l : List UInt8) (k : Nat) (h : k < ps.length) : stAt ps l (k + 1) = readR (ps.getD k pmZ).1 (stAt ps l k).1 (stAt ps l k).2 := by
  have h' : k < ((pts ps).map (·.1)).length := by simp [pts]; omega
  unfold stAt
  rw [List.take_succ_eq_append_getElem h', readAll_snoc]
  simp [pts, ptOf, List.getElem?_eq_getElem h]
theorem stAt_end (ps : List Pm) (l : List UInt8) (k : Nat) (h : ps.length ≤ k) : stAt ps l k = readAll ((pts ps).map (·.1)) false l := by
  unfold stAt
  rw [List.take_of_length_le (by simp [pts]; omega)]

set_option maxHeartbeats 4000000 in
theorem back_any (w : World) (v : Value) (ps : List Pm) (h : RdP w v ps) (hl : ps.length ≤ 140737488355328) (hV : Vars w.heap.size w) :
    Calls Tryd.prog 5 #[v] w fun e w' => e = .returned (.bool true) ∧ Below w.heap.size w w' := by
  obtain ⟨a, c, rfl⟩ := h.len
  have HP : Hid (RdP w (.slice a ps.length c) ps) := h
  have HV : Hid (Vars w.heap.size w) := hV
  clear h hV
  go_enter Tryd.func5, Tryd.ntmps5
  go_wp2_with fail
  refine (wakes_any w HV.out).mono ?_
  rintro e w1 ⟨rfl, b1⟩
  have hs1 := b1.size
  go_wp2_with fail
  refine (put_any w1 _ ps (HP.out.on b1) hl (HV.out.up b1 hs1)).mono ?_
  rintro e w2 ⟨hb2, rfl | ⟨v2, rfl, hr2, hp2⟩⟩
  · go_wp2
    go_ret
    exact ⟨rfl, b1.trans (hb2.mono hs1)⟩
  have b2 := b1.trans (hb2.mono hs1)
  have hs2 := b2.size
  have hbl := played_len HP.out hp2
  have hok := pts_ok HP.out hp2
  have hp200 := hp2.1
  have HO : Hid (∀ p ∈ pts ps, PtOk p) := hok
  have hpl : (ps.length : Int) ≤ 200 := by omega
  clear hb2 b1 hok hp2
  have hra := RdA.on (.inl hr2) (below_new w2 (.cells #[] 5))
  go_wp2_with (at_builtin; refine appB rfl (.tmp 21) (.tmp 22) rfl w2.heap.size _ v2 [] _ (w2.alloc (.cells #[] 5)) rfl (own_empty w2 _ (Nat.le_refl _)) rfl hra (by simp; omega) (by simp) ?_)
  intro v3 w3 ho3 hb3
  have b23 := (below_new w2 (.cells #[] 5)).trans hb3
  have hs3 := b23.size
  clear hra hb3
  go_wp2_with (at_builtin; refine app1 rfl (.tmp 23) (.tmp 24) rfl w2.heap.size v3 _ w3 120 120 rfl rfl ho3 rfl (by simp; omega) (by omega) ?_)
  intro v4 w4 ho4 hb4
  have b24 := b23.trans hb4
  have hs4 := b24.size
  clear ho3 hb4 b23 hs3
  go_wp2_with fail
  refine (new_any w4 _ _ (.inl ho4.rd) (by simp; omega)).mono ?_
  rintro e w5 ⟨R, rfl, hR, hr5, hb5⟩
  have b25 := b24.trans (hb5.mono hs4)
  have hrb := hr2.on b25
  have b5 := b2.trans (b25.mono hs2)
  have hwR : w.heap.size ≤ R := by omega
  clear hb5 b25 b24 ho4 hr2 b2 hR hs4
  go_wp2_with fail
  go_loopw [29] (fun i wr => ∃ k : Nat, k ≤ ps.length ∧ i = .int .i64 k ∧ RdB wr v2 (encAll (pts ps)) ∧ Rdr wr R false (encAll (pts (ps.drop k)) ++ [120]) ∧ Below w.heap.size w wr) (fun i _ => ps.length - (RowKit.intOf i).toNat)
  case atStart => exact ⟨0, Nat.zero_le _, rfl, hrb, hr5, b5⟩
  case round =>
    clear hrb hr5 b5
    obtain ⟨k, hk, rfl, hrb, hr, hbr⟩ := hrel
    have hwr := hbr.size
    have hRl : R < wr.heap.size := by obtain ⟨_, h, _⟩ := hr; exact h.lt
    by_cases hlt : k < ps.length
    · obtain ⟨b, o, rfl, h0, h1, h2⟩ := HP.out.at hlt
      have hlo := World.block_lt_of_cell? w _ h0
      have hc0 : wr.cell? ⟨b, o + k * 3, none⟩ = some (.bool (ps.getD k pmZ).1) := by rw [hbr.cell (p := ⟨b, o + k * 3, none⟩) hlo]; exact h0
      have hc1 : wr.cell? ⟨b, o + k * 3 + 1, none⟩ = some (.int .i64 (ps.getD k pmZ).2.1) := by rw [hbr.cell (p := ⟨b, o + k * 3 + 1, none⟩) hlo]; exact h1
      have hc2 : wr.cell? ⟨b, o + k * 3 + 2, none⟩ = some (.string (ps.getD k pmZ).2.2) := by rw [hbr.cell (p := ⟨b, o + k * 3 + 2, none⟩) hlo]; exact h2
      clear h0 h1 h2
      have hrg := HP.out.rng k
      have hdl : (encAll (pts (ps.drop k)) ++ [120]).length ≤ 140737488355328 := by have := drop_len ps k; simp only [List.length_append, List.length_cons, List.length_nil]; omega
      rw [pts_drop ps k hlt] at hr hdl
      obtain ⟨r, er⟩ : ∃ r, encAll (pts (ps.drop (k + 1))) = r := ⟨_, rfl⟩
      rw [er] at hr hdl
      have HE : Hid (encAll (pts (ps.drop (k + 1))) = r) := er
      clear er
      generalize ps.getD k pmZ = pm at *
      obtain ⟨t, n, s⟩ := pm
      simp only at hc0 hc1 hc2 hrg
      have bnew : Below wr.heap.size wr (wr.alloc (.cells #[.bool t, .int .i64 n, .string s] 41)).drew := (below_new wr _).drew
      have brn : Below w.heap.size w (wr.alloc (.cells #[.bool t, .int .i64 n, .string s] 41)).drew := hbr.trans (bnew.mono hwr)
      have hsn : w.heap.size ≤ (wr.alloc (.cells #[.bool t, .int .i64 n, .string s] 41)).drew.heap.size := by simp; omega
      cases t with
      | true =>
        have e : encP (ptOf (true, n, s)) ++ r ++ [120] = encS s.data.toList ++ (r ++ [120]) := by simp [encP, ptOf]
        rw [e] at hr hdl
        have hS := rstr_put _ w.heap.size R s (r ++ [120]) (hr.on bnew) hdl (HV.out.on brn) hwR
        have HK : Hid (∀ w', ((wr.alloc (.cells #[.bool true, .int .i64 n, .string s] 41)).drew).grownBy w' (some R) → _) := fun w' hg => box_cells wr R hRl true n s hg
        have HR : Hid (∀ w', ((wr.alloc (.cells #[.bool true, .int .i64 n, .string s] 41)).drew).grownBy w' (some R) → RdB w' v2 (encAll (pts ps)) ∧ Below w.heap.size w w') := fun w' hg => by
          obtain ⟨u, hu, hv⟩ := hr.on bnew
          obtain ⟨ua, un, uc, rfl⟩ := hv.shape
          exact ⟨(hrb.on bnew).grown hu hg, brn.grown hg hsn (by intro k hk; cases hk; exact hwR)⟩
        clear hr hdl bnew brn hsn hrb hbr e
        go_wp2_with fail
        first | go_region_with (first | (go_at_call 19; refine hS.mono ?_; rintro e w6 ⟨rfl, hr6, hg6⟩; obtain ⟨q0, q1, q2⟩ := HK.out _ hg6; obtain ⟨hrb6, b6⟩ := HR.out _ hg6; clear hg6)) | fail
        all_goals go_wp2
        all_goals go_roundw
        all_goals first | exact ⟨k + 1, by omega, by go_num, hrb6, by rw [HE.out]; exact hr6, b6⟩ | (simp [RowKit.intOf]; omega)
      | false =>
        have e : encP (ptOf (false, n, s)) ++ r ++ [120] = encN n ++ (r ++ [120]) := by simp [encP, ptOf]
        rw [e] at hr
        have hS := rnum_put _ w.heap.size R n hrg (r ++ [120]) (hr.on bnew) (HV.out.on brn) hwR
        have HK : Hid (∀ w', ((wr.alloc (.cells #[.bool false, .int .i64 n, .string s] 41)).drew).grownBy w' (some R) → _) := fun w' hg => box_cells wr R hRl false n s hg
        have HR : Hid (∀ w', ((wr.alloc (.cells #[.bool false, .int .i64 n, .string s] 41)).drew).grownBy w' (some R) → RdB w' v2 (encAll (pts ps)) ∧ Below w.heap.size w w') := fun w' hg => by
          obtain ⟨u, hu, hv⟩ := hr.on bnew
          obtain ⟨ua, un, uc, rfl⟩ := hv.shape
          exact ⟨(hrb.on bnew).grown hu hg, brn.grown hg hsn (by intro k hk; cases hk; exact hwR)⟩
        clear hr hdl bnew brn hsn hrb hbr e
        go_wp2_with fail
        first | go_region_with (first | (go_at_call 15; refine hS.mono ?_; rintro e w6 ⟨rfl, hr6, hg6⟩; obtain ⟨q0, q1, q2⟩ := HK.out _ hg6; obtain ⟨hrb6, b6⟩ := HR.out _ hg6; clear hg6)) | fail
        all_goals go_wp2
        all_goals go_roundw
        all_goals first | exact ⟨k + 1, by omega, by go_num, hrb6, by rw [HE.out]; exact hr6, b6⟩ | (simp [RowKit.intOf]; omega)
    · have ek : ps.drop k = [] := List.drop_eq_nil_of_le (by omega)
      have hr : Rdr wr R false [120] := by
        have h' := hr
        rw [ek] at h'
        exact h'
      have hB := bad_any wr R false [120] hr
      have hL := left_any wr R false [120] hr
      have hE := end_any wr R false [120] hr
      clear ek hr
      go_wp2_with fail
      refine hB.mono ?_
      rintro e w6 ⟨rfl, rfl⟩
      clear hB
      go_wp2_with fail
      refine hL.mono ?_
      rintro e w7 ⟨rfl, rfl⟩
      clear hL
      go_wp2_with fail
      refine hE.mono ?_
      rintro e w8 ⟨rfl, rfl⟩
      clear hE
      go_wp2_with fail
      have hs8 := hbr.size
      obtain ⟨ad, cv, rfl⟩ := hrb.lens
      go_loopw [8] (fun i wr => ∃ j : Nat, i = .int .i64 j ∧ Below w8.heap.size w8 wr) (fun i _ => (encAll (pts ps)).length - (RowKit.intOf i).toNat)
      case atStart => exact ⟨0, rfl, Below.refl _ _⟩
      case round =>
        obtain ⟨j, rfl, hbj⟩ := hrel
        have hsj := hbj.size
        have bj : Below w.heap.size w wr := hbr.trans (hbj.mono hs8)
        have hrj := hrb.on hbj
        by_cases hlt2 : j < (encAll (pts ps)).length
        · have hlt3 : (j : Int) < ((encAll (pts ps)).length : Int) := by omega
          obtain ⟨b, o, c2, e2, hlc, hcl⟩ : ∃ b o c2, Value.slice ad (encAll (pts ps)).length cv = .slice (some ⟨b, o, none⟩) (encAll (pts ps)).length c2 ∧ (encAll (pts ps)).length ≤ c2 ∧ ∀ i, i < (encAll (pts ps)).length → wr.cell? ⟨b, o + i, none⟩ = some (.int .u8 (((encAll (pts ps)).getD i 0).toNat : Int)) := by
            rcases hrj with ⟨e, e'⟩ | h
            · rw [e'] at hlt2
              simp at hlt2
            · exact h
          cases e2
          have hT := RdB.take j (by omega) hcl hlc
          have hpre : (encAll (pts ps)).take j <+: encAll (pts ps) := List.take_prefix _ _
          have hshort := readAll_short (pts ps) HO.out _ hpre (by simp; omega)
          have hjc : (j : Int) ≤ (cv : Int) := by omega
          have HC : Hid ((readAll ((pts ps).map (·.1)) false ((encAll (pts ps)).take j)).1 = true) := hshort
          have htl : ((encAll (pts ps)).take j).length ≤ 1000000 := by simp; omega
          clear hrj hshort hpre hcl
          go_wp2_with fail
          refine (new_any wr _ _ (.inl hT) (by omega)).mono ?_
          rintro e w9 ⟨Q, rfl, hQ, hr9, hb9⟩
          have b9 := hbj.trans (hb9.mono hsj)
          have hwQ : w8.heap.size ≤ Q := by omega
          clear hb9 hT
          go_wp2_with fail
          generalize (encAll (pts ps)).take j = l0 at *
          go_loopw [82] (fun i wr => ∃ k : Nat, k ≤ ps.length ∧ i = .int .i64 k ∧ Rdr wr Q (stAt ps l0 k).1 (stAt ps l0 k).2 ∧ Below w8.heap.size w8 wr) (fun i _ => ps.length - (RowKit.intOf i).toNat)
          case atStart => exact ⟨0, Nat.zero_le _, rfl, hr9, b9⟩
          case round =>
            clear hr9 b9 hbj bj hsj
            obtain ⟨k3, hk3, rfl, hr, hbk⟩ := hrel
            have hsk := hbk.size
            have bk : Below w.heap.size w wr := hbr.trans (hbk.mono hs8)
            have hwk := bk.size
            have hlk : (stAt ps l0 k3).2.length ≤ 140737488355328 := Nat.le_trans (readAll_len _ _ _) (by omega)
            by_cases hlt4 : k3 < ps.length
            · obtain ⟨b, o, rfl, h0, h1, h2⟩ := (HP.out.on bk).at hlt4
              have HS : Hid (stAt ps l0 (k3 + 1) = readR (ps.getD k3 pmZ).1 (stAt ps l0 k3).1 (stAt ps l0 k3).2) := stAt_succ ps l0 k3 hlt4
              generalize ps.getD k3 pmZ = pm at *
              obtain ⟨t, n, s⟩ := pm
              simp only at h0 h1 h2
              generalize stAt ps l0 k3 = st at *
              obtain ⟨bd, l'⟩ := st
              have bnew : Below wr.heap.size wr (wr.alloc (.cells #[.bool t, .int .i64 n, .string s] 41)) := below_new wr _
              have brn := bk.trans (bnew.mono hwk)
              have b8n := hbk.trans (bnew.mono hsk)
              have hrn := hr.on bnew
              cases t with
              | true =>
                have hS := rstr_any _ w.heap.size Q bd l' hrn hlk (HV.out.on brn) (by omega)
                clear hr bnew brn hrn
                go_wp2_with fail
                refine hS.mono ?_
                rintro e w10 ⟨rfl, hr10, hg10⟩
                have b10 := b8n.grown hg10 (by simp; omega) (by intro k hk; cases hk; exact hwQ)
                clear hS hg10 b8n
                go_wp2
                go_roundw
                case rel => exact ⟨k3 + 1, by omega, by go_num, by rw [HS.out]; exact hr10, b10⟩
                case measure => simp [RowKit.intOf]; omega
              | false =>
                have hS := rnum_any _ w.heap.size Q bd l' hrn (HV.out.on brn) (by omega)
                clear hr bnew brn hrn
                go_wp2_with fail
                refine hS.mono ?_
                rintro e w10 ⟨rfl, hr10, hg10⟩
                have b10 := b8n.grown hg10 (by simp; omega) (by intro k hk; cases hk; exact hwQ)
                clear hS hg10 b8n
                go_wp2
                go_roundw
                case rel => exact ⟨k3 + 1, by omega, by go_num, by rw [HS.out]; exact hr10, b10⟩
                case measure => simp [RowKit.intOf]; omega
            · have hbad : (stAt ps l0 k3).1 = true := by rw [stAt_end ps l0 k3 (by omega)]; exact HC.out
              rw [hbad] at hr
              have hB := bad_any wr Q true _ hr
              have hE := end_any wr Q true _ hr
              clear hr hbad
              go_wp2_with fail
              refine hE.mono ?_
              rintro e w10 ⟨rfl, rfl⟩
              clear hE
              go_wp2_with fail
              refine hB.mono ?_
              rintro e w11 ⟨rfl, rfl⟩
              clear hB
              go_wp2
              go_roundw
              case rel => exact ⟨j + (1 + (encAll (pts ps)).length / 40), by go_num, hbk⟩
              case measure => simp [RowKit.intOf]; omega
        · go_wp2
          go_ret
          exact ⟨rfl, bj⟩
end Go.Proofs.YtbdfhmffdnlbfaaDoor
