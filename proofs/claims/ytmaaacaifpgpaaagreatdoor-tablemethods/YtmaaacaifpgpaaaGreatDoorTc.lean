
/- What table.putTable lays behind bytes of properties that can be a message's. Conditions: those that each row states. -/
import Derived.Test.YtmaaacaifpgpaaaGreatDoorTb
namespace Go.Proofs.YtmaaacaifpgpaaaGreatDoor
open Go.RowKit Go.Lib
set_option maxRecDepth 100000
set_option linter.unusedSimpArgs false

/-- How long a property's name and text can be. -/
structure Sm (p : Pr) : Prop where
  nm : p.name.data.toList.length ≤ 16
  tx : p.val.text.data.toList.length ≤ 256
  r : p.val.real < 2 ^ 64
theorem toList_data (s : ByteArray) : s.toList = s.data.toList := ByteArray.toList_eq ..
theorem size_data (s : ByteArray) : s.size = s.data.toList.length := (Array.length_toList ..).symm
theorem sm_of {p : Pr} (h : canB p = true) (hr : p.val.real < 2 ^ 64) : Sm p := by
  unfold canB at h
  rw [Bool.and_eq_true] at h
  obtain ⟨h1, h2⟩ := h
  refine ⟨?_, ?_, hr⟩
  · simp only [nameL, Bool.and_eq_true, decide_eq_true_eq] at h1
    rw [← toList_data]
    exact h1.1.2
  · have key : ∀ (a : Val), sameV p.val a = true → a.text = ⟨#[]⟩ → p.val.text.data.toList.length ≤ 256 := by
      intro a ha hat
      simp only [sameV, Bool.and_eq_true, beq_iff_eq] at ha
      have := ha.2.2.1
      rw [hat, toList_data, toList_data] at this
      rw [this]
      decide
    unfold goodV at h2
    split at h2
    · exact key _ h2 rfl
    · split at h2
      · rw [Bool.and_eq_true] at h2
        exact key _ h2.2 rfl
      · split at h2
        · simp only [Bool.and_eq_true, decide_eq_true_eq] at h2
          have := h2.1
          rw [size_data] at this
          omega
        · split at h2
          · exact key _ h2 rfl
          · cases h2
theorem sm_all {ps : List Pr} (h : validL ps = true) (hr : ∀ q ∈ ps, q.val.real < 2 ^ 64) : ps.length ≤ 16 ∧ ∀ q ∈ ps, Sm q := by
  simp only [validL, Bool.and_eq_true, decide_eq_true_eq, List.all_eq_true] at h
  exact ⟨h.1, fun q hq => sm_of (h.2.1 q hq) (hr q hq)⟩
theorem fltL_len (r : Nat) : (fltL r).length ≤ 9 := by
  unfold fltL
  split <;> simp [beN_len]
theorem prT_len {p : Pr} (h : Sm p) : (prT p).length ≤ 300 := by
  have h1 := h.nm
  have h2 := h.tx
  have h3 := fltL_len p.val.real
  unfold prT valT
  rw [List.length_append]
  split
  · simp only [shortL, longL, List.length_append, List.length_cons, beN_len]; omega
  · split
    · simp only [shortL, longL, List.length_append, List.length_cons, beN_len]; omega
    · split
      · simp only [shortL, longL, List.length_append, List.length_cons, beN_len]; omega
      · simp only [shortL, longL, List.length_append, List.length_cons, beN_len]; omega
theorem flatT_len {ps : List Pr} (h : ∀ q ∈ ps, Sm q) : (flatT ps).length ≤ ps.length * 300 := by
  induction ps with
  | nil => simp [flatT]
  | cons p ps ih =>
    have := prT_len (h p (List.mem_cons_self ..))
    have := ih (fun q hq => h q (List.mem_cons_of_mem _ hq))
    simp only [flatT, List.flatMap_cons, List.length_append, List.length_cons] at *
    omega
theorem flatT_snoc (ps : List Pr) (k : Nat) (h : k < ps.length) : flatT (ps.take (k + 1)) = flatT (ps.take k) ++ prT ps[k] := by
  rw [List.take_succ_eq_append_getElem h]
  simp only [flatT, List.flatMap_append, List.flatMap_cons, List.flatMap_nil, List.append_nil]

theorem str_data (s : ByteArray) : Value.string s = str s.data.toList := by simp [str]
set_option maxHeartbeats 2000000 in
theorem table_any (w : World) (B : Nat) (v va : Value) (l : List UInt8) (ps : List Pr) (ho : Own w B v l) (hB : B ≤ w.heap.size) (hl : l.length ≤ 100000000) (hr : RdP w va ps) (h16 : ps.length ≤ 16) (hs : ∀ q ∈ ps, Sm q) :
    Calls Tryz.prog 30 #[v, va] w fun e w' => ∃ v', e = .returned v' ∧ Own w' B v' (l ++ tabL ps) ∧ Bn B w w' := by
  obtain ⟨n, hnn⟩ : ∃ n, ps.length = n := ⟨_, rfl⟩
  obtain ⟨ad, cap, hva, hcells⟩ : ∃ ad cap, va = .slice ad n cap ∧ (0 < n → ∃ b o, ad = some ⟨b, o, none⟩ ∧ ∀ i (h : i < ps.length), PrAt w b (o + i * 5) ps[i]) := by
    rcases hr with ⟨⟨a, c, rfl⟩, rfl⟩ | ⟨b, o, c, rfl, _, h⟩
    · subst hnn
      exact ⟨a, c, rfl, fun h => absurd h (by simp)⟩
    · exact ⟨some ⟨b, o, none⟩, c, by rw [hnn], fun _ => ⟨b, o, rfl, h⟩⟩
  subst hva
  have HN : Hid (ps.length = n) := hnn
  have HC : Hid (0 < n → ∃ b o, ad = some ⟨b, o, none⟩ ∧ ∀ i (h : i < ps.length), PrAt w b (o + i * 5) ps[i]) := hcells
  have HS : Hid (∀ q ∈ ps, Sm q) := hs
  have HO : Hid (Own w B v l) := ho
  rw [hnn] at h16
  clear hr hnn hcells hs ho
  obtain ⟨W0, hW0⟩ : ∃ W0, w.heap.size = W0 := ⟨_, rfl⟩
  have HW0 : Hid (w.heap.size = W0) := hW0
  have hBW : B ≤ W0 := by omega
  clear hW0
  go_enter Tryz.func30, Tryz.ntmps30
  go_wp2_with fail
  go_loopw [5, 10] (fun u i wr => ∃ k : Nat, k ≤ n ∧ i = .int .i64 k ∧ Own wr W0 u (flatT (ps.take k)) ∧ Bn W0 w wr) (fun _ i _ => n - (RowKit.intOf i).toNat)
  case atStart => exact ⟨0, Nat.zero_le _, rfl, Own.nil _ _, Bn.refl _ _⟩
  case round =>
    obtain ⟨k, hk, rfl, hou, hbr⟩ := hrel
    have hwr : W0 ≤ wr.heap.size := by have := hbr.size; have := HW0.out; omega
    have hfl : (flatT (ps.take k)).length ≤ 16 * 300 := by
      have := flatT_len (ps := ps.take k) (fun q hq => HS.out q (List.mem_of_mem_take hq))
      rw [List.length_take] at this
      have := HN.out
      omega
    by_cases hlt : k < n
    · have hkl : k < ps.length := by have := HN.out; omega
      obtain ⟨b, o, rfl, hps⟩ := HC.out (by omega)
      obtain ⟨c0, c1, c2, c3, c4⟩ := (hps k hkl).on (by rw [HW0.out]; exact hbr.b)
      have hsm := HS.out ps[k] (List.getElem_mem hkl)
      have HF : Hid (flatT (ps.take (k + 1)) = flatT (ps.take k) ++ prT ps[k]) := flatT_snoc ps k hkl
      clear hps
      generalize ps[k] = p at *
      generalize flatT (ps.take k) = L at *
      obtain ⟨nm, kd, nu, tx, re⟩ := p
      obtain ⟨hn16, ht256, hre⟩ := hsm
      have hn16 : nm.data.toList.length ≤ 16 := hn16
      have ht256 : tx.data.toList.length ≤ 256 := ht256
      have hre : re < 2 ^ 64 := hre
      have hkz : (k : Int) < (n : Int) := by omega
      have PS : ∀ w v l, Own w (W0 : Nat) v l → W0 ≤ w.heap.size → l.length ≤ 10000 → Calls Tryz.prog 46 #[v, .string nm] w fun e w' => ∃ v', e = .returned v' ∧ Own w' W0 v' (l ++ shortL nm.data.toList) ∧ Bn W0 w w' := fun w v l ho hB hl => by
        rw [str_data nm]
        exact short_any w W0 v l _ ho hB (by omega)
      have PV : ∀ w v l, Own w W0 v l → W0 ≤ w.heap.size → l.length ≤ 10100 → Calls Tryz.prog 45 #[v, .agg #[.int .i64 kd, .int .i64 nu, .string tx, .float .f64 re]] w fun e w' => ∃ v', e = .returned v' ∧ Own w' W0 v' (l ++ valT ⟨kd, nu, tx, re⟩) ∧ Bn W0 w w' := fun w v l ho hB hl => by
        have := value_any w W0 v l tx.data.toList kd nu re (fun _ => hre) ho hB (by omega)
        rwa [← str_data tx, show (⟨tx.data.toList.toArray⟩ : ByteArray) = tx from by simp] at this
      have hsl : (shortL nm.data.toList).length ≤ 20 := by simp only [shortL, List.length_append, beN_len]; omega
      have HP : Hid (prT ⟨nm, kd, nu, tx, re⟩ = shortL nm.data.toList ++ valT ⟨kd, nu, tx, re⟩) := rfl
      generalize prT ⟨nm, kd, nu, tx, re⟩ = PR at *
      generalize shortL nm.data.toList = SN at *
      generalize valT ⟨kd, nu, tx, re⟩ = VT at *
      obtain ⟨W, hW⟩ : ∃ W, W = wr.alloc (.cells #[.string nm, .int .i64 kd, .int .i64 nu, .string tx, .float .f64 re] 44) := ⟨_, rfl⟩
      obtain ⟨a, ha⟩ : ∃ a, wr.heap.size = a := ⟨_, rfl⟩
      have hRow : W.heap[a]? = some (Obj.cells #[.string nm, .int .i64 kd, .int .i64 nu, .string tx, .float .f64 re] 44 (0, 0)) := by subst hW; rw [← ha]; exact heap_alloc_new wr _
      have hB1 : Bn W0 wr W := by subst hW; exact .of (below_new wr _) hwr
      have hou1 : Own W W0 u5 L := by subst hW; exact hou.on (below_new wr _)
      have hs1 := Nat.le_trans hwr hB1.size
      have hbW := hbr.trans hB1
      clear hou hbr hB1 hn16 ht256 hre hwr
      go_wp2_with fail
      rw [← hW]
      clear c0 c1 c2 c3 c4
      refine wp_region_held (S := fun W => W.heap[a]? = some (Obj.cells #[.string nm, .int .i64 kd, .int .i64 nu, .string tx, .float .f64 re] 44 (0, 0))) hmix ?_
      show wpAnyH _ _ _ _ _ _ _ _ (World.drew _)
      have hS : W.drew.heap[a]? = some (Obj.cells #[.string nm, .int .i64 kd, .int .i64 nu, .string tx, .float .f64 re] 44 (0, 0)) := hRow
      have hoD : Own W.drew W0 u5 L := hou1
      have hsD : W0 ≤ W.drew.heap.size := hs1
      have hBD : Bn W0 w W.drew := hbW.trans (.of (Below.refl _ _).drew hs1)
      clear hRow hou1 hs1 hbW hW ha
      generalize W.drew = Wd at *
      refine tks [0, 1, 2, 4, 5] [u5, .pointer (some ⟨a, 0, none⟩), .string nm, .pointer (some ⟨a, 1, none⟩), .agg #[.int .i64 kd, .int .i64 nu, .string tx, .float .f64 re]] 3 ?_ hS ?_
      · simp only [tkY, tkf]
        refine ⟨.yes ?_, .yes ?_, .yes ?_, .yes ?_, .yes ?_, trivial⟩
        all_goals
          intro W' hW'
          have k0 := row_cell hW' 0
          have k1 := row_cell hW' 1
          have k2 := row_cell hW' 2
          have k3 := row_cell hW' 3
          have k4 := row_cell hW' 4
          simp only [List.getElem?_toArray, List.getElem?_cons_zero, List.getElem?_cons_succ] at k0 k1 k2 k3 k4
          go_simp
      simp only [tkA, tkf]
      refine ak 3 (fun K hK => ?_)
      go_wp2_with (go_at_call 46; refine (PS Wd _ _ hoD hsD (by omega)).mono ?_; rintro e w3 ⟨v3, rfl, ho3, hb3⟩)
      have hS3 := hb3.n _ _ _ _ (by decide) hS
      have hB3 := hBD.trans hb3
      have hs3 := Nat.le_trans hsD hb3.size
      refine hK _ _ hS3 ?_
      clear hK K hb3 hBD hS hoD hsD PS
      refine ak 6 (fun K hK => ?_)
      go_wp2_with (go_at_call 45; refine (PV w3 _ _ ho3 hs3 (by rw [List.length_append]; omega)).mono ?_; rintro e w4 ⟨v4, rfl, ho4, hb4⟩)
      have hS4 := hb4.n _ _ _ _ (by decide) hS3
      have hB4 := hB3.trans hb4
      refine hK _ _ hS4 ?_
      clear hK K hb4 hB3 hS3 ho3 hs3 PV
      refine ak 7 (fun K hK => ?_)
      go_wp2_with fail
      refine hK _ _ hS4 ?_
      clear hK K
      refine wpAnyH_done (by kernel_rfl) ?_ _
      have ho5 : Own w4 W0 v4 (flatT (ps.take (k + 1))) := by
        rw [HF.out, HP.out, ← List.append_assoc]
        exact ho4
      clear HF HP ho4
      go_wp2_with fail
      go_roundw
      case rel => exact ⟨k + 1, by omega, by go_num, ho5, hB4⟩
      case measure => simp [RowKit.intOf]; omega
    · have hkn : k = n := by omega
      subst hkn
      have hF0 : ps.take k = ps := by rw [← HN.out]; exact List.take_length
      rw [hF0] at hou hfl
      have cv := conv_any hou.rd
      have ho2 : Own wr B v l := HO.out.on (by rw [HW0.out]; exact hbr.b)
      have hB2 : Bn B w wr := .of (by rw [HW0.out]; exact hbr.b) hB
      have hs2 := Nat.le_trans hB hbr.size
      have PL := long_any wr B v l (flatT ps) ho2 hs2 (by omega)
      have HT : Hid (tabL ps = longL (flatT ps)) := rfl
      clear hou hbr hwr hlt hk hF0 ho2 hs2
      generalize flatT ps = F at *
      go_wp2_with fail
      refine PL.mono ?_
      rintro e w2 ⟨v2, rfl, ho2, hb2⟩
      go_wp2
      go_ret
      exact ⟨_, rfl, by rw [HT.out]; exact ho2, hB2.trans hb2⟩
end Go.Proofs.YtmaaacaifpgpaaaGreatDoor
