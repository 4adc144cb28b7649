/- What slices.DeleteFunc leaves of a row of the call's own. Conditions: those that each row states. -/
import Derived.Test.YtnpikgakpmkipabGreatDoorZ04
import Derived.Test.YtnpikgakpmkipabGreatDoorZ07
import Derived.Deep.LoopGhost
import Derived.Test.YtnpikgakpmkipabGreatDoorZ05
namespace Go.Proofs.YtnpikgakpmkipabGreatDoor
open Go.RowKit Go.Lib
set_option maxRecDepth 100000
set_option linter.unusedVariables false
theorem itm_atP {P : Value → List Pr → Prop} {w W : World} {a : Option Addr} {n c : Nat} {zs : Zs Itm} (h : RdZ 7 (ItR P) w (.slice a n c) zs) (hb : Bw w W) {i : Nat} (hi : i < zs.length) :
  ∃ b o pv, a = some ⟨b, o, none⟩ ∧ (zs[i]).1 = itmV (zs[i]).2 pv ∧ P pv (zs[i]).2.msg.props ∧ W.cell? ⟨b, o + i * 7, none⟩ = some (.int .i64 (zs[i]).2.seq) ∧ W.cell? ⟨b, o + i * 7 + 1, none⟩ = some (.bool (zs[i]).2.again) ∧ W.cell? ⟨b, o + i * 7 + 2, none⟩ = some (tx (zs[i]).2.msg.topic) ∧ W.cell? ⟨b, o + i * 7 + 3, none⟩ = some (tx (zs[i]).2.msg.body) ∧ W.cell? ⟨b, o + i * 7 + 4, none⟩ = some (pv) ∧ W.cell? ⟨b, o + i * 7 + 5, none⟩ = some (.bool (zs[i]).2.msg.dur) ∧ W.cell? ⟨b, o + i * 7 + 6, none⟩ = some (.int .i64 (zs[i]).2.msg.til) := by
 obtain ⟨b, o, c', e, hc⟩ := h.some (by omega)
 obtain ⟨rfl, _, _⟩ : a = some ⟨b, o, none⟩ ∧ n = zs.length ∧ c = c' := by
  injection e with e1 e2 e3
  exact ⟨e1, e2, e3⟩
 obtain ⟨hk, pv, hv, hp⟩ := h.2 _ (List.getElem_mem hi)
 have h1 := h.cells hi
 have key : ∀ j (hj : j < 7), W.cell? ⟨b, o + i * 7 + j, none⟩ = (itmV (zs[i]).2 pv)[j]? := fun j hj => by
  have e2 : ((zs[i]).1)[j]? = some (((zs[i]).1)[j]'(by rw [hk.1]; exact hj)) := List.getElem?_eq_getElem _
  have h2 := h1 j _ e2
  rw [hb.cell (World.block_lt_of_cell? w _ h2), h2, ← e2, hv]
 exact ⟨b, o, pv, rfl, hv, hp, key 0 (by omega), key 1 (by omega), key 2 (by omega), key 3 (by omega), key 4 (by omega), key 5 (by omega), key 6 (by omega)⟩
theorem hld_atP {P : Value → List Pr → Prop} {w W : World} {a : Option Addr} {n c : Nat} {zs : Zs Hld} (h : RdZ 10 (HeR P) w (.slice a n c) zs) (hb : Bw w W) {i : Nat} (hi : i < zs.length) :
  ∃ b o pv, a = some ⟨b, o, none⟩ ∧ (zs[i]).1 = hldV (zs[i]).2 pv ∧ P pv (zs[i]).2.itm.msg.props ∧ W.cell? ⟨b, o + i * 10, none⟩ = some (.int .i64 (zs[i]).2.tag) ∧ W.cell? ⟨b, o + i * 10 + 1, none⟩ = some (.int .i64 (zs[i]).2.conn) ∧ W.cell? ⟨b, o + i * 10 + 2, none⟩ = some (.int .i64 (zs[i]).2.sub) ∧ W.cell? ⟨b, o + i * 10 + 3, none⟩ = some (.int .i64 (zs[i]).2.itm.seq) ∧ W.cell? ⟨b, o + i * 10 + 4, none⟩ = some (.bool (zs[i]).2.itm.again) ∧ W.cell? ⟨b, o + i * 10 + 5, none⟩ = some (tx (zs[i]).2.itm.msg.topic) ∧ W.cell? ⟨b, o + i * 10 + 6, none⟩ = some (tx (zs[i]).2.itm.msg.body) ∧ W.cell? ⟨b, o + i * 10 + 7, none⟩ = some (pv) ∧ W.cell? ⟨b, o + i * 10 + 8, none⟩ = some (.bool (zs[i]).2.itm.msg.dur) ∧ W.cell? ⟨b, o + i * 10 + 9, none⟩ = some (.int .i64 (zs[i]).2.itm.msg.til) := by
 obtain ⟨b, o, c', e, hc⟩ := h.some (by omega)
 obtain ⟨rfl, _, _⟩ : a = some ⟨b, o, none⟩ ∧ n = zs.length ∧ c = c' := by
  injection e with e1 e2 e3
  exact ⟨e1, e2, e3⟩
 obtain ⟨hk, pv, hv, hp⟩ := h.2 _ (List.getElem_mem hi)
 have h1 := h.cells hi
 have key : ∀ j (hj : j < 10), W.cell? ⟨b, o + i * 10 + j, none⟩ = (hldV (zs[i]).2 pv)[j]? := fun j hj => by
  have e2 : ((zs[i]).1)[j]? = some (((zs[i]).1)[j]'(by rw [hk.1]; exact hj)) := List.getElem?_eq_getElem _
  have h2 := h1 j _ e2
  rw [hb.cell (World.block_lt_of_cell? w _ h2), h2, ← e2, hv]
 exact ⟨b, o, pv, rfl, hv, hp, key 0 (by omega), key 1 (by omega), key 2 (by omega), key 3 (by omega), key 4 (by omega), key 5 (by omega), key 6 (by omega), key 7 (by omega), key 8 (by omega), key 9 (by omega)⟩
theorem indexI_own (w : World) (row : Option Nat) (v : Value) (zs : Zs Itm) (P : Value → List Pr → Prop) (hP : ∀ pv l, P pv l → ∃ a c, pv = .slice a l.length c) (h : RdZ 7 (ItR P) w v zs) (hn : zs.length ≤ 1000000) (gg : Nat) (lb : Array Value) (eg : ∀ args w, (callFunc gg args).run Tryz.prog w = .ok (.enter gg args) w) (p : Itm → Bool)
  (hcall : ∀ x pv W, w.grownBy W row → Calls Tryz.prog gg (#[.agg (itmV x pv).toArray] ++ lb) W fun e W' => e = .returned (.bool (p x)) ∧ Bw W W') :
  Calls Tryz.prog 225 #[v, .func (.func gg) #[] lb] w fun e w' => e = .returned (.int .i64 (if zs.findIdx (fun z : List Value × Itm => p z.2) < zs.length then (zs.findIdx (fun z : List Value × Itm => p z.2) : Int) else -1)) ∧ Bw w w' := by
 obtain ⟨a, c, hv⟩ := h.len
 subst hv
 have hK1 : ∀ j (h : j < zs.length), j < zs.findIdx (fun z : List Value × Itm => p z.2) → p (zs[j]).2 = false := fun j h hj => by simpa using List.not_of_lt_findIdx hj
 have hK2 : ∀ h : zs.findIdx (fun z : List Value × Itm => p z.2) < zs.length, p (zs[zs.findIdx (fun z : List Value × Itm => p z.2)]).2 = true := fun h => List.findIdx_getElem (p := fun z : List Value × Itm => p z.2) (w := h)
 have hKn : zs.findIdx (fun z : List Value × Itm => p z.2) ≤ zs.length := List.findIdx_le_length
 generalize zs.findIdx (fun z : List Value × Itm => p z.2) = K at *
 have HK1 : Hid (∀ j (h : j < zs.length), j < K → p (zs[j]).2 = false) := hK1
 have HK2 : Hid (∀ h : K < zs.length, p (zs[K]).2 = true) := hK2
 clear hK1 hK2
 obtain ⟨n, hnn⟩ : ∃ n, zs.length = n := ⟨_, rfl⟩
 rw [hnn] at h hn hKn ⊢
 have HI : Hid (RdZ 7 (ItR P) w (.slice a n c) zs) := h
 have NI : Hid (zs.length = n) := hnn
 have HC : Hid (∀ x pv W, w.grownBy W row → Calls Tryz.prog gg (#[.agg (itmV x pv).toArray] ++ lb) W fun e W' => e = .returned (.bool (p x)) ∧ Bw W W') := hcall
 obtain ⟨ans, hans⟩ : ∃ ans : Int, (if K < n then (K : Int) else -1) = ans := ⟨_, rfl⟩
 have HA : Hid ((if K < n then (K : Int) else -1) = ans) := hans
 rw [hans]
 clear h hnn hcall hans
 go_enter Tryz.func225, Tryz.ntmps225
 go_wp2_with fail
 go_loopg [5, 8] n (fun g2 _ s8 wr => ∃ kk : Nat, kk ≤ K ∧ n - kk ≤ g2 ∧ s8 = .int .i64 kk ∧ Hid (Bw w wr))
 case atStart => exact ⟨0, Nat.zero_le _, by omega, rfl, Below.refl _ _⟩
 case round =>
  obtain ⟨kk, hkk, hg, rfl, HS⟩ := hrel
  by_cases hlt : kk < n
  ·have hltz : (kk : Int) < (n : Int) := by omega
   obtain ⟨b, o, pv, rfl, hz1, hp, c0, c1, c2, c3, c4, c5, c6⟩ := itm_atP HI.out HS.out (i := kk) (by rw [NI.out]; exact hlt)
   have hcl := HC.out (zs[kk]'(by rw [NI.out]; exact hlt)).2 pv wr (gb_below HS.out row)
   have HQ : Hid (kk < K → p (zs[kk]'(by rw [NI.out]; exact hlt)).2 = false) := HK1.out kk (by rw [NI.out]; exact hlt)
   have HQ2 : Hid (kk = K → p (zs[kk]'(by rw [NI.out]; exact hlt)).2 = true) := fun e => by subst e; exact HK2.out _
   obtain ⟨pa, pc, rfl⟩ := hP _ _ hp
   generalize (zs[kk]'(by rw [NI.out]; exact hlt)).2 = x at *
   generalize x.msg.props.length = pn at *
   have hwr := HS.out.size
   clear hz1 hp
   unfold itmV at hcl
   by_cases hkK : kk = K
   ·have hq := HQ2.out hkK
    have HE : Hid (ans = (kk : Int)) := by rw [← HA.out, if_pos (by omega), hkK]; exact rfl
    clear HQ HQ2 hkK
    go_wp2_with fail
    refine hcl.mono ?_
    rintro e w' ⟨rfl, b2⟩
    rw [hq]
    have HB : Hid (Bw w w') := HS.out.trans (b2.mono hwr)
    clear hcl b2 c0 c1 c2 c3 c4 c5 c6
    go_wp2
    go_ret
    exact ⟨by rw [HE.out]; rfl, HB.out⟩
   ·have hq := HQ.out (by omega)
    clear HQ HQ2
    go_wp2_with fail
    refine hcl.mono ?_
    rintro e w' ⟨rfl, b2⟩
    rw [hq]
    have HB : Hid (Bw w w') := HS.out.trans (b2.mono hwr)
    clear hcl b2 c0 c1 c2 c3 c4 c5 c6
    go_wp2
    go_roundg (n - (kk + 1))
    case measure => omega
    case rel => exact ⟨kk + 1, by omega, by omega, by go_num, HB.out⟩
  ·have hltz : ¬ (kk : Int) < (n : Int) := by omega
   have HE : Hid (ans = -1) := by rw [← HA.out, if_neg (by omega)]; exact rfl
   go_wp2
   go_ret
   exact ⟨by rw [HE.out]; rfl, HS.out⟩
theorem indexH_own (w : World) (row : Option Nat) (v : Value) (zs : Zs Hld) (P : Value → List Pr → Prop) (hP : ∀ pv l, P pv l → ∃ a c, pv = .slice a l.length c) (h : RdZ 10 (HeR P) w v zs) (hn : zs.length ≤ 1000000) (gg : Nat) (lb : Array Value) (eg : ∀ args w, (callFunc gg args).run Tryz.prog w = .ok (.enter gg args) w) (p : Hld → Bool)
  (hcall : ∀ x pv W, w.grownBy W row → Calls Tryz.prog gg (#[.agg (hldV x pv).toArray] ++ lb) W fun e W' => e = .returned (.bool (p x)) ∧ Bw W W') :
  Calls Tryz.prog 212 #[v, .func (.func gg) #[] lb] w fun e w' => e = .returned (.int .i64 (if zs.findIdx (fun z : List Value × Hld => p z.2) < zs.length then (zs.findIdx (fun z : List Value × Hld => p z.2) : Int) else -1)) ∧ Bw w w' := by
 obtain ⟨a, c, hv⟩ := h.len
 subst hv
 have hK1 : ∀ j (h : j < zs.length), j < zs.findIdx (fun z : List Value × Hld => p z.2) → p (zs[j]).2 = false := fun j h hj => by simpa using List.not_of_lt_findIdx hj
 have hK2 : ∀ h : zs.findIdx (fun z : List Value × Hld => p z.2) < zs.length, p (zs[zs.findIdx (fun z : List Value × Hld => p z.2)]).2 = true := fun h => List.findIdx_getElem (p := fun z : List Value × Hld => p z.2) (w := h)
 have hKn : zs.findIdx (fun z : List Value × Hld => p z.2) ≤ zs.length := List.findIdx_le_length
 generalize zs.findIdx (fun z : List Value × Hld => p z.2) = K at *
 have HK1 : Hid (∀ j (h : j < zs.length), j < K → p (zs[j]).2 = false) := hK1
 have HK2 : Hid (∀ h : K < zs.length, p (zs[K]).2 = true) := hK2
 clear hK1 hK2
 obtain ⟨n, hnn⟩ : ∃ n, zs.length = n := ⟨_, rfl⟩
 rw [hnn] at h hn hKn ⊢
 have HI : Hid (RdZ 10 (HeR P) w (.slice a n c) zs) := h
 have NI : Hid (zs.length = n) := hnn
 have HC : Hid (∀ x pv W, w.grownBy W row → Calls Tryz.prog gg (#[.agg (hldV x pv).toArray] ++ lb) W fun e W' => e = .returned (.bool (p x)) ∧ Bw W W') := hcall
 obtain ⟨ans, hans⟩ : ∃ ans : Int, (if K < n then (K : Int) else -1) = ans := ⟨_, rfl⟩
 have HA : Hid ((if K < n then (K : Int) else -1) = ans) := hans
 rw [hans]
 clear h hnn hcall hans
 go_enter Tryz.func212, Tryz.ntmps212
 go_wp2_with fail
 go_loopg [5, 8] n (fun g2 _ s8 wr => ∃ kk : Nat, kk ≤ K ∧ n - kk ≤ g2 ∧ s8 = .int .i64 kk ∧ Hid (Bw w wr))
 case atStart => exact ⟨0, Nat.zero_le _, by omega, rfl, Below.refl _ _⟩
 case round =>
  obtain ⟨kk, hkk, hg, rfl, HS⟩ := hrel
  by_cases hlt : kk < n
  ·have hltz : (kk : Int) < (n : Int) := by omega
   obtain ⟨b, o, pv, rfl, hz1, hp, c0, c1, c2, c3, c4, c5, c6, c7, c8, c9⟩ := hld_atP HI.out HS.out (i := kk) (by rw [NI.out]; exact hlt)
   have hcl := HC.out (zs[kk]'(by rw [NI.out]; exact hlt)).2 pv wr (gb_below HS.out row)
   have HQ : Hid (kk < K → p (zs[kk]'(by rw [NI.out]; exact hlt)).2 = false) := HK1.out kk (by rw [NI.out]; exact hlt)
   have HQ2 : Hid (kk = K → p (zs[kk]'(by rw [NI.out]; exact hlt)).2 = true) := fun e => by subst e; exact HK2.out _
   obtain ⟨pa, pc, rfl⟩ := hP _ _ hp
   generalize (zs[kk]'(by rw [NI.out]; exact hlt)).2 = x at *
   generalize x.itm.msg.props.length = pn at *
   have hwr := HS.out.size
   clear hz1 hp
   unfold hldV at hcl
   by_cases hkK : kk = K
   ·have hq := HQ2.out hkK
    have HE : Hid (ans = (kk : Int)) := by rw [← HA.out, if_pos (by omega), hkK]; exact rfl
    clear HQ HQ2 hkK
    go_wp2_with fail
    refine hcl.mono ?_
    rintro e w' ⟨rfl, b2⟩
    rw [hq]
    have HB : Hid (Bw w w') := HS.out.trans (b2.mono hwr)
    clear hcl b2 c0 c1 c2 c3 c4 c5 c6 c7 c8 c9
    go_wp2
    go_ret
    exact ⟨by rw [HE.out]; rfl, HB.out⟩
   ·have hq := HQ.out (by omega)
    clear HQ HQ2
    go_wp2_with fail
    refine hcl.mono ?_
    rintro e w' ⟨rfl, b2⟩
    rw [hq]
    have HB : Hid (Bw w w') := HS.out.trans (b2.mono hwr)
    clear hcl b2 c0 c1 c2 c3 c4 c5 c6 c7 c8 c9
    go_wp2
    go_roundg (n - (kk + 1))
    case measure => omega
    case rel => exact ⟨kk + 1, by omega, by omega, by go_num, HB.out⟩
  ·have hltz : ¬ (kk : Int) < (n : Int) := by omega
   have HE : Hid (ans = -1) := by rw [← HA.out, if_neg (by omega)]; exact rfl
   go_wp2
   go_ret
   exact ⟨by rw [HE.out]; rfl, HS.out⟩
theorem filt_none {α : Type} (p : α → Bool) : ∀ (l : List α), ¬ l.findIdx p < l.length → l.filter (fun x => !p x) = l
 | [], _ => rfl
 | x :: l, h => by
  rw [List.findIdx_cons] at h
  cases e : p x with
  | true => simp [e] at h
  | false =>
   simp only [e, cond_false, List.length_cons] at h
   rw [List.filter_cons_of_pos (by simp [e]), filt_none p l (by omega)]
theorem filt_take {α : Type} (p : α → Bool) (l : List α) : (l.take (l.findIdx p)).filter (fun x => !p x) = l.take (l.findIdx p) := by
 rw [List.filter_eq_self]
 intro x hx
 obtain ⟨i, hi, rfl⟩ := List.mem_iff_getElem.1 hx
 rw [List.length_take] at hi
 rw [List.getElem_take]
 have := List.not_of_lt_findIdx (p := p) (xs := l) (i := i) (by omega)
 simp [this]
structure MidH (w W : World) (row : Nat) (cap n : Nat) (zs : Zs Hld) (p : Hld → Bool) (i j : Nat) : Prop where
 blk : ∃ cur, Blk W row cur 133 ∧ cur.size = cap * 10 ∧ cur.toList.take (i * 10) = cellsZ ((zs.take j).filter (fun z => !p z.2)) ∧ (cur.toList.drop (j * 10)).take ((n - j) * 10) = cellsZ (zs.drop j)
 num : i = ((zs.take j).filter (fun z => !p z.2)).length
 gr : w.grownBy W (some row)
theorem MidH.on {w W W' : World} {row cap n : Nat} {zs : Zs Hld} {p : Hld → Bool} {i j : Nat} (h : MidH w W row cap n zs p i j) (hb : Bw W W') : MidH w W' row cap n zs p i j := by
 obtain ⟨cur, h1, h2⟩ := h.blk
 exact ⟨⟨cur, h1.on hb, h2⟩, h.num, gb_trans h.gr (gb_below hb _)⟩
theorem MidH.skip {w W : World} {row cap n : Nat} {zs : Zs Hld} {p : Hld → Bool} {i j : Nat} (h : MidH w W row cap n zs p i j) (hk : ∀ z ∈ zs, z.1.length = 10) (hn : zs.length = n) (hj : j < zs.length) (hp : p (zs[j]).2 = true) : MidH w W row cap n zs p i (j + 1) := by
 obtain ⟨cur, h1, h2, h3, h4⟩ := h.blk
 have e : (zs.take (j + 1)).filter (fun z => !p z.2) = (zs.take j).filter (fun z => !p z.2) := by
  rw [List.take_succ_eq_append_getElem hj, List.filter_append]
  simp [hp]
 refine ⟨⟨cur, h1, h2, by rw [e]; exact h3, ?_⟩, by rw [e]; exact h.num, h.gr⟩
 have := congrArg (List.drop 10) h4
 have hd := cellsZ_drop (fun z hz => hk z (List.mem_of_mem_drop hz)) (zs := zs.drop j) 1
 rw [Nat.one_mul, List.drop_drop] at hd
 rw [hd, List.drop_take, List.drop_drop] at this
 rw [show (j + 1) * 10 = j * 10 + 10 by omega, show (n - (j + 1)) * 10 = (n - j) * 10 - 10 by omega]
 exact this
theorem MidH.cells {w W : World} {row cap n : Nat} {zs : Zs Hld} {p : Hld → Bool} {i j : Nat} (h : MidH w W row cap n zs p i j) (hk : ∀ z ∈ zs, z.1.length = 10) (hn : zs.length = n) (hj : j < zs.length) : ∀ t u, ((zs[j]).1)[t]? = some u → W.cell? ⟨row, j * 10 + t, none⟩ = some u := fun t u hu => by
 obtain ⟨cur, h1, h2, h3, h4⟩ := h.blk
 have ht : t < 10 := by
  have := (List.getElem?_eq_some_iff.1 hu).1
  rwa [hk _ (List.getElem_mem hj)] at this
 have e := cellsZ_at (fun z hz => hk z (List.mem_of_mem_drop hz)) (zs := zs.drop j) 0 (by rw [List.length_drop]; omega) t ht
 rw [Nat.zero_mul, Nat.zero_add, List.getElem_drop, ← h4, List.getElem?_take_of_lt (by omega), List.getElem?_drop] at e
 rw [h1.cell, ← hu]
 simpa using e
theorem MidH.keepit {w W W' : World} {row cap n : Nat} {zs : Zs Hld} {p : Hld → Bool} {i j : Nat} (h : MidH w W row cap n zs p i j) (hk : ∀ z ∈ zs, z.1.length = 10) (hn : zs.length = n) (hij : i < j) (hjn : n ≤ cap) (hj : j < zs.length) (hp : p (zs[j]).2 = false)
  {cur : Array Value} (hb : Blk W row cur 133) (cells : Array Value) (hc : cells.toList = (zs[j]).1) (hW : Blk W' row (cur.toList.take (i * 10) ++ cells.toList ++ cur.toList.drop (i * 10 + cells.size)).toArray 133) (hg : W.grownBy W' (some row)) : MidH w W' row cap n zs p (i + 1) (j + 1) := by
 obtain ⟨cur', h1, h2, h3, h4⟩ := h.blk
 have ec : cur' = cur := by
  have := h1.h
  rw [hb.h] at this
  injection this with e
  injection e with e _ _
  exact e.symm
 subst ec
 have hcs : cells.size = 10 := by rw [← Array.length_toList, hc, hk _ (List.getElem_mem hj)]
 have e : (zs.take (j + 1)).filter (fun z => !p z.2) = (zs.take j).filter (fun z => !p z.2) ++ [zs[j]] := by
  rw [List.take_succ_eq_append_getElem hj, List.filter_append]
  simp [hp]
 have hti : (cur'.toList.take (i * 10)).length = i * 10 := by rw [List.length_take, Array.length_toList]; omega
 refine ⟨⟨_, hW, ?_, ?_, ?_⟩, by rw [e, List.length_append, ← h.num]; rfl, gb_trans h.gr hg⟩
 ·simp
  omega
 ·have hl : (i + 1) * 10 = (cur'.toList.take (i * 10) ++ cells.toList).length := by rw [List.length_append, hti, Array.length_toList, hcs]; omega
  rw [List.toList_toArray, hl, List.take_left' rfl, e, cellsZ_app, h3, hc]
  simp [cellsZ]
 ·have hl : (cur'.toList.take (i * 10) ++ cells.toList).length = i * 10 + cells.size := by rw [List.length_append, hti, Array.length_toList]
  have hd : (cur'.toList.take (i * 10) ++ cells.toList ++ cur'.toList.drop (i * 10 + cells.size)).drop ((j + 1) * 10) = cur'.toList.drop ((j + 1) * 10) := by
   rw [List.drop_append, List.drop_of_length_le (by rw [hl, hcs]; omega), List.nil_append, List.drop_drop, hl]
   congr 1
   omega
  rw [List.toList_toArray, hd]
  have := congrArg (List.drop 10) h4
  have hd2 := cellsZ_drop (fun z hz => hk z (List.mem_of_mem_drop hz)) (zs := zs.drop j) 1
  rw [Nat.one_mul, List.drop_drop] at hd2
  rw [hd2, List.drop_take, List.drop_drop] at this
  rw [show (j + 1) * 10 = j * 10 + 10 by omega, show (n - (j + 1)) * 10 = (n - j) * 10 - 10 by omega]
  exact this
set_option maxHeartbeats 8000000 in
theorem deleteFuncH_any (w : World) (B : Nat) (v : Value) (zs : Zs Hld) (P : Value → List Pr → Prop) (hP : ∀ pv l, P pv l → ∃ a c, pv = .slice a l.length c) (h : OwnZ 133 10 (HeR P) w B v zs) (hn : zs.length ≤ 1000) (gg : Nat) (lb : Array Value) (eg : ∀ args w, (callFunc gg args).run Tryz.prog w = .ok (.enter gg args) w) (p : Hld → Bool)
  (hcall : ∀ x pv W, w.grownBy W v.ownBlock → Calls Tryz.prog gg (#[.agg (hldV x pv).toArray] ++ lb) W fun e W' => e = .returned (.bool (p x)) ∧ Bw W W') :
  Calls Tryz.prog 211 #[v, .func (.func gg) #[] lb] w fun e w' => ∃ v', e = .returned v' ∧ OwnZ 133 10 (HeR P) w' B v' (zs.filter (fun z => !p z.2)) ∧ w.grownBy w' v.ownBlock ∧ (v'.ownBlock = v.ownBlock) := by
 have hx := indexH_own w v.ownBlock v zs P hP h.rd (by omega) gg lb eg p hcall
 by_cases hK : zs.findIdx (fun z : List Value × Hld => p z.2) < zs.length
 ·obtain ⟨g, cap, cur, rfl, hBg, kg, hc, hm, hs, ht⟩ := ownH_some h (by omega)
  rw [if_pos hK] at hx
  have hk : ∀ z ∈ zs, z.1.length = 10 := fun z hz => (h.2 z hz).1.1
  have M0 : MidH w w g cap zs.length zs p (zs.findIdx (fun z : List Value × Hld => p z.2)) (zs.findIdx (fun z : List Value × Hld => p z.2)) := by
   refine ⟨⟨cur, kg, hs, ?_, ?_⟩, ?_, World.grownBy.refl _ _⟩
   ·rw [filt_take (fun z : List Value × Hld => p z.2), ← cellsZ_take hk, ← ht, List.take_take]
    congr 1
    omega
   ·rw [← cellsZ_drop hk, ← ht, List.drop_take]
    congr 1
    omega
   ·rw [filt_take (fun z : List Value × Hld => p z.2), List.length_take]
    omega
  have M1 := fun (W : World) (b : Bw w W) => (M0.on b).skip hk rfl hK (List.findIdx_getElem (p := fun z : List Value × Hld => p z.2) (w := hK))
  obtain ⟨K, hKK⟩ : ∃ K, zs.findIdx (fun z : List Value × Hld => p z.2) = K := ⟨_, rfl⟩
  rw [hKK] at hK hx M1
  have HZ : Hid (∀ z ∈ zs, (z.1.length = 10 ∧ ∀ u ∈ z.1, u.oneCell' = true) ∧ HeR P z.1 z.2) := h.2
  have HK : Hid (∀ z ∈ zs, z.1.length = 10) := hk
  have HC : Hid (∀ x pv W, w.grownBy W (some g) → Calls Tryz.prog gg (#[.agg (hldV x pv).toArray] ++ lb) W fun e W' => e = .returned (.bool (p x)) ∧ Bw W W') := hcall
  obtain ⟨n, hnn⟩ : ∃ n, zs.length = n := ⟨_, rfl⟩
  have HN : Hid (zs.length = n) := hnn
  rw [hnn] at hx hc hn hK M1 ⊢
  have M2 : Hid (∀ (W : World), Bw w W → MidH w W g cap n zs p K (K + 1)) := M1
  clear h hcall hnn M0 M1 hs ht kg hKK hk
  go_enter Tryz.func211, Tryz.ntmps211
  go_wp2_with fail
  refine hx.mono ?_
  rintro e w1 ⟨rfl, b1⟩
  have M3 : Hid (MidH w w1 g cap n zs p K (K + 1)) := M2.out w1 b1
  have hK1 : ¬ ((K : Int) = -1) := by omega
  have hcp : cap ≤ 9223372036854775807 := by unfold maxLen at hm; exact hm
  clear hx M2 b1
  go_wp2_with fail
  go_loopg [5, 6, 7] n (fun g2 s5 s6 _ wr => ∃ i j : Nat, i < j ∧ j ≤ n ∧ n - j ≤ g2 ∧ s5 = .int .i64 i ∧ s6 = .int .i64 j ∧ Hid (MidH w wr g cap n zs p i j))
  case atStart => exact ⟨K, K + 1, by omega, by omega, by omega, rfl, by go_num, M3.out⟩
  case round =>
   obtain ⟨i, j, hij, hjn, hg2, rfl, rfl, HS⟩ := hrel
   clear M3
   by_cases hlt : j < n
   ·have hltz : (j : Int) < (n : Int) := by omega
    have hjz : j < zs.length := by rw [HN.out]; exact hlt
    obtain ⟨_, pv, hv, hp⟩ := HZ.out (zs[j]) (List.getElem_mem hjz)
    obtain ⟨pa, pc, rfl⟩ := hP _ _ hp
    have hcell := HS.out.cells HK.out HN.out hjz
    rw [hv] at hcell
    have HKP : Hid (∀ (W W' : World) (cur : Array Value) (i : Nat), MidH w W g cap n zs p i j → i < j → p (zs[j]).2 = false → Blk W g cur 133 → Blk W' g (cur.toList.take (i * 10) ++ (hldV (zs[j]).2 (.slice pa (zs[j]).2.itm.msg.props.length pc)) ++ cur.toList.drop (i * 10 + 10)).toArray 133 → W.grownBy W' (some g) → MidH w W' g cap n zs p (i + 1) (j + 1)) := fun W W' cur i h1 h2 h3 h4 h5 h6 =>
     h1.keepit HK.out HN.out h2 hc hjz h3 h4 (hldV (zs[j]).2 (.slice pa (zs[j]).2.itm.msg.props.length pc)).toArray (by rw [List.toList_toArray, hv]) h5 h6
    have HSK : Hid (∀ (W : World) (i : Nat), MidH w W g cap n zs p i j → p (zs[j]).2 = true → MidH w W g cap n zs p i (j + 1)) := fun W i h1 h2 => h1.skip HK.out HN.out hjz h2
    have hcl := fun W (h : w.grownBy W (some g)) pv => HC.out (zs[j]).2 pv W h
    generalize (zs[j]).2 = x at *
    generalize x.itm.msg.props.length = pn at *
    unfold hldV at hcl hcell HKP
    have a0 := hcell 0 _ rfl
    have a1 := hcell 1 _ rfl
    have a2 := hcell 2 _ rfl
    have a3 := hcell 3 _ rfl
    have a4 := hcell 4 _ rfl
    have a5 := hcell 5 _ rfl
    have a6 := hcell 6 _ rfl
    have a7 := hcell 7 _ rfl
    have a8 := hcell 8 _ rfl
    have a9 := hcell 9 _ rfl
    rw [Nat.add_zero] at a0
    clear hcell hv hp
    obtain ⟨wt, hwt⟩ : ∃ W, W = wr := ⟨_, rfl⟩
    subst hwt
    go_wp2_with (refine wpl_fresh rfl (.tmp 7) (.tmp 25) rfl _ _ rfl rfl (by kernel_rfl) rfl (by simp [Value.oneCell']) ?_)
    intro w2 k2 b2 s2
    have S2 := HS.out.on b2
    have hclx := hcl w2 S2.gr
    obtain ⟨bi, hbi⟩ : ∃ b, wt.heap.size = b := ⟨_, rfl⟩
    have hgb : bi ≠ g := by
     obtain ⟨cur, kc, _⟩ := HS.out.blk
     have := kc.lt
     omega
    rw [hbi] at k2 ⊢
    clear a0 a1 a2 a3 a4 a5 a6 a7 a8 a9 HS b2 s2 hcl hbi
    go_wp2_with (refine wpl_load61 rfl (.tmp 7) rfl _ _ rfl k2 rfl ?_)
    refine (hclx _).mono ?_
    rintro e w3 ⟨rfl, b3⟩
    have S3 := S2.on b3
    have k3 := k2.on b3
    clear hclx S2 k2 b3
    cases hq : p x with
    | true =>
     have S4 := HSK.out w3 i S3 hq
     clear S3 k3 HKP HSK
     go_wp2
     go_roundg (n - (j + 1))
     case measure => omega
     case rel => exact ⟨i, j + 1, by omega, by omega, by omega, rfl, by go_num, S4⟩
    | false =>
     obtain ⟨cur, kc, hcs, h3, h4⟩ := S3.blk
     have hin : (i : Int) < (n : Int) := by omega
     have HF := fun W' => HKP.out w3 W' cur i S3 hij hq kc
     clear HKP HSK S3 h3 h4
     go_wp2_with (first | (refine wpl_load61 rfl (.tmp 7) rfl _ _ rfl k3 rfl ?_) | (refine wpl_putAt rfl (.tmp 33) (.tmp 32) rfl g (i * 10) _ rfl rfl kc (by kernel_rfl) (by simp; omega) (by simp [Value.oneCell']) ?_))
     intro w4 k4 g4 s4
     have S4 := HF w4 (by simpa [List.append_assoc] using k4) g4
     clear k3 kc k4 g4 s4 HF hcs
     go_wp2
     go_roundg (n - (j + 1))
     case measure => omega
     case rel => exact ⟨i + 1, j + 1, by omega, by omega, by omega, by go_num, by go_num, S4⟩
   ·have hltz : ¬ (j : Int) < (n : Int) := by omega
    have hje : j = n := by omega
    subst hje
    obtain ⟨cur, kc, hcs, h3, h4⟩ := HS.out.blk
    have hnum := HS.out.num
    have hgr := HS.out.gr
    have ezt : zs.take j = zs := List.take_of_length_le (by rw [HN.out]; exact Nat.le_refl _)
    rw [ezt] at h3 hnum
    obtain ⟨zz, hzz, hclr⟩ := run_clear_row (P := Tryz.prog) wr 80 133 0 (.agg #[.int .i64 0, .int .i64 0, .int .i64 0, .int .i64 0, .bool false, .string ⟨#[]⟩, .string ⟨#[]⟩, .slice none 0 0, .bool false, .int .i64 0]) Tryz.underlying80 zero61 (by simp [Value.cells, Value.oneCell']) g (i * 10) (j - i) (cap - i) (by omega) _ kc.h (by rw [hcs]; simp [Value.cells]; omega)
    have e7 : (Value.agg #[.int .i64 0, .int .i64 0, .int .i64 0, .int .i64 0, .bool false, .string ⟨#[]⟩, .string ⟨#[]⟩, .slice none 0 0, .bool false, .int .i64 0]).cells.size = 10 := rfl
    rw [e7] at hzz
    have k2 := kc.row (cur.toList.take (i * 10) ++ zz ++ cur.toList.drop (i * 10 + zz.length)).toArray
    have g2 := gb_trans hgr (grown_setRow wr g (cur.toList.take (i * 10) ++ zz ++ cur.toList.drop (i * 10 + zz.length)).toArray)
    obtain ⟨W2, hW2⟩ : ∃ W2, wr.setRow g (cur.toList.take (i * 10) ++ zz ++ cur.toList.drop (i * 10 + zz.length)).toArray = W2 := ⟨_, rfl⟩
    rw [hW2] at k2 g2 hclr
    have hfin : OwnZ 133 10 (HeR P) W2 B (.slice (some ⟨g, 0, none⟩) i cap) (zs.filter (fun z => !p z.2)) := by
     have hm2 : ∀ z ∈ zs.filter (fun z => !p z.2), z ∈ zs := fun z hz => (List.mem_filter.1 hz).1
     refine ⟨⟨cellsZ_len (fun z hz => HK.out z (hm2 z hz)), .inr ⟨g, cap, _, by rw [hnum], hBg, k2.h, by omega, hm, ?_, ?_⟩⟩, fun z hz => HZ.out z (hm2 z hz)⟩
     ·simp
      omega
     ·rw [← hnum, List.toList_toArray, List.append_assoc, List.take_append_of_le_length (by rw [List.length_take, Array.length_toList, hcs]; omega), List.take_take, Nat.min_self, h3]
    have hi1 : i ≤ j := by omega
    have hi2 : i ≤ cap := by omega
    have hi3 : ¬ (cap = i) := by omega
    have hiz : (i : Int) ≤ (j : Int) := by omega
    clear HS kc hcs h3 h4 hgr hW2 k2 hnum hzz HZ HK HC HN
    go_wp2
    go_ret
    exact ⟨_, rfl, hfin, g2, rfl⟩
 ·rw [if_neg hK] at hx
  have e : zs.filter (fun z => !p z.2) = zs := filt_none (fun z : List Value × Hld => p z.2) zs hK
  obtain ⟨a, c, hv⟩ := h.rd.len
  have HO : Hid (OwnZ 133 10 (HeR P) w B v zs) := h
  have HE : Hid (zs.filter (fun z => !p z.2) = zs) := e
  have HV : Hid (v = .slice a zs.length c) := hv
  clear h hcall e hK
  rw [hv] at hx ⊢
  obtain ⟨n, hnn⟩ : ∃ n, zs.length = n := ⟨_, rfl⟩
  have HNN : Hid (zs.length = n) := hnn
  rw [hnn] at hx ⊢
  clear hv hnn
  go_enter Tryz.func211, Tryz.ntmps211
  go_wp2_with fail
  refine hx.mono ?_
  rintro e w1 ⟨rfl, b1⟩
  go_wp2
  go_ret
  refine ⟨_, rfl, ?_, ?_, rfl⟩
  ·have h2 := HO.out.keep (.of_below b1)
   rw [HV.out] at h2
   rw [← HNN.out, HE.out]
   exact h2
  ·exact gb_below b1 _
structure MidI (w W : World) (row : Nat) (cap n : Nat) (zs : Zs Itm) (p : Itm → Bool) (i j : Nat) : Prop where
 blk : ∃ cur, Blk W row cur 131 ∧ cur.size = cap * 7 ∧ cur.toList.take (i * 7) = cellsZ ((zs.take j).filter (fun z => !p z.2)) ∧ (cur.toList.drop (j * 7)).take ((n - j) * 7) = cellsZ (zs.drop j)
 num : i = ((zs.take j).filter (fun z => !p z.2)).length
 gr : w.grownBy W (some row)
theorem MidI.on {w W W' : World} {row cap n : Nat} {zs : Zs Itm} {p : Itm → Bool} {i j : Nat} (h : MidI w W row cap n zs p i j) (hb : Bw W W') : MidI w W' row cap n zs p i j := by
 obtain ⟨cur, h1, h2⟩ := h.blk
 exact ⟨⟨cur, h1.on hb, h2⟩, h.num, gb_trans h.gr (gb_below hb _)⟩
theorem MidI.skip {w W : World} {row cap n : Nat} {zs : Zs Itm} {p : Itm → Bool} {i j : Nat} (h : MidI w W row cap n zs p i j) (hk : ∀ z ∈ zs, z.1.length = 7) (hn : zs.length = n) (hj : j < zs.length) (hp : p (zs[j]).2 = true) : MidI w W row cap n zs p i (j + 1) := by
 obtain ⟨cur, h1, h2, h3, h4⟩ := h.blk
 have e : (zs.take (j + 1)).filter (fun z => !p z.2) = (zs.take j).filter (fun z => !p z.2) := by
  rw [List.take_succ_eq_append_getElem hj, List.filter_append]
  simp [hp]
 refine ⟨⟨cur, h1, h2, by rw [e]; exact h3, ?_⟩, by rw [e]; exact h.num, h.gr⟩
 have := congrArg (List.drop 7) h4
 have hd := cellsZ_drop (fun z hz => hk z (List.mem_of_mem_drop hz)) (zs := zs.drop j) 1
 rw [Nat.one_mul, List.drop_drop] at hd
 rw [hd, List.drop_take, List.drop_drop] at this
 rw [show (j + 1) * 7 = j * 7 + 7 by omega, show (n - (j + 1)) * 7 = (n - j) * 7 - 7 by omega]
 exact this
theorem MidI.cells {w W : World} {row cap n : Nat} {zs : Zs Itm} {p : Itm → Bool} {i j : Nat} (h : MidI w W row cap n zs p i j) (hk : ∀ z ∈ zs, z.1.length = 7) (hn : zs.length = n) (hj : j < zs.length) : ∀ t u, ((zs[j]).1)[t]? = some u → W.cell? ⟨row, j * 7 + t, none⟩ = some u := fun t u hu => by
 obtain ⟨cur, h1, h2, h3, h4⟩ := h.blk
 have ht : t < 7 := by
  have := (List.getElem?_eq_some_iff.1 hu).1
  rwa [hk _ (List.getElem_mem hj)] at this
 have e := cellsZ_at (fun z hz => hk z (List.mem_of_mem_drop hz)) (zs := zs.drop j) 0 (by rw [List.length_drop]; omega) t ht
 rw [Nat.zero_mul, Nat.zero_add, List.getElem_drop, ← h4, List.getElem?_take_of_lt (by omega), List.getElem?_drop] at e
 rw [h1.cell, ← hu]
 simpa using e
theorem MidI.keepit {w W W' : World} {row cap n : Nat} {zs : Zs Itm} {p : Itm → Bool} {i j : Nat} (h : MidI w W row cap n zs p i j) (hk : ∀ z ∈ zs, z.1.length = 7) (hn : zs.length = n) (hij : i < j) (hjn : n ≤ cap) (hj : j < zs.length) (hp : p (zs[j]).2 = false)
  {cur : Array Value} (hb : Blk W row cur 131) (cells : Array Value) (hc : cells.toList = (zs[j]).1) (hW : Blk W' row (cur.toList.take (i * 7) ++ cells.toList ++ cur.toList.drop (i * 7 + cells.size)).toArray 131) (hg : W.grownBy W' (some row)) : MidI w W' row cap n zs p (i + 1) (j + 1) := by
 obtain ⟨cur', h1, h2, h3, h4⟩ := h.blk
 have ec : cur' = cur := by
  have := h1.h
  rw [hb.h] at this
  injection this with e
  injection e with e _ _
  exact e.symm
 subst ec
 have hcs : cells.size = 7 := by rw [← Array.length_toList, hc, hk _ (List.getElem_mem hj)]
 have e : (zs.take (j + 1)).filter (fun z => !p z.2) = (zs.take j).filter (fun z => !p z.2) ++ [zs[j]] := by
  rw [List.take_succ_eq_append_getElem hj, List.filter_append]
  simp [hp]
 have hti : (cur'.toList.take (i * 7)).length = i * 7 := by rw [List.length_take, Array.length_toList]; omega
 refine ⟨⟨_, hW, ?_, ?_, ?_⟩, by rw [e, List.length_append, ← h.num]; rfl, gb_trans h.gr hg⟩
 ·simp
  omega
 ·have hl : (i + 1) * 7 = (cur'.toList.take (i * 7) ++ cells.toList).length := by rw [List.length_append, hti, Array.length_toList, hcs]; omega
  rw [List.toList_toArray, hl, List.take_left' rfl, e, cellsZ_app, h3, hc]
  simp [cellsZ]
 ·have hl : (cur'.toList.take (i * 7) ++ cells.toList).length = i * 7 + cells.size := by rw [List.length_append, hti, Array.length_toList]
  have hd : (cur'.toList.take (i * 7) ++ cells.toList ++ cur'.toList.drop (i * 7 + cells.size)).drop ((j + 1) * 7) = cur'.toList.drop ((j + 1) * 7) := by
   rw [List.drop_append, List.drop_of_length_le (by rw [hl, hcs]; omega), List.nil_append, List.drop_drop, hl]
   congr 1
   omega
  rw [List.toList_toArray, hd]
  have := congrArg (List.drop 7) h4
  have hd2 := cellsZ_drop (fun z hz => hk z (List.mem_of_mem_drop hz)) (zs := zs.drop j) 1
  rw [Nat.one_mul, List.drop_drop] at hd2
  rw [hd2, List.drop_take, List.drop_drop] at this
  rw [show (j + 1) * 7 = j * 7 + 7 by omega, show (n - (j + 1)) * 7 = (n - j) * 7 - 7 by omega]
  exact this
set_option maxHeartbeats 8000000 in
theorem deleteFuncI_any (w : World) (B : Nat) (v : Value) (zs : Zs Itm) (P : Value → List Pr → Prop) (hP : ∀ pv l, P pv l → ∃ a c, pv = .slice a l.length c) (h : OwnZ 131 7 (ItR P) w B v zs) (hn : zs.length ≤ 1000) (gg : Nat) (lb : Array Value) (eg : ∀ args w, (callFunc gg args).run Tryz.prog w = .ok (.enter gg args) w) (p : Itm → Bool)
  (hcall : ∀ x pv W, w.grownBy W v.ownBlock → Calls Tryz.prog gg (#[.agg (itmV x pv).toArray] ++ lb) W fun e W' => e = .returned (.bool (p x)) ∧ Bw W W') :
  Calls Tryz.prog 158 #[v, .func (.func gg) #[] lb] w fun e w' => ∃ v', e = .returned v' ∧ OwnZ 131 7 (ItR P) w' B v' (zs.filter (fun z => !p z.2)) ∧ w.grownBy w' v.ownBlock ∧ (v'.ownBlock = v.ownBlock) := by
 have hx := indexI_own w v.ownBlock v zs P hP h.rd (by omega) gg lb eg p hcall
 by_cases hK : zs.findIdx (fun z : List Value × Itm => p z.2) < zs.length
 ·obtain ⟨g, cap, cur, rfl, hBg, kg, hc, hm, hs, ht⟩ := ownI_some h (by omega)
  rw [if_pos hK] at hx
  have hk : ∀ z ∈ zs, z.1.length = 7 := fun z hz => (h.2 z hz).1.1
  have M0 : MidI w w g cap zs.length zs p (zs.findIdx (fun z : List Value × Itm => p z.2)) (zs.findIdx (fun z : List Value × Itm => p z.2)) := by
   refine ⟨⟨cur, kg, hs, ?_, ?_⟩, ?_, World.grownBy.refl _ _⟩
   ·rw [filt_take (fun z : List Value × Itm => p z.2), ← cellsZ_take hk, ← ht, List.take_take]
    congr 1
    omega
   ·rw [← cellsZ_drop hk, ← ht, List.drop_take]
    congr 1
    omega
   ·rw [filt_take (fun z : List Value × Itm => p z.2), List.length_take]
    omega
  have M1 := fun (W : World) (b : Bw w W) => (M0.on b).skip hk rfl hK (List.findIdx_getElem (p := fun z : List Value × Itm => p z.2) (w := hK))
  obtain ⟨K, hKK⟩ : ∃ K, zs.findIdx (fun z : List Value × Itm => p z.2) = K := ⟨_, rfl⟩
  rw [hKK] at hK hx M1
  have HZ : Hid (∀ z ∈ zs, (z.1.length = 7 ∧ ∀ u ∈ z.1, u.oneCell' = true) ∧ ItR P z.1 z.2) := h.2
  have HK : Hid (∀ z ∈ zs, z.1.length = 7) := hk
  have HC : Hid (∀ x pv W, w.grownBy W (some g) → Calls Tryz.prog gg (#[.agg (itmV x pv).toArray] ++ lb) W fun e W' => e = .returned (.bool (p x)) ∧ Bw W W') := hcall
  obtain ⟨n, hnn⟩ : ∃ n, zs.length = n := ⟨_, rfl⟩
  have HN : Hid (zs.length = n) := hnn
  rw [hnn] at hx hc hn hK M1 ⊢
  have M2 : Hid (∀ (W : World), Bw w W → MidI w W g cap n zs p K (K + 1)) := M1
  clear h hcall hnn M0 M1 hs ht kg hKK hk
  go_enter Tryz.func158, Tryz.ntmps158
  go_wp2_with fail
  refine hx.mono ?_
  rintro e w1 ⟨rfl, b1⟩
  have M3 : Hid (MidI w w1 g cap n zs p K (K + 1)) := M2.out w1 b1
  have hK1 : ¬ ((K : Int) = -1) := by omega
  have hcp : cap ≤ 9223372036854775807 := by unfold maxLen at hm; exact hm
  clear hx M2 b1
  go_wp2_with fail
  go_loopg [5, 6, 7] n (fun g2 s5 s6 _ wr => ∃ i j : Nat, i < j ∧ j ≤ n ∧ n - j ≤ g2 ∧ s5 = .int .i64 i ∧ s6 = .int .i64 j ∧ Hid (MidI w wr g cap n zs p i j))
  case atStart => exact ⟨K, K + 1, by omega, by omega, by omega, rfl, by go_num, M3.out⟩
  case round =>
   obtain ⟨i, j, hij, hjn, hg2, rfl, rfl, HS⟩ := hrel
   clear M3
   by_cases hlt : j < n
   ·have hltz : (j : Int) < (n : Int) := by omega
    have hjz : j < zs.length := by rw [HN.out]; exact hlt
    obtain ⟨_, pv, hv, hp⟩ := HZ.out (zs[j]) (List.getElem_mem hjz)
    obtain ⟨pa, pc, rfl⟩ := hP _ _ hp
    have hcell := HS.out.cells HK.out HN.out hjz
    rw [hv] at hcell
    have HKP : Hid (∀ (W W' : World) (cur : Array Value) (i : Nat), MidI w W g cap n zs p i j → i < j → p (zs[j]).2 = false → Blk W g cur 131 → Blk W' g (cur.toList.take (i * 7) ++ (itmV (zs[j]).2 (.slice pa (zs[j]).2.msg.props.length pc)) ++ cur.toList.drop (i * 7 + 7)).toArray 131 → W.grownBy W' (some g) → MidI w W' g cap n zs p (i + 1) (j + 1)) := fun W W' cur i h1 h2 h3 h4 h5 h6 =>
     h1.keepit HK.out HN.out h2 hc hjz h3 h4 (itmV (zs[j]).2 (.slice pa (zs[j]).2.msg.props.length pc)).toArray (by rw [List.toList_toArray, hv]) h5 h6
    have HSK : Hid (∀ (W : World) (i : Nat), MidI w W g cap n zs p i j → p (zs[j]).2 = true → MidI w W g cap n zs p i (j + 1)) := fun W i h1 h2 => h1.skip HK.out HN.out hjz h2
    have hcl := fun W (h : w.grownBy W (some g)) pv => HC.out (zs[j]).2 pv W h
    generalize (zs[j]).2 = x at *
    generalize x.msg.props.length = pn at *
    unfold itmV at hcl hcell HKP
    have a0 := hcell 0 _ rfl
    have a1 := hcell 1 _ rfl
    have a2 := hcell 2 _ rfl
    have a3 := hcell 3 _ rfl
    have a4 := hcell 4 _ rfl
    have a5 := hcell 5 _ rfl
    have a6 := hcell 6 _ rfl
    rw [Nat.add_zero] at a0
    clear hcell hv hp
    obtain ⟨wt, hwt⟩ : ∃ W, W = wr := ⟨_, rfl⟩
    subst hwt
    go_wp2_with (refine wpl_fresh rfl (.tmp 7) (.tmp 25) rfl _ _ rfl rfl (by kernel_rfl) rfl (by simp [Value.oneCell']) ?_)
    intro w2 k2 b2 s2
    have S2 := HS.out.on b2
    have hclx := hcl w2 S2.gr
    obtain ⟨bi, hbi⟩ : ∃ b, wt.heap.size = b := ⟨_, rfl⟩
    have hgb : bi ≠ g := by
     obtain ⟨cur, kc, _⟩ := HS.out.blk
     have := kc.lt
     omega
    rw [hbi] at k2 ⊢
    clear a0 a1 a2 a3 a4 a5 a6 HS b2 s2 hcl hbi
    go_wp2_with (refine wpl_load43 rfl (.tmp 7) rfl _ _ rfl k2 rfl ?_)
    refine (hclx _).mono ?_
    rintro e w3 ⟨rfl, b3⟩
    have S3 := S2.on b3
    have k3 := k2.on b3
    clear hclx S2 k2 b3
    cases hq : p x with
    | true =>
     have S4 := HSK.out w3 i S3 hq
     clear S3 k3 HKP HSK
     go_wp2
     go_roundg (n - (j + 1))
     case measure => omega
     case rel => exact ⟨i, j + 1, by omega, by omega, by omega, rfl, by go_num, S4⟩
    | false =>
     obtain ⟨cur, kc, hcs, h3, h4⟩ := S3.blk
     have hin : (i : Int) < (n : Int) := by omega
     have HF := fun W' => HKP.out w3 W' cur i S3 hij hq kc
     clear HKP HSK S3 h3 h4
     go_wp2_with (first | (refine wpl_load43 rfl (.tmp 7) rfl _ _ rfl k3 rfl ?_) | (refine wpl_putAt rfl (.tmp 33) (.tmp 32) rfl g (i * 7) _ rfl rfl kc (by kernel_rfl) (by simp; omega) (by simp [Value.oneCell']) ?_))
     intro w4 k4 g4 s4
     have S4 := HF w4 (by simpa [List.append_assoc] using k4) g4
     clear k3 kc k4 g4 s4 HF hcs
     go_wp2
     go_roundg (n - (j + 1))
     case measure => omega
     case rel => exact ⟨i + 1, j + 1, by omega, by omega, by omega, by go_num, by go_num, S4⟩
   ·have hltz : ¬ (j : Int) < (n : Int) := by omega
    have hje : j = n := by omega
    subst hje
    obtain ⟨cur, kc, hcs, h3, h4⟩ := HS.out.blk
    have hnum := HS.out.num
    have hgr := HS.out.gr
    have ezt : zs.take j = zs := List.take_of_length_le (by rw [HN.out]; exact Nat.le_refl _)
    rw [ezt] at h3 hnum
    obtain ⟨zz, hzz, hclr⟩ := run_clear_row (P := Tryz.prog) wr 79 131 0 (.agg #[.int .i64 0, .bool false, .string ⟨#[]⟩, .string ⟨#[]⟩, .slice none 0 0, .bool false, .int .i64 0]) Tryz.underlying79 zero43 (by simp [Value.cells, Value.oneCell']) g (i * 7) (j - i) (cap - i) (by omega) _ kc.h (by rw [hcs]; simp [Value.cells]; omega)
    have e7 : (Value.agg #[.int .i64 0, .bool false, .string ⟨#[]⟩, .string ⟨#[]⟩, .slice none 0 0, .bool false, .int .i64 0]).cells.size = 7 := rfl
    rw [e7] at hzz
    have k2 := kc.row (cur.toList.take (i * 7) ++ zz ++ cur.toList.drop (i * 7 + zz.length)).toArray
    have g2 := gb_trans hgr (grown_setRow wr g (cur.toList.take (i * 7) ++ zz ++ cur.toList.drop (i * 7 + zz.length)).toArray)
    obtain ⟨W2, hW2⟩ : ∃ W2, wr.setRow g (cur.toList.take (i * 7) ++ zz ++ cur.toList.drop (i * 7 + zz.length)).toArray = W2 := ⟨_, rfl⟩
    rw [hW2] at k2 g2 hclr
    have hfin : OwnZ 131 7 (ItR P) W2 B (.slice (some ⟨g, 0, none⟩) i cap) (zs.filter (fun z => !p z.2)) := by
     have hm2 : ∀ z ∈ zs.filter (fun z => !p z.2), z ∈ zs := fun z hz => (List.mem_filter.1 hz).1
     refine ⟨⟨cellsZ_len (fun z hz => HK.out z (hm2 z hz)), .inr ⟨g, cap, _, by rw [hnum], hBg, k2.h, by omega, hm, ?_, ?_⟩⟩, fun z hz => HZ.out z (hm2 z hz)⟩
     ·simp
      omega
     ·rw [← hnum, List.toList_toArray, List.append_assoc, List.take_append_of_le_length (by rw [List.length_take, Array.length_toList, hcs]; omega), List.take_take, Nat.min_self, h3]
    have hi1 : i ≤ j := by omega
    have hi2 : i ≤ cap := by omega
    have hi3 : ¬ (cap = i) := by omega
    have hiz : (i : Int) ≤ (j : Int) := by omega
    clear HS kc hcs h3 h4 hgr hW2 k2 hnum hzz HZ HK HC HN
    go_wp2
    go_ret
    exact ⟨_, rfl, hfin, g2, rfl⟩
 ·rw [if_neg hK] at hx
  have e : zs.filter (fun z => !p z.2) = zs := filt_none (fun z : List Value × Itm => p z.2) zs hK
  obtain ⟨a, c, hv⟩ := h.rd.len
  have HO : Hid (OwnZ 131 7 (ItR P) w B v zs) := h
  have HE : Hid (zs.filter (fun z => !p z.2) = zs) := e
  have HV : Hid (v = .slice a zs.length c) := hv
  clear h hcall e hK
  rw [hv] at hx ⊢
  obtain ⟨n, hnn⟩ : ∃ n, zs.length = n := ⟨_, rfl⟩
  have HNN : Hid (zs.length = n) := hnn
  rw [hnn] at hx ⊢
  clear hv hnn
  go_enter Tryz.func158, Tryz.ntmps158
  go_wp2_with fail
  refine hx.mono ?_
  rintro e w1 ⟨rfl, b1⟩
  go_wp2
  go_ret
  refine ⟨_, rfl, ?_, ?_, rfl⟩
  ·have h2 := HO.out.keep (.of_below b1)
   rw [HV.out] at h2
   rw [← HNN.out, HE.out]
   exact h2
  ·exact gb_below b1 _
set_option linter.unusedSimpArgs false
def relC (q : Que) : Int := if goodQ q then 0 else 1
theorem e70 : ∀ args w, (callFunc 159 args).run Tryz.prog w = .ok (.enter 159 args) w := fun args w => by go_simp
theorem clos70 (W : World) (g : Nat) (now : Int) (kg : Blk W g #[.int .i64 now] 3) (x : Itm) (pv : Value) :
  Calls Tryz.prog 159 #[.agg (itmV x pv).toArray, .pointer (some ⟨g, 0, none⟩)] W fun e W' => e = .returned (.bool (oldB now x)) ∧ Bw W W' := by
 unfold itmV oldB
 have b1 := (Below.refl W.heap.size W).alloc (Nat.le_refl _) (.cells (itA x pv) 131)
 have k1 := Blk.new W (itA x pv) 131
 have d0 := (kg.on b1).cell 0
 simp only [List.getElem?_toArray, List.getElem?_cons_zero] at d0
 go_enter Tryz.func159, Tryz.ntmps159
 go_upto_region 1 with fail
 generalize W.alloc (.cells (itA x pv) 131) = W1 at *
 obtain ⟨c0, c1, c2, c3, c4, c5, c6⟩ := k1.c7
 by_cases h1 : (0 : Int) < x.msg.til <;> by_cases h2 : x.msg.til ≤ now
 all_goals
  go_wp2
  go_ret
  exact ⟨ret_b (by simp [h1, h2]), b1⟩
structure ExS (w W : World) (qs : Array Value) (now : Int) : Prop where
 q : Blk W w.heap.size qs 82
 n : Blk W (w.heap.size + 1) #[.int .i64 now] 3
 r : Blk W (w.heap.size + 2) quZ 82
 b : Bw w W
theorem ExS.on {w W W' : World} {qs : Array Value} {now : Int} (h : ExS w W qs now) (hb : Bw W W') : ExS w W' qs now := ⟨h.q.on hb, h.n.on hb, h.r.on hb, nxt h.b hb⟩
set_option maxHeartbeats 4000000 in
theorem expire_any (w : World) (hva : To.Vars w) (v : Value) (q : Que) (h : RdQ w v q) (now : Int) (hbig : lenQ q ≤ 1000000) :
  Calls Tryz.prog 91 #[v, .int .i64 now] w fun e w' => ∃ v', e = .returned (.tuple #[v', .int .i64 (relC q)]) ∧ OwnQ w' w.heap.size v' (if relC q = 0 then expireQ q now else zeroQ) ∧ Bw w w' := by
 have hR := h
 obtain ⟨iv, hv, rfl, hi, hh⟩ := h
 have OI : ∃ a c, iv = .slice a q.items.length c := hi.len
 have OH : ∃ a c, hv = .slice a q.held.length c := hh.len
 clear hi hh
 have HG : ∀ W, Bw w W → Calls Tryz.prog 64 #[queV q iv hv] W fun e w' => e = .returned (.bool (goodQ q)) ∧ Bw W w' := fun W b => good_any W (hva.below b) _ q (hR.on b) hbig
 have S0 : ExS w (((w.alloc (.cells (quA q iv hv) 82)).alloc (.cells #[.int .i64 now] 3)).alloc (.cells quZ 82)) (quA q iv hv) now := by
  refine ⟨((Blk.new _ _ _).alloc _).alloc _, ?_, ?_, (((Below.refl _ w).alloc (Nat.le_refl _) _).alloc (by simp) _).alloc (by simp; omega) _⟩
  ·have := (Blk.new (w.alloc (.cells (quA q iv hv) 82)) #[.int .i64 now] 3).alloc (.cells quZ 82)
   rwa [World.size_alloc] at this
  ·have := Blk.new ((w.alloc (.cells (quA q iv hv) 82)).alloc (.cells #[.int .i64 now] 3)) quZ 82
   rwa [World.size_alloc, World.size_alloc] at this
 unfold queV at *
 go_enter Tryz.func91, Tryz.ntmps91
 go_upto_region 1 with fail
 generalize ((w.alloc (.cells (quA q iv hv) 82)).alloc (.cells #[.int .i64 now] 3)).alloc (.cells quZ 82) = w1 at *
 go_wp2_with (refine wpl_load25 rfl (.tmp 2) rfl _ _ rfl S0.q rfl ?_)
 refine (HG _ S0.b).mono ?_
 rintro e w2 ⟨rfl, b2⟩
 have S2 := S0.on b2
 clear S0 b2
 cases hg : goodQ q with
 | false =>
  have e0 : relC q = 1 := by simp [relC, hg]
  go_wp2_with (refine wpl_put rfl (.tmp 4) (.tmp 9) rfl _ _ rfl rfl S2.r (by kernel_rfl) rfl (by simp [Value.oneCell']) ?_)
  intro W' k' g' s'
  go_wp2_with fail
  refine ret25t rfl k' rfl rfl rfl ⟨_, rfl, own_zero _ _, S2.b.grown g' S2.b.size (fun k hk => by injection hk with hk; omega)⟩
 | true =>
  have e0 : relC q = 0 := by simp [relC, hg]
  obtain ⟨hsm, hl64, _, _, hq1, hq2⟩ := goodQ_small hg
  have hcp := copy_any w2 _ q (hR.on S2.b) hsm
  unfold queV at hcp
  go_wp2_with (refine wpl_load25 rfl (.tmp 2) rfl _ _ rfl S2.q rfl ?_)
  refine hcp.mono ?_
  rintro e w5 ⟨v5, rfl, ⟨iv5, hv5, rfl, oi5, oh5⟩, b5⟩
  obtain ⟨ah5, ch5, rfl⟩ := oh5.rd.len
  obtain ⟨ai5, ci5, rfl⟩ := oi5.rd.len
  obtain ⟨zs, ezs, hzs⟩ := oi5.low S2.b.size
  have hz1000 : zs.length ≤ 1000 := by have := hsm.items; rw [← ezs, List.length_map] at this; exact this
  have S5 := S2.on b5
  have oh6 := oh5.low S2.b.size
  have HZ : Hid (zs.map (·.2) = q.items) := ezs
  clear hcp S2 b5 oi5 oh5 ezs
  generalize q.held.length = nh at *
  generalize q.items.length = ni at *
  unfold queV
  go_wp2_with (refine wpl_put rfl (.tmp 2) (.tmp 11) rfl _ _ rfl rfl S5.q (by kernel_rfl) rfl (by simp [Value.oneCell']) ?_)
  intro w6 k6 g6 s6
  have n6 := S5.n.grown g6 (fun e => by injection e with e; omega)
  have r6 := S5.r.grown g6 (fun e => by injection e with e; omega)
  have b6 := S5.b.grown g6 S5.b.size (fun k hk => by injection hk with hk; omega)
  have t54 : Kt 66 w5 w6 := kt_grown S5.q g6 (by decide)
  have hzs6 : OwnZ 131 7 (ItR (OwnP w6 w.heap.size)) w6 w.heap.size (.slice ai5 ni ci5) zs := (hzs.keep (kt_grown S5.q g6 (by decide))).imp fun _ _ h => h.keep t54
  have oh7 := oh6.keep (kt_grown S5.q g6 (by decide)) t54
  clear S5 hzs oh6 g6 s6 t54
  have hdf := deleteFuncI_any w6 w.heap.size _ zs (OwnP w6 w.heap.size) (fun _ _ h => h.shape) hzs6 hz1000 159 #[.pointer (some ⟨w.heap.size + 1, 0, none⟩)] e70 (oldB now) (fun x pv W hgw => clos70 W _ now (n6.grown hgw (n6.ne_own hzs6.1 (by decide))) x pv)
  obtain ⟨c0, c1, c2, c3, c4, c5, c6⟩ := k6.c7
  go_wp2_with fail
  refine hdf.mono ?_
  rintro e w7 ⟨v7, rfl, o7, g7, _⟩
  have t25 : Kt 82 w6 w7 := Kt.of_grown hzs6.1 g7 (by decide)
  have t61 : Kt 133 w6 w7 := Kt.of_grown hzs6.1 g7 (by decide)
  have t54 : Kt 66 w6 w7 := Kt.of_grown hzs6.1 g7 (by decide)
  have k7 := k6.kt t25
  have r7 := r6.kt t25
  have oh8 := oh7.keep t61 t54
  have b7 := b6.grown g7 b6.size (fun k hk => (World.ownsRow.lt hzs6.1 k hk).1)
  have oi7 : OwnI w7 w.heap.size v7 (q.items.filter (fun x => !oldB now x)) := by
   refine ⟨_, ?_, o7.imp fun _ _ h => h.keep t54⟩
   rw [← HZ.out, List.filter_map]
   rfl
  obtain ⟨a7, c7, rfl⟩ := oi7.rd.len
  generalize (q.items.filter (fun x => !oldB now x)).length = n7 at *
  clear hdf hzs6 o7 g7 t25 t61 t54 k6 r6 n6 b6 oh7 c0 c1 c2 c3 c4 c5 c6 HZ
  go_wp2_with (refine wpl_set rfl (.tmp 16) (.tmp 15) rfl _ 5 _ rfl rfl k7 (by kernel_rfl) rfl rfl (by simp) ?_)
  intro w8 k8 g8 s8
  have kq8 : Blk w8 w.heap.size (quA q (.slice a7 n7 c7) (.slice ah5 nh ch5)) 82 := k8
  have r8 := r7.grown g8 (fun e => by injection e with e; omega)
  have b8 := b7.grown g8 b7.size (fun k hk => by injection hk with hk; omega)
  have t54 : Kt 66 w7 w8 := kt_grown k7 g8 (by decide)
  have oi8 := oi7.keep (kt_grown k7 g8 (by decide)) t54
  have oh9 := oh8.keep (kt_grown k7 g8 (by decide)) t54
  clear k7 r7 b7 oi7 oh8 g8 s8 t54 k8
  go_wp2_with (first | (refine wpl_load25 rfl (.tmp 2) rfl _ _ rfl kq8 rfl ?_) | (refine wpl_put rfl (.tmp 4) (.tmp 17) rfl _ _ rfl rfl r8 (by kernel_rfl) rfl (by simp [Value.oneCell']) ?_))
  intro w9 k9 g9 s9
  go_wp2_with fail
  refine ret25t rfl k9 rfl rfl rfl ⟨_, rfl, ?_, b8.grown g9 b8.size (fun k hk => by injection hk with hk; omega)⟩
  exact ⟨_, _, rfl, oi8.keep (kt_grown r8 g9 (by decide)) (kt_grown r8 g9 (by decide)), oh9.keep (kt_grown r8 g9 (by decide)) (kt_grown r8 g9 (by decide))⟩
theorem clos74 (w : World) (x : Itm) (pv : Value) (z : Int) : Calls Tryz.prog 258 #[.agg (itmV x pv).toArray, .int .i64 z] w fun e w' => e = .returned (.int .i64 (cmpZ x.seq z)) ∧ Bw w w' := by
 unfold itmV
 have HC := fun W => cmpI_any W x.seq z
 have b1 := (Below.refl w.heap.size w).alloc (Nat.le_refl _) (.cells (itA x pv) 131)
 go_enter Tryz.func258, Tryz.ntmps258
 go_wp2_with fail
 refine (HC _).mono ?_
 rintro e w2 ⟨rfl, rfl⟩
 go_wp2
 go_ret
 exact ⟨rfl, b1⟩
def posB (l : List Itm) (z : Int) : Nat := (l.takeWhile (fun y => decide (y.seq < z))).length
theorem posB_le (l : List Itm) (z : Int) : posB l z ≤ l.length := (List.takeWhile_sublist _).length_le
theorem posB_lt : ∀ {l : List Itm} {z : Int} {i : Nat} (h : i < l.length), i < posB l z → l[i].seq < z
 | x :: l, z, i, h, hp => by
  unfold posB at hp
  by_cases e : x.seq < z
  ·rw [List.takeWhile_cons_of_pos (by simpa using e)] at hp
   cases i with
   | zero => exact e
   | succ i => exact posB_lt (l := l) (by simpa using h) (by unfold posB; simpa using hp)
  ·rw [List.takeWhile_cons_of_neg (by simpa using e)] at hp
   simp at hp
theorem posB_ge : ∀ {l : List Itm} {z : Int} (h : posB l z < l.length), ¬ l[posB l z].seq < z
 | x :: l, z, h => by
  by_cases e : x.seq < z
  ·have e1 : posB (x :: l) z = posB l z + 1 := by
    unfold posB
    rw [List.takeWhile_cons_of_pos (by simpa using e)]
    rfl
   have h2 : posB l z < l.length := by rw [e1] at h; simpa using h
   have := posB_ge h2
   simp only [e1, List.getElem_cons_succ]
   exact this
  ·have e1 : posB (x :: l) z = 0 := by
    unfold posB
    rw [List.takeWhile_cons_of_neg (by simpa using e)]
    rfl
   simp only [e1, List.getElem_cons_zero]
   exact e
def Rises (l : List Itm) : Prop := l.Pairwise (fun a b => a.seq < b.seq)
theorem Rises.at {l : List Itm} (h : Rises l) {i j : Nat} (hi : i < l.length) (hj : j < l.length) (hij : i ≤ j) : l[i].seq ≤ l[j].seq := by
 rcases Nat.lt_or_ge i j with h1 | h1
 ·exact Int.le_of_lt (List.pairwise_iff_getElem.1 h i j hi hj h1)
 ·have : i = j := by omega
  subst this
  exact Int.le_refl _
set_option maxHeartbeats 4000000 in
theorem search_any (w : World) (a : Option Addr) (n c : Nat) (zs : Zs Itm) (h : RdZ 7 (ItR (RdP w)) w (.slice a n c) zs) (hn : zs.length = n) (hbig : n ≤ 1000000) (hr : Rises (zs.map (·.2))) (z : Int) :
  Calls Tryz.prog 257 #[.slice a n c, .int .i64 z, .func (.func 258) #[] #[]] w fun e w' => (∃ b, e = .returned (.tuple #[.int .i64 (posB (zs.map (·.2)) z : Nat), .bool b])) ∧ Bw w w' := by
 have HI : Hid (RdZ 7 (ItR (RdP w)) w (.slice a n c) zs) := h
 have NI : Hid (zs.length = n) := hn
 have HR : Hid (Rises (zs.map (·.2))) := hr
 have HP : Hid (posB (zs.map (·.2)) z ≤ n) := by have := posB_le (zs.map (·.2)) z; rw [List.length_map, hn] at this; exact this
 clear h hn hr
 obtain ⟨p, hp⟩ : ∃ p, posB (zs.map (·.2)) z = p := ⟨_, rfl⟩
 have EP : Hid (posB (zs.map (·.2)) z = p) := hp
 rw [hp] at HP ⊢
 clear hp
 go_enter Tryz.func257, Tryz.ntmps257
 go_wp2_with fail
 go_loopg [9, 10, 11] n (fun gg s9 s10 _ wr => ∃ lo hi : Nat, lo ≤ p ∧ p ≤ hi ∧ hi ≤ n ∧ hi - lo ≤ gg ∧ s9 = .int .i64 lo ∧ s10 = .int .i64 hi ∧ Hid (Bw w wr))
 case atStart => exact ⟨0, n, Nat.zero_le _, HP.out, Nat.le_refl _, by omega, rfl, rfl, Below.refl _ _⟩
 case round =>
  obtain ⟨lo, hi, hlo, hhi, hin, hg, rfl, rfl, HS⟩ := hrel
  by_cases hlt : lo < hi
  ·have hltz : (lo : Int) < (hi : Int) := by omega
   obtain ⟨m, hm⟩ : ∃ m, m = (lo + hi) / 2 := ⟨_, rfl⟩
   have hm1 : lo ≤ m := by omega
   have hm2 : m < hi := by omega
   have hmn : m < n := by omega
   have hmI : ((lo : Int) + (hi : Int)) / 2 = (m : Int) := by omega
   obtain ⟨b, o, pv, rfl, hz1, hp, c0, c1, c2, c3, c4, c5, c6⟩ := itm_at HI.out HS.out (i := m) (by rw [NI.out]; exact hmn)
   have HL : Hid (cmpZ (zs[m]'(by rw [NI.out]; exact hmn)).2.seq z < 0 → m + 1 ≤ p) := fun hc => by
    have h1 : (zs[m]'(by rw [NI.out]; exact hmn)).2.seq < z := by unfold cmpZ at hc; split at hc <;> first | assumption | (split at hc <;> omega)
    rcases Nat.lt_or_ge m p with h2 | h2
    ·omega
    ·exfalso
     have h3 : p < (zs.map (·.2)).length := by rw [List.length_map, NI.out]; omega
     have h4 := posB_ge (l := zs.map (·.2)) (z := z) (by rw [EP.out]; exact h3)
     simp only [EP.out] at h4
     have h5 := HR.out.at h3 (j := m) (by rw [List.length_map, NI.out]; omega) h2
     simp only [List.getElem_map] at h4 h5
     omega
   have HG : Hid (¬ cmpZ (zs[m]'(by rw [NI.out]; exact hmn)).2.seq z < 0 → p ≤ m) := fun hc => by
    have h1 : ¬ (zs[m]'(by rw [NI.out]; exact hmn)).2.seq < z := fun h => hc (by unfold cmpZ; rw [if_pos h]; omega)
    rcases Nat.lt_or_ge m p with h2 | h2
    ·exfalso
     have h4 := posB_lt (l := zs.map (·.2)) (z := z) (i := m) (by rw [List.length_map, NI.out]; omega) (by rw [EP.out]; exact h2)
     rw [List.getElem_map] at h4
     exact h1 h4
    ·exact h2
   have hC := fun W pv => clos74 W (zs[m]'(by rw [NI.out]; exact hmn)).2 pv z
   generalize (zs[m]'(by rw [NI.out]; exact hmn)).2 = x at *
   obtain ⟨pa, pc, rfl⟩ := hp.shape
   generalize x.msg.props.length = pn at *
   generalize cmpZ x.seq z = cz at *
   unfold itmV at hC
   have hwr := HS.out.size
   clear hz1 hp hm
   by_cases hcz : cz < 0
   ·have h6 := HL.out hcz
    have H6 : Hid (m + 1 ≤ p) := h6
    clear h6 HL HG
    go_wp2_with fail
    refine (hC _ _).mono ?_
    rintro e w2 ⟨rfl, b2⟩
    have HS2 : Hid (Bw w w2) := HS.out.trans (b2.mono hwr)
    clear b2 hC c0 c1 c2 c3 c4 c5 c6
    go_wp2
    go_roundg (hi - (m + 1))
    case measure => omega
    case rel => exact ⟨m + 1, hi, H6.out, hhi, hin, by omega, by go_num, rfl, HS2.out⟩
   ·have H6 : Hid (p ≤ m) := HG.out hcz
    clear HL HG
    go_wp2_with fail
    refine (hC _ _).mono ?_
    rintro e w2 ⟨rfl, b2⟩
    have HS2 : Hid (Bw w w2) := HS.out.trans (b2.mono hwr)
    clear b2 hC c0 c1 c2 c3 c4 c5 c6
    go_wp2
    go_roundg (m - lo)
    case measure => omega
    case rel => exact ⟨lo, m, hlo, H6.out, by omega, by omega, rfl, rfl, HS2.out⟩
  ·have hltz : ¬ (lo : Int) < (hi : Int) := by omega
   obtain rfl : lo = p := by omega
   obtain rfl : hi = lo := by omega
   by_cases hl : hi < n
   ·have hlz : (hi : Int) < (n : Int) := by omega
    obtain ⟨b, o, pv, rfl, hz1, hp, c0, c1, c2, c3, c4, c5, c6⟩ := itm_at HI.out HS.out (i := hi) (by rw [NI.out]; exact hl)
    have hC := fun W pv => clos74 W (zs[hi]'(by rw [NI.out]; exact hl)).2 pv z
    generalize (zs[hi]'(by rw [NI.out]; exact hl)).2 = x at *
    obtain ⟨pa, pc, rfl⟩ := hp.shape
    generalize x.msg.props.length = pn at *
    generalize cmpZ x.seq z = cz at *
    unfold itmV at hC
    have hwr := HS.out.size
    clear hz1 hp
    go_wp2_with fail
    refine (hC _ _).mono ?_
    rintro e w2 ⟨rfl, b2⟩
    have HS2 : Hid (Bw w w2) := HS.out.trans (b2.mono hwr)
    clear b2 hC c0 c1 c2 c3 c4 c5 c6
    go_wp2
    go_ret2
    exact ⟨⟨_, rfl⟩, HS2.out⟩
   ·have hlz : ¬ (hi : Int) < (n : Int) := by omega
    go_wp2
    go_ret2
    exact ⟨.inl rfl, HS.out⟩
end Go.Proofs.YtnpikgakpmkipabGreatDoor
