/- (*turn).isNew. Conditions: those that each row states. -/
import Derived.Test.YtnpikgakpmkipabGreatDoorZ03
import Derived.Test.YtnpikgakpmkipabGreatDoorZ20
import Derived.Test.YtnpikgakpmkipabGreatDoorZ04
import Derived.Test.YtnpikgakpmkipabGreatDoorZ15
import Derived.Test.YtnpikgakpmkipabGreatDoorZ06
import Derived.Test.YtnpikgakpmkipabGreatDoorZ07
namespace Go.Proofs.YtnpikgakpmkipabGreatDoor
open Go.RowKit Go.Lib
set_option maxRecDepth 100000
set_option linter.unusedSimpArgs false
set_option linter.unusedVariables false
def NewA (w : World) (B g : Nat) (c : Cor) (os : List Ot) (n : List UInt8) (pk : Int) (e : Ending) (w' : World) : Prop :=
 (∃ r, isNewC c n pk = .ok r ∧ e = .returned (.bool r.1) ∧ T w' B g r.2 os ∧ FrT B w w') ∨ (∃ m, isNewC c n pk = .error m ∧ e = .panicked (gup m) ∧ FrT B w w')
theorem new_has {c : Cor} {n : List UInt8} {pk : Int} {ps : List Int} (h0 : cliP c n = ps) (h1 : nameL n = true) (h2 : pktB pk = true) (h3 : hasL cmpZ pk ps = true) : isNewC c n pk = .ok (false, c) := by
 simp [isNewC, ins, h0, h1, h2, h3]
theorem new_full {c : Cor} {n : List UInt8} {pk : Int} {ps : List Int} (h0 : cliP c n = ps) (h1 : nameL n = true) (h2 : pktB pk = true) (h3 : hasL cmpZ pk ps = false) (h4 : enE cmpZ 32 pk ps = .error 34) : isNewC c n pk = .error 34 := by
 simp [isNewC, ins, h0, h1, h2, h3, h4, bnd]
theorem new_room {c : Cor} {n : List UInt8} {pk : Int} {ps ps' : List Int} (h0 : cliP c n = ps) (h1 : nameL n = true) (h2 : pktB pk = true) (h3 : hasL cmpZ pk ps = false) (h4 : enE cmpZ 32 pk ps = .ok ps') (h5 : enE oC 16 ⟨n, ps'⟩ c.clients = .error 34) : isNewC c n pk = .error 34 := by
 simp [isNewC, ins, h0, h1, h2, h3, h4, h5, bnd]
theorem new_ok {c : Cor} {n : List UInt8} {pk : Int} {ps ps' : List Int} {l : List Cli} (h0 : cliP c n = ps) (h1 : nameL n = true) (h2 : pktB pk = true) (h3 : hasL cmpZ pk ps = false) (h4 : enE cmpZ 32 pk ps = .ok ps') (h5 : enE oC 16 ⟨n, ps'⟩ c.clients = .ok l) : isNewC c n pk = .ok (true, { c with clients := l }) := by
 simp [isNewC, ins, h0, h1, h2, h3, h4, h5, bnd]
structure NwI (w X : World) (B g gk : Nat) (c : Cor) (os : List Ot) (qv bv sv kv cv ov v9 : Value) (zs : Zs Cli) (n : List UInt8) (ps : List Int) : Prop where
 t : Tw X B g c os qv bv sv kv cv ov
 z : OwnZ 88 2 (ClX X B n) X B cv zs
 p : OwnNu X B v9 ps
 k : Blk X gk #[tx n, v9] 88
 f : FrT B w X
theorem NwI.drew {w X : World} {B g gk : Nat} {c : Cor} {os : List Ot} {qv bv sv kv cv ov v9 : Value} {zs : Zs Cli} {n : List UInt8} {ps : List Int} (h : NwI w X B g gk c os qv bv sv kv cv ov v9 zs n ps) : NwI w X.drew B g gk c os qv bv sv kv cv ov v9 zs n ps :=
 ⟨h.t.kx (e := 0) .drew (by decide), (h.z.keep ((KX.drew (e := 0)).kt _ (by decide))).imp fun _ _ h => h.kx (e := 0) .drew (by decide), h.p.keep ((KX.drew (e := 0)).kt _ (by decide)), ⟨h.k.h⟩, h.f.drew⟩
theorem nwi_of {w W X : World} {B g gk : Nat} {c : Cor} {os : List Ot} {qv bv sv kv cv ov nv v9 : Value} {zs : Zs Cli} {n : List UInt8} {ps ps' : List Int} (hT : Tv W B g c os qv bv sv kv cv ov) (hf : FrT B w W) (hp : OwnNu W B nv ps) (hg : W.grownBy X nv.ownBlock) (hz : OwnZ 88 2 (ClX X B n) X B cv zs) (hq : OwnNu X B v9 ps') (hk : Blk X gk #[tx n, nv] 88) (hB : B ≤ gk) (hne : cv.ownBlock ≠ some gk) : NwI w (X.setCell ⟨gk, 1, none⟩ v9) B g gk c os qv bv sv kv cv ov v9 zs n ps' := by
 have k0 := hp.kx hg
 have k1 : KX 88 X (X.setCell ⟨gk, 1, none⟩ v9) := .cell hk v9
 exact ⟨((Tw.of hT).kx k0 (by decide)).kx k1 (by decide), clx_set hz hk hne, hq.keep (k1.kt _ (by decide)), by simpa using hk.set 1 v9, (hf.trans (hp.fr hg hT.lt)).trans (.cellT hk rfl hB v9)⟩
set_option maxHeartbeats 4000000 in
theorem isNew_any (w : World) (B g : Nat) (c : Cor) (os : List Ot) (qv bv sv kv cv ov : Value) (zs : Zs Cli) (hT : TA w B g c os qv bv sv kv cv ov zs) (hg : GoodC c) (n : List UInt8) (pk : Int) :
  Calls Tryz.prog 124 #[.pointer (some ⟨g, 0, none⟩), tx n, .int .i64 pk] w fun e w' => NewA w B g c os n pk e w' := by
 have HT : Hid (TA w B g c os qv bv sv kv cv ov zs ∧ GoodC c) := ⟨hT, hg⟩
 clear hT hg
 go_enter Tryz.func124, Tryz.ntmps124
 go_upto_region 1 with fail
 have HS := name_any w n
 go_wp2_with fail
 refine HS.mono ?_
 rintro e wA ⟨rfl, hA⟩
 rw [hA]
 clear hA wA HS
 have HI := insist_any w (nameL n) 31
 go_wp2_with fail
 refine HI.mono ?_
 rintro e wI ⟨hI, hb⟩
 rw [hI]
 clear hI wI HI
 rcases hb with ⟨hb, he⟩ | ⟨hb, he⟩
 rotate_left
 ·subst he
  exact ⟨rfl, .inr ⟨31, by simp [isNewC, ins, hb], rfl, .refl _ _⟩⟩
 subst he
 have H1 : Hid (nameL n = true) := hb
 clear hb
 go_upto_region 2 with fail
 have HS := isPkt_any w pk
 go_wp2_with fail
 refine HS.mono ?_
 rintro e wA ⟨rfl, hA⟩
 rw [hA]
 clear hA wA HS
 have HI := insist_any w (pktB pk) 1
 go_wp2_with fail
 refine HI.mono ?_
 rintro e wI ⟨hI, hb⟩
 rw [hI]
 clear hI wI HI
 rcases hb with ⟨hb, he⟩ | ⟨hb, he⟩
 rotate_left
 ·subst he
  exact ⟨rfl, .inr ⟨1, by simp [isNewC, ins, H1.out, hb], rfl, .refl _ _⟩⟩
 subst he
 have H2 : Hid (pktB pk = true) := hb
 clear hb
 go_wp2_with (refine wpl_fresh rfl (.tmp 7) (.tmp 17) rfl _ _ rfl rfl (by kernel_rfl) rfl (by simp [Value.oneCell']) ?_)
 intro w3 k3 b3 s3
 have HL : Hid (w.heap.size ≤ w.heap.size) := Nat.le_refl _
 have hT3 := HT.out.1.on b3
 have HN : Hid (cv.ownBlock ≠ some w.heap.size) := fun e => by
  have := (World.ownsRow.lt HT.out.1.z.1 _ e).2
  omega
 have HB : Hid (B ≤ w.heap.size) := HT.out.1.t.lt
 obtain ⟨gk, egk⟩ : ∃ x, w.heap.size = x := ⟨_, rfl⟩
 have b3' := b3
 have b3 : Below w.heap.size w w3 := b3
 rw [egk] at k3 HN HB HL b3 ⊢
 have HG : Hid (gk ≠ g) := fun e => by
  have h1 := k3.h
  rw [e, hT3.t.blk.h] at h1
  injection h1 with h1
  injection h1 with _ h1
  cases h1
 have HE : Hid (w.heap.size = gk) := egk
 clear egk s3 HL b3
 go_upto_region 4 with fail
 refine rh (fun W => Blk W g #[.int .i64 c.now, qv, bv, sv, kv, cv, ov] 77 ∧ Blk W gk #[tx n, .slice none 0 0] 88) ?_
 have hS : Blk (World.drew w3) g #[.int .i64 c.now, qv, bv, sv, kv, cv, ov] 77 ∧ Blk (World.drew w3) gk #[tx n, .slice none 0 0] 88 := ⟨⟨hT3.t.blk.h⟩, ⟨k3.h⟩⟩
 have hT4 := hT3.drew
 have hB4 := b3'.drew
 clear hT3 b3' k3
 generalize w3.drew = w4 at *
 obtain ⟨p, hp, HC⟩ := findCs w4 B cv zs _ hT4.z (by rw [hT4.e]; exact HT.out.2.ci) (by have := HT.out.2.cl; have h2 := congrArg List.length hT4.e; rw [List.length_map] at h2; omega) n
 rw [hT4.e] at HC
 obtain ⟨th, eth⟩ : ∃ b, hasL oC ⟨n, []⟩ c.clients = b := ⟨_, rfl⟩
 rw [eth] at HC
 clear hp
 refine tks [0, 1, 2, 3, 4, 5] [.pointer (some ⟨g, 0, none⟩), .pointer (some ⟨g, 0, none⟩), .pointer (some ⟨g, 0, none⟩), .pointer (some ⟨g, 5, none⟩), cv, .agg #[tx n, .slice none 0 0]] 6 ?_ hS ?_
 ·simp only [tkY, tkf]
  refine ⟨.yes ?_, .yes ?_, .yes ?_, .yes ?_, .yes ?_, .yes ?_, trivial⟩
  all_goals
   intro W' hW'
   have := hW'.1.ce 5
   have := hW'.2.ce 0
   have := hW'.2.ce 1
   go_simp
 simp only [tkA, tkf]
 refine ak 6 fun K hK => ?_
 go_simp
 refine HC.mono ?_
 rintro e w5 ⟨⟨rfl, hiff⟩, b5⟩
 have hS5 : Blk w5 g #[.int .i64 c.now, qv, bv, sv, kv, cv, ov] 77 ∧ Blk w5 gk #[tx n, .slice none 0 0] 88 := ⟨hS.1.on b5, hS.2.on b5⟩
 have hT5 := hT4.on b5
 have hB5 := nxt hB4 b5
 clear hT4 hB4 hS b5 HC
 have hS := hS5
 clear hS5
 show K _ _
 refine hK _ _ hS ?_
 clear hK K
 try simp only [tkf]
 refine tks [7, 8, 9, 10, 11] [.tuple #[.int .i64 (p : Nat), .bool th], .int .i64 (p : Nat), .bool th, .int .i64 (p : Nat), .bool th] 0 ?_ hS ?_
 ·simp only [tkY, tkf]
  refine ⟨.yes ?_, .yes ?_, .yes ?_, .yes ?_, .yes ?_, trivial⟩
  all_goals
   intro W' hW'
   go_simp
 simp only [tkA, tkf]
 refine ad ?_
 obtain ⟨ca, cc, ecv⟩ := hT5.z.rd.len
 cases th
 have HP : Hid (cliP c n = []) := (cliP_no eth).2
 have kW := hS.2
 have hW := hT5
 have bW := hB5
 have hnv : OwnNu w5 B (.slice none 0 0) [] := ⟨[], rfl, World.ownsRow_nil .., by simp⟩
 have HCX : Hid (∀ W, Below w5.heap.size w5 W → ∀ W', W.grownBy W' (Value.slice none 0 0).ownBlock → KX 3 W W' → OwnZ 88 2 (ClX W' B n) W' B cv zs) := fun W hb W' hgr hk => clx_new (hW.on hb).z hk hgr
 clear hT5 hB5 hS hiff eth ecv
 obtain ⟨nv, env⟩ : ∃ v, Value.slice none 0 0 = v := ⟨_, rfl⟩
 rw [env] at kW hnv HCX
 clear env
 obtain ⟨ps, eps⟩ : ∃ l : List Int, [] = l := ⟨_, rfl⟩
 rw [eps] at HP hnv
 clear eps
 have c1 : w5.cell? ⟨gk, 1, none⟩ = some nv := kW.cell 1
 have hgd := cliP_good HT.out.2 n
 rw [HP.out] at hgd
 have HD : Hid (((ps.length : Int) ≤ 32) ∧ Inc cmpZ ps) := ⟨hgd.1, hgd.2.2⟩
 clear hgd
 have HC := hasPs w5 B nv ps hnv HD.out.2 (by have := HD.out.1; omega) pk
 rotate_left
 obtain ⟨hpz, hpn⟩ := hiff.1 rfl
 have HP0 := cliP_at hT5.e HT.out.2.ci hpz hpn
 subst ecv
 obtain ⟨b, o, v0, v1, e0, hz1, hR, hone, hcl⟩ := el2_at hT5.z.rd hpz
 obtain ⟨nv, e1, hnv5⟩ := hR
 injection e1 with e1 e2
 injection e2 with e2 _
 have e3 := e2.symm
 subst e3
 subst e1 e0
 rw [hpn] at hz1 hcl
 obtain ⟨ps, eps⟩ : ∃ l : List Int, (zs[p]).2.packets = l := ⟨_, rfl⟩
 rw [eps] at hnv5 HP0
 have HP : Hid (cliP c n = ps) := HP0.2
 have HZ : Hid (∃ hpz : p < zs.length, (zs[p]).2.name = n ∧ (zs[p]).1 = [tx n, nv] ∧ (zs[p]).2.packets = ps) := ⟨hpz, hpn, hz1, eps⟩
 obtain ⟨c0, c1⟩ := hcl w5 (.refl _ _)
 obtain ⟨d0, d1, d2, d3, d4, d5, d6⟩ := hS.1.c7
 have hpi : (p : Int) < (zs.length : Int) := by omega
 have kk := hS.2
 have HH5 : Hid (TA w5 B g c os qv bv sv kv (.slice (some ⟨b, o, none⟩) zs.length cc) ov zs ∧ Below w.heap.size w w5 ∧ OwnNu w5 B nv ps) := ⟨hT5, hB5, hnv5⟩
 have hn1 := hone.2
 clear hT5 hB5 hnv5 hiff eth HP0 hcl hz1 eps hS hpn hone
 go_upto_region 6 with fail
 go_wp2_with (refine wpl_put rfl (.tmp 7) (.tmp 36) rfl gk _ rfl rfl kk (by kernel_rfl) rfl (by simp [show (tx n).oneCell' = true from rfl, hn1]) ?_)
 intro w6 kW g6 s6
 have bW : Below w.heap.size w w6 := HH5.out.2.1.grown g6 HH5.out.2.1.size (fun k hk => by injection hk with hk; have := HE.out; omega)
 have hW := HT.out.1.on bW
 have hnv : OwnNu w6 B nv ps := by
  obtain ⟨nv', e3, h3⟩ := (hW.z.2 _ (List.getElem_mem HZ.out.choose)).2
  rw [HZ.out.choose_spec.2.1] at e3
  injection e3 with _ e3
  injection e3 with e3 _
  rw [HZ.out.choose_spec.2.2, ← e3] at h3
  exact h3
 have HCX : Hid (∀ W, Below w6.heap.size w6 W → ∀ W', W.grownBy W' nv.ownBlock → KX 3 W W' → OwnZ 88 2 (ClX W' B n) W' B (.slice (some ⟨b, o, none⟩) zs.length cc) zs) := fun W hb W' hgr hk => clx_of (hW.on hb).z (hW.on hb).a HZ.out.choose HZ.out.choose_spec.1 HZ.out.choose_spec.2.1 hk hgr
 clear HH5 kk g6 s6 c0 c1 d0 d1 d2 d3 d4 d5 d6 hn1 hpi
 obtain ⟨cv, ecv⟩ : ∃ v, Value.slice (some ⟨b, o, none⟩) zs.length cc = v := ⟨_, rfl⟩
 rw [ecv] at HT HN HCX hW
 clear ecv
 have c1 : w6.cell? ⟨gk, 1, none⟩ = some nv := kW.cell 1
 have hgd := cliP_good HT.out.2 n
 rw [HP.out] at hgd
 have HD : Hid (((ps.length : Int) ≤ 32) ∧ Inc cmpZ ps) := ⟨hgd.1, hgd.2.2⟩
 clear hgd
 have HC := hasPs w6 B nv ps hnv HD.out.2 (by have := HD.out.1; omega) pk
 all_goals
  go_upto_region 7 with fail
  go_wp2_with fail
  refine HC.mono ?_
  rintro e W7 ⟨rfl, b7⟩
  have k7 := kW.on b7
  have T7 := hW.on b7
  have B7 := nxt bW b7
  have N7 := OwnNu.keep hnv (Kt.of_below b7)
  have HCX7 : Hid (∀ W', W7.grownBy W' nv.ownBlock → KX 3 W7 W' → OwnZ 88 2 (ClX W' B n) W' B cv zs) := fun W' hg hk => HCX.out W7 b7 W' hg hk
  clear kW hW bW hnv HC c1 HCX b7
  cases hh : hasL cmpZ pk ps
  rotate_left
  ·have HX : Hid (NewA w B g c os n pk (.returned (.bool false)) W7) := .inl ⟨(false, c), new_has HP.out H1.out H2.out hh, rfl, ⟨_, _, _, _, _, _, T7.t⟩, .of_below B7 HT.out.1.t.lt⟩
   clear T7 B7 N7 k7 hh
   go_wp2_with fail
   go_ret
   exact HX.out
  have HH : Hid (hasL cmpZ pk ps = false) := hh
  clear hh
  go_upto_region 9 with fail
  have c1 : W7.cell? ⟨gk, 1, none⟩ = some nv := k7.cell 1
  have HC := enPs W7 B T7.t.lt nv ps N7 HD.out.2 (by have := HD.out.1; omega) pk
  go_wp2_with fail
  refine HC.mono ?_
  rintro e W9 h9
  rcases h9 with ⟨v9, hen, he, o9, g9⟩ | ⟨hen, he, b9⟩
  rotate_left
  ·subst he
   exact ⟨rfl, .inr ⟨34, new_full HP.out H1.out H2.out HH.out hen, rfl, (FrT.of_below B7 HT.out.1.t.lt).trans (.of_below b9 T7.t.lt)⟩⟩
  subst he
  have HE9 : Hid (enE cmpZ 32 pk ps = .ok (enL cmpZ pk ps)) := hen
  obtain ⟨a9, c9, rfl⟩ := o9.shape
  have k9 := k7.kt ((N7.kx g9).kt 88 (by decide))
  have c9' : W9.cell? ⟨gk, 1, none⟩ = some nv := k9.cell 1
  have f9 := k9.frozen 1
  have h9 := nwi_of (gk := gk) T7.t (FrT.of_below B7 HT.out.1.t.lt) N7 g9 (HCX7.out _ g9 (N7.kx g9)) o9 k9 HB.out HN.out
  generalize (enL cmpZ pk ps).length = ps9 at *
  clear HC c1 T7 B7 N7 k7 hen o9 g9 HCX7 k9
  go_upto_region 10 with fail
  clear c9' f9
  generalize W9.setCell ⟨gk, 1, none⟩ (.slice a9 ps9 c9) = X at *
  refine rh (fun W => Blk W gk #[tx n, .slice a9 ps9 c9] 88) ?_
  have hS : Blk (World.drew X) gk #[tx n, .slice a9 ps9 c9] 88 := ⟨h9.k.h⟩
  have h5 := h9.drew
  clear h9
  generalize X.drew = w5 at *
  refine tks [0, 1, 2, 3, 4, 6] [.pointer (some ⟨g, 0, none⟩), .pointer (some ⟨g, 0, none⟩), .pointer (some ⟨g, 0, none⟩), .pointer (some ⟨g, 0, none⟩), .pointer (some ⟨g, 5, none⟩), .agg #[tx n, .slice a9 ps9 c9]] 6 ?_ hS ?_
  ·simp only [tkY, tkf]
   refine ⟨.yes ?_, .yes ?_, .yes ?_, .yes ?_, .yes ?_, .yes ?_, trivial⟩
   all_goals
    intro W' hW'
    have := hW'.ce 0
    have := hW'.ce 1
    go_simp
  simp only [tkA, tkf]
  refine ak 5 fun K hK => ?_
  have d0 : w5.cell? ⟨g, 5, none⟩ = some cv := h5.t.blk.cell 5
  go_simp
  refine hK _ _ hS ?_
  clear hK K
  try simp only [tkf]
  refine ak 7 fun K hK => ?_
  go_simp
  refine (enCs _ B h5.t.lt cv zs n h5.z (by rw [HT.out.1.e]; exact HT.out.2.ci) (by have := HT.out.2.cl; have h2 := congrArg List.length HT.out.1.e; rw [List.length_map] at h2; omega) _ _ h5.p).mono ?_
  rintro e w6 h6
  rcases h6 with ⟨v6, hen6, he, o6, g6⟩ | ⟨hen6, he, b6⟩
  rotate_left
  ·subst he
   rw [HT.out.1.e] at hen6
   exact ⟨rfl, .inr ⟨34, new_room HP.out H1.out H2.out HH.out HE9.out hen6, rfl, h5.f.trans (.of_below b6 h5.t.lt)⟩⟩
  subst he
  rw [HT.out.1.e] at hen6 o6
  obtain ⟨a6, n6, cc6, rfl⟩ := OwnL.shape o6
  have t6 := h5.t.kx (KX.of_grown h5.z.1 g6) (by decide)
  have hS6 : Blk w6 gk #[tx n, .slice a9 ps9 c9] 88 := hS.grown g6 (fun e => HN.out e.symm)
  have T7 := t6.set_c o6
  have F7 : FrT B w (w6.setCell ⟨g, 5, none⟩ (.slice a6 n6 cc6)) := (h5.f.trans (.of_grown h5.z.1 g6 rfl h5.t.lt)).trans (.cell t6.blk t6.low _)
  have k7 := t6.blk
  clear hS
  have hS := hS6
  clear hS6
  show K _ _
  refine hK _ _ hS ?_
  clear hK K
  try simp only [tkf]
  refine tks [8, 9, 10] [.pointer (some ⟨g, 0, none⟩), .pointer (some ⟨g, 0, none⟩), .pointer (some ⟨g, 5, none⟩)] 1 ?_ hS ?_
  ·simp only [tkY, tkf]
   refine ⟨.yes ?_, .yes ?_, .yes ?_, trivial⟩
   all_goals
    intro W' hW'
    go_simp
  simp only [tkA, tkf]
  refine ak 11 fun K hK => ?_
  go_simp
  have f7 := k7.frozen 5
  have c7 : w6.cell? ⟨g, 5, none⟩ = some cv := k7.cell 5
  go_simp
  refine hK _ _ (hS.setO (fun e => HG.out e) _) ?_
  clear hK K f7 c7
  try simp only [tkf]
  refine ad ?_
  have HX : Hid (NewA w B g c os n pk (.returned (.bool true)) (w6.setCell ⟨g, 5, none⟩ (.slice a6 n6 cc6))) := .inl ⟨(true, _), new_ok HP.out H1.out H2.out HH.out HE9.out hen6, rfl, ⟨_, _, _, _, _, _, T7⟩, F7⟩
  clear T7 F7 k7 hS o6 g6 t6 hen6 h5
  go_wp2_with fail
  go_ret
  exact HX.out
theorem info61o : (Tryz.prog.info? 61).map (fun i => (i.zero, i.size, i.bytes)) = some (some (.agg #[.int .i64 0, .int .i64 0, .int .i64 0, .string ⟨#[]⟩, .bool false, .bool false, .string ⟨#[]⟩, .string ⟨#[]⟩, .slice none 0 0, .bool false, .int .i64 0]), 11, 120) := by kernel_rfl
theorem otV_one (x : Ot) {pv : Value} (h : pv.oneCell' = true) : (otV x pv).length = 11 ∧ ∀ u ∈ otV x pv, u.oneCell' = true := by
 refine ⟨rfl, fun u hu => ?_⟩
 simp only [otV, List.mem_cons, List.not_mem_nil, or_false] at hu
 rcases hu with rfl | rfl | rfl | rfl | rfl | rfl | rfl | rfl | rfl | rfl | rfl
 all_goals first | rfl | exact h
theorem appO_one {W : World} {B : Nat} {v : Value} {zs : Zs Ot} (ho' : OwnZ 61 11 (OtR (OwnP W B)) W B v zs) (hB : B ≤ W.heap.size) {o : Oper} {a : Act} {K : Act → World → Prop} {Q : Exit → Act → World → Prop} (s x : Operand)
  (ho : o.op = .call { callee := .builtin .append, args := #[s, x], argTypes := #[36, 36] }) (hs : a.eval s = v) (b : Nat) (hx : a.eval x = .slice (some ⟨b, 0, none⟩) 1 1) (it : Ot) (pv : Value) (hblk : Blk W b (otV it pv).toArray 61) (hp : OwnP W B pv it.msg.props) (hk : zs.length ≤ 100000)
  (cont : ∀ v' w', OOc w' B v' (zs.map (·.2) ++ [it]) → W.grownBy w' v.ownBlock → K (a.put o.dst v') w') : o.wp Tryz.prog a W K Q := by
 obtain ⟨i0, hi, hz0, hz1, hz2⟩ := info_parts info61o
 have hone : pv.oneCell' = true := hp.rd.one
 have hz := otV_one it hone
 refine wp_append_own _ s x 36 ho B 61 i0 (.agg #[.int .i64 0, .int .i64 0, .int .i64 0, .string ⟨#[]⟩, .bool false, .bool false, .string ⟨#[]⟩, .string ⟨#[]⟩, .slice none 0 0, .bool false, .int .i64 0]) 11 120 Tryz.underlying36 hi hz0 hz1 hz2 rfl (by decide) v zs.length (cellsZ zs) hs ho'.1 ⟨b, 0, none⟩ 1 1 (otV it pv) hx (by rw [hz.1]) ?_ hz.2 (by unfold maxLen; omega) (by omega) hB ?_
 ·intro j u hj
  rw [Addr.add_lit, Nat.zero_add, hblk.cell j]
  simpa using hj
 ·intro v' w' h1 h2 _
  have k66 : Kt 66 W w' := Kt.of_grown ho'.1 h2 (by decide)
  refine cont v' w' ⟨zs ++ [(otV it pv, it)], by simp, ⟨?_, ?_⟩⟩ h2
  ·rw [cellsZ_app, List.length_append]
   simpa [cellsZ] using h1
  ·intro y hy
   rcases List.mem_append.1 hy with hy | hy
   ·obtain ⟨h3, pv3, h4, h5⟩ := ho'.2 y hy
    exact ⟨h3, pv3, h4, h5.keep k66⟩
   ·rw [List.mem_singleton.1 hy]
    exact ⟨hz, pv, rfl, hp.keep k66⟩
def HandA (w : World) (B g : Nat) (c : Cor) (os : List Ot) (qv bv sv kv cv : Value) (p gq cap : Nat) (res : Except Int (Que × Ot)) (e : Ending) (w' : World) : Prop :=
 (∃ r, res = .ok r ∧ e = .returned (.tuple #[]) ∧ (∃ ov' cur' iv' hv', Tv w' B g { c with queues := c.queues.set p r.1 } (os ++ [r.2]) qv bv sv kv cv ov' ∧ El w' B qv (c.queues.set p r.1) p gq cap cur' iv' hv') ∧ FrT B w w') ∨ (∃ n, res = .error n ∧ e = .panicked (gup n) ∧ FrT B w w')
set_option maxHeartbeats 4000000 in
theorem hand_any (w : World) (B g : Nat) (c : Cor) (os : List Ot) (qv bv sv kv cv ov : Value) (hT : Tv w B g c os qv bv sv kv cv ov) (p gq cap : Nat) (cur : Array Value) (iv hv : Value) (hEL : El w B qv c.queues p gq cap cur iv hv) (q : Que) (hpl : p < c.queues.length) (hq : c.queues[p] = q) (hbig : lenQ q ≤ 1000000) (hV : VB B w) (hos : os.length ≤ 100000) (conn sub : Int) (hold : Bool) :
  Calls Tryz.prog 95 #[.pointer (some ⟨g, 0, none⟩), .pointer (some ⟨gq, p * 7, none⟩), .int .i64 conn, .int .i64 sub, .bool hold] w fun e w' => HandA w B g c os qv bv sv kv cv p gq cap (handQ q conn sub hold) e w' := by
 have hOW := hEL.own
 rw [hq] at hOW
 have HC := take_any w hV.now _ q (OwnQ.rd hOW) conn sub hold hbig
 have HH : Hid (handQ q conn sub hold = sureE (takeC q conn sub) (takeQ q conn sub hold, ⟨conn, sub, if hold then q.tag + 1 else 0, q.name, (q.items.headD zeroI).again, false, (q.items.headD zeroI).msg⟩)) := rfl
 have hnm : takeC q conn sub = 0 → (if takeC q conn sub = 0 then takeQ q conn sub hold else zeroQ).name = q.name := fun h => by rw [if_pos h, take_name]
 have hq2' : takeC q conn sub = 0 → (if takeC q conn sub = 0 then takeQ q conn sub hold else zeroQ) = takeQ q conn sub hold := fun h => by rw [if_pos h]
 have hit' : takeC q conn sub = 0 → (if takeC q conn sub = 0 then q.items.headD zeroI else zeroI) = q.items.headD zeroI := fun h => by rw [if_pos h]
 have htg' : takeC q conn sub = 0 → (if takeC q conn sub = 0 then (if hold then q.tag + 1 else 0) else 0) = (if hold then q.tag + 1 else 0) := fun h => by rw [if_pos h]
 generalize (if takeC q conn sub = 0 then takeQ q conn sub hold else zeroQ) = q2 at *
 generalize (if takeC q conn sub = 0 then q.items.headD zeroI else zeroI) = it at *
 generalize (if takeC q conn sub = 0 then (if hold then q.tag + 1 else 0) else 0) = tg at *
 generalize takeC q conn sub = n at *
 have HF : Hid ((n = 0 → q2 = takeQ q conn sub hold) ∧ (n = 0 → it = q.items.headD zeroI) ∧ (n = 0 → tg = (if hold then q.tag + 1 else 0)) ∧ (n = 0 → q2.name = q.name)) := ⟨hq2', hit', htg', hnm⟩
 clear hnm hq2' hit' htg'
 obtain ⟨d0, d1, d2, d3, d4, d5, d6⟩ := hEL.c7 hpl hq
 have HT : Hid (Tv w B g c os qv bv sv kv cv ov ∧ El w B qv c.queues p gq cap cur iv hv) := ⟨hT, hEL⟩
 unfold queV at HC
 clear hT hEL hOW
 go_enter Tryz.func95, Tryz.ntmps95
 go_wp2_with fail
 refine HC.mono ?_
 rintro e w2 ⟨v4, pv4, rfl, o2, op2, b2⟩
 clear HC d0 d1 d2 d3 d4 d5 d6
 obtain ⟨iv4, hv4, rfl, n4, o2'⟩ := own_open o2
 clear o2
 obtain ⟨hT, hEL⟩ := HT.out
 clear HT
 have hT2 := hT.on b2
 have hF2 : FrT B w w2 := .of_below b2 hT.lt
 have hE2 := hEL.on b2
 have o2 := o2'.low hT.lt
 have p2 := op2.low hT.lt
 have hone : pv4.oneCell' = true := op2.rd.one
 clear hT hEL b2 o2' op2
 have HX : Hid (Tv w2 B g c os qv bv sv kv cv ov ∧ FrT B w w2 ∧ El w2 B qv c.queues p gq cap cur iv hv ∧ OwnQ w2 B (queV q2 iv4 hv4) q2 ∧ OwnP w2 B pv4 it.msg.props) := ⟨hT2, hF2, hE2, o2, p2⟩
 have hcl2 := own_cells o2
 have hit2 : ((itA it pv4) : Array Value).all (·.oneCell') = true := by
  rw [Array.all_eq_true_iff_forall_mem]
  intro u hu
  exact (itmV_one it hone).2 u (by simpa [itmV] using hu)
 unfold queV at hcl2
 clear hT2 hF2 hE2 o2 p2
 have kA := (Blk.new w2 quZ 82).alloc (.cells itZ 131)
 have kB := Blk.new (w2.alloc (.cells quZ 82)) itZ 131
 have bA : Bw w2 ((w2.alloc (.cells quZ 82)).alloc (.cells itZ 131)) := ((Below.refl _ w2).alloc (Nat.le_refl _) _).alloc (by simp) _
 rw [World.size_alloc] at kB
 unfold queV itmV
 go_wp2_with (refine wpl_put rfl (.tmp 10) (.tmp 22) rfl w2.heap.size _ rfl rfl kA (by kernel_rfl) (by kernel_rfl) hcl2 ?_)
 intro w3 k3 g3 s3
 have kB3 := kB.grown g3 (by simp)
 have b3 := bA.grown g3 bA.size (fun k hk => by injection hk with hk; omega)
 clear kA kB bA g3 s3
 go_wp2_with (refine wpl_put rfl (.tmp 12) (.tmp 24) rfl (w2.heap.size + 1) _ rfl rfl kB3 (by kernel_rfl) (by kernel_rfl) hit2 ?_)
 intro w4 k4 g4 s4
 have k34 := k3.grown g4 (by simp)
 have b4 := b3.grown g4 b3.size (fun k hk => by injection hk with hk; omega)
 clear k3 kB3 b3 g4 s4
 obtain ⟨gn, egn⟩ : ∃ x, w2.heap.size = x := ⟨_, rfl⟩
 obtain ⟨gi, egi⟩ : ∃ x, w2.heap.size + 1 = x := ⟨_, rfl⟩
 rw [egi] at k4
 have HNE : Hid (gn ≠ gq) := fun e => by have := HX.out.2.2.1.blk.lt; omega
 rw [egn] at k34
 go_upto_region 1 with fail
 rw [egi, egn]
 clear egn egi
 obtain ⟨hT2, hF2, hE2, o2, p2⟩ := HX.out
 have HSU := sure_any w4 B (queV q2 iv4 hv4) q2 (o2.on b4) n
 have HX4 : Hid (Tv w4 B g c os qv bv sv kv cv ov ∧ FrT B w w4 ∧ El w4 B qv c.queues p gq cap cur iv hv ∧ OwnQ w4 B (queV q2 iv4 hv4) q2 ∧ OwnP w4 B pv4 it.msg.props) := ⟨hT2.on b4, hF2.trans (.of_below b4 hT2.lt), hE2.on b4, o2.on b4, p2.keep (Kt.of_below b4)⟩
 clear hT2 hF2 hE2 o2 p2 HX b4
 obtain ⟨d0, d1, d2, d3, d4, d5, d6⟩ := k34.c7
 unfold queV at HSU
 go_wp2_with fail
 refine HSU.mono ?_
 rintro e w5 ⟨h5, b5⟩
 clear HSU d0 d1 d2 d3 d4 d5 d6
 obtain ⟨hT4, hF4, hE4, o4, p4⟩ := HX4.out
 have hT5 := hT4.on b5
 have hF5 := hF4.trans (.of_below b5 hT4.lt)
 have hE5 := hE4.on b5
 have o5 := o4.on b5
 have p5 := p4.keep (Kt.of_below (t := 66) b5)
 have k5 := k4.on b5
 clear HX4 hT4 hF4 hE4 o4 p4 k4 k34 b5
 rcases h5 with ⟨h5, he⟩ | ⟨h5, he⟩
 rotate_left
 ·subst he
  exact ⟨rfl, .inr ⟨n, by rw [HH.out]; simp [sureE, h5], rfl, hF5⟩⟩
 subst he
 have hcl := own_cells o5
 have hft := hE5.fit
 have hbk := hE5.blk
 unfold queV at hcl
 go_wp2_with (refine wpl_putAt rfl (.tmp 30) (.tmp 29) rfl gq (p * 7) _ rfl rfl hbk (by kernel_rfl) hft hcl ?_)
 intro w6 k6 g6 s6
 obtain ⟨T6, F6, E6⟩ := hT5.put hE5 o5 (by simpa [queV, Value.cells] using k6) g6
 have kx6 : KX 82 w5 w6 := .put hbk g6
 have ki6 := k5.kt (kx6.kt _ (by decide))
 have p6 := p5.keep (kx6.kt _ (by decide))
 have F6' := hF5.trans F6
 clear hT5 hF5 hE5 o5 p5 k5 hbk hcl hft k6 g6 s6 F6 kx6
 have hpl2 : p < (c.queues.set p q2).length := by rw [List.length_set]; exact hpl
 have hq2 : (c.queues.set p q2)[p] = q2 := by simp
 go_upto_region 2 with fail
 refine wp_region_to (S := fun W => (Blk W g #[.int .i64 c.now, qv, bv, sv, kv, cv, ov] 77 ∧ Blk W gi (itA it pv4) 131) ∧ W.cell? ⟨gq, p * 7, none⟩ = some (tx q2.name)) (z := 21) hmix ?_
 show wpTo _ _ _ _ _ _ _ _ _ (World.drew _)
 have hT7 := T6.drew
 have hE7 := E6.kx (e := 0) (w' := w6.drew) .drew (by decide)
 have o7 : OwnP w6.drew B pv4 it.msg.props := p6.keep (fun k cur h => rfl)
 have hF7 := F6'.drew
 have hS : (Blk w6.drew g #[.int .i64 c.now, qv, bv, sv, kv, cv, ov] 77 ∧ Blk w6.drew gi (itA it pv4) 131) ∧ w6.drew.cell? ⟨gq, p * 7, none⟩ = some (tx q2.name) := ⟨⟨hT7.blk, ⟨ki6.h⟩⟩, (hE7.c7 hpl2 hq2).1⟩
 clear T6 E6 p6 F6' ki6
 generalize w6.drew = w7 at *
 refine wpTo.take (i := 0) (z := 21) (v := .pointer (some ⟨g, 0, none⟩)) rfl (by kernel_rfl) (by kernel_rfl) (by kernel_rfl) (by kernel_rfl) (fun _ _ _ h => h) (.inl ⟨by rfl, fun W' hW' => ?_⟩) hS ?_
 ·skip
  go_simp
 try simp only [tkf]
 refine wpTo.take (i := 1) (z := 21) (v := .pointer (some ⟨g, 0, none⟩)) rfl (by kernel_rfl) (by kernel_rfl) (by kernel_rfl) (by kernel_rfl) (fun _ _ _ h => h) (.inl ⟨by rfl, fun W' hW' => ?_⟩) hS ?_
 ·skip
  go_simp
 try simp only [tkf]
 refine wpTo.take (i := 2) (z := 21) (v := .pointer (some ⟨g, 0, none⟩)) rfl (by kernel_rfl) (by kernel_rfl) (by kernel_rfl) (by kernel_rfl) (fun _ _ _ h => h) (.inl ⟨by rfl, fun W' hW' => ?_⟩) hS ?_
 ·skip
  go_simp
 try simp only [tkf]
 refine wpTo.take (i := 3) (z := 21) (v := .pointer (some ⟨g, 6, none⟩)) rfl (by kernel_rfl) (by kernel_rfl) (by kernel_rfl) (by kernel_rfl) (fun _ _ _ h => h) (.inl ⟨by rfl, fun W' hW' => ?_⟩) hS ?_
 ·skip
  go_simp
 try simp only [tkf]
 refine wpTo.take (i := 4) (z := 21) (v := ov) rfl (by kernel_rfl) (by kernel_rfl) (by kernel_rfl) (by kernel_rfl) (fun _ _ _ h => h) (.inl ⟨by rfl, fun W' hW' => ?_⟩) hS ?_
 ·have d0 : W'.cell? ⟨g, 6, none⟩ = some (ov) := hW'.1.1.cell 6
  go_simp
 try simp only [tkf]
 refine wpTo.take (i := 5) (z := 21) (v := .int .i64 conn) rfl (by kernel_rfl) (by kernel_rfl) (by kernel_rfl) (by kernel_rfl) (fun _ _ _ h => h) (.inl ⟨by rfl, fun W' hW' => ?_⟩) hS ?_
 ·skip
  go_simp
 try simp only [tkf]
 refine wpTo.take (i := 6) (z := 21) (v := .int .i64 sub) rfl (by kernel_rfl) (by kernel_rfl) (by kernel_rfl) (by kernel_rfl) (fun _ _ _ h => h) (.inl ⟨by rfl, fun W' hW' => ?_⟩) hS ?_
 ·skip
  go_simp
 try simp only [tkf]
 refine wpTo.take (i := 7) (z := 21) (v := .int .i64 tg) rfl (by kernel_rfl) (by kernel_rfl) (by kernel_rfl) (by kernel_rfl) (fun _ _ _ h => h) (.inl ⟨by rfl, fun W' hW' => ?_⟩) hS ?_
 ·skip
  go_simp
 try simp only [tkf]
 refine wpTo.take (i := 8) (z := 21) (v := .pointer (some ⟨gq, p * 7, none⟩)) rfl (by kernel_rfl) (by kernel_rfl) (by kernel_rfl) (by kernel_rfl) (fun _ _ _ h => h) (.inl ⟨by rfl, fun W' hW' => ?_⟩) hS ?_
 ·skip
  go_simp
 try simp only [tkf]
 refine wpTo.take (i := 9) (z := 21) (v := .pointer (some ⟨gq, p * 7, none⟩)) rfl (by kernel_rfl) (by kernel_rfl) (by kernel_rfl) (by kernel_rfl) (fun _ _ _ h => h) (.inl ⟨by rfl, fun W' hW' => ?_⟩) hS ?_
 ·skip
  go_simp
 try simp only [tkf]
 refine wpTo.take (i := 10) (z := 21) (v := .pointer (some ⟨gq, p * 7, none⟩)) rfl (by kernel_rfl) (by kernel_rfl) (by kernel_rfl) (by kernel_rfl) (fun _ _ _ h => h) (.inl ⟨by rfl, fun W' hW' => ?_⟩) hS ?_
 ·skip
  go_simp
 try simp only [tkf]
 refine wpTo.take (i := 11) (z := 21) (v := tx q2.name) rfl (by kernel_rfl) (by kernel_rfl) (by kernel_rfl) (by kernel_rfl) (fun _ _ _ h => h) (.inl ⟨by rfl, fun W' hW' => ?_⟩) hS ?_
 ·have d0 := hW'.2
  go_simp
 try simp only [tkf]
 refine wpTo.take (i := 12) (z := 21) (v := .pointer (some ⟨gi, 1, none⟩)) rfl (by kernel_rfl) (by kernel_rfl) (by kernel_rfl) (by kernel_rfl) (fun _ _ _ h => h) (.inl ⟨by rfl, fun W' hW' => ?_⟩) hS ?_
 ·skip
  go_simp
 try simp only [tkf]
 refine wpTo.take (i := 13) (z := 21) (v := .bool it.again) rfl (by kernel_rfl) (by kernel_rfl) (by kernel_rfl) (by kernel_rfl) (fun _ _ _ h => h) (.inl ⟨by rfl, fun W' hW' => ?_⟩) hS ?_
 ·have d0 : W'.cell? ⟨gi, 1, none⟩ = some (.bool it.again) := hW'.1.2.cell 1
  go_simp
 try simp only [tkf]
 refine wpTo.take (i := 14) (z := 21) (v := .pointer (some ⟨gi, 2, none⟩)) rfl (by kernel_rfl) (by kernel_rfl) (by kernel_rfl) (by kernel_rfl) (fun _ _ _ h => h) (.inl ⟨by rfl, fun W' hW' => ?_⟩) hS ?_
 ·skip
  go_simp
 try simp only [tkf]
 refine wpTo.take (i := 15) (z := 21) (v := .agg #[tx it.msg.topic, tx it.msg.body, pv4, .bool it.msg.dur, .int .i64 it.msg.til]) rfl (by kernel_rfl) (by kernel_rfl) (by kernel_rfl) (by kernel_rfl) (fun _ _ _ h => h) (.inl ⟨by rfl, fun W' hW' => ?_⟩) hS ?_
 ·have d0 : W'.cell? ⟨gi, 2, none⟩ = some (tx it.msg.topic) := hW'.1.2.cell 2
  have d1 : W'.cell? ⟨gi, 3, none⟩ = some (tx it.msg.body) := hW'.1.2.cell 3
  have d2 : W'.cell? ⟨gi, 4, none⟩ = some (pv4) := hW'.1.2.cell 4
  have d3 : W'.cell? ⟨gi, 5, none⟩ = some (.bool it.msg.dur) := hW'.1.2.cell 5
  have d4 : W'.cell? ⟨gi, 6, none⟩ = some (.int .i64 it.msg.til) := hW'.1.2.cell 6
  go_simp
 try simp only [tkf]
 refine wpTo.take (i := 16) (z := 21) (v := .agg #[.int .i64 conn, .int .i64 sub, .int .i64 tg, tx q2.name, .bool it.again, .bool false, tx it.msg.topic, tx it.msg.body, pv4, .bool it.msg.dur, .int .i64 it.msg.til]) rfl (by kernel_rfl) (by kernel_rfl) (by kernel_rfl) (by kernel_rfl) (fun _ _ _ h => h) (.inl ⟨by rfl, fun W' hW' => ?_⟩) hS ?_
 ·skip
  go_simp
 try simp only [tkf]
 refine wpTo.one (i := 17) (by kernel_rfl) rfl (by rfl) (fun K hK => ?_)
 go_simp
 have b8 := (Below.refl w7.heap.size w7).alloc (Nat.le_refl _) (.cells #[.int .i64 conn, .int .i64 sub, .int .i64 tg, tx q2.name, .bool it.again, .bool false, tx it.msg.topic, tx it.msg.body, pv4, .bool it.msg.dur, .int .i64 it.msg.til] 61)
 have k8 := Blk.new w7 #[.int .i64 conn, .int .i64 sub, .int .i64 tg, tx q2.name, .bool it.again, .bool false, tx it.msg.topic, tx it.msg.body, pv4, .bool it.msg.dur, .int .i64 it.msg.til] 61
 have hT8 := hT7.on b8
 have hE8 := hE7.on b8
 have o8 := o7.keep (Kt.of_below (t := 66) b8)
 have hF8 := hF7.trans (.of_below b8 hT7.lt)
 have hS8 : (Blk (w7.alloc (.cells #[.int .i64 conn, .int .i64 sub, .int .i64 tg, tx q2.name, .bool it.again, .bool false, tx it.msg.topic, tx it.msg.body, pv4, .bool it.msg.dur, .int .i64 it.msg.til] 61)) g #[.int .i64 c.now, qv, bv, sv, kv, cv, ov] 77 ∧ Blk (w7.alloc (.cells #[.int .i64 conn, .int .i64 sub, .int .i64 tg, tx q2.name, .bool it.again, .bool false, tx it.msg.topic, tx it.msg.body, pv4, .bool it.msg.dur, .int .i64 it.msg.til] 61)) gi (itA it pv4) 131) ∧ (w7.alloc (.cells #[.int .i64 conn, .int .i64 sub, .int .i64 tg, tx q2.name, .bool it.again, .bool false, tx it.msg.topic, tx it.msg.body, pv4, .bool it.msg.dur, .int .i64 it.msg.til] 61)).cell? ⟨gq, p * 7, none⟩ = some (tx q2.name) := ⟨⟨hS.1.1.on b8, hS.1.2.on b8⟩, (hE8.c7 hpl2 hq2).1⟩
 show K _ _
 refine hK _ _ (fun _ => hS8) ?_
 obtain ⟨nb, hnb⟩ : ∃ nb, w7.heap.size = nb := ⟨_, rfl⟩
 rw [hnb] at k8 ⊢
 generalize w7.alloc (.cells #[.int .i64 conn, .int .i64 sub, .int .i64 tg, tx q2.name, .bool it.again, .bool false, tx it.msg.topic, tx it.msg.body, pv4, .bool it.msg.dur, .int .i64 it.msg.til] 61) = w8 at *
 clear hK K hS hT7 hE7 o7 hF7 b8 hnb
 have hS := hS8
 clear hS8
 try simp only [tkf]
 refine wpTo.one (i := 18) (by kernel_rfl) rfl (by rfl) (fun K hK => ?_)
 obtain ⟨zo, ezo, hzo⟩ := hT8.o
 refine appO_one hzo hT8.lt (.tmp 35) (.tmp 48) rfl rfl nb rfl ⟨conn, sub, tg, q2.name, it.again, false, it.msg⟩ pv4 k8 o8 (by have := congrArg List.length ezo; rw [List.length_map] at this; omega) ?_
 intro v9 w9 o9 g9
 rw [ezo] at o9
 obtain ⟨a9, n9, c9, rfl⟩ := OwnL.shape o9
 obtain ⟨T10, F10, k9⟩ := hT8.row_o g9 o9
 have kx9 : KX 61 w8 w9 := .of_grown hzo.1 g9
 have hE9 := hE8.kx kx9 (by decide)
 have hS9 : (Blk w9 g #[.int .i64 c.now, qv, bv, sv, kv, cv, ov] 77 ∧ Blk w9 gi (itA it pv4) 131) ∧ w9.cell? ⟨gq, p * 7, none⟩ = some (tx q2.name) := ⟨⟨k9, hS.1.2.kt (kx9.kt _ (by decide))⟩, (hE9.c7 hpl2 hq2).1⟩
 refine hK _ _ (fun _ => hS9) ?_
 clear hK K hS hzo ezo zo
 have hS := hS9
 clear hS9
 try simp only [tkf]
 refine wpTo.one (i := 19) (by kernel_rfl) rfl (by rfl) (fun K hK => ?_)
 skip
 go_simp
 refine hK _ _ (fun _ => hS) ?_
 clear hK K
 try simp only [tkf]
 refine wpTo.one (i := 20) (by kernel_rfl) rfl (by rfl) (fun K hK => ?_)
 skip
 go_simp
 refine hK _ _ (fun _ => hS) ?_
 clear hK K
 try simp only [tkf]
 refine wpTo.one (i := 21) (by kernel_rfl) rfl (by rfl) (fun K hK => ?_)
 have f9 := k9.frozen 6
 have c9' : w9.cell? ⟨g, 6, none⟩ = some ov := k9.cell 6
 go_simp
 show K _ _
 refine hK _ _ (fun h => absurd rfl h) ?_
 clear hK K f9 c9'
 try simp only [tkf]
 refine wpTo.done (by kernel_rfl) ?_ _
 go_end0
 obtain ⟨f1, f2, f3, f4⟩ := HF.out
 have e1 := f1 h5
 have e2 := f2 h5
 have e3 := f3 h5
 subst e1 e2 e3
 have e4 := f4 h5
 have k77 : KX 77 w9 (w9.setCell ⟨g, 6, none⟩ (.slice a9 n9 c9)) := .cell k9 _
 refine .inl ⟨(takeQ q conn sub hold, ⟨conn, sub, if hold then q.tag + 1 else 0, q.name, (q.items.headD zeroI).again, false, (q.items.headD zeroI).msg⟩), by rw [HH.out, h5]; rfl, rfl, ⟨.slice a9 n9 c9, _, iv4, hv4, ?_, hE9.kx k77 (by decide)⟩, hF8.trans F10⟩
 rw [e4] at T10
 exact T10
set_option maxHeartbeats 4000000 in
theorem get_op (w : World) (B g : Nat) (c : Cor) (os : List Ot) (hT : T w B g c os) (hg : GoodC c) (hV : VB B w) (hos : os.length ≤ 100000) (o : Opr) (pv : Value) (hp : pv.oneCell' = true) :
  Calls Tryz.prog 55 #[.pointer (some ⟨g, 0, none⟩), opV o pv] w fun e w' => Led w B g os (getC c o) e w' := by
 obtain ⟨qv, bv, sv, kv, cv, ov, hT⟩ := hT
 have b0 := (Below.refl w.heap.size w).alloc (Nat.le_refl _) (.cells (opA o pv) 35)
 have hO := Blk.new w (opA o pv) 35
 have hT1 := hT.on b0
 have hF1 : FrT B w (w.alloc (.cells (opA o pv) 35)) := .of_below b0 hT.lt
 unfold opV
 go_enter Tryz.func55, Tryz.ntmps55
 go_upto_region 1 with fail
 generalize w.alloc (.cells (opA o pv) 35) = w1 at *
 obtain ⟨gx, egx⟩ : ∃ g, w.heap.size = g := ⟨_, rfl⟩
 rw [egx] at hO ⊢
 have d1 : w1.cell? ⟨gx, 1, none⟩ = some (.int .i64 o.conn) := hO.cell 1
 have d2 : w1.cell? ⟨gx, 2, none⟩ = some (.int .i64 o.sub) := hO.cell 2
 have d4 : w1.cell? ⟨gx, 4, none⟩ = some (tx o.queue) := hO.cell 4
 have HS := isSub_any w1 o.conn o.sub
 have HN := named_any w1 B g c os qv bv sv kv cv ov hT1 hg o.queue
 have HT1 : Hid (Tv w1 B g c os qv bv sv kv cv ov ∧ FrT B w w1 ∧ Blk w1 gx (opA o pv) 35) := ⟨hT1, hF1, hO⟩
 clear hT hT1 hF1 egx b0 hO
 go_wp2_with fail
 refine HS.mono ?_
 rintro e wA ⟨rfl, hA⟩
 rw [hA]
 clear hA wA HS
 have HI := insist_any w1 (subB o.conn o.sub) 1
 go_wp2_with fail
 refine HI.mono ?_
 rintro e wI ⟨hI, hb⟩
 rw [hI]
 clear hI wI HI
 rcases hb with ⟨hb, he⟩ | ⟨hb, he⟩
 rotate_left
 ·subst he
  exact ⟨rfl, .inr ⟨1, by simp [getC, ins, hb], rfl, HT1.out.2.1⟩⟩
 subst he
 go_wp2_with fail
 refine HN.mono ?_
 rintro e w2 ⟨h2, b2⟩
 clear HN d1 d2 d4
 obtain ⟨hT1, hF1, hO⟩ := HT1.out
 have hT2 := hT1.on b2
 have hF2 := hF1.trans (.of_below b2 hT1.lt)
 have hO2 := hO.on b2
 clear hT1 hF1 hO HT1 b2
 rcases h2 with ⟨p, gq, cap, cur, iv, hv, hpl, hnm, he, hEL2⟩ | ⟨hnm, he⟩
 rotate_left
 ·subst he
  exact ⟨rfl, .inr ⟨33, by simp [getC, ins, hb, hnm, bnd], rfl, hF2⟩⟩
 subst he
 have hbig := good_len hg hpl
 have hgq := hg.qg _ (List.getElem_mem hpl)
 obtain ⟨q, hq⟩ : ∃ q, c.queues[p] = q := ⟨_, rfl⟩
 rw [hq] at hnm hbig hgq
 have HG : Hid (some gx ≠ some gq) := fun e => by
  injection e with e
  have h1 := hO2.h
  rw [e, hEL2.blk.h] at h1
  injection h1 with h1
  injection h1 with _ h1
  cases h1
 go_upto_region 3 with fail
 refine rh (fun W => Blk W g #[.int .i64 c.now, qv, bv, sv, kv, cv, ov] 77 ∧ Blk W gx (opA o pv) 35) ?_
 have hS : Blk (World.drew w2) g #[.int .i64 c.now, qv, bv, sv, kv, cv, ov] 77 ∧ Blk (World.drew w2) gx (opA o pv) 35 := ⟨⟨hT2.blk.h⟩, ⟨hO2.h⟩⟩
 have hT3 := hT2.drew
 have hF3 := hF2.drew
 have hEL := hEL2.kx (e := 0) (w' := w2.drew) .drew (by decide)
 clear hT2 hF2 hO2 hEL2
 generalize w2.drew = w3 at *
 have hOW := hEL.own
 rw [hq] at hOW
 refine tks [0, 1, 2, 4, 5, 6, 7, 8] [.pointer (some ⟨gq, p * 7, none⟩), .pointer (some ⟨gq, p * 7, none⟩), .pointer (some ⟨gq, p * 7, none⟩), .pointer (some ⟨g, 0, none⟩), .pointer (some ⟨g, 0, none⟩), .pointer (some ⟨g, 0, none⟩), .pointer (some ⟨g, 0, none⟩), .int .i64 c.now] 7 ?_ hS ?_
 ·simp only [tkY, tkf]
  refine ⟨.yes ?_, .yes ?_, .yes ?_, .yes ?_, .yes ?_, .yes ?_, .yes ?_, .yes ?_, trivial⟩
  all_goals
   intro W' hW'
   have := hW'.1.ce 0
   go_simp
 simp only [tkA, tkf]
 refine ak 3 fun K hK => ?_
 obtain ⟨d0, d1, d2, d3, d4, d5, d6⟩ := hEL.c7 hpl hq
 go_simp
 refine hK _ _ hS ?_
 clear hK K
 try simp only [tkf]
 refine ak 9 fun K hK => ?_
 go_simp
 refine (expire_any _ (hV.fr hF3).now _ q (OwnQ.rd hOW) c.now hbig).mono ?_
 rintro e w4 ⟨v4, rfl, o4, b4⟩
 obtain ⟨iv4, hv4, rfl, n4, o4'⟩ := own_open o4
 clear o4
 have hT4 := hT3.on b4
 have hF4 := hF3.trans (.of_below b4 hT3.lt)
 have hEL4 := hEL.on b4
 have hS4 : Blk w4 g #[.int .i64 c.now, qv, bv, sv, kv, cv, ov] 77 ∧ Blk w4 gx (opA o pv) 35 := ⟨hS.1.on b4, hS.2.on b4⟩
 have o4 := o4'.low hT3.lt
 clear hT3 hF3 hEL hS b4 o4'
 have hS := hS4
 clear hS4
 show K _ _
 refine hK _ _ hS ?_
 clear hK K
 try simp only [tkf]
 refine tks [10, 11] [queV (if relC q = 0 then expireQ q c.now else zeroQ) iv4 hv4, .int .i64 (relC q)] 3 ?_ hS ?_
 ·simp only [tkY, tkf]
  refine ⟨.yes ?_, .yes ?_, trivial⟩
  all_goals
   intro W' hW'
   go_simp
 simp only [tkA, tkf]
 refine ak 12 fun K hK => ?_
 go_simp
 refine (sure_any _ B _ _ o4 _).mono ?_
 rintro e w5 ⟨h5, b5⟩
 have hT5 := hT4.on b5
 have hF5 := hF4.trans (.of_below b5 hT4.lt)
 have hEL5 := hEL4.on b5
 have hS5 : Blk w5 g #[.int .i64 c.now, qv, bv, sv, kv, cv, ov] 77 ∧ Blk w5 gx (opA o pv) 35 := ⟨hS.1.on b5, hS.2.on b5⟩
 have o5 := o4.on b5
 clear hT4 hF4 hEL4 hS b5 o4
 have hS := hS5
 clear hS5
 rcases h5 with ⟨h5, he⟩ | ⟨h5, he⟩
 rotate_left
 ·exact absurd (relC_ok hgq) h5
 subst he
 show K _ _
 rw [if_pos h5] at o5 ⊢
 refine hK _ _ hS ?_
 clear hK K
 try simp only [tkf]
 refine tks [13] [.pointer (some ⟨gq, p * 7, none⟩)] 1 ?_ hS ?_
 ·simp only [tkY, tkf]
  refine ⟨.yes ?_, trivial⟩
  all_goals
   intro W' hW'
   go_simp
 simp only [tkA, tkf]
 refine ak 14 fun K hK => ?_
 refine opw_putAt (.tmp 28) (.tmp 27) rfl gq (p * 7) (queV (expireQ q c.now) iv4 hv4).cells rfl ?_ hEL5.blk (by kernel_rfl) hEL5.fit (own_cells o5) ?_
 ·skip
  simp only [Act.eval, Act.put]
  rfl
 intro w6 k6 g6 s6
 obtain ⟨T6, F6, E6⟩ := hT5.put hEL5 o5 k6 g6
 have hS6 : Blk w6 g #[.int .i64 c.now, qv, bv, sv, kv, cv, ov] 77 ∧ Blk w6 gx (opA o pv) 35 := ⟨T6.blk, hS.2.grown g6 HG.out⟩
 refine hK _ _ hS6 ?_
 clear hK K hS
 have hS := hS6
 clear hS6
 try simp only [tkf]
 refine ad ?_
 have hF6 := hF5.trans F6
 have hg1 : GoodP (expireQ q c.now) := good_expire ((goodQ_iff _).1 hgq) _
 have hbig1 : lenQ (expireQ q c.now) ≤ 1000000 := by
  have h2 := hg1.len
  have h3 := hg1.dep
  simp only [depB, Bool.and_eq_true, decide_eq_true_eq] at h3
  omega
 have HH := hand_any w6 B g { c with queues := c.queues.set p (expireQ q c.now) } os qv bv sv kv cv ov T6 p gq cap _ iv4 hv4 E6 (expireQ q c.now) (by rw [List.length_set]; exact hpl) (by simp) hbig1 (hV.fr hF6) hos o.conn o.sub (!o.auto)
 obtain ⟨d0, d1, d2, d3, d4, d5, d6, d7, d8, d9, d10, d11, d12, d13⟩ := hS.2.c14
 clear T6 E6 F6 hS hT5 hF5 hEL5 o5 k6 g6 s6
 go_wp2_with fail
 refine HH.mono ?_
 intro e w7 h7
 clear HH d0 d1 d2 d3 d4 d5 d6 d7 d8 d9 d10 d11 d12 d13
 rcases h7 with ⟨r, h7, he, ⟨ov', cur', iv', hv', T7, E7⟩, F7⟩ | ⟨n, h7, he, F7⟩
 ·subst he
  go_wp2_with fail
  go_end0
  have hnr : r.1.name = (c.queues[p]).name := by
   rw [(handQ_ok h7).2, take_name, hq]
   rfl
  refine .inl ⟨(setQ c r.1, [r.2]), ?_, rfl, ⟨qv, bv, sv, kv, cv, ov', ?_⟩, hF6.trans F7⟩
  ·simp only [getC, ins, hb, hnm, bnd, sureE, h5, if_true, h7]
  ·simp only [List.set_set] at T7
   rw [set_en hg.qi hpl hnr] at T7
   exact T7
 ·subst he
  exact ⟨rfl, .inr ⟨n, by simp only [getC, ins, hb, hnm, bnd, sureE, h5, if_true, h7], rfl, hF6.trans F7⟩⟩
set_option maxHeartbeats 4000000 in
theorem holds_any (w : World) (v : Value) (q : Que) (h : RdQ w v q) (conn sub : Int) (hs : lenQ q ≤ 1000000) :
  Calls Tryz.prog 160 #[v, .int .i64 conn, .int .i64 sub] w fun e w' => e = .returned (.int .i64 (holdsQ q conn sub)) ∧ Bw w w' := by
 obtain ⟨iv, hv, rfl, hi, ⟨zh, eh, hh⟩⟩ := h
 obtain ⟨ai, ci, rfl⟩ := hi.len
 obtain ⟨ah, ch, rfl⟩ := hh.len
 generalize q.items.length = ni at *
 obtain ⟨nh, hnh⟩ : ∃ n, zh.length = n := ⟨_, rfl⟩
 rw [hnh] at hh ⊢
 have hn : nh ≤ 1000000 := by
  have : nh = q.held.length := by rw [← hnh, ← eh, List.length_map]
  unfold lenQ at hs
  omega
 have HH : Hid (RdZ 10 (HeR (RdP w)) w (.slice ah nh ch) zh ∧ zh.map (·.2) = q.held ∧ zh.length = nh) := ⟨hh, eh, hnh⟩
 clear hh eh hnh hs hi
 have b0 := (Below.refl w.heap.size w).alloc (Nat.le_refl _) (.cells (quA q (.slice ai ni ci) (.slice ah nh ch)) 82)
 have k0 := Blk.new w (quA q (.slice ai ni ci) (.slice ah nh ch)) 82
 unfold queV
 go_enter Tryz.func160, Tryz.ntmps160
 go_upto_region 1 with fail
 generalize w.alloc (.cells (quA q (.slice ai ni ci) (.slice ah nh ch)) 82) = w1 at *
 have c6 : w1.cell? ⟨w.heap.size, 6, none⟩ = some (.slice ah nh ch) := k0.cell 6
 clear k0
 go_wp2_with fail
 go_loopg [7, 13] nh (fun gg s7 s13 wr => ∃ k c : Nat, k ≤ nh ∧ nh - k ≤ gg ∧ s13 = .int .i64 k ∧ s7 = .int .i64 c ∧ c ≤ k ∧ Hid (c = holdsQ ⟨q.name, q.dur, q.depth, q.seq, q.tag, q.items, q.held.take k⟩ conn sub) ∧ Hid (Bw w wr))
 case atStart => exact ⟨0, 0, Nat.zero_le _, by omega, rfl, rfl, Nat.le_refl _, rfl, b0⟩
 case round =>
  obtain ⟨k, c, hk, hg, rfl, rfl, hck, HC, HB⟩ := hrel
  clear b0 c6
  obtain ⟨wy, hwy⟩ : ∃ W, W = wr := ⟨_, rfl⟩
  subst hwy
  by_cases hlk : k < nh
  ·have hlkz : (k : Int) < (nh : Int) := by omega
   obtain ⟨b2, o2, pv2, rfl, hz2, hp2, e0, e1, e2, e3, e4, e5, e6, e7, e8, e9⟩ := hld_at HH.out.1 HB.out (i := k) (by rw [HH.out.2.2]; exact hlk)
   have ET : Hid (q.held.take (k + 1) = q.held.take k ++ [(zh[k]'(by rw [HH.out.2.2]; exact hlk)).2]) := by
    show q.held.take (k + 1) = _
    rw [List.take_succ_eq_append_getElem (by rw [← HH.out.2.1, List.length_map, HH.out.2.2]; exact hlk)]
    congr 2
    simp only [← HH.out.2.1, List.getElem_map]
   generalize (zh[k]'(by rw [HH.out.2.2]; exact hlk)).2 = z at *
   clear hz2
   obtain ⟨pa2, pc2, rfl⟩ := hp2.shape
   clear hp2
   generalize z.itm.msg.props.length = np2 at *
   go_wp2_with (refine wpl_fresh rfl (.tmp 9) (.tmp 16) rfl _ _ rfl rfl (by kernel_rfl) rfl (by simp [Value.oneCell']) ?_)
   intro wq kz bz sz
   have HB1 : Hid (Bw w wq) := nxt HB.out bz
   have d1 : wq.cell? ⟨wy.heap.size, 1, none⟩ = some (.int .i64 z.conn) := kz.cell 1
   have d2 : wq.cell? ⟨wy.heap.size, 2, none⟩ = some (.int .i64 z.sub) := kz.cell 2
   clear HB e0 e1 e2 e3 e4 e5 e6 e7 e8 e9 bz kz sz
   have ES : Hid (holdsQ ⟨q.name, q.dur, q.depth, q.seq, q.tag, q.items, q.held.take (k + 1)⟩ conn sub = c + if z.conn = conn ∧ z.sub = sub then 1 else 0) := by
    show holdsQ _ conn sub = _
    rw [HC.out]
    simp only [holdsQ, ET.out, List.countP_append, List.countP_cons, List.countP_nil, Nat.zero_add, Bool.and_eq_true, decide_eq_true_eq]
   by_cases h1 : z.conn = conn
   ·by_cases h2 : z.sub = sub
    ·have HC1 : Hid (c + 1 = holdsQ ⟨q.name, q.dur, q.depth, q.seq, q.tag, q.items, q.held.take (k + 1)⟩ conn sub) := by
      show c + 1 = _
      rw [ES.out, if_pos ⟨h1, h2⟩]
     go_wp2_with fail
     go_roundg (nh - (k + 1))
     case measure => omega
     case rel => exact ⟨k + 1, c + 1, by omega, by omega, by go_num, by go_num, by omega, HC1, HB1⟩
    ·have HC1 : Hid (c = holdsQ ⟨q.name, q.dur, q.depth, q.seq, q.tag, q.items, q.held.take (k + 1)⟩ conn sub) := by
      show c = _
      rw [ES.out, if_neg (fun h => h2 h.2)]
      rfl
     go_wp2_with fail
     go_roundg (nh - (k + 1))
     case measure => omega
     case rel => exact ⟨k + 1, c, by omega, by omega, by go_num, rfl, by omega, HC1, HB1⟩
   ·have HC1 : Hid (c = holdsQ ⟨q.name, q.dur, q.depth, q.seq, q.tag, q.items, q.held.take (k + 1)⟩ conn sub) := by
     show c = _
     rw [ES.out, if_neg (fun h => h1 h.1)]
     rfl
    go_wp2_with fail
    go_roundg (nh - (k + 1))
    case measure => omega
    case rel => exact ⟨k + 1, c, by omega, by omega, by go_num, rfl, by omega, HC1, HB1⟩
  ·have hlkz : ¬ (k : Int) < (nh : Int) := by omega
   have hcc : holdsQ q conn sub = c := by
    have et : q.held.take k = q.held := List.take_of_length_le (by rw [← HH.out.2.1, List.length_map, HH.out.2.2]; omega)
    have := HC.out
    rw [et] at this
    exact this.symm
   go_wp2
   go_ret
   exact ⟨rfl, HB.out⟩
end Go.Proofs.YtnpikgakpmkipabGreatDoor
