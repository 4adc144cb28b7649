/- (*turn).handKept. Conditions: those that each row states. -/
import Derived.Test.YtnpikgakpmkipabGreatDoorY15
import Derived.Test.YtnpikgakpmkipabGreatDoorY04
import Derived.Test.YtnpikgakpmkipabGreatDoorY03
import Derived.Test.YtnpikgakpmkipabGreatDoorY21
import Derived.Test.YtnpikgakpmkipabGreatDoorY22
import Derived.Test.YtnpikgakpmkipabGreatDoorY24
import Derived.Test.YtnpikgakpmkipabGreatDoorY16
import Derived.Test.YtnpikgakpmkipabGreatDoorY05
import Derived.Test.YtnpikgakpmkipabGreatDoorY23
import Derived.Test.YtnpikgakpmkipabGreatDoorY11
namespace Go.Proofs.YtnpikgakpmkipabGreatDoor
open Go.RowKit Go.Lib
set_option maxRecDepth 100000
set_option linter.unusedSimpArgs false
set_option linter.unusedVariables false
def ktO (o : Opr) (l : List Msg) : List Ot := (l.filter (fun m => mat o.text m.topic)).map fun m => ⟨o.conn, o.sub, 0, o.queue, false, true, m⟩
theorem ktO_snoc (o : Opr) (l : List Msg) (m : Msg) : ktO o (l ++ [m]) = ktO o l ++ (if mat o.text m.topic = true then [⟨o.conn, o.sub, 0, o.queue, false, true, m⟩] else []) := by
 unfold ktO
 rw [List.filter_append, List.map_append]
 congr 1
 cases h : mat o.text m.topic <;> simp [h]
theorem ktO_len (o : Opr) (l : List Msg) : (ktO o l).length ≤ l.length := by
 unfold ktO
 rw [List.length_map]
 exact List.length_filter_le _ _
structure HkI (w W : World) (B g gx : Nat) (c : Cor) (os : List Ot) (qv bv sv kv cv : Value) (o : Opr) (pv : Value) (i : Nat) : Prop where
 t : ∃ ov, Tv W B g c (os ++ ktO o (c.kept.take i)) qv bv sv kv cv ov
 f : FrT B w W
 x : Blk W gx (opA o pv) 35
set_option maxHeartbeats 8000000 in
theorem handKept_any (w : World) (B g : Nat) (c : Cor) (os : List Ot) (hT : T w B g c os) (hg : GoodC c) (hV : VB B w) (hos : os.length ≤ 10000) (o : Opr) (pv : Value) (hp : pv.oneCell' = true) :
  Calls Tryz.prog 121 #[.pointer (some ⟨g, 0, none⟩), opV o pv] w fun e w' => e = .returned (.tuple #[]) ∧ T w' B g c (os ++ ktO o c.kept) ∧ FrT B w w' := by
 obtain ⟨qv, bv, sv, kv, cv, ov0, hT⟩ := hT
 obtain ⟨n, hn⟩ : ∃ n, c.kept.length = n := ⟨_, rfl⟩
 have hkl := hg.kl
 have b0 := (Below.refl w.heap.size w).alloc (Nat.le_refl _) (.cells (opA o pv) 35)
 have hO := Blk.new w (opA o pv) 35
 have hT1 := hT.on b0
 have hF1 : FrT B w (w.alloc (.cells (opA o pv) 35)) := .of_below b0 hT.lt
 unfold opV
 go_enter Tryz.func121, Tryz.ntmps121
 go_upto_region 1 with fail
 generalize w.alloc (.cells (opA o pv) 35) = w1 at *
 obtain ⟨gx, egx⟩ : ∃ g, w.heap.size = g := ⟨_, rfl⟩
 rw [egx] at hO ⊢
 clear egx b0 hT
 have HGX : Hid (gx ≠ g) := fun e => by
  have h1 := hO.h
  rw [e, hT1.blk.h] at h1
  injection h1 with h1
  injection h1 with _ h1
  cases h1
 obtain ⟨zs, ezs, hzs⟩ := hT1.k
 have hzl : zs.length = n := by rw [← hn, ← ezs, List.length_map]
 obtain ⟨ka, kcp, ekv⟩ := hzs.rd.len
 rw [hzl] at ekv
 obtain ⟨c0, c1, c2, c3, c4, c5, c6⟩ := hT1.blk.c7
 rw [ekv] at c4
 have HKV : Hid (kv = .slice ka n kcp) := ekv
 have HT0 : Hid (HkI w w1 B g gx c os qv bv sv kv cv o pv 0) := ⟨⟨ov0, by simpa [ktO] using hT1⟩, hF1, hO⟩
 clear hT1 hF1 hO zs ezs hzs hzl ekv
 go_wp2_with fail
 clear c0 c1 c2 c3 c4 c5 c6
 go_loopg [5, 12] n (fun gg _ s12 wr => ∃ i : Nat, i ≤ n ∧ n - i ≤ gg ∧ s12 = .int .i64 i ∧ Hid (HkI w wr B g gx c os qv bv sv kv cv o pv i))
 case atStart => exact ⟨0, Nat.zero_le _, by omega, rfl, HT0.out⟩
 case round =>
  obtain ⟨i, hi, hgg, rfl, HP⟩ := hrel
  by_cases hlt : i < n
  ·have hltz : (i : Int) < (n : Int) := by omega
   have hin : i < c.kept.length := by omega
   obtain ⟨ov, hT1⟩ := HP.out.t
   obtain ⟨zs, ezs, hzs⟩ := hT1.k
   have hzl : zs.length = n := by rw [← hn, ← ezs, List.length_map]
   have hrd := hzs.rd
   rw [HKV.out] at hrd
   obtain ⟨kb, ko, v0, v1, pm, v3, v4, rfl, hz1, hzR, hone, hcs⟩ := el5_at hrd (i := i) (by omega)
   obtain ⟨e0, e1, e2, e3, e4⟩ := hcs wr (Below.refl _ _)
   obtain ⟨m, hm⟩ : ∃ m, c.kept[i] = m := ⟨_, rfl⟩
   have hsj : (zs[i]'(by omega)).2 = m := by
    have e5 : (zs.map (·.2))[i]'(by rw [List.length_map]; omega) = c.kept[i] := by simp only [ezs]
    rw [← hm, ← e5, List.getElem_map]
   rw [hsj] at hzR
   obtain ⟨pm', hzR, hpm⟩ := hzR
   unfold msgV at hzR
   injection hzR with z0 hzR
   injection hzR with z1 hzR
   injection hzR with z2 hzR
   injection hzR with z3 hzR
   injection hzR with z4 hzR
   subst z0 z1 z2 z3 z4
   have hpl : m.props.length ≤ 2513169434916 := by
    have h1 := hg.kg _ (List.getElem_mem hin)
    rw [hm] at h1
    simp only [kepB, msgB, Bool.and_eq_true] at h1
    have := (valid_parts h1.1.1.2).1
    omega
   have hal : ((msA m pm) : Array Value).all (·.oneCell') = true := by
    simp only [Array.all_eq_true_iff_forall_mem]
    intro u hu
    simp only [List.mem_toArray, List.mem_cons, List.not_mem_nil, or_false] at hu
    rcases hu with rfl | rfl | rfl | rfl | rfl
    all_goals first | rfl | exact hpm.rd.one
   have HPM : Hid (RdP wr pm m.props) := hpm.rd
   have HX : Hid (HkI w wr B g gx c os qv bv sv kv cv o pv i) := HP.out
   clear hT1 hzs ezs hrd hz1 hone hcs hsj hzR hpm hzl HP
   go_wp2_with (refine wpl_fresh rfl (.tmp 5) (.tmp 15) rfl _ _ rfl rfl (by kernel_rfl) rfl hal ?_)
   intro w2 k2 b2 s2
   clear e0 e1 e2 e3 e4
   obtain ⟨ov, hT1⟩ := HX.out.t
   have hT2 := hT1.on b2
   have hF2 := HX.out.f.trans (.of_below b2 hT1.lt)
   have hX2 := HX.out.x.on b2
   have HB2 : Hid (Bw wr w2) := b2
   obtain ⟨gm, egm⟩ : ∃ x, wr.heap.size = x := ⟨_, rfl⟩
   rw [egm] at k2 ⊢
   have HM := To.match_any w2 (hV.fr hF2).now o.text m.topic
   have HX2 : Hid (Tv w2 B g c (os ++ ktO o (c.kept.take i)) qv bv sv kv cv ov ∧ FrT B w w2 ∧ Blk w2 gx (opA o pv) 35 ∧ Blk w2 gm (msA m pm) 33) := ⟨hT2, hF2, hX2, k2⟩
   have d5 : w2.cell? ⟨gx, 5, none⟩ = some (tx o.text) := hX2.cell 5
   have e0 : w2.cell? ⟨gm, 0, none⟩ = some (tx m.topic) := k2.cell 0
   clear hT1 hT2 hF2 hX2 k2 b2 s2 HX egm
   go_wp2_with fail
   refine HM.mono ?_
   rintro e w3 ⟨rfl, b3⟩
   clear HM d5 e0
   obtain ⟨hT2, hF2, hX2, k2⟩ := HX2.out
   have hT3 := hT2.on b3
   have hF3 := hF2.trans (.of_below b3 hT2.lt)
   have hX3 := hX2.on b3
   have k3 := k2.on b3
   have HB3 : Hid (Bw wr w3) := nxt HB2.out b3
   clear HX2 hT2 hF2 hX2 k2 b3 HB2
   have hsn := ktO_snoc o (c.kept.take i) m
   rw [← hm, ← List.take_succ_eq_append_getElem hin, hm] at hsn
   cases hmt : mat o.text m.topic with
   | false =>
    rw [hmt] at hsn
    have HP2 : Hid (HkI w w3 B g gx c os qv bv sv kv cv o pv (i + 1)) := ⟨⟨ov, by rw [hsn]; simpa using hT3⟩, hF3, hX3⟩
    clear hT3 hF3 hX3 k3 hsn
    go_wp2_with fail
    go_roundg (n - (i + 1))
    case measure => omega
    case rel => exact ⟨i + 1, by omega, by omega, rfl, HP2.out⟩
   | true =>
    rw [hmt] at hsn
    have HSN : Hid _ := hsn
    have hlen : (os ++ ktO o (c.kept.take i)).length ≤ 20000 := by
     have := ktO_len o (c.kept.take i)
     rw [List.length_append]
     rw [List.length_take] at this
     omega
    clear hsn
    go_upto_region 5 with fail
    refine wp_region_to (S := fun W => (Blk W g #[.int .i64 c.now, qv, bv, sv, kv, cv, ov] 77 ∧ Blk W gx (opA o pv) 35) ∧ Blk W gm (msA m pm) 33) (z := 18) hmix ?_
    show wpTo _ _ _ _ _ _ _ _ _ (World.drew _)
    have hT7 := hT3.drew
    have hF7 := hF3.drew
    have bw7 := HB3.out.drew
    have hS : (Blk w3.drew g #[.int .i64 c.now, qv, bv, sv, kv, cv, ov] 77 ∧ Blk w3.drew gx (opA o pv) 35) ∧ Blk w3.drew gm (msA m pm) 33 := ⟨⟨hT7.blk, ⟨hX3.h⟩⟩, ⟨k3.h⟩⟩
    clear hT3 hF3 hX3 k3
    generalize w3.drew = w7 at *
    refine wpTo.take (i := 0) (z := 18) (v := .pointer (some ⟨g, 0, none⟩)) rfl (by kernel_rfl) (by kernel_rfl) (by kernel_rfl) (by kernel_rfl) (fun _ _ _ h => h) (.inl ⟨by rfl, fun W' hW' => ?_⟩) hS ?_
    ·skip
     go_simp
    try simp only [tkf]
    refine wpTo.take (i := 1) (z := 18) (v := .pointer (some ⟨g, 0, none⟩)) rfl (by kernel_rfl) (by kernel_rfl) (by kernel_rfl) (by kernel_rfl) (fun _ _ _ h => h) (.inl ⟨by rfl, fun W' hW' => ?_⟩) hS ?_
    ·skip
     go_simp
    try simp only [tkf]
    refine wpTo.take (i := 2) (z := 18) (v := .pointer (some ⟨g, 0, none⟩)) rfl (by kernel_rfl) (by kernel_rfl) (by kernel_rfl) (by kernel_rfl) (fun _ _ _ h => h) (.inl ⟨by rfl, fun W' hW' => ?_⟩) hS ?_
    ·skip
     go_simp
    try simp only [tkf]
    refine wpTo.take (i := 3) (z := 18) (v := .pointer (some ⟨g, 6, none⟩)) rfl (by kernel_rfl) (by kernel_rfl) (by kernel_rfl) (by kernel_rfl) (fun _ _ _ h => h) (.inl ⟨by rfl, fun W' hW' => ?_⟩) hS ?_
    ·skip
     go_simp
    try simp only [tkf]
    refine wpTo.take (i := 4) (z := 18) (v := ov) rfl (by kernel_rfl) (by kernel_rfl) (by kernel_rfl) (by kernel_rfl) (fun _ _ _ h => h) (.inl ⟨by rfl, fun W' hW' => ?_⟩) hS ?_
    ·have d0 : W'.cell? ⟨g, 6, none⟩ = some (ov) := hW'.1.1.cell 6
     go_simp
    try simp only [tkf]
    refine wpTo.take (i := 5) (z := 18) (v := .pointer (some ⟨gx, 1, none⟩)) rfl (by kernel_rfl) (by kernel_rfl) (by kernel_rfl) (by kernel_rfl) (fun _ _ _ h => h) (.inl ⟨by rfl, fun W' hW' => ?_⟩) hS ?_
    ·skip
     go_simp
    try simp only [tkf]
    refine wpTo.take (i := 6) (z := 18) (v := .int .i64 o.conn) rfl (by kernel_rfl) (by kernel_rfl) (by kernel_rfl) (by kernel_rfl) (fun _ _ _ h => h) (.inl ⟨by rfl, fun W' hW' => ?_⟩) hS ?_
    ·have d0 : W'.cell? ⟨gx, 1, none⟩ = some (.int .i64 o.conn) := hW'.1.2.cell 1
     go_simp
    try simp only [tkf]
    refine wpTo.take (i := 7) (z := 18) (v := .pointer (some ⟨gx, 2, none⟩)) rfl (by kernel_rfl) (by kernel_rfl) (by kernel_rfl) (by kernel_rfl) (fun _ _ _ h => h) (.inl ⟨by rfl, fun W' hW' => ?_⟩) hS ?_
    ·skip
     go_simp
    try simp only [tkf]
    refine wpTo.take (i := 8) (z := 18) (v := .int .i64 o.sub) rfl (by kernel_rfl) (by kernel_rfl) (by kernel_rfl) (by kernel_rfl) (fun _ _ _ h => h) (.inl ⟨by rfl, fun W' hW' => ?_⟩) hS ?_
    ·have d0 : W'.cell? ⟨gx, 2, none⟩ = some (.int .i64 o.sub) := hW'.1.2.cell 2
     go_simp
    try simp only [tkf]
    refine wpTo.take (i := 9) (z := 18) (v := .pointer (some ⟨gx, 4, none⟩)) rfl (by kernel_rfl) (by kernel_rfl) (by kernel_rfl) (by kernel_rfl) (fun _ _ _ h => h) (.inl ⟨by rfl, fun W' hW' => ?_⟩) hS ?_
    ·skip
     go_simp
    try simp only [tkf]
    refine wpTo.take (i := 10) (z := 18) (v := tx o.queue) rfl (by kernel_rfl) (by kernel_rfl) (by kernel_rfl) (by kernel_rfl) (fun _ _ _ h => h) (.inl ⟨by rfl, fun W' hW' => ?_⟩) hS ?_
    ·have d0 : W'.cell? ⟨gx, 4, none⟩ = some (tx o.queue) := hW'.1.2.cell 4
     go_simp
    try simp only [tkf]
    refine wpTo.take (i := 11) (z := 18) (v := .agg #[tx m.topic, tx m.body, pm, .bool m.dur, .int .i64 m.til]) rfl (by kernel_rfl) (by kernel_rfl) (by kernel_rfl) (by kernel_rfl) (fun _ _ _ h => h) (.inl ⟨by rfl, fun W' hW' => ?_⟩) hS ?_
    ·have d0 : W'.cell? ⟨gm, 0, none⟩ = some (tx m.topic) := hW'.2.cell 0
     have d1 : W'.cell? ⟨gm, 1, none⟩ = some (tx m.body) := hW'.2.cell 1
     have d2 : W'.cell? ⟨gm, 2, none⟩ = some (pm) := hW'.2.cell 2
     have d3 : W'.cell? ⟨gm, 3, none⟩ = some (.bool m.dur) := hW'.2.cell 3
     have d4 : W'.cell? ⟨gm, 4, none⟩ = some (.int .i64 m.til) := hW'.2.cell 4
     go_simp
    try simp only [tkf]
    refine wpTo.one (i := 12) (by kernel_rfl) rfl (by rfl) (fun K hK => ?_)
    go_simp
    refine (copyMsg_any _ m pm (RdP.on HPM.out (bw7)) hpl).mono ?_
    rintro e w8 ⟨pm2, rfl, o8, b8⟩
    have hS8 : (Blk w8 g #[.int .i64 c.now, qv, bv, sv, kv, cv, ov] 77 ∧ Blk w8 gx (opA o pv) 35) ∧ Blk w8 gm (msA m pm) 33 := ⟨⟨hS.1.1.on b8, hS.1.2.on b8⟩, hS.2.on b8⟩
    have hT8 := hT7.on b8
    have hF8 := hF7.trans (.of_below b8 hT7.lt)
    have p8 := o8.low hT7.lt
    clear hS hT7 hF7 o8 b8 bw7
    have hS := hS8
    clear hS8
    unfold msgV
    show K _ _
    refine hK _ _ (fun _ => hS) ?_
    clear hK K
    try simp only [tkf]
    refine wpTo.take (i := 13) (z := 18) (v := .agg #[.int .i64 o.conn, .int .i64 o.sub, .int .i64 0, tx o.queue, .bool false, .bool true, tx m.topic, tx m.body, pm2, .bool m.dur, .int .i64 m.til]) rfl (by kernel_rfl) (by kernel_rfl) (by kernel_rfl) (by kernel_rfl) (fun _ _ _ h => h) (.inl ⟨by rfl, fun W' hW' => ?_⟩) hS ?_
    ·skip
     go_simp
    try simp only [tkf]
    refine wpTo.one (i := 14) (by kernel_rfl) rfl (by rfl) (fun K hK => ?_)
    go_simp
    have b9 := (Below.refl w8.heap.size w8).alloc (Nat.le_refl _) (.cells #[.int .i64 o.conn, .int .i64 o.sub, .int .i64 0, tx o.queue, .bool false, .bool true, tx m.topic, tx m.body, pm2, .bool m.dur, .int .i64 m.til] 61)
    have k9 := Blk.new w8 #[.int .i64 o.conn, .int .i64 o.sub, .int .i64 0, tx o.queue, .bool false, .bool true, tx m.topic, tx m.body, pm2, .bool m.dur, .int .i64 m.til] 61
    have hT9 := hT8.on b9
    have p9 := p8.keep (Kt.of_below (t := 66) b9)
    have hF9 := hF8.trans (.of_below b9 hT8.lt)
    have hS9 : (Blk (w8.alloc (.cells #[.int .i64 o.conn, .int .i64 o.sub, .int .i64 0, tx o.queue, .bool false, .bool true, tx m.topic, tx m.body, pm2, .bool m.dur, .int .i64 m.til] 61)) g #[.int .i64 c.now, qv, bv, sv, kv, cv, ov] 77 ∧ Blk (w8.alloc (.cells #[.int .i64 o.conn, .int .i64 o.sub, .int .i64 0, tx o.queue, .bool false, .bool true, tx m.topic, tx m.body, pm2, .bool m.dur, .int .i64 m.til] 61)) gx (opA o pv) 35) ∧ Blk (w8.alloc (.cells #[.int .i64 o.conn, .int .i64 o.sub, .int .i64 0, tx o.queue, .bool false, .bool true, tx m.topic, tx m.body, pm2, .bool m.dur, .int .i64 m.til] 61)) gm (msA m pm) 33 := ⟨⟨hS.1.1.on b9, hS.1.2.on b9⟩, hS.2.on b9⟩
    show K _ _
    refine hK _ _ (fun _ => hS9) ?_
    obtain ⟨nb, hnb⟩ : ∃ nb, w8.heap.size = nb := ⟨_, rfl⟩
    rw [hnb] at k9 ⊢
    generalize w8.alloc (.cells #[.int .i64 o.conn, .int .i64 o.sub, .int .i64 0, tx o.queue, .bool false, .bool true, tx m.topic, tx m.body, pm2, .bool m.dur, .int .i64 m.til] 61) = w9 at *
    clear hK K hS hT8 p8 hF8 b9 hnb
    have hS := hS9
    clear hS9
    try simp only [tkf]
    refine wpTo.one (i := 15) (by kernel_rfl) rfl (by rfl) (fun K hK => ?_)
    obtain ⟨zo, ezo, hzo⟩ := hT9.o
    refine appO_one hzo hT9.lt (.tmp 25) (.tmp 35) rfl rfl nb rfl ⟨o.conn, o.sub, 0, o.queue, false, true, m⟩ pm2 k9 p9 (by have := congrArg List.length ezo; rw [List.length_map] at this; omega) ?_
    intro vA wA oA gA
    rw [ezo] at oA
    obtain ⟨aA, nA, cA, rfl⟩ := OwnL.shape oA
    obtain ⟨TB, FB, kA⟩ := hT9.row_o gA oA
    have kxA : KX 61 w9 wA := .of_grown hzo.1 gA
    have hSA : (Blk wA g #[.int .i64 c.now, qv, bv, sv, kv, cv, ov] 77 ∧ Blk wA gx (opA o pv) 35) ∧ Blk wA gm (msA m pm) 33 := ⟨⟨kA, hS.1.2.kt (kxA.kt _ (by decide))⟩, hS.2.kt (kxA.kt _ (by decide))⟩
    refine hK _ _ (fun _ => hSA) ?_
    clear hK K hS hzo ezo zo
    have hS := hSA
    clear hSA
    try simp only [tkf]
    refine wpTo.one (i := 16) (by kernel_rfl) rfl (by rfl) (fun K hK => ?_)
    skip
    go_simp
    refine hK _ _ (fun _ => hS) ?_
    clear hK K
    try simp only [tkf]
    refine wpTo.one (i := 17) (by kernel_rfl) rfl (by rfl) (fun K hK => ?_)
    skip
    go_simp
    refine hK _ _ (fun _ => hS) ?_
    clear hK K
    try simp only [tkf]
    refine wpTo.one (i := 18) (by kernel_rfl) rfl (by rfl) (fun K hK => ?_)
    have f9 := kA.frozen 6
    have c9' : wA.cell? ⟨g, 6, none⟩ = some ov := kA.cell 6
    go_simp
    show K _ _
    refine hK _ _ (fun h => absurd rfl h) ?_
    clear hK K f9 c9'
    try simp only [tkf]
    refine wpTo.done (by kernel_rfl) ?_ _
    have HP2 : Hid (HkI w (wA.setCell ⟨g, 6, none⟩ (.slice aA nA cA)) B g gx c os qv bv sv kv cv o pv (i + 1)) := by
     refine ⟨⟨.slice aA nA cA, ?_⟩, hF9.trans FB, hS.1.2.setO (fun e => HGX.out e) _⟩
     have h1 := HSN.out
     simp only [if_true] at h1
     rw [h1, ← List.append_assoc]
     exact TB
    clear TB FB kA hS hT9 hF9 p9 k9
    go_wp2_with fail
    go_roundg (n - (i + 1))
    case measure => omega
    case rel => exact ⟨i + 1, by omega, by omega, rfl, HP2.out⟩
  ·obtain rfl : i = n := by omega
   have hltz : ¬ ((i : Int) < (i : Int)) := by omega
   have HF : Hid (T wr B g c (os ++ ktO o c.kept) ∧ FrT B w wr) := by
    obtain ⟨ov, h1⟩ := HP.out.t
    rw [List.take_of_length_le (by omega)] at h1
    exact ⟨⟨_, _, _, _, _, _, h1⟩, HP.out.f⟩
   clear HP
   go_wp2_with fail
   go_end0
   exact ⟨rfl, HF.out⟩
set_option maxHeartbeats 4000000 in
theorem bind_op (w : World) (B g : Nat) (c : Cor) (os : List Ot) (hT : T w B g c os) (hg : GoodC c) (hV : VB B w) (hos : os.length ≤ 10000) (o : Opr) (pv : Value) (hp : pv.oneCell' = true) :
  Calls Tryz.prog 48 #[.pointer (some ⟨g, 0, none⟩), opV o pv] w fun e w' => Led w B g os (bindC c o) e w' := by
 obtain ⟨qv, bv, sv, kv, cv, ov, hT⟩ := hT
 have b0 := (Below.refl w.heap.size w).alloc (Nat.le_refl _) (.cells (opA o pv) 35)
 have hO := Blk.new w (opA o pv) 35
 have hT1 := hT.on b0
 have hF1 : FrT B w (w.alloc (.cells (opA o pv) 35)) := .of_below b0 hT.lt
 unfold opV
 go_enter Tryz.func48, Tryz.ntmps48
 go_upto_region 1 with fail
 generalize w.alloc (.cells (opA o pv) 35) = w1 at *
 obtain ⟨gx, egx⟩ : ∃ g, w.heap.size = g := ⟨_, rfl⟩
 rw [egx] at hO ⊢
 clear egx b0 hT
 have hT2 := hT1
 have hF2 := hF1
 have HG : Hid (gx ≠ g) := fun e => by
  have h1 := hO.h
  rw [e, hT1.blk.h] at h1
  injection h1 with h1
  injection h1 with _ h1
  cases h1
 clear hT1 hF1
 refine rh (fun W => Blk W g #[.int .i64 c.now, qv, bv, sv, kv, cv, ov] 77 ∧ Blk W gx (opA o pv) 35) ?_
 have hS : Blk (World.drew w1) g #[.int .i64 c.now, qv, bv, sv, kv, cv, ov] 77 ∧ Blk (World.drew w1) gx (opA o pv) 35 := ⟨⟨hT2.blk.h⟩, ⟨hO.h⟩⟩
 have hT3 := hT2.drew
 have hF3 := hF2.drew
 clear hT2 hF2
 clear hO
 generalize w1.drew = w3 at *
 refine tks [0, 1, 2, 3, 4, 5] [.pointer (some ⟨g, 0, none⟩), .pointer (some ⟨g, 0, none⟩), .pointer (some ⟨g, 0, none⟩), .agg #[.int .i64 c.now, qv, bv, sv, kv, cv], .pointer (some ⟨gx, 4, none⟩), tx o.queue] 2 ?_ hS ?_
 ·simp only [tkY, tkf]
  refine ⟨.yes ?_, .yes ?_, .yes ?_, .yes ?_, .yes ?_, .yes ?_, trivial⟩
  all_goals
   intro W' hW'
   have := hW'.1.ce 0
   have := hW'.1.ce 1
   have := hW'.1.ce 2
   have := hW'.1.ce 3
   have := hW'.1.ce 4
   have := hW'.1.ce 5
   have := hW'.2.ce 4
   go_simp
 simp only [tkA, tkf]
 refine ak 6 fun K hK => ?_
 go_simp
 refine (hasQueue_any _ c qv bv sv kv cv (rdq_own hT3.q) ((risB_inc linQ _).2 hg.qi) (by have := hg.ql; omega) o.queue).mono ?_
 rintro e w4 ⟨rfl, b4⟩
 have hS4 : Blk w4 g #[.int .i64 c.now, qv, bv, sv, kv, cv, ov] 77 ∧ Blk w4 gx (opA o pv) 35 := ⟨hS.1.on b4, hS.2.on b4⟩
 have hT4 := hT3.on b4
 have hF4 := hF3.trans (.of_below b4 hT3.lt)
 clear hT3 hF3 hS b4
 have hS := hS4
 clear hS4
 show K _ _
 refine hK _ _ hS ?_
 clear hK K
 try simp only [tkf]
 refine ak 7 fun K hK => ?_
 go_simp
 refine (insist_any _ _ 33).mono ?_
 rintro e wI ⟨hI, hb⟩
 rcases hb with ⟨hb, he⟩ | ⟨hb, he⟩
 rotate_left
 ·subst he
  rw [hI]
  exact ⟨rfl, .inr ⟨33, by simp [bindC, ins, hb], rfl, hF4⟩⟩
 subst he
 show K _ _
 rw [hI]
 refine hK _ _ hS ?_
 clear hK K hI wI
 try simp only [tkf]
 refine ad ?_
 have HM := To.pattern_any w4 (hV.fr hF4).now o.text
 have d5 : w4.cell? ⟨gx, 5, none⟩ = some (tx o.text) := hS.2.cell 5
 have HX4 : Hid (Tv w4 B g c os qv bv sv kv cv ov ∧ FrT B w w4 ∧ Blk w4 gx (opA o pv) 35) := ⟨hT4, hF4, hS.2⟩
 clear hT4 hF4 hS
 go_wp2_with fail
 refine HM.mono ?_
 rintro e w2 ⟨rfl, b2⟩
 clear HM d5
 obtain ⟨hT4, hF4, hO4⟩ := HX4.out
 have HX2 : Hid (Tv w2 B g c os qv bv sv kv cv ov ∧ FrT B w w2 ∧ Blk w2 gx (opA o pv) 35) := ⟨hT4.on b2, hF4.trans (.of_below b2 hT4.lt), hO4.on b2⟩
 clear HX4 hT4 hF4 hO4 b2
 have HI := insist_any w2 (pat o.text) 30
 go_wp2_with fail
 refine HI.mono ?_
 rintro e wI ⟨hI, hb0⟩
 rw [hI]
 clear hI wI HI
 rcases hb0 with ⟨hb2, he⟩ | ⟨hb2, he⟩
 rotate_left
 ·subst he
  exact ⟨rfl, .inr ⟨30, by simp [bindC, ins, hb, hb2], rfl, HX2.out.2.1⟩⟩
 subst he
 obtain ⟨hT2, hF2, hO2⟩ := HX2.out
 clear HX2
 go_upto_region 3 with fail
 refine rh (fun W => Blk W gx (opA o pv) 35) ?_
 have hS : Blk (World.drew w2) gx (opA o pv) 35 := ⟨hO2.h⟩
 have hT3 := hT2.drew
 have hF3 := hF2.drew
 clear hT2 hF2
 clear hO2
 generalize w2.drew = w5 at *
 refine tks [0, 1, 2, 3, 4, 6, 7, 8, 9, 10] [.pointer (some ⟨g, 0, none⟩), .pointer (some ⟨g, 0, none⟩), .pointer (some ⟨g, 0, none⟩), .pointer (some ⟨g, 0, none⟩), .pointer (some ⟨g, 2, none⟩), .pointer (some ⟨gx, 4, none⟩), tx o.queue, .pointer (some ⟨gx, 5, none⟩), tx o.text, .agg #[tx o.queue, tx o.text]] 6 ?_ hS ?_
 ·simp only [tkY, tkf]
  refine ⟨.yes ?_, .yes ?_, .yes ?_, .yes ?_, .yes ?_, .yes ?_, .yes ?_, .yes ?_, .yes ?_, .yes ?_, trivial⟩
  all_goals
   intro W' hW'
   have := hW'.ce 4
   have := hW'.ce 5
   go_simp
 simp only [tkA, tkf]
 refine ak 5 fun K hK => ?_
 have d0 : w5.cell? ⟨g, 2, none⟩ = some bv := hT3.blk.cell 2
 go_simp
 refine hK _ _ hS ?_
 clear hK K
 try simp only [tkf]
 refine ak 11 fun K hK => ?_
 go_simp
 refine (enBs _ B hT3.lt bv c.binds hT3.b hg.bi (by have := hg.bl; omega) ⟨o.queue, o.text⟩).mono ?_
 rintro e w6 h6
 rcases h6 with ⟨v6, hen, he, o6, g6⟩ | ⟨hen, he, b6⟩
 rotate_left
 ·subst he
  exact ⟨rfl, .inr ⟨34, by simp only [bindC, ins, hb, hb2, if_true, hen, bnd], rfl, hF3.trans (.of_below b6 hT3.lt)⟩⟩
 subst he
 obtain ⟨a6, n6, cc6, rfl⟩ := OwnL.shape o6
 have kx6 : KX 43 w5 w6 := by
  obtain ⟨zs, _, hz⟩ := hT3.b
  exact .of_grown hz.1 g6
 obtain ⟨T7, F7, k7⟩ := hT3.row_b g6 o6
 have hS6 : Blk w6 gx (opA o pv) 35 := hS.kt (kx6.kt _ (by decide))
 clear hS
 have hS := hS6
 clear hS6
 show K _ _
 refine hK _ _ hS ?_
 clear hK K
 try simp only [tkf]
 refine tks [12, 13, 14] [.pointer (some ⟨g, 0, none⟩), .pointer (some ⟨g, 0, none⟩), .pointer (some ⟨g, 2, none⟩)] 1 ?_ hS ?_
 ·simp only [tkY, tkf]
  refine ⟨.yes ?_, .yes ?_, .yes ?_, trivial⟩
  all_goals
   intro W' hW'
   go_simp
 simp only [tkA, tkf]
 refine ak 15 fun K hK => ?_
 go_simp
 have f7 := k7.frozen 2
 have c7 : w6.cell? ⟨g, 2, none⟩ = some bv := k7.cell 2
 go_simp
 refine hK _ _ (hS.setO (fun e => HG.out e) _) ?_
 have hO7 := hS.setO (g' := g) (j := 2) (fun e => HG.out e) (.slice a6 n6 cc6)
 clear hK K f7 c7
 try simp only [tkf]
 refine ad ?_
 have F7' := hF3.trans F7
 clear hS hT3 hF3 F7 k7 g6 o6 kx6
 generalize w6.setCell ⟨g, 2, none⟩ (.slice a6 n6 cc6) = w7 at *
 have hg7 : GoodC { c with binds := enL oB ⟨o.queue, o.text⟩ c.binds } := ⟨hg.now, hg.ql, hg.qg, hg.qi, en_len linB hg.bi hg.bl (enE_ok hen).1, fun b hbm => by
  rcases mem_enL.1 hbm with rfl | ⟨hbm, _⟩
  ·simp [bndB, hb, hb2]
  ·exact hg.bg b hbm, inc_enL linB hg.bi, hg.sl, hg.sg, hg.si, hg.kl, hg.kg, hg.ki, hg.cl, hg.cg, hg.ci⟩
 obtain ⟨d0, d1, d2, d3, d4, d5, d6, d7, d8, d9, d10, d11, d12, d13⟩ := hO7.c14
 have HX7 : Hid (Tv w7 B g { c with binds := enL oB ⟨o.queue, o.text⟩ c.binds } os qv (.slice a6 n6 cc6) sv kv cv ov ∧ FrT B w w7) := ⟨T7, F7'⟩
 have HBC : Hid (bindC c o = if o.keep then ins (subB o.conn o.sub) 1 (.ok ({ c with binds := enL oB ⟨o.queue, o.text⟩ c.binds }, keptO c o)) else .ok ({ c with binds := enL oB ⟨o.queue, o.text⟩ c.binds }, [])) := by
  show bindC c o = _
  simp only [bindC, ins, hb, hb2, if_true, hen, bnd]
 have HK := handKept_any w7 B g { c with binds := enL oB ⟨o.queue, o.text⟩ c.binds } os ⟨_, _, _, _, _, _, T7⟩ hg7 (hV.fr F7') hos o pv hp
 unfold opV at HK
 clear T7 F7' hO7 hg7 hen
 cases hk : o.keep with
 | false =>
  rw [hk] at d8
  go_wp2_with fail
  go_end0
  exact .inl ⟨({ c with binds := enL oB ⟨o.queue, o.text⟩ c.binds }, []), by rw [HBC.out, hk]; rfl, rfl, ⟨_, _, _, _, _, _, by simpa using HX7.out.1⟩, HX7.out.2⟩
 | true =>
  rw [hk] at d8 HK
  have HS := isSub_any w7 o.conn o.sub
  go_wp2_with fail
  refine HS.mono ?_
  rintro e wA ⟨rfl, hA⟩
  rw [hA]
  clear hA wA HS
  have HI := insist_any w7 (subB o.conn o.sub) 1
  go_wp2_with fail
  refine HI.mono ?_
  rintro e wI ⟨hI, hb0⟩
  rw [hI]
  clear hI wI HI
  rcases hb0 with ⟨hb3, he⟩ | ⟨hb3, he⟩
  rotate_left
  ·subst he
   exact ⟨rfl, .inr ⟨1, by rw [HBC.out, hk]; simp [ins, hb3], rfl, HX7.out.2⟩⟩
  subst he
  go_wp2_with fail
  refine HK.mono ?_
  rintro e wB ⟨rfl, hTB, hFB⟩
  have HE : Hid (Led w B g os (bindC c o) (.returned (.tuple #[])) wB) := .inl ⟨({ c with binds := enL oB ⟨o.queue, o.text⟩ c.binds }, keptO c o), by rw [HBC.out, hk]; simp [ins, hb3], rfl, hTB, HX7.out.2.trans hFB⟩
  clear HK hTB hFB d0 d1 d2 d3 d4 d5 d6 d7 d8 d9 d10 d11 d12 d13
  go_wp2_with fail
  go_end0
  exact HE.out
structure AtS (l : List Sbs) (x : Sbs) (p : Nat) : Prop where
 lt : p < l.length
 eq : oS l[p] x = 0
 lo : ∀ i (hi : i < l.length), i < p → oS l[i] x < 0
 hi : ∀ i (hi : i < l.length), p ≤ i → ¬ oS l[i] x < 0
theorem sl1000 {c : Cor} (hg : GoodC c) : c.subs.length ≤ 1000 := by
 have := hg.sl
 omega
theorem unsub_ok {c : Cor} {o : Opr} {s : Sbs} {q : Que} (hfd : c.subs.find? (fun s => decide (oS s ⟨o.conn, o.sub, [], 0, false⟩ = 0)) = some s) (hnm : namedC c s.queue = .ok q) (h5 : relC q = 0) : unsubscribeC c o = .ok { setQ c (releaseQ q o.conn o.sub) with subs := leL oS ⟨o.conn, o.sub, [], 0, false⟩ c.subs } := by
 unfold unsubscribeC
 rw [hfd]
 show bnd (namedC c s.queue) _ = _
 rw [hnm]
 simp only [bnd, sureE, h5, if_true]
theorem unsub_none {c : Cor} {o : Opr} (h : hasL oS ⟨o.conn, o.sub, [], 0, false⟩ c.subs = false) : unsubscribeC c o = .error 33 := by
 unfold unsubscribeC
 have : c.subs.find? (fun s => decide (oS s ⟨o.conn, o.sub, [], 0, false⟩ = 0)) = none := List.find?_eq_none.2 fun y hy e => by
  have h2 : hasL oS ⟨o.conn, o.sub, [], 0, false⟩ c.subs = true := by
   simp only [hasL, List.any_eq_true]
   exact ⟨y, hy, e⟩
  rw [h] at h2
  cases h2
 rw [this]
theorem find_atL {α : Type} {o : α → α → Int} (ho : LinO o) {x : α} {l : List α} (hl : Inc o l) {p : Nat} (hp : p < l.length) (he : o l[p] x = 0) : l.find? (fun y => decide (o y x = 0)) = some l[p] := by
 have hr := List.pairwise_iff_getElem.1 hl
 rw [List.find?_eq_some_iff_getElem]
 refine ⟨by simpa using he, p, hp, rfl, fun j hj => ?_⟩
 have h1 := ho.lt_eq (hr j p (by omega) hp hj) he
 simp
 omega
theorem findST (w : World) (B g : Nat) (c : Cor) (os : List Ot) (qv bv sv kv cv ov : Value) (hT : Tv w B g c os qv bv sv kv cv ov) (hg : GoodC c) (x : Sbs) :
  ∃ p, Calls Tryz.prog 135 #[sv, .agg #[.int .i64 x.conn, .int .i64 x.sub, tx x.queue, .int .i64 x.win, .bool x.auto], .func (.func 70) #[] #[]] w fun e w' =>
   (e = .returned (.tuple #[.int .i64 (p : Nat), .bool (hasL oS x c.subs)]) ∧ (hasL oS x c.subs = true → AtS c.subs x p)) ∧ Bw w w' := by
 obtain ⟨zs, e, hz⟩ := hT.s
 have hl : zs.length = c.subs.length := by rw [← e, List.length_map]
 have hsl := hg.sl
 obtain ⟨p, hp⟩ := plc_any linS x (zs := zs) (by rw [e]; exact hg.si)
 obtain ⟨a, cc, rfl⟩ := hz.rd.len
 have hx : SbR [.int .i64 x.conn, .int .i64 x.sub, tx x.queue, .int .i64 x.win, .bool x.auto] x := rfl
 refine ⟨p, (findS w a zs.length cc zs _ hz.rd rfl (by omega) _ _ _ _ _ ⟨rfl, rfl, rfl, rfl, rfl⟩ 70 e70' (fun z => oS z x) (fun W z hm => cS W (hz.2 z hm).2 hx) p hp.le hp.lo hp.hi).mono ?_⟩
 rintro e2 w' ⟨hr, b⟩
 obtain ⟨h1, h2⟩ := bsr_of linS (by rw [e]; exact hg.si) hp hr
 rw [e] at h1 h2
 have hel : ∀ i (h : i < zs.length), (zs[i]).2 = c.subs[i]'(by omega) := fun i h => by
  have e5 : (zs.map (·.2))[i]'(by rw [List.length_map]; exact h) = c.subs[i]'(by omega) := by simp only [e]
  rw [← e5, List.getElem_map]
 refine ⟨⟨h1, fun h => ?_⟩, b⟩
 obtain ⟨hi, h3⟩ := h2.1 h
 rw [hel p hi] at h3
 refine ⟨by omega, h3, fun i hi hip => ?_, fun i hi hip => ?_⟩
 ·have := hp.lo i (by omega) hip
  rw [hel i (by omega)] at this
  exact this
 ·have := hp.hi i (by omega) hip
  rw [hel i (by omega)] at this
  exact this
theorem delOneS (w : World) (B : Nat) (sv : Value) (l : List Sbs) (h : OSc w B sv l) (hn : l.length ≤ 1000) (i : Nat) (hi : i < l.length) :
  Calls Tryz.prog 138 #[sv, .int .i64 i, .int .i64 ((i : Int) + 1)] w fun e w' => ∃ v', e = .returned v' ∧ OSc w' B v' (l.take i ++ l.drop (i + 1)) ∧ w.grownBy w' sv.ownBlock := by
 obtain ⟨zs, rfl, hz⟩ := h
 rw [List.length_map] at hn hi
 have hd := delG_any kiS w B sv zs SbR hz i (i + 1) rfl hi (by omega)
 rw [show ((i + 1 : Nat) : Int) = (i : Int) + 1 by omega] at hd
 refine hd.mono ?_
 rintro e w' ⟨v', h1, h2, h3, _⟩
 exact ⟨v', h1, ⟨_, by rw [List.map_append, List.map_take, List.map_drop], h2⟩, h3⟩
set_option maxHeartbeats 4000000 in
theorem unsubscribe_op (w : World) (B g : Nat) (c : Cor) (os : List Ot) (hT : T w B g c os) (hg : GoodC c) (hV : VB B w) (o : Opr) (pv : Value) (hp : pv.oneCell' = true) :
  Calls Tryz.prog 54 #[.pointer (some ⟨g, 0, none⟩), opV o pv] w fun e w' => Led w B g os (noO (unsubscribeC c o)) e w' := by
 obtain ⟨qv, bv, sv, kv, cv, ov, hT⟩ := hT
 have b0 := (Below.refl w.heap.size w).alloc (Nat.le_refl _) (.cells (opA o pv) 35)
 have hO := Blk.new w (opA o pv) 35
 have hT1 := hT.on b0
 have hF1 : FrT B w (w.alloc (.cells (opA o pv) 35)) := .of_below b0 hT.lt
 unfold opV
 go_enter Tryz.func54, Tryz.ntmps54
 go_upto_region 1 with fail
 generalize w.alloc (.cells (opA o pv) 35) = w1 at *
 obtain ⟨gx, egx⟩ : ∃ g, w.heap.size = g := ⟨_, rfl⟩
 rw [egx] at hO ⊢
 clear egx b0 hT
 have hT2 := hT1
 have hF2 := hF1
 have HX : Hid (gx ≠ g) := fun e => by
  have h1 := hO.h
  rw [e, hT1.blk.h] at h1
  injection h1 with h1
  injection h1 with _ h1
  cases h1
 clear hT1 hF1
 refine rh (fun W => Blk W g #[.int .i64 c.now, qv, bv, sv, kv, cv, ov] 77 ∧ Blk W gx (opA o pv) 35) ?_
 have hS : Blk (World.drew w1) g #[.int .i64 c.now, qv, bv, sv, kv, cv, ov] 77 ∧ Blk (World.drew w1) gx (opA o pv) 35 := ⟨⟨hT2.blk.h⟩, ⟨hO.h⟩⟩
 have hT3 := hT2.drew
 have hF3 := hF2.drew
 clear hT2 hF2
 clear hO
 generalize w1.drew = w3 at *
 refine tks [0, 1, 2, 3, 4, 5, 6, 7, 8, 9] [.pointer (some ⟨g, 0, none⟩), .pointer (some ⟨g, 0, none⟩), .pointer (some ⟨g, 0, none⟩), .pointer (some ⟨g, 3, none⟩), sv, .pointer (some ⟨gx, 1, none⟩), .int .i64 o.conn, .pointer (some ⟨gx, 2, none⟩), .int .i64 o.sub, .agg #[.int .i64 o.conn, .int .i64 o.sub, .string ⟨#[]⟩, .int .i64 0, .bool false]] 6 ?_ hS ?_
 ·simp only [tkY, tkf]
  refine ⟨.yes ?_, .yes ?_, .yes ?_, .yes ?_, .yes ?_, .yes ?_, .yes ?_, .yes ?_, .yes ?_, .yes ?_, trivial⟩
  all_goals
   intro W' hW'
   have := hW'.1.ce 3
   have := hW'.2.ce 1
   have := hW'.2.ce 2
   go_simp
 simp only [tkA, tkf]
 refine ak 10 fun K hK => ?_
 go_simp
 obtain ⟨j, HFD⟩ := findST _ B g c os qv bv sv kv cv ov hT3 hg ⟨o.conn, o.sub, [], 0, false⟩
 refine (HFD).mono ?_
 rintro e w4 ⟨⟨rfl, hat⟩, b4⟩
 have HAT : Hid _ := hat
 clear hat
 have hS4 : Blk w4 g #[.int .i64 c.now, qv, bv, sv, kv, cv, ov] 77 ∧ Blk w4 gx (opA o pv) 35 := ⟨hS.1.on b4, hS.2.on b4⟩
 have hT4 := hT3.on b4
 have hF4 := hF3.trans (.of_below b4 hT3.lt)
 clear hT3 hF3 hS b4
 have hS := hS4
 clear hS4
 show K _ _
 refine hK _ _ hS ?_
 clear hK K
 try simp only [tkf]
 refine tks [11, 12, 13, 14, 15] [.tuple #[.int .i64 (j : Nat), .bool (hasL oS ⟨o.conn, o.sub, [], 0, false⟩ c.subs)], .int .i64 (j : Nat), .bool (hasL oS ⟨o.conn, o.sub, [], 0, false⟩ c.subs), .int .i64 (j : Nat), .bool (hasL oS ⟨o.conn, o.sub, [], 0, false⟩ c.subs)] 0 ?_ hS ?_
 ·simp only [tkY, tkf]
  refine ⟨.yes ?_, .yes ?_, .yes ?_, .yes ?_, .yes ?_, trivial⟩
  all_goals
   intro W' hW'
   go_simp
 simp only [tkA, tkf]
 refine ad ?_
 go_upto_region 2 with fail
 have HX4 : Hid (Tv w4 B g c os qv bv sv kv cv ov ∧ FrT B w w4 ∧ Blk w4 gx (opA o pv) 35) := ⟨hT4, hF4, hS.2⟩
 clear hT4 hF4 hS
 have HI := insist_any w4 (hasL oS ⟨o.conn, o.sub, [], 0, false⟩ c.subs) 33
 go_wp2_with fail
 refine HI.mono ?_
 rintro e wI ⟨hI, hb⟩
 rw [hI]
 clear hI wI HI
 rcases hb with ⟨hb, he⟩ | ⟨hb, he⟩
 rotate_left
 ·subst he
  exact ⟨rfl, .inr ⟨33, by rw [unsub_none hb]; rfl, rfl, HX4.out.2.1⟩⟩
 subst he
 have HJ := HAT.out hb
 have hj := HJ.lt
 have hje := HJ.eq
 clear HAT
 have hfd := find_atL linS hg.si hj hje
 obtain ⟨s, hs⟩ : ∃ s, c.subs[j] = s := ⟨_, rfl⟩
 rw [hs] at hfd
 obtain ⟨hT4, hF4, hO4⟩ := HX4.out
 obtain ⟨c0, c1, c2, c3, c4, c5, c6⟩ := hT4.blk.c7
 obtain ⟨zs, ezs, hzs⟩ := hT4.s
 have hzl : zs.length = c.subs.length := by rw [← ezs, List.length_map]
 obtain ⟨sa, scp, esv⟩ := hzs.rd.len
 have hrd := hzs.rd
 rw [esv] at hrd c3
 obtain ⟨sb, so, v0, v1, v2, v3, v4, rfl, hz1, hzR, hone, hcs⟩ := el5_at hrd (i := j) (by omega)
 obtain ⟨e0, e1, e2, e3, e4⟩ := hcs w4 (Below.refl _ _)
 have hsj : (zs[j]'(by omega)).2 = s := by
  have e5 : (zs.map (·.2))[j]'(by rw [List.length_map]; omega) = c.subs[j] := by simp only [ezs]
  rw [← hs, ← e5, List.getElem_map]
 rw [hsj] at hzR
 unfold SbR at hzR
 injection hzR with z0 hzR
 injection hzR with z1 hzR
 injection hzR with z2 hzR
 injection hzR with z3 hzR
 injection hzR with z4 hzR
 subst z0 z1 z2 z3 z4
 rw [hzl] at c3
 have hjz : (j : Int) < (c.subs.length : Int) := by omega
 have HN := named_any w4 B g c os qv bv sv kv cv ov hT4 hg s.queue
 have HLT : Hid (FrT B w w4 ∧ ∀ n, namedC c s.queue = .error n → unsubscribeC c o = .error n) := ⟨hF4, fun n h => by unfold unsubscribeC; rw [hfd]; show bnd (namedC c s.queue) _ = _; rw [h]; rfl⟩
 clear hT4 hF4 hO4 hzs hrd ezs hz1 hone hcs hsj hzR hje
 go_wp2_with fail
 refine HN.mono ?_
 rintro e w2 ⟨h2, b2⟩
 clear HN c0 c1 c2 c3 c4 c5 c6 e0 e1 e2 e3 e4
 obtain ⟨hT4, hF4, hO4⟩ := HX4.out
 have hT2 := hT4.on b2
 have hF2 := hF4.trans (.of_below b2 hT4.lt)
 have hO2 := hO4.on b2
 clear HX4 hT4 hF4 hO4 b2
 rcases h2 with ⟨p, gq, cap, cur, iv, hv, hpl, hnm, he, hEL2⟩ | ⟨hnm, he⟩
 rotate_left
 ·subst he
  exact ⟨rfl, led_no (HLT.out.2 33 hnm) hF2⟩
 subst he
 have hbig := good_len hg hpl
 have hgq := hg.qg _ (List.getElem_mem hpl)
 obtain ⟨q, hq⟩ : ∃ q, c.queues[p] = q := ⟨_, rfl⟩
 rw [hq] at hnm hbig hgq
 have HG : Hid (some gx ≠ some gq) := fun e => by
  injection e with e
  have h1 := hO2.h
  rw [e, hEL2.blk.h] at h1
  injection h1 with h1
  injection h1 with _ h1
  cases h1
 go_upto_region 4 with fail
 refine rh (fun W => Blk W gx (opA o pv) 35) ?_
 have hS : Blk (World.drew w2) gx (opA o pv) 35 := ⟨hO2.h⟩
 have hT3 := hT2.drew
 have hF3 := hF2.drew
 have hEL := hEL2.kx (e := 0) (w' := w2.drew) .drew (by decide)
 clear hT2 hF2 hO2 hEL2
 generalize w2.drew = w3 at *
 have hOW := hEL.own
 rw [hq] at hOW
 refine tks [0, 1, 2, 4, 5, 6, 7] [.pointer (some ⟨gq, p * 7, none⟩), .pointer (some ⟨gq, p * 7, none⟩), .pointer (some ⟨gq, p * 7, none⟩), .pointer (some ⟨gx, 1, none⟩), .int .i64 o.conn, .pointer (some ⟨gx, 2, none⟩), .int .i64 o.sub] 7 ?_ hS ?_
 ·simp only [tkY, tkf]
  refine ⟨.yes ?_, .yes ?_, .yes ?_, .yes ?_, .yes ?_, .yes ?_, .yes ?_, trivial⟩
  all_goals
   intro W' hW'
   have := hW'.ce 1
   have := hW'.ce 2
   go_simp
 simp only [tkA, tkf]
 refine ak 3 fun K hK => ?_
 obtain ⟨d0, d1, d2, d3, d4, d5, d6⟩ := hEL.c7 hpl hq
 go_simp
 refine hK _ _ hS ?_
 clear hK K
 try simp only [tkf]
 refine ak 8 fun K hK => ?_
 go_simp
 refine (release_any _ (hV.fr hF3).now _ q (OwnQ.rd hOW) o.conn o.sub hbig).mono ?_
 rintro e w4 ⟨v4, rfl, o4, b4⟩
 obtain ⟨iv4, hv4, rfl, n4, o4'⟩ := own_open o4
 clear o4
 have hT4 := hT3.on b4
 have hF4 := hF3.trans (.of_below b4 hT3.lt)
 have hEL4 := hEL.on b4
 have hS4 : Blk w4 gx (opA o pv) 35 := hS.on b4
 have o4 := o4'.low hT3.lt
 clear hT3 hF3 hEL hS b4 o4' hOW
 have hS := hS4
 clear hS4
 show K _ _
 refine hK _ _ hS ?_
 clear hK K
 try simp only [tkf]
 refine tks [9, 10] [queV (if relC q = 0 then releaseQ q o.conn o.sub else zeroQ) iv4 hv4, .int .i64 (relC q)] 3 ?_ hS ?_
 ·simp only [tkY, tkf]
  refine ⟨.yes ?_, .yes ?_, trivial⟩
  all_goals
   intro W' hW'
   go_simp
 simp only [tkA, tkf]
 refine ak 11 fun K hK => ?_
 go_simp
 refine (sure_any _ B _ _ o4 _).mono ?_
 rintro e w5 ⟨h5, b5⟩
 have hT5 := hT4.on b5
 have hF5 := hF4.trans (.of_below b5 hT4.lt)
 have hEL5 := hEL4.on b5
 have hS5 : Blk w5 gx (opA o pv) 35 := hS.on b5
 have o5 := o4.on b5
 clear hT4 hF4 hEL4 hS b5 o4
 have hS := hS5
 clear hS5
 rcases h5 with ⟨h5, he⟩ | ⟨h5, he⟩
 rotate_left
 ·exact absurd (relC_ok hgq) h5
 subst he
 show K _ _
 rw [if_pos h5] at o5 ⊢
 refine hK _ _ hS ?_
 clear hK K
 try simp only [tkf]
 refine tks [12] [.pointer (some ⟨gq, p * 7, none⟩)] 1 ?_ hS ?_
 ·simp only [tkY, tkf]
  refine ⟨.yes ?_, trivial⟩
  all_goals
   intro W' hW'
   go_simp
 simp only [tkA, tkf]
 refine ak 13 fun K hK => ?_
 refine opw_putAt (.tmp 46) (.tmp 45) rfl gq (p * 7) (queV (releaseQ q o.conn o.sub) iv4 hv4).cells rfl ?_ hEL5.blk (by kernel_rfl) hEL5.fit (own_cells o5) ?_
 ·skip
  simp only [Act.eval, Act.put]
  rfl
 intro w6 k6 g6 s6
 obtain ⟨T6, F6, E6⟩ := hT5.put hEL5 o5 k6 g6
 refine hK _ _ (hS.grown g6 HG.out) ?_
 clear hK K hS
 try simp only [tkf]
 refine ad ?_
 have hF6 := hF5.trans F6
 have HFF : Hid _ := hfd
 have HNM : Hid (namedC c s.queue = .ok q) := hnm
 clear esv hzl hs HFD hfd hnm hb HLT hjz
 have hjb : (j : Int) ≤ 1000 := by have := hg.sl; omega
 have HD := delOneS w6 B sv c.subs T6.s (sl1000 hg) j hj
 obtain ⟨c0, c1, c2, c3, c4, c5, c6⟩ := T6.blk.c7
 have HT6 : Hid (Tv w6 B g { c with queues := c.queues.set p (releaseQ q o.conn o.sub) } os qv bv sv kv cv ov ∧ FrT B w w6) := ⟨T6, hF6⟩
 clear T6 E6 F6 hF6 hT5 hF5 hEL5 o5 k6 g6 s6
 go_wp2_with fail
 refine HD.mono ?_
 rintro e wA ⟨vA, rfl, oA, gA⟩
 clear HD c0 c1 c2 c3 c4 c5 c6
 obtain ⟨aA, nA, ccA, rfl⟩ := OwnL.shape oA
 obtain ⟨T9, F9⟩ := HT6.out
 obtain ⟨TB, FB, kA⟩ := T9.row_s gA oA
 have f2 := kA.frozen 3
 have c2 : wA.cell? ⟨g, 3, none⟩ = some sv := kA.cell 3
 have hse := set_en hg.qi hpl (q' := releaseQ q o.conn o.sub) (by rw [hq]; rfl)
 rw [hse, le_there linS hg.si HJ.lo HJ.hi hj HJ.eq] at TB
 have HF : Hid (Led w B g os (noO (unsubscribeC c o)) (.returned (.tuple #[])) (wA.setCell ⟨g, 3, none⟩ (.slice aA nA ccA))) := led_ok (c := { setQ c (releaseQ q o.conn o.sub) with subs := leL oS ⟨o.conn, o.sub, [], 0, false⟩ c.subs }) (unsub_ok HFF.out HNM.out h5) ⟨_, _, _, _, _, _, TB⟩ (F9.trans FB)
 clear HT6 T9 F9 TB FB kA gA oA
 go_wp2_with fail
 go_end0
 exact HF.out
structure PbI (w W : World) (B g : Nat) (c : Cor) (os : List Ot) (qv bv sv kv cv ov : Value) (conn : Int) (i : Nat) : Prop where
 t : Tv W B g { c with queues := (c.queues.take i).map (fun q => releaseQ q conn (-1)) ++ c.queues.drop i } os qv bv sv kv cv ov
 f : FrT B w W
theorem PbI.step {w W : World} {B g : Nat} {c : Cor} {os : List Ot} {qv bv sv kv cv ov : Value} {conn : Int} {i : Nat} (hi : i < c.queues.length) (ht : Tv W B g { c with queues := ((c.queues.take i).map (fun q => releaseQ q conn (-1)) ++ c.queues.drop i).set i (releaseQ c.queues[i] conn (-1)) } os qv bv sv kv cv ov) (hf : FrT B w W) : PbI w W B g c os qv bv sv kv cv ov conn (i + 1) := by
 refine ⟨?_, hf⟩
 rw [set_mid (by rw [List.length_map, List.length_take, Nat.min_eq_left (by omega)]) hi] at ht
 rw [List.take_succ_eq_append_getElem hi, List.map_append]
 exact ht
set_option maxHeartbeats 8000000 in
theorem backAll_any (w : World) (B g : Nat) (c : Cor) (os : List Ot) (hT : T w B g c os) (hg : ∀ q ∈ c.queues, goodQ q = true) (hV : VB B w) (hql : c.queues.length ≤ 1000) (conn : Int) :
  Calls Tryz.prog 142 #[.pointer (some ⟨g, 0, none⟩), .int .i64 conn] w fun e w' => e = .returned (.tuple #[]) ∧ T w' B g { c with queues := c.queues.map fun q => releaseQ q conn (-1) } os ∧ FrT B w w' := by
 obtain ⟨qv, bv, sv, kv, cv, ov, hT⟩ := hT
 obtain ⟨n, hn⟩ : ∃ n, c.queues.length = n := ⟨_, rfl⟩
 obtain ⟨qa, qn, qc, eqv⟩ := OwnL.shape hT.q
 have eqn : qn = n := by
  obtain ⟨zs, e, hz⟩ := hT.q
  obtain ⟨a, cc, e2⟩ := hz.rd.len
  rw [eqv] at e2
  injection e2 with _ e2 _
  have := congrArg List.length e
  rw [List.length_map] at this
  omega
 obtain ⟨c0, c1, c2, c3, c4, c5, c6⟩ := hT.blk.c7
 rw [eqv, eqn] at c1
 have HT0 : Hid (PbI w w B g c os qv bv sv kv cv ov conn 0) := ⟨by simpa using hT, .refl _ _⟩
 have HQV : Hid (qv = .slice qa n qc) := by rw [eqv, eqn]; exact rfl
 clear hT eqv eqn
 go_enter Tryz.func142, Tryz.ntmps142
 go_wp2_with fail
 clear c0 c1 c2 c3 c4 c5 c6
 go_loopg [4, 5, 12] n (fun gg _ _ s12 wr => ∃ i : Nat, i ≤ n ∧ n - i ≤ gg ∧ s12 = .int .i64 i ∧ Hid (PbI w wr B g c os qv bv sv kv cv ov conn i))
 case atStart => exact ⟨0, Nat.zero_le _, by omega, rfl, HT0.out⟩
 case round =>
  obtain ⟨i, hi, hgg, rfl, HP⟩ := hrel
  by_cases hlt : i < n
  ·have hltz : (i : Int) < (n : Int) := by omega
   have hT1 := HP.out.t
   have hF1 := HP.out.f
   have hin : i < c.queues.length := by omega
   have hrl : ((c.queues.take i).map (fun q => releaseQ q conn (-1))).length = i := by rw [List.length_map, List.length_take, Nat.min_eq_left (by omega)]
   have hpl : i < ((c.queues.take i).map (fun q => releaseQ q conn (-1)) ++ c.queues.drop i).length := by rw [List.length_append, List.length_drop, hrl]; omega
   obtain ⟨q, hq⟩ : ∃ q, c.queues[i] = q := ⟨_, rfl⟩
   have hqi : ((c.queues.take i).map (fun q => releaseQ q conn (-1)) ++ c.queues.drop i)[i] = q := by
    rw [List.getElem_append_right (by omega)]
    simp only [hrl, Nat.sub_self, List.getElem_drop, Nat.add_zero]
    exact hq
   have hgq : goodQ q = true := by rw [← hq]; exact hg _ (List.getElem_mem hin)
   have hbig := good_big hgq
   obtain ⟨gq, cap, cur, iv, hv, hEL1⟩ := hT1.el hpl
   have eqv2 := hEL1.eq
   have hqv := HQV.out
   rw [hqv] at eqv2
   injection eqv2 with ea en ec
   subst ea ec
   obtain ⟨e0, e1, e2, e3, e4, e5, e6⟩ := hEL1.c7 hpl hqi
   have hOW0 := hEL1.own
   rw [hqi] at hOW0
   have hcl := own_cells hOW0
   have HX : Hid (Tv wr B g { c with queues := (c.queues.take i).map (fun q => releaseQ q conn (-1)) ++ c.queues.drop i } os qv bv sv kv cv ov ∧ FrT B w wr ∧ El wr B qv ((c.queues.take i).map (fun q => releaseQ q conn (-1)) ++ c.queues.drop i) i gq qc cur iv hv) := ⟨hT1, hF1, hEL1⟩
   have HLQ : Hid (gq < wr.heap.size) := hEL1.blk.lt
   unfold queV at hcl
   clear hT1 hF1 hEL1 en hOW0 hqv
   go_wp2_with (refine wpl_fresh rfl (.tmp 5) (.tmp 16) rfl _ _ rfl rfl (by kernel_rfl) rfl hcl ?_)
   intro w2 k2 b2 s2
   obtain ⟨hT1, hF1, hEL1⟩ := HX.out
   have hT2 := hT1.on b2
   have hF2 := hF1.trans (.of_below b2 hT1.lt)
   have hEL2 := hEL1.on b2
   obtain ⟨gt, egt⟩ : ∃ x, wr.heap.size = x := ⟨_, rfl⟩
   have HG : Hid (some gt ≠ some gq) := fun e => by injection e with e; have := HLQ.out; omega
   rw [egt] at k2 ⊢
   clear hT1 hF1 hEL1 HX b2 s2 e0 e1 e2 e3 e4 e5 e6 egt hcl
   have hqv := HQV.out
   go_upto_region 3 with fail
   refine rh (fun W => Blk W g #[.int .i64 c.now, .slice (some ⟨gq, 0, none⟩) n qc, bv, sv, kv, cv, ov] 77 ∧ Blk W gt (quA q iv hv) 82) ?_
   have hS : Blk (World.drew w2) g #[.int .i64 c.now, .slice (some ⟨gq, 0, none⟩) n qc, bv, sv, kv, cv, ov] 77 ∧ Blk (World.drew w2) gt (quA q iv hv) 82 := ⟨by rw [← hqv]; exact ⟨hT2.blk.h⟩, ⟨k2.h⟩⟩
   have hT3 := hT2.drew
   have hF3 := hF2.drew
   have hEL := hEL2.kx (e := 0) (w' := w2.drew) .drew (by decide)
   clear hT2 hF2 hEL2 k2
   generalize w2.drew = w3 at *
   have hOW := hEL.own
   rw [hqi] at hOW
   refine tks [0, 1, 2, 3, 4, 5, 6, 7] [.pointer (some ⟨g, 0, none⟩), .pointer (some ⟨g, 0, none⟩), .pointer (some ⟨g, 0, none⟩), .pointer (some ⟨g, 1, none⟩), .slice (some ⟨gq, 0, none⟩) n qc, .int .i64 i, .agg #[tx q.name, .bool q.dur, .int .i64 q.depth, .int .i64 q.seq, .int .i64 q.tag, iv, hv], .int .i64 conn] 6 ?_ hS ?_
   ·simp only [tkY, tkf]
    refine ⟨.yes ?_, .yes ?_, .yes ?_, .yes ?_, .yes ?_, .yes ?_, .yes ?_, .yes ?_, trivial⟩
    all_goals
     intro W' hW'
     have := hW'.1.ce 1
     have := hW'.2.ce 0
     have := hW'.2.ce 1
     have := hW'.2.ce 2
     have := hW'.2.ce 3
     have := hW'.2.ce 4
     have := hW'.2.ce 5
     have := hW'.2.ce 6
     go_simp
   simp only [tkA, tkf]
   refine ak 8 fun K hK => ?_
   go_simp
   refine (release_any _ (hV.fr hF3).now _ q (OwnQ.rd hOW) conn (-1) hbig).mono ?_
   rintro e w4 ⟨v4, rfl, o4, b4⟩
   obtain ⟨iv4, hv4, rfl, n4, o4'⟩ := own_open o4
   clear o4
   have hT4 := hT3.on b4
   have hF4 := hF3.trans (.of_below b4 hT3.lt)
   have hEL4 := hEL.on b4
   have hS4 : Blk w4 g #[.int .i64 c.now, .slice (some ⟨gq, 0, none⟩) n qc, bv, sv, kv, cv, ov] 77 ∧ Blk w4 gt (quA q iv hv) 82 := ⟨hS.1.on b4, hS.2.on b4⟩
   have o4 := o4'.low hT3.lt
   clear hT3 hF3 hEL hS b4 o4' hOW
   have hS := hS4
   clear hS4
   show K _ _
   refine hK _ _ hS ?_
   clear hK K
   try simp only [tkf]
   refine tks [9, 10] [queV (if relC q = 0 then releaseQ q conn (-1) else zeroQ) iv4 hv4, .int .i64 (relC q)] 3 ?_ hS ?_
   ·simp only [tkY, tkf]
    refine ⟨.yes ?_, .yes ?_, trivial⟩
    all_goals
     intro W' hW'
     go_simp
   simp only [tkA, tkf]
   refine ak 11 fun K hK => ?_
   go_simp
   refine (sure_any _ B _ _ o4 _).mono ?_
   rintro e w5 ⟨h5, b5⟩
   have hT5 := hT4.on b5
   have hF5 := hF4.trans (.of_below b5 hT4.lt)
   have hEL5 := hEL4.on b5
   have hS5 : Blk w5 g #[.int .i64 c.now, .slice (some ⟨gq, 0, none⟩) n qc, bv, sv, kv, cv, ov] 77 ∧ Blk w5 gt (quA q iv hv) 82 := ⟨hS.1.on b5, hS.2.on b5⟩
   have o5 := o4.on b5
   clear hT4 hF4 hEL4 hS b5 o4
   have hS := hS5
   clear hS5
   rcases h5 with ⟨h5, he⟩ | ⟨h5, he⟩
   rotate_left
   ·exact absurd (relC_ok hgq) h5
   subst he
   show K _ _
   rw [if_pos h5] at o5 ⊢
   refine hK _ _ hS ?_
   clear hK K
   try simp only [tkf]
   refine tks [12] [.pointer (some ⟨gq, i * 7, none⟩)] 1 ?_ hS ?_
   ·simp only [tkY, tkf]
    refine ⟨.yes ?_, trivial⟩
    all_goals
     intro W' hW'
     have := hltz
     go_simp
   simp only [tkA, tkf]
   refine ak 13 fun K hK => ?_
   refine opw_putAt (.tmp 29) (.tmp 28) rfl gq (i * 7) (queV (releaseQ q conn (-1)) iv4 hv4).cells rfl ?_ hEL5.blk (by kernel_rfl) hEL5.fit (own_cells o5) ?_
   ·skip
    simp only [Act.eval, Act.put]
    rfl
   intro w6 k6 g6 s6
   obtain ⟨T6, F6, E6⟩ := hT5.put hEL5 o5 k6 g6
   have hS6 : Blk w6 g #[.int .i64 c.now, .slice (some ⟨gq, 0, none⟩) n qc, bv, sv, kv, cv, ov] 77 ∧ Blk w6 gt (quA q iv hv) 82 := ⟨by rw [← hqv]; exact T6.blk, hS.2.grown g6 HG.out⟩
   refine hK _ _ hS6 ?_
   clear hK K hS
   try simp only [tkf]
   refine ad ?_
   have HP2 : Hid (PbI w w6 B g c os qv bv sv kv cv ov conn (i + 1)) := by
    refine PbI.step hin ?_ (hF5.trans F6)
    rw [hq]
    exact T6
   clear T6 E6 F6 hT5 hF5 hEL5 o5 k6 g6 s6 h5 n4
   go_wp2_with fail
   go_roundg (n - (i + 1))
   case measure => omega
   case rel => exact ⟨i + 1, by omega, by omega, rfl, HP2.out⟩
  ·obtain rfl : i = n := by omega
   have hltz : ¬ ((i : Int) < (i : Int)) := by omega
   have HF : Hid (T wr B g { c with queues := c.queues.map fun q => releaseQ q conn (-1) } os ∧ FrT B w wr) := by
    have h1 := HP.out.t
    rw [List.take_of_length_le (by omega), List.drop_of_length_le (by omega), List.append_nil] at h1
    exact ⟨⟨_, _, _, _, _, _, h1⟩, HP.out.f⟩
   clear HP
   go_wp2_with fail
   go_end0
   exact ⟨rfl, HF.out⟩
set_option maxHeartbeats 4000000 in
theorem detach_op (w : World) (B g : Nat) (c : Cor) (os : List Ot) (hT : T w B g c os) (hg : GoodC c) (hV : VB B w) (o : Opr) (pv : Value) (hp : pv.oneCell' = true) :
  Calls Tryz.prog 59 #[.pointer (some ⟨g, 0, none⟩), opV o pv] w fun e w' => Led w B g os (noO (detachC c o)) e w' := by
 obtain ⟨qv, bv, sv, kv, cv, ov, hT⟩ := hT
 have b0 := (Below.refl w.heap.size w).alloc (Nat.le_refl _) (.cells (opA o pv) 35)
 have hO := Blk.new w (opA o pv) 35
 have hT1 := hT.on b0
 have hF1 : FrT B w (w.alloc (.cells (opA o pv) 35)) := .of_below b0 hT.lt
 unfold opV
 go_enter Tryz.func59, Tryz.ntmps59
 go_upto_region 1 with fail
 generalize w.alloc (.cells (opA o pv) 35) = w1 at *
 obtain ⟨gx, egx⟩ : ∃ g, w.heap.size = g := ⟨_, rfl⟩
 rw [egx] at hO ⊢
 clear egx b0 hT
 have d1 : w1.cell? ⟨gx, 1, none⟩ = some (.int .i64 o.conn) := hO.cell 1
 have HX : Hid (gx ≠ g) := fun e => by
  have h1 := hO.h
  rw [e, hT1.blk.h] at h1
  injection h1 with h1
  injection h1 with _ h1
  cases h1
 have HT1 : Hid (Tv w1 B g c os qv bv sv kv cv ov ∧ FrT B w w1 ∧ Blk w1 gx (opA o pv) 35) := ⟨hT1, hF1, hO⟩
 have HS := isConn_any w1 o.conn
 have HD := delS w1 B sv c.subs hT1.s (by have := hg.sl; omega) 141 e141 (fun s => decide (s.conn = o.conn)) o pv gx hO (fun W x kk => det1_any W o pv gx kk x)
 obtain ⟨c0, c1, c2, c3, c4, c5, c6⟩ := hT1.blk.c7
 clear hT1 hF1 hO
 go_wp2_with fail
 refine HS.mono ?_
 rintro e wA ⟨rfl, hA⟩
 rw [hA]
 clear hA wA HS
 have HI := insist_any w1 (conB o.conn) 1
 go_wp2_with fail
 refine HI.mono ?_
 rintro e wI ⟨hI, hb⟩
 rw [hI]
 clear hI wI HI
 rcases hb with ⟨hb, he⟩ | ⟨hb, he⟩
 rotate_left
 ·subst he
  exact ⟨rfl, .inr ⟨1, by simp [detachC, noO, bnd, ins, hb], rfl, HT1.out.2.1⟩⟩
 subst he
 go_wp2_with fail
 refine HD.mono ?_
 rintro e w8 ⟨v8, rfl, o8, g8⟩
 clear HD c0 c1 c2 c3 c4 c5 c6 d1
 obtain ⟨a8, n8, cc8, rfl⟩ := OwnL.shape o8
 obtain ⟨T7, F7, hO7⟩ := HT1.out
 have kx8 : KX 85 w1 w8 := by
  obtain ⟨zs, _, hz⟩ := T7.s
  exact .of_grown hz.1 g8
 obtain ⟨T9, F9, k8⟩ := T7.row_s g8 o8
 have hO9 := (hO7.kt (kx8.kt _ (by decide))).setO (g' := g) (j := 3) (fun e => HX.out e) (.slice a8 n8 cc8)
 have f2 := k8.frozen 3
 have c2 : w8.cell? ⟨g, 3, none⟩ = some sv := k8.cell 3
 have F9' := F7.trans F9
 clear HT1 T7 F7 hO7 kx8 k8 F9 g8 o8
 go_upto_region 3 with fail
 clear f2 c2
 generalize w8.setCell ⟨g, 3, none⟩ (.slice a8 n8 cc8) = w9 at *
 have d1 : w9.cell? ⟨gx, 1, none⟩ = some (.int .i64 o.conn) := hO9.cell 1
 have HB := backAll_any w9 B g { c with subs := c.subs.filter (fun s => !decide (s.conn = o.conn)) } os ⟨_, _, _, _, _, _, T9⟩ hg.qg (hV.fr F9') (by have := hg.ql; show c.queues.length ≤ 1000; omega) o.conn
 have HF : Hid (FrT B w w9) := F9'
 clear T9 F9' hO9
 go_wp2_with fail
 refine HB.mono ?_
 rintro e wB ⟨rfl, hTB, hFB⟩
 have HE : Hid (Led w B g os (noO (detachC c o)) (.returned (.tuple #[])) wB) := led_ok (c := { c with subs := c.subs.filter (fun s => !decide (s.conn = o.conn)), queues := c.queues.map fun q => releaseQ q o.conn (-1) }) (by simp only [detachC, ins, hb, if_true, rel_all hg.qg, bnd]) hTB (HF.out.trans hFB)
 clear HB hTB hFB
 go_wp2_with fail
 go_end0
 exact HE.out
end Go.Proofs.YtnpikgakpmkipabGreatDoor
