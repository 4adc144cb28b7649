/- Whatever lists, trivetlaw07.PropSets answers true, where the library's table of powers of ten reads as it was laid. -/
import Derived.Test.YtlhfdklfkfodkaaDoorQg
namespace Go.Proofs.YtlhfdklfkfodkaaDoor
open Go.RowKit Go.Lib Ieee

theorem RdP.shape {w : World} {v : Value} {l : List Pr} (h : RdP w v l) : ∃ a c, v = .slice a l.length c := by
  rcases h with ⟨⟨a, c, rfl⟩, rfl⟩ | ⟨b, o, c, rfl, _, _⟩
  · exact ⟨a, c, rfl⟩
  · exact ⟨_, c, rfl⟩
theorem box_on {w w' : World} {q : Nat} {j : Nat} {v : Value} (h : w.cell? ⟨q, j, none⟩ = some v) (hb : Below w.heap.size w w') : w'.cell? ⟨q, j, none⟩ = some v := by
  rw [hb.cell (World.block_lt_of_cell? w _ h)]; exact h

set_option maxRecDepth 8000 in
set_option maxHeartbeats 4000000 in
theorem sets_some (w : World) (v : Value) (l m : List Pr) (b o c : Nat) (h : RdP w v l) (hn : NilOk v) (hm : ∀ i (h : i < m.length), PrAt w b (o + i * 5) m[i]) (hc : m.length ≤ c) (hl63 : l.length ≤ 9223372036854775806) (hm63 : m.length ≤ 9223372036854775806) (ht : Tab w.heap.size w) :
    Calls Tryd.prog 4 #[v, .slice (some ⟨b, o, none⟩) m.length c] w fun e w' => e = .returned (.bool true) ∧ Below w.heap.size w w' := by
  have H : Hid (∀ i (h : i < m.length), PrAt w b (o + i * 5) m[i]) := hm
  have HU : Hid (RdP w (.slice (some ⟨b, o, none⟩) m.length c) m) := .inr ⟨b, o, c, rfl, hc, hm⟩
  have HR : Hid (RdP w v l) := h
  have HNl : Hid (NilOk v) := hn
  obtain ⟨a0, c0, rfl⟩ := h.shape
  have HW := wakes7 w ht
  clear h hn hm ht
  go_enter Tryd.func4, Tryd.ntmps4
  go_wp2_with fail
  refine HW.mono ?_
  rintro e w1 ⟨rfl, b1⟩
  have s1 := b1.size
  clear HW
  go_wp2_with fail
  refine (long7 w1 _ l (HR.out.on b1) hl63).mono ?_
  rintro e w2 ⟨⟨r1, rfl⟩, hb2⟩
  have b2 := b1.trans (hb2.mono s1)
  have s2 := b2.size
  clear hb2
  cases r1 with
  | true =>
    go_wp2
    go_ret
    exact ⟨rfl, b2⟩
  | false =>
  go_wp2_with fail
  refine (long7 w2 _ m (HU.out.on b2) hm63).mono ?_
  rintro e w3 ⟨⟨r2, rfl⟩, hb3⟩
  have b3 := b2.trans (hb3.mono s2)
  have s3 := b3.size
  clear hb3
  cases r2 with
  | true =>
    go_wp2
    go_ret
    exact ⟨rfl, b3⟩
  | false =>
  go_wp2_with fail
  refine (valid7 w3 _ l (HR.out.on b3)).mono ?_
  rintro e w4 ⟨rfl, hb4⟩
  have b4 := b3.trans (hb4.mono s3)
  have s4 := b4.size
  clear hb4
  cases hv : validL l with
  | false =>
    go_wp2
    go_ret
    exact ⟨rfl, b4⟩
  | true =>
  have HV : Hid (validL l = true) := hv
  clear hv
  by_cases h40 : (m.length : Int) > 40
  · go_wp2
    go_ret
    exact ⟨rfl, b4⟩
  have HR4 : Hid (RdP w4 (.slice a0 l.length c0) l) := HR.out.on b4
  clear HR HU
  go_wp2_with fail
  go_loopw [0, 38] (fun v0 i wr => ∃ (k : Nat) (a : Option Addr) (cc : Nat) (lst : List Pr), k ≤ m.length ∧ i = .int .i64 k ∧ v0 = .slice a lst.length cc ∧ Hid (RdP wr (.slice a lst.length cc) lst) ∧ Hid (NilOk (.slice a lst.length cc)) ∧ Hid (validL lst = true) ∧ Below w.heap.size w wr) (fun _ i _ => m.length - (RowKit.intOf i).toNat)
  case atStart => exact ⟨0, a0, c0, l, by omega, rfl, rfl, HR4, HNl, HV, b4⟩
  case round =>
    obtain ⟨k, a, cc, lst, hk, rfl, rfl, hR, hN, hV, hbr⟩ := hrel
    have hwr := hbr.size
    clear b1 b2 b3 b4 HR4 HNl HV s1 s2 s3 s4
    by_cases hlt : k < m.length
    · obtain ⟨e0, e1, e2, e3, e4⟩ := (H.out k hlt).on hbr
      obtain ⟨pk, hpk⟩ : ∃ pk, pk = m[k] := ⟨_, rfl⟩
      rw [← hpk] at e0 e1 e2 e3 e4
      clear hpk
      have h16 : lst.length ≤ 16 := (valid_parts hV.out).1
      go_upto_region 8 with fail
      have bA : Below wr.heap.size wr (wr.alloc (Obj.cells #[Value.string pk.name, Value.int IntKind.i64 pk.val.kind, Value.int IntKind.i64 pk.val.num, Value.string pk.val.text, Value.float FloatKind.f64 pk.val.real] 33)) := (Below.refl _ wr).alloc (Nat.le_refl _) _
      have sA : (wr.alloc (Obj.cells #[Value.string pk.name, Value.int IntKind.i64 pk.val.kind, Value.int IntKind.i64 pk.val.num, Value.string pk.val.text, Value.float FloatKind.f64 pk.val.real] 33)).heap.size = wr.heap.size + 1 := by simp
      have c0 : (wr.alloc (Obj.cells #[Value.string pk.name, Value.int IntKind.i64 pk.val.kind, Value.int IntKind.i64 pk.val.num, Value.string pk.val.text, Value.float FloatKind.f64 pk.val.real] 33)).cell? ⟨wr.heap.size, 0, none⟩ = some (.string pk.name) := World.cell?_alloc_new ..
      have c1 : (wr.alloc (Obj.cells #[Value.string pk.name, Value.int IntKind.i64 pk.val.kind, Value.int IntKind.i64 pk.val.num, Value.string pk.val.text, Value.float FloatKind.f64 pk.val.real] 33)).cell? ⟨wr.heap.size, 1, none⟩ = some (.int .i64 pk.val.kind) := World.cell?_alloc_new ..
      have c2 : (wr.alloc (Obj.cells #[Value.string pk.name, Value.int IntKind.i64 pk.val.kind, Value.int IntKind.i64 pk.val.num, Value.string pk.val.text, Value.float FloatKind.f64 pk.val.real] 33)).cell? ⟨wr.heap.size, 2, none⟩ = some (.int .i64 pk.val.num) := World.cell?_alloc_new ..
      have c3 : (wr.alloc (Obj.cells #[Value.string pk.name, Value.int IntKind.i64 pk.val.kind, Value.int IntKind.i64 pk.val.num, Value.string pk.val.text, Value.float FloatKind.f64 pk.val.real] 33)).cell? ⟨wr.heap.size, 3, none⟩ = some (.string pk.val.text) := World.cell?_alloc_new ..
      have c4 : (wr.alloc (Obj.cells #[Value.string pk.name, Value.int IntKind.i64 pk.val.kind, Value.int IntKind.i64 pk.val.num, Value.string pk.val.text, Value.float FloatKind.f64 pk.val.real] 33)).cell? ⟨wr.heap.size, 4, none⟩ = some (.float .f64 pk.val.real) := World.cell?_alloc_new ..
      have hRA : Hid (RdP (wr.alloc (Obj.cells #[Value.string pk.name, Value.int IntKind.i64 pk.val.kind, Value.int IntKind.i64 pk.val.num, Value.string pk.val.text, Value.float FloatKind.f64 pk.val.real] 33)) (.slice a lst.length cc) lst) := hR.out.on bA
      have bwA : Below w.heap.size w (wr.alloc (Obj.cells #[Value.string pk.name, Value.int IntKind.i64 pk.val.kind, Value.int IntKind.i64 pk.val.num, Value.string pk.val.text, Value.float FloatKind.f64 pk.val.real] 33)) := hbr.trans (bA.mono hwr)
      generalize (wr.alloc (Obj.cells #[Value.string pk.name, Value.int IntKind.i64 pk.val.kind, Value.int IntKind.i64 pk.val.num, Value.string pk.val.text, Value.float FloatKind.f64 pk.val.real] 33)) = wA at *
      have HG := get7 wA _ lst pk.name hRA.out (by omega)
      go_wp2_with fail
      refine HG.mono ?_
      rintro e w5 ⟨rfl, hb5⟩
      clear HG
      have b5 := bwA.trans (hb5.mono bwA.size)
      have hR5 : Hid (RdP w5 (.slice a lst.length cc) lst) := hRA.out.on hb5
      have d0 : w5.cell? ⟨wr.heap.size, 0, none⟩ = some (.string pk.name) := box_on c0 hb5
      have d1 : w5.cell? ⟨wr.heap.size, 1, none⟩ = some (.int .i64 pk.val.kind) := box_on c1 hb5
      have d2 : w5.cell? ⟨wr.heap.size, 2, none⟩ = some (.int .i64 pk.val.num) := box_on c2 hb5
      have d3 : w5.cell? ⟨wr.heap.size, 3, none⟩ = some (.string pk.val.text) := box_on c3 hb5
      have d4 : w5.cell? ⟨wr.heap.size, 4, none⟩ = some (.float .f64 pk.val.real) := box_on c4 hb5
      clear c0 c1 c2 c3 c4 hRA bwA bA
      obtain ⟨gv, hgv⟩ : ∃ gv, gv = (getL lst pk.name).getD zeroV := ⟨_, rfl⟩
      obtain ⟨hd, hhd⟩ : ∃ hd, hd = (getL lst pk.name).isSome := ⟨_, rfl⟩
      rw [← hgv, ← hhd]
      have HHd : Hid (hd = (getL lst pk.name).isSome) := hhd
      clear hgv hhd
      unfold Val.v
      go_upto_region 9 with fail
      have b56 : Below w5.heap.size w5 (w5.alloc (Obj.cells #[Value.int IntKind.i64 gv.kind, Value.int IntKind.i64 gv.num, Value.string gv.text, Value.float FloatKind.f64 gv.real] 24)) := (Below.refl _ w5).alloc (Nat.le_refl _) _
      have b6 : Below w.heap.size w (w5.alloc (Obj.cells #[Value.int IntKind.i64 gv.kind, Value.int IntKind.i64 gv.num, Value.string gv.text, Value.float FloatKind.f64 gv.real] 24)) := b5.trans (b56.mono b5.size)
      have hR6 : Hid (RdP (w5.alloc (Obj.cells #[Value.int IntKind.i64 gv.kind, Value.int IntKind.i64 gv.num, Value.string gv.text, Value.float FloatKind.f64 gv.real] 24)) (.slice a lst.length cc) lst) := hR5.out.on b56
      have c0 : (w5.alloc (Obj.cells #[Value.int IntKind.i64 gv.kind, Value.int IntKind.i64 gv.num, Value.string gv.text, Value.float FloatKind.f64 gv.real] 24)).cell? ⟨wr.heap.size, 0, none⟩ = some (.string pk.name) := box_on d0 b56
      have c1 : (w5.alloc (Obj.cells #[Value.int IntKind.i64 gv.kind, Value.int IntKind.i64 gv.num, Value.string gv.text, Value.float FloatKind.f64 gv.real] 24)).cell? ⟨wr.heap.size, 1, none⟩ = some (.int .i64 pk.val.kind) := box_on d1 b56
      have c2 : (w5.alloc (Obj.cells #[Value.int IntKind.i64 gv.kind, Value.int IntKind.i64 gv.num, Value.string gv.text, Value.float FloatKind.f64 gv.real] 24)).cell? ⟨wr.heap.size, 2, none⟩ = some (.int .i64 pk.val.num) := box_on d2 b56
      have c3 : (w5.alloc (Obj.cells #[Value.int IntKind.i64 gv.kind, Value.int IntKind.i64 gv.num, Value.string gv.text, Value.float FloatKind.f64 gv.real] 24)).cell? ⟨wr.heap.size, 3, none⟩ = some (.string pk.val.text) := box_on d3 b56
      have c4 : (w5.alloc (Obj.cells #[Value.int IntKind.i64 gv.kind, Value.int IntKind.i64 gv.num, Value.string gv.text, Value.float FloatKind.f64 gv.real] 24)).cell? ⟨wr.heap.size, 4, none⟩ = some (.float .f64 pk.val.real) := box_on d4 b56
      clear d0 d1 d2 d3 d4 b5 hR5
      generalize (w5.alloc (Obj.cells #[Value.int IntKind.i64 gv.kind, Value.int IntKind.i64 gv.num, Value.string gv.text, Value.float FloatKind.f64 gv.real] 24)) = w6 at *
      have HS := set7 w6 _ lst pk hR6.out hN.out
      unfold Pr.v at HS
      go_wp2_with fail
      refine HS.mono ?_
      rintro e w7 ⟨hset, hb7⟩
      clear HS b56
      have b7 := b6.trans (hb7.mono b6.size)
      have hR7 : Hid (RdP w7 (.slice a lst.length cc) lst) := hR6.out.on hb7
      have d0 : w7.cell? ⟨wr.heap.size, 0, none⟩ = some (.string pk.name) := box_on c0 hb7
      have d1 : w7.cell? ⟨wr.heap.size, 1, none⟩ = some (.int .i64 pk.val.kind) := box_on c1 hb7
      have d2 : w7.cell? ⟨wr.heap.size, 2, none⟩ = some (.int .i64 pk.val.num) := box_on c2 hb7
      have d3 : w7.cell? ⟨wr.heap.size, 3, none⟩ = some (.string pk.val.text) := box_on c3 hb7
      have d4 : w7.cell? ⟨wr.heap.size, 4, none⟩ = some (.float .f64 pk.val.real) := box_on c4 hb7
      clear c0 c1 c2 c3 c4 hR6
      have s67 := hb7.size
      rcases hset with ⟨hbad, rfl⟩ | ⟨_, hcp, j, hj, ⟨hat, hfull, rfl⟩ | ⟨hroom, v8, rfl, ho8⟩⟩
      · have hcb : canB pk = false := by rw [hV.out, Bool.true_and] at hbad; exact hbad
        clear hbad
        have HNm := name7 w7 pk.name
        cases hnm : nameL pk.name.toList with
        | false =>
          rw [hnm] at HNm
          clear hcb hnm HHd
          go_wp2_with fail
          refine HNm.mono ?_
          rintro e w9 ⟨rfl, rfl⟩
          go_wp2
          go_roundw
          case rel => exact ⟨k + 1, a, cc, lst, by omega, by go_num, rfl, hR7, hN, hV, b7⟩
          case measure => simp [RowKit.intOf]; omega
        | true =>
          rw [hnm] at HNm
          have hgd : goodV pk.val = false := by unfold canB at hcb; rw [hnm, Bool.true_and] at hcb; exact hcb
          have HGd := good7 w7 pk.val
          rw [hgd] at HGd
          unfold Val.v at HGd
          clear hcb hnm HHd hgd
          go_wp2_with fail
          refine HNm.mono ?_
          rintro e w9 ⟨rfl, hw9⟩
          subst hw9
          go_wp2_with fail
          refine HGd.mono ?_
          rintro e w10 ⟨rfl, hb10⟩
          have b10 := b7.trans (hb10.mono b7.size)
          have hR10 : Hid (RdP w10 (.slice a lst.length cc) lst) := hR7.out.on hb10
          go_wp2
          go_roundw
          case rel => exact ⟨k + 1, a, cc, lst, by omega, by go_num, rfl, hR10, hN, hV, b10⟩
          case measure => simp [RowKit.intOf]; omega
      · have hhd : hd = false := by rw [HHd.out, had_is (valid_parts hV.out).2.2 hj, hat]
        subst hhd
        have e16 : (lst.length : Int) = 16 := by omega
        clear hj hat HHd hcp
        go_wp2
        go_roundw
        case rel => exact ⟨k + 1, a, cc, lst, by omega, by go_num, by rw [hfull], hR7, hN, hV, b7⟩
        case measure => simp [RowKit.intOf]; omega
      · have hx63 : (putL lst pk j).length ≤ 17 := by rw [putL_len hj]; split <;> omega
        have HX1 : Hid (validL (putL lst pk j) = true) := putL_valid hV.out hcp hj hroom
        have HX2 : getL (putL lst pk j) pk.name = some pk.val := putL_get hV.out hj
        have HX3 : Hid (∀ q ∈ lst, q.name.toList ≠ pk.name.toList → getL (putL lst pk j) q.name = some q.val) := putL_keep hV.out hj
        have HX4 : Hid ((putL lst pk j).length = if hd then lst.length else lst.length + 1) := by show (putL lst pk j).length = _; rw [putL_len hj, HHd.out, had_is (valid_parts hV.out).2.2 hj]
        clear hj hroom hcp HHd
        have hR8 : Hid (RdP w7 v8 (putL lst pk j)) := ho8.rd
        have hN8 : Hid (NilOk v8) := ho8.nilok
        obtain ⟨a8, c8, rfl⟩ := hR8.out.shape
        have hG8 : (getL (putL lst pk j) pk.name).getD zeroV = pk.val ∧ (getL (putL lst pk j) pk.name).isSome = true := by rw [HX2]; exact ⟨rfl, rfl⟩
        have HG8 := get7 w7 _ (putL lst pk j) pk.name hR8.out (by omega)
        rw [hG8.1, hG8.2] at HG8
        clear hG8 HX2 ho8
        generalize putL lst pk j = x at *
        unfold Val.v at HG8
        go_wp2_with fail
        refine HG8.mono ?_
        rintro e w9 ⟨rfl, hb9⟩
        have b9 := b7.trans (hb9.mono b7.size)
        have hR9 : Hid (RdP w9 (.slice a lst.length cc) lst) := hR7.out.on hb9
        have hX9 : Hid (RdP w9 (.slice a8 x.length c8) x) := hR8.out.on hb9
        have c0 : w9.cell? ⟨wr.heap.size, 0, none⟩ = some (.string pk.name) := box_on d0 hb9
        have c1 : w9.cell? ⟨wr.heap.size, 1, none⟩ = some (.int .i64 pk.val.kind) := box_on d1 hb9
        have c2 : w9.cell? ⟨wr.heap.size, 2, none⟩ = some (.int .i64 pk.val.num) := box_on d2 hb9
        have c3 : w9.cell? ⟨wr.heap.size, 3, none⟩ = some (.string pk.val.text) := box_on d3 hb9
        have c4 : w9.cell? ⟨wr.heap.size, 4, none⟩ = some (.float .f64 pk.val.real) := box_on d4 hb9
        clear d0 d1 d2 d3 d4 hR7 hR8 HG8
        go_upto_region 14 with fail
        have b910 : Below w9.heap.size w9 (w9.alloc (Obj.cells #[Value.int IntKind.i64 pk.val.kind, Value.int IntKind.i64 pk.val.num, Value.string pk.val.text, Value.float FloatKind.f64 pk.val.real] 24)) := (Below.refl _ w9).alloc (Nat.le_refl _) _
        have b10 : Below w.heap.size w (w9.alloc (Obj.cells #[Value.int IntKind.i64 pk.val.kind, Value.int IntKind.i64 pk.val.num, Value.string pk.val.text, Value.float FloatKind.f64 pk.val.real] 24)) := b9.trans (b910.mono b9.size)
        have hR10 : Hid (RdP (w9.alloc (Obj.cells #[Value.int IntKind.i64 pk.val.kind, Value.int IntKind.i64 pk.val.num, Value.string pk.val.text, Value.float FloatKind.f64 pk.val.real] 24)) (.slice a lst.length cc) lst) := hR9.out.on b910
        have hX10 : Hid (RdP (w9.alloc (Obj.cells #[Value.int IntKind.i64 pk.val.kind, Value.int IntKind.i64 pk.val.num, Value.string pk.val.text, Value.float FloatKind.f64 pk.val.real] 24)) (.slice a8 x.length c8) x) := hX9.out.on b910
        have d0 : (w9.alloc (Obj.cells #[Value.int IntKind.i64 pk.val.kind, Value.int IntKind.i64 pk.val.num, Value.string pk.val.text, Value.float FloatKind.f64 pk.val.real] 24)).cell? ⟨wr.heap.size, 0, none⟩ = some (.string pk.name) := box_on c0 b910
        have d1 : (w9.alloc (Obj.cells #[Value.int IntKind.i64 pk.val.kind, Value.int IntKind.i64 pk.val.num, Value.string pk.val.text, Value.float FloatKind.f64 pk.val.real] 24)).cell? ⟨wr.heap.size, 1, none⟩ = some (.int .i64 pk.val.kind) := box_on c1 b910
        have d2 : (w9.alloc (Obj.cells #[Value.int IntKind.i64 pk.val.kind, Value.int IntKind.i64 pk.val.num, Value.string pk.val.text, Value.float FloatKind.f64 pk.val.real] 24)).cell? ⟨wr.heap.size, 2, none⟩ = some (.int .i64 pk.val.num) := box_on c2 b910
        have d3 : (w9.alloc (Obj.cells #[Value.int IntKind.i64 pk.val.kind, Value.int IntKind.i64 pk.val.num, Value.string pk.val.text, Value.float FloatKind.f64 pk.val.real] 24)).cell? ⟨wr.heap.size, 3, none⟩ = some (.string pk.val.text) := box_on c3 b910
        have d4 : (w9.alloc (Obj.cells #[Value.int IntKind.i64 pk.val.kind, Value.int IntKind.i64 pk.val.num, Value.string pk.val.text, Value.float FloatKind.f64 pk.val.real] 24)).cell? ⟨wr.heap.size, 4, none⟩ = some (.float .f64 pk.val.real) := box_on c4 b910
        have f0 : (w9.alloc (Obj.cells #[Value.int IntKind.i64 pk.val.kind, Value.int IntKind.i64 pk.val.num, Value.string pk.val.text, Value.float FloatKind.f64 pk.val.real] 24)).cell? ⟨w9.heap.size, 0, none⟩ = some (.int .i64 pk.val.kind) := World.cell?_alloc_new ..
        have f1 : (w9.alloc (Obj.cells #[Value.int IntKind.i64 pk.val.kind, Value.int IntKind.i64 pk.val.num, Value.string pk.val.text, Value.float FloatKind.f64 pk.val.real] 24)).cell? ⟨w9.heap.size, 1, none⟩ = some (.int .i64 pk.val.num) := World.cell?_alloc_new ..
        have f2 : (w9.alloc (Obj.cells #[Value.int IntKind.i64 pk.val.kind, Value.int IntKind.i64 pk.val.num, Value.string pk.val.text, Value.float FloatKind.f64 pk.val.real] 24)).cell? ⟨w9.heap.size, 2, none⟩ = some (.string pk.val.text) := World.cell?_alloc_new ..
        have f3 : (w9.alloc (Obj.cells #[Value.int IntKind.i64 pk.val.kind, Value.int IntKind.i64 pk.val.num, Value.string pk.val.text, Value.float FloatKind.f64 pk.val.real] 24)).cell? ⟨w9.heap.size, 3, none⟩ = some (.float .f64 pk.val.real) := World.cell?_alloc_new ..
        clear c0 c1 c2 c3 c4 hR9 hX9 b9
        generalize (w9.alloc (Obj.cells #[Value.int IntKind.i64 pk.val.kind, Value.int IntKind.i64 pk.val.num, Value.string pk.val.text, Value.float FloatKind.f64 pk.val.real] 24)) = w10 at *
        have HS10 := rsame7 w10 pk.val pk.val
        rw [(sameV_eq pk.val pk.val).2 rfl] at HS10
        unfold Val.v at HS10
        go_wp2_with fail
        refine HS10.mono ?_
        rintro e w11 ⟨rfl, hb11⟩
        have b11 := b10.trans (hb11.mono b10.size)
        have hR11 : Hid (RdP w11 (.slice a lst.length cc) lst) := hR10.out.on hb11
        have hX11 : Hid (RdP w11 (.slice a8 x.length c8) x) := hX10.out.on hb11
        have c0 : w11.cell? ⟨wr.heap.size, 0, none⟩ = some (.string pk.name) := box_on d0 hb11
        clear d0 d1 d2 d3 d4 f0 f1 f2 f3 hR10 hX10 HS10
        have HV11 := valid7 w11 _ x hX11.out
        rw [HX1.out] at HV11
        go_wp2_with fail
        refine HV11.mono ?_
        rintro e w12 ⟨rfl, hb12⟩
        have b12 := b11.trans (hb12.mono b11.size)
        have hR12 : Hid (RdP w12 (.slice a lst.length cc) lst) := hR11.out.on hb12
        have hX12 : Hid (RdP w12 (.slice a8 x.length c8) x) := hX11.out.on hb12
        have g0 : w12.cell? ⟨wr.heap.size, 0, none⟩ = some (.string pk.name) := box_on c0 hb12
        clear c0 hR11 hX11 HV11 hb7 hb9 hb11 hb12 b910 b6 b7 b10 b11
        go_wp2_with fail
        generalize hq0 : wr.heap.size = q0 at *
        clear hq0 hbr
        rcases hR12.out with ⟨_, hnil⟩ | ⟨b2, o2, c2, hs2, _, hP2⟩
        · subst hnil
          clear hR12 g0 HX3
          go_loopw [109] (fun i wq => i = .int .i64 0 ∧ wq = w12) (fun _ _ => 0)
          case atStart => exact ⟨rfl, rfl⟩
          case round =>
            obtain ⟨rfl, hwq⟩ := hrel
            replace hwq := hwq.symm
            subst hwq
            cases hd with
            | false =>
              have e17 : x.length = 0 + 1 := by have := HX4.out; simpa using this
              clear HX4
              go_wp2
              go_roundw
              case rel => exact ⟨k + 1, a8, c8, x, by omega, by go_num, by first | rfl | rw [e17], hX12, hN8, HX1, b12⟩
              case measure => simp [RowKit.intOf]; omega
            | true =>
              have e17 : x.length = 0 := by have := HX4.out; simpa using this
              clear HX4
              go_wp2
              go_roundw
              case rel => exact ⟨k + 1, a8, c8, x, by omega, by go_num, by first | rfl | rw [e17], hX12, hN8, HX1, b12⟩
              case measure => simp [RowKit.intOf]; omega
        · cases hs2
          have HP2 : Hid (∀ i (h : i < lst.length), PrAt w12 b2 (o2 + i * 5) lst[i]) := hP2
          clear hP2
          go_loopw [109] (fun i wq => ∃ jj : Nat, jj ≤ lst.length ∧ i = .int .i64 jj ∧ Below w12.heap.size w12 wq) (fun i _ => lst.length - (RowKit.intOf i).toNat)
          case atStart => exact ⟨0, by omega, rfl, Below.refl _ _⟩
          case round =>
            obtain ⟨jj, hjj, rfl, hbq⟩ := hrel
            have hwq := hbq.size
            by_cases hjl : jj < lst.length
            · obtain ⟨e0, e1, e2, e3, e4⟩ := (HP2.out jj hjl).on hbq
              have hK := HX3.out lst[jj] (List.getElem_mem _)
              have hXq : Hid (RdP wr (.slice a8 x.length c8) x) := hX12.out.on hbq
              have g1 : wr.cell? ⟨q0, 0, none⟩ = some (.string pk.name) := box_on g0 hbq
              obtain ⟨qk, hqk⟩ : ∃ qk, qk = lst[jj] := ⟨_, rfl⟩
              rw [← hqk] at e0 e1 e2 e3 e4 hK
              clear hqk
              go_upto_region 19 with fail
              have bB : Below wr.heap.size wr (wr.alloc (Obj.cells #[Value.string qk.name, Value.int IntKind.i64 qk.val.kind, Value.int IntKind.i64 qk.val.num, Value.string qk.val.text, Value.float FloatKind.f64 qk.val.real] 33)) := (Below.refl _ wr).alloc (Nat.le_refl _) _
              have bqB : Below w12.heap.size w12 (wr.alloc (Obj.cells #[Value.string qk.name, Value.int IntKind.i64 qk.val.kind, Value.int IntKind.i64 qk.val.num, Value.string qk.val.text, Value.float FloatKind.f64 qk.val.real] 33)) := hbq.trans (bB.mono hwq)
              have hXB : Hid (RdP (wr.alloc (Obj.cells #[Value.string qk.name, Value.int IntKind.i64 qk.val.kind, Value.int IntKind.i64 qk.val.num, Value.string qk.val.text, Value.float FloatKind.f64 qk.val.real] 33)) (.slice a8 x.length c8) x) := hXq.out.on bB
              have g2 : (wr.alloc (Obj.cells #[Value.string qk.name, Value.int IntKind.i64 qk.val.kind, Value.int IntKind.i64 qk.val.num, Value.string qk.val.text, Value.float FloatKind.f64 qk.val.real] 33)).cell? ⟨q0, 0, none⟩ = some (.string pk.name) := box_on g1 bB
              have c0 : (wr.alloc (Obj.cells #[Value.string qk.name, Value.int IntKind.i64 qk.val.kind, Value.int IntKind.i64 qk.val.num, Value.string qk.val.text, Value.float FloatKind.f64 qk.val.real] 33)).cell? ⟨wr.heap.size, 0, none⟩ = some (.string qk.name) := World.cell?_alloc_new ..
              have c1 : (wr.alloc (Obj.cells #[Value.string qk.name, Value.int IntKind.i64 qk.val.kind, Value.int IntKind.i64 qk.val.num, Value.string qk.val.text, Value.float FloatKind.f64 qk.val.real] 33)).cell? ⟨wr.heap.size, 1, none⟩ = some (.int .i64 qk.val.kind) := World.cell?_alloc_new ..
              have c2 : (wr.alloc (Obj.cells #[Value.string qk.name, Value.int IntKind.i64 qk.val.kind, Value.int IntKind.i64 qk.val.num, Value.string qk.val.text, Value.float FloatKind.f64 qk.val.real] 33)).cell? ⟨wr.heap.size, 2, none⟩ = some (.int .i64 qk.val.num) := World.cell?_alloc_new ..
              have c3 : (wr.alloc (Obj.cells #[Value.string qk.name, Value.int IntKind.i64 qk.val.kind, Value.int IntKind.i64 qk.val.num, Value.string qk.val.text, Value.float FloatKind.f64 qk.val.real] 33)).cell? ⟨wr.heap.size, 3, none⟩ = some (.string qk.val.text) := World.cell?_alloc_new ..
              have c4 : (wr.alloc (Obj.cells #[Value.string qk.name, Value.int IntKind.i64 qk.val.kind, Value.int IntKind.i64 qk.val.num, Value.string qk.val.text, Value.float FloatKind.f64 qk.val.real] 33)).cell? ⟨wr.heap.size, 4, none⟩ = some (.float .f64 qk.val.real) := World.cell?_alloc_new ..
              clear hXq g1 e0 e1 e2 e3 e4
              generalize hq1 : wr.heap.size = q1 at *
              generalize (wr.alloc (Obj.cells #[Value.string qk.name, Value.int IntKind.i64 qk.val.kind, Value.int IntKind.i64 qk.val.num, Value.string qk.val.text, Value.float FloatKind.f64 qk.val.real] 33)) = wB at *
              have HGB := get7 wB _ x qk.name hXB.out (by omega)
              by_cases hne : qk.name.toList = pk.name.toList
              · have hne2 : (qk.name.toList == pk.name.toList) = true := by simpa using hne
                obtain ⟨gw, hgw⟩ : ∃ gw, gw = (getL x qk.name).getD zeroV := ⟨_, rfl⟩
                obtain ⟨gh, hgh⟩ : ∃ gh, gh = (getL x qk.name).isSome := ⟨_, rfl⟩
                rw [← hgw, ← hgh] at HGB
                clear hK hne hgw hgh
                unfold Val.v at HGB
                go_wp2_with fail
                refine HGB.mono ?_
                rintro e wC ⟨rfl, hbC⟩
                have bC : Below w12.heap.size w12 wC := bqB.trans (hbC.mono bqB.size)
                have g3 : wC.cell? ⟨q0, 0, none⟩ = some (.string pk.name) := box_on g2 hbC
                have d0 : wC.cell? ⟨q1, 0, none⟩ = some (.string qk.name) := box_on c0 hbC
                clear HGB
                go_upto_region 20 with fail
                have bCD : Below wC.heap.size wC (wC.alloc (Obj.cells #[Value.int IntKind.i64 gw.kind, Value.int IntKind.i64 gw.num, Value.string gw.text, Value.float FloatKind.f64 gw.real] 24)) := (Below.refl _ wC).alloc (Nat.le_refl _) _
                have g4 : (wC.alloc (Obj.cells #[Value.int IntKind.i64 gw.kind, Value.int IntKind.i64 gw.num, Value.string gw.text, Value.float FloatKind.f64 gw.real] 24)).cell? ⟨q0, 0, none⟩ = some (.string pk.name) := box_on g3 bCD
                have d1 : (wC.alloc (Obj.cells #[Value.int IntKind.i64 gw.kind, Value.int IntKind.i64 gw.num, Value.string gw.text, Value.float FloatKind.f64 gw.real] 24)).cell? ⟨q1, 0, none⟩ = some (.string qk.name) := box_on d0 bCD
                have bD : Below w12.heap.size w12 (wC.alloc (Obj.cells #[Value.int IntKind.i64 gw.kind, Value.int IntKind.i64 gw.num, Value.string gw.text, Value.float FloatKind.f64 gw.real] 24)) := bC.trans (bCD.mono bC.size)
                generalize (wC.alloc (Obj.cells #[Value.int IntKind.i64 gw.kind, Value.int IntKind.i64 gw.num, Value.string gw.text, Value.float FloatKind.f64 gw.real] 24)) = wD at *
                go_wp2
                go_roundw
                case rel => exact ⟨jj + 1, by omega, by go_num, bD⟩
                case measure => simp [RowKit.intOf]; omega
              · have hne2 : (qk.name.toList == pk.name.toList) = false := by simpa using hne
                have hK2 : (getL x qk.name).getD zeroV = qk.val ∧ (getL x qk.name).isSome = true := by rw [hK hne]; exact ⟨rfl, rfl⟩
                rw [hK2.1, hK2.2] at HGB
                clear hK hne hK2
                unfold Val.v at HGB
                go_wp2_with fail
                refine HGB.mono ?_
                rintro e wC ⟨rfl, hbC⟩
                have bC : Below w12.heap.size w12 wC := bqB.trans (hbC.mono bqB.size)
                have g3 : wC.cell? ⟨q0, 0, none⟩ = some (.string pk.name) := box_on g2 hbC
                have d0 : wC.cell? ⟨q1, 0, none⟩ = some (.string qk.name) := box_on c0 hbC
                have d1 : wC.cell? ⟨q1, 1, none⟩ = some (.int .i64 qk.val.kind) := box_on c1 hbC
                have d2 : wC.cell? ⟨q1, 2, none⟩ = some (.int .i64 qk.val.num) := box_on c2 hbC
                have d3 : wC.cell? ⟨q1, 3, none⟩ = some (.string qk.val.text) := box_on c3 hbC
                have d4 : wC.cell? ⟨q1, 4, none⟩ = some (.float .f64 qk.val.real) := box_on c4 hbC
                clear HGB c0 c1 c2 c3 c4 g2
                go_upto_region 20 with fail
                have bCD : Below wC.heap.size wC (wC.alloc (Obj.cells #[Value.int IntKind.i64 qk.val.kind, Value.int IntKind.i64 qk.val.num, Value.string qk.val.text, Value.float FloatKind.f64 qk.val.real] 24)) := (Below.refl _ wC).alloc (Nat.le_refl _) _
                have g4 : (wC.alloc (Obj.cells #[Value.int IntKind.i64 qk.val.kind, Value.int IntKind.i64 qk.val.num, Value.string qk.val.text, Value.float FloatKind.f64 qk.val.real] 24)).cell? ⟨q0, 0, none⟩ = some (.string pk.name) := box_on g3 bCD
                have bD : Below w12.heap.size w12 (wC.alloc (Obj.cells #[Value.int IntKind.i64 qk.val.kind, Value.int IntKind.i64 qk.val.num, Value.string qk.val.text, Value.float FloatKind.f64 qk.val.real] 24)) := bC.trans (bCD.mono bC.size)
                have c0 : (wC.alloc (Obj.cells #[Value.int IntKind.i64 qk.val.kind, Value.int IntKind.i64 qk.val.num, Value.string qk.val.text, Value.float FloatKind.f64 qk.val.real] 24)).cell? ⟨q1, 0, none⟩ = some (.string qk.name) := box_on d0 bCD
                have c1 : (wC.alloc (Obj.cells #[Value.int IntKind.i64 qk.val.kind, Value.int IntKind.i64 qk.val.num, Value.string qk.val.text, Value.float FloatKind.f64 qk.val.real] 24)).cell? ⟨q1, 1, none⟩ = some (.int .i64 qk.val.kind) := box_on d1 bCD
                have c2 : (wC.alloc (Obj.cells #[Value.int IntKind.i64 qk.val.kind, Value.int IntKind.i64 qk.val.num, Value.string qk.val.text, Value.float FloatKind.f64 qk.val.real] 24)).cell? ⟨q1, 2, none⟩ = some (.int .i64 qk.val.num) := box_on d2 bCD
                have c3 : (wC.alloc (Obj.cells #[Value.int IntKind.i64 qk.val.kind, Value.int IntKind.i64 qk.val.num, Value.string qk.val.text, Value.float FloatKind.f64 qk.val.real] 24)).cell? ⟨q1, 3, none⟩ = some (.string qk.val.text) := box_on d3 bCD
                have c4 : (wC.alloc (Obj.cells #[Value.int IntKind.i64 qk.val.kind, Value.int IntKind.i64 qk.val.num, Value.string qk.val.text, Value.float FloatKind.f64 qk.val.real] 24)).cell? ⟨q1, 4, none⟩ = some (.float .f64 qk.val.real) := box_on d4 bCD
                have f0 : (wC.alloc (Obj.cells #[Value.int IntKind.i64 qk.val.kind, Value.int IntKind.i64 qk.val.num, Value.string qk.val.text, Value.float FloatKind.f64 qk.val.real] 24)).cell? ⟨wC.heap.size, 0, none⟩ = some (.int .i64 qk.val.kind) := World.cell?_alloc_new ..
                have f1 : (wC.alloc (Obj.cells #[Value.int IntKind.i64 qk.val.kind, Value.int IntKind.i64 qk.val.num, Value.string qk.val.text, Value.float FloatKind.f64 qk.val.real] 24)).cell? ⟨wC.heap.size, 1, none⟩ = some (.int .i64 qk.val.num) := World.cell?_alloc_new ..
                have f2 : (wC.alloc (Obj.cells #[Value.int IntKind.i64 qk.val.kind, Value.int IntKind.i64 qk.val.num, Value.string qk.val.text, Value.float FloatKind.f64 qk.val.real] 24)).cell? ⟨wC.heap.size, 2, none⟩ = some (.string qk.val.text) := World.cell?_alloc_new ..
                have f3 : (wC.alloc (Obj.cells #[Value.int IntKind.i64 qk.val.kind, Value.int IntKind.i64 qk.val.num, Value.string qk.val.text, Value.float FloatKind.f64 qk.val.real] 24)).cell? ⟨wC.heap.size, 3, none⟩ = some (.float .f64 qk.val.real) := World.cell?_alloc_new ..
                clear d0 d1 d2 d3 d4 g3
                generalize (wC.alloc (Obj.cells #[Value.int IntKind.i64 qk.val.kind, Value.int IntKind.i64 qk.val.num, Value.string qk.val.text, Value.float FloatKind.f64 qk.val.real] 24)) = wD at *
                have HSD := rsame7 wD qk.val qk.val
                rw [(sameV_eq qk.val qk.val).2 rfl] at HSD
                unfold Val.v at HSD
                go_wp2_with fail
                refine HSD.mono ?_
                rintro e wE ⟨rfl, hbE⟩
                have bE : Below w12.heap.size w12 wE := bD.trans (hbE.mono bD.size)
                clear HSD
                go_wp2
                go_roundw
                case rel => exact ⟨jj + 1, by omega, by go_num, bE⟩
                case measure => simp [RowKit.intOf]; omega
            · have b13 : Below w.heap.size w wr := b12.trans (hbq.mono b12.size)
              have hX13 : Hid (RdP wr (.slice a8 x.length c8) x) := hX12.out.on hbq
              cases hd with
              | false =>
                have e17 : x.length = lst.length + 1 := by have := HX4.out; simpa using this
                clear HX4
                go_wp2
                go_roundw
                case rel => exact ⟨k + 1, a8, c8, x, by omega, by go_num, by first | rfl | rw [e17], hX13, hN8, HX1, b13⟩
                case measure => simp [RowKit.intOf]; omega
              | true =>
                have e17 : x.length = lst.length := by have := HX4.out; simpa using this
                clear HX4
                go_wp2
                go_roundw
                case rel => exact ⟨k + 1, a8, c8, x, by omega, by go_num, by first | rfl | rw [e17], hX13, hN8, HX1, b13⟩
                case measure => simp [RowKit.intOf]; omega
    · go_wp2
      go_ret
      exact ⟨rfl, hbr⟩
end Go.Proofs.YtlhfdklfkfodkaaDoor
