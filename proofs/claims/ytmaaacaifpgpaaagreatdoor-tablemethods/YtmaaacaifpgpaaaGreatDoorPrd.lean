
/- What the document's Valid answers of any list. -/
import Derived.Test.YtmaaacaifpgpaaaGreatDoorPrb
import Derived.Test.YtmaaacaifpgpaaaGreatDoorPq
namespace Go.Proofs.YtmaaacaifpgpaaaGreatDoor
open Go.RowKit Go.Lib Ieee

theorem no_can {l : List Pr} {k : Nat} (h : k < l.length) (hc : canB l[k] = false) : validL l = false := by
  cases e : validL l with
  | false => rfl
  | true => rw [(valid_parts e).2.1 _ (List.getElem_mem _)] at hc; cases hc
theorem no_less {l : List Pr} {j k : Nat} (h : k < l.length) (hj : j < k) (hc : Op.bytesLess (l[j]'(by omega)).name.toList l[k].name.toList = false) : validL l = false := by
  cases e : validL l with
  | false => rfl
  | true => rw [rising_lt l (valid_parts e).2.2 j k h hj] at hc; cases hc
theorem no_many {l : List Pr} (h : 16 < l.length) : validL l = false := by
  cases e : validL l with
  | false => rfl
  | true => have := (valid_parts e).1; omega
def okR (l : List Pr) (i : Nat) : Prop := ∀ j (h : j < l.length), j < i → canB l[j] = true ∧ ∀ m (hm : m < j), Op.bytesLess (l[m]'(by omega)).name.toList l[j].name.toList = true
theorem okR_valid {l : List Pr} (h : okR l l.length) (h16 : l.length ≤ 16) : validL l = true := by
  unfold validL
  simp only [Bool.and_eq_true, decide_eq_true_eq, List.all_eq_true]
  refine ⟨h16, fun q hq => ?_, rising_of l (List.pairwise_iff_getElem.2 fun i j hi hj hij => (h j hj hj).2 i hij)⟩
  obtain ⟨j, hj, rfl⟩ := List.mem_iff_getElem.1 hq
  exact (h j hj hj).1

set_option maxRecDepth 4000 in
theorem rvalid7_nil (w : World) (a : Option Addr) (c : Nat) : Calls Tryz.prog 36 #[.slice a 0 c] w fun e w' => e = .returned (.bool true) ∧ Below w.heap.size w w' := by
  go_enter Tryz.func36, Tryz.ntmps36
  go_wp2_with fail
  go_loopw [8] (fun i wr => i = .int .i64 0 ∧ wr = w) (fun _ _ => 0)
  case atStart => exact ⟨rfl, rfl⟩
  case round =>
    obtain ⟨rfl, rfl⟩ := hrel
    go_wp2
    go_ret
    exact ⟨rfl, Below.refl _ _⟩

set_option maxRecDepth 4000 in
set_option maxHeartbeats 2000000 in
theorem rvalid7_some (w : World) (l : List Pr) (b o c : Nat) (h : ∀ i (h : i < l.length), PrAt w b (o + i * 5) l[i]) (hin : ∀ q ∈ l, q.name.size ≤ 9223372036854775807 ∧ q.val.real < 2 ^ 64) (h63 : l.length ≤ 9223372036854775806) :
    Calls Tryz.prog 36 #[.slice (some ⟨b, o, none⟩) l.length c] w fun e w' => e = .returned (.bool (validL l)) ∧ Below w.heap.size w w' := by
  have H : Hid (∀ i (h : i < l.length), PrAt w b (o + i * 5) l[i]) := h
  have HI : Hid (∀ i (h : i < l.length), l[i].name.size ≤ 9223372036854775807 ∧ l[i].val.real < 2 ^ 64) := fun i hi => hin _ (List.getElem_mem _)
  have HC : Hid (∀ (k : Nat) (h : k < l.length), canB l[k] = false → validL l = false) := fun k h => no_can h
  have HL : Hid (∀ (j k : Nat) (h : k < l.length) (hj : j < k), Op.bytesLess (l[j]'(by omega)).name.toList l[k].name.toList = false → validL l = false) := fun j k h hj => no_less h hj
  have HM : Hid (16 < l.length → validL l = false) := no_many
  have HV : Hid (okR l l.length → l.length ≤ 16 → validL l = true) := okR_valid
  clear h hin
  generalize validL l = r at *
  go_enter Tryz.func36, Tryz.ntmps36
  go_wp2_with fail
  go_loopw [8] (fun i wr => ∃ k : Nat, k ≤ l.length ∧ k ≤ 16 ∧ i = .int .i64 k ∧ Below w.heap.size w wr ∧ Hid (okR l k)) (fun i _ => l.length - (RowKit.intOf i).toNat)
  case atStart => exact ⟨0, by omega, by omega, rfl, Below.refl _ _, fun j h hj => by omega⟩
  case round =>
    obtain ⟨k, hk, hk16, rfl, hbr, hok⟩ := hrel
    have hwr := hbr.size
    by_cases hlt : k < l.length
    · obtain ⟨a0, a1, a2, a3, a4⟩ := (H.out k hlt).on hbr
      have hC := HC.out k hlt
      have hL := fun j hj => HL.out j k hlt hj
      have hI := HI.out k hlt
      have hS : Hid (canB l[k] = true → (∀ m (hm : m < k), Op.bytesLess (l[m]'(by omega)).name.toList l[k].name.toList = true) → okR l (k + 1)) := fun h1 h2 j hj hjk => by
        by_cases e : j = k
        · subst e; exact ⟨h1, h2⟩
        · exact hok.out j hj (by omega)
      obtain ⟨pk, hpk⟩ : ∃ pk, pk = l[k] := ⟨_, rfl⟩
      rw [← hpk] at a0 a1 a2 a3 a4 hC hI hS
      simp only [← hpk] at hL
      clear hpk
      go_upto_region 4 with fail
      have bA : Below wr.heap.size wr (wr.alloc (Obj.cells #[Value.string pk.name, Value.int IntKind.i64 pk.val.kind, Value.int IntKind.i64 pk.val.num, Value.string pk.val.text, Value.float FloatKind.f64 pk.val.real] 44)) := (Below.refl _ wr).alloc (Nat.le_refl _) _
      have bwA := hbr.trans (bA.mono hwr)
      have c0 : (wr.alloc (Obj.cells #[Value.string pk.name, Value.int IntKind.i64 pk.val.kind, Value.int IntKind.i64 pk.val.num, Value.string pk.val.text, Value.float FloatKind.f64 pk.val.real] 44)).cell? ⟨wr.heap.size, 0, none⟩ = some (.string pk.name) := World.cell?_alloc_new ..
      have c1 : (wr.alloc (Obj.cells #[Value.string pk.name, Value.int IntKind.i64 pk.val.kind, Value.int IntKind.i64 pk.val.num, Value.string pk.val.text, Value.float FloatKind.f64 pk.val.real] 44)).cell? ⟨wr.heap.size, 1, none⟩ = some (.int .i64 pk.val.kind) := World.cell?_alloc_new ..
      have c2 : (wr.alloc (Obj.cells #[Value.string pk.name, Value.int IntKind.i64 pk.val.kind, Value.int IntKind.i64 pk.val.num, Value.string pk.val.text, Value.float FloatKind.f64 pk.val.real] 44)).cell? ⟨wr.heap.size, 2, none⟩ = some (.int .i64 pk.val.num) := World.cell?_alloc_new ..
      have c3 : (wr.alloc (Obj.cells #[Value.string pk.name, Value.int IntKind.i64 pk.val.kind, Value.int IntKind.i64 pk.val.num, Value.string pk.val.text, Value.float FloatKind.f64 pk.val.real] 44)).cell? ⟨wr.heap.size, 3, none⟩ = some (.string pk.val.text) := World.cell?_alloc_new ..
      have c4 : (wr.alloc (Obj.cells #[Value.string pk.name, Value.int IntKind.i64 pk.val.kind, Value.int IntKind.i64 pk.val.num, Value.string pk.val.text, Value.float FloatKind.f64 pk.val.real] 44)).cell? ⟨wr.heap.size, 4, none⟩ = some (.float .f64 pk.val.real) := World.cell?_alloc_new ..
      generalize wr.heap.size = q0 at *
      generalize (wr.alloc (Obj.cells #[Value.string pk.name, Value.int IntKind.i64 pk.val.kind, Value.int IntKind.i64 pk.val.num, Value.string pk.val.text, Value.float FloatKind.f64 pk.val.real] 44)) = wA at *
      clear a0 a1 a2 a3 a4 bA
      have HNm := rname7 wA pk.name hI.1
      cases hnm : nameL pk.name.toList with
      | false =>
        have hr := hC (by unfold canB; rw [hnm]; rfl)
        rw [hnm] at HNm
        clear hS hC hL
        go_wp2_with fail
        refine HNm.mono ?_
        rintro e w2 ⟨rfl, hw2⟩
        subst hw2
        go_wp2
        go_ret
        exact ⟨ret_b (by first | rfl | exact hr.symm), bwA⟩
      | true =>
      rw [hnm] at HNm
      have HGd := rgood7 wA pk.val hI.2
      cases hgd : goodV pk.val with
      | false =>
        have hr := hC (by unfold canB; rw [hnm, hgd]; rfl)
        rw [hgd] at HGd
        unfold Val.v at HGd
        clear hS hC hL
        go_wp2_with fail
        refine HNm.mono ?_
        rintro e w2 ⟨rfl, hw2⟩
        subst hw2
        go_wp2_with fail
        refine HGd.mono ?_
        rintro e w3 ⟨rfl, hb3⟩
        go_wp2
        go_ret
        exact ⟨ret_b (by first | rfl | exact hr.symm), bwA.trans (hb3.mono bwA.size)⟩
      | true =>
        rw [hgd] at HGd
        unfold Val.v at HGd
        have hcan : canB pk = true := by unfold canB; rw [hnm, hgd]; rfl
        have hS2 : Hid ((∀ m (hm : m < k), Op.bytesLess (l[m]'(by omega)).name.toList pk.name.toList = true) → okR l (k + 1)) := hS.out hcan
        have HL2 : Hid (∀ j (hj : j < k), Op.bytesLess (l[j]'(by omega)).name.toList pk.name.toList = false → r = false) := hL
        clear hS hC hL hcan hnm hgd hI
        go_wp2_with fail
        refine HNm.mono ?_
        rintro e w2 ⟨rfl, hw2⟩
        subst hw2
        go_wp2_with fail
        refine HGd.mono ?_
        rintro e w3 ⟨rfl, hb3⟩
        have b3 := bwA.trans (hb3.mono bwA.size)
        have d0 : w3.cell? ⟨q0, 0, none⟩ = some (.string pk.name) := box_on c0 hb3
        clear c0 c1 c2 c3 c4 HNm HGd bwA hb3 hbr hwr
        go_wp2_with fail
        go_loopw [5] (fun x wq => ∃ j : Nat, j ≤ k ∧ x = .int .i64 j ∧ Below w3.heap.size w3 wq ∧ Hid (∀ m (hm : m < j) (hk : m < l.length), Op.bytesLess l[m].name.toList pk.name.toList = true)) (fun x _ => k - (RowKit.intOf x).toNat)
        case atStart => exact ⟨0, by omega, rfl, Below.refl _ _, fun m hm => by omega⟩
        case round =>
          obtain ⟨j, hj, rfl, hbq, hles⟩ := hrel
          have bq := b3.trans (hbq.mono b3.size)
          by_cases hjk : j < k
          · obtain ⟨a0, _, _, _, _⟩ := (H.out j (by omega)).on bq
            have d1 : wr.cell? ⟨q0, 0, none⟩ = some (.string pk.name) := box_on d0 hbq
            have hL3 := HL2.out j hjk
            have hS3 : Hid (Op.bytesLess (l[j]'(by omega)).name.toList pk.name.toList = true → ∀ m (hm : m < j + 1) (hk : m < l.length), Op.bytesLess l[m].name.toList pk.name.toList = true) := fun h m hm hk => by
              by_cases e : m = j
              · subst e; exact h
              · exact hles.out m (by omega) hk
            have hjl : j < l.length := by omega
            obtain ⟨nj, hnj⟩ : ∃ nj, nj = (l[j]'(by omega)).name := ⟨_, rfl⟩
            rw [← hnj] at a0 hL3 hS3
            clear hnj
            cases e : Op.bytesLess nj.toList pk.name.toList with
            | false =>
              have hr := hL3 e
              clear hL3 hS3
              go_upto_region 9 with fail
              go_quiet (fail)
              go_wp2
              go_ret
              exact ⟨ret_b (by first | rfl | exact hr.symm), below_drewN bq _⟩
            | true =>
              have hn := hS3.out e
              have hn2 : Hid (∀ m (hm : m < j + 1) (hk : m < l.length), Op.bytesLess l[m].name.toList pk.name.toList = true) := hn
              clear hL3 hS3 hn
              go_upto_region 9 with fail
              go_quiet (fail)
              go_wp2
              go_roundw
              case rel => exact ⟨j + 1, by omega, by go_num, below_drewN hbq _, hn2⟩
              case measure => simp [RowKit.intOf]; omega
          · have hjk2 : j = k := by omega
            subst hjk2
            have hok2 : Hid (okR l (j + 1)) := hS2.out (fun m hm => hles.out m hm (by omega))
            clear hS2 hles
            by_cases hs : (j : Int) ≥ 16
            · have hr := HM.out (by omega)
              go_wp2
              go_ret
              exact ⟨ret_b (by first | rfl | exact hr.symm), bq⟩
            · go_wp2
              go_roundw
              case rel => exact ⟨j + 1, by omega, by omega, by go_num, bq, hok2⟩
              case measure => simp [RowKit.intOf]; omega
    · have hkl : k = l.length := by omega
      have hr := HV.out (by rw [← hkl]; exact hok.out) (by omega)
      go_wp2
      go_ret
      exact ⟨ret_b (by first | rfl | exact hr.symm), hbr⟩

/-- What is told of a property: its sizes fit. -/
def Fits (q : Pr) : Prop := q.name.size ≤ 9223372036854775807 ∧ q.val.real < 2 ^ 64
theorem rvalid7 (w : World) (v : Value) (l : List Pr) (h : RdP w v l) (hin : ∀ q ∈ l, Fits q) (h63 : l.length ≤ 9223372036854775806) : Calls Tryz.prog 36 #[v] w fun e w' => e = .returned (.bool (validL l)) ∧ Below w.heap.size w w' := by
  rcases h with ⟨⟨a, c, rfl⟩, rfl⟩ | ⟨b, o, c, rfl, _, h⟩
  · exact rvalid7_nil w a c
  · exact rvalid7_some w l b o c h hin h63
end Go.Proofs.YtmaaacaifpgpaaaGreatDoor
