/- What prop.Set answers of any list; prop.Get; trivetlaw07.long. -/
import Derived.Test.YtlhfdklfkfodkaaDoorQe
namespace Go.Proofs.YtlhfdklfkfodkaaDoor
open Go.RowKit Go.Lib Ieee

def NilOk (v : Value) : Prop := v = .slice none 0 0 ∨ ∃ a n c, v = .slice (some a) n c
theorem OwnP.nilok {w : World} {B : Nat} {v : Value} {l : List Pr} (h : OwnP w B v l) : NilOk v := by
  rcases h.2 with ⟨rfl, _⟩ | ⟨g, cap, cur, rfl, _⟩
  · exact .inl rfl
  · exact .inr ⟨_, _, _, rfl⟩

/-- What Set answers of a list and a property. -/
def SetP (w' : World) (B : Nat) (l : List Pr) (p : Pr) (e : Ending) : Prop :=
  (validL l && canB p) = false ∧ e = .returned (.tuple #[.slice none 0 0, .int .i64 36]) ∨
  validL l = true ∧ canB p = true ∧ ∃ k, AtP l p.name k ∧
    (isAt l p.name k = false ∧ l.length = 16 ∧ e = .returned (.tuple #[.slice none 0 0, .int .i64 34]) ∨
     ¬ (isAt l p.name k = false ∧ l.length = 16) ∧ ∃ v', e = .returned (.tuple #[v', .int .i64 0]) ∧ OwnP w' B v' (putL l p k))

theorem set7 (w : World) (v : Value) (l : List Pr) (p : Pr) (h : RdP w v l) (hn : NilOk v) :
    Calls Tryd.prog 13 #[v, p.v] w fun e w' => SetP w' w.heap.size l p e ∧ Below w.heap.size w w' := by
  cases hv : validL l && canB p with
  | false =>
    refine (set7_bad w v l p h hv).mono ?_
    rintro e w' ⟨rfl, hb⟩
    exact ⟨.inl ⟨hv, rfl⟩, hb⟩
  | true =>
    rw [Bool.and_eq_true] at hv
    obtain ⟨hv, hp⟩ := hv
    by_cases hl : l = []
    · subst hl
      have hI : isAt [] p.name 0 = false := by simp [isAt]
      have hP : putL [] p 0 = [p] := by simp [putL]
      have key : ∀ e w', (∃ v', e = .returned (.tuple #[v', .int .i64 0]) ∧ OwnP w' w.heap.size v' [p] ∧ Below w.heap.size w w') → SetP w' w.heap.size [] p e ∧ Below w.heap.size w w' := by
        rintro e w' ⟨v', rfl, ho, hb⟩
        exact ⟨.inr ⟨hv, hp, 0, nil_at _, .inr ⟨by simp, v', rfl, by rw [hP]; exact ho⟩⟩, hb⟩
      rcases h with ⟨⟨a, c, rfl⟩, _⟩ | ⟨b, o, c, rfl, _, _⟩
      · rcases hn with hn | ⟨a', n, c', hn⟩
        · rw [hn]
          exact (set7_none w p hp).mono key
        · cases hn
          exact (set7_zero w p _ c hp).mono key
      · exact (set7_zero w p _ c hp).mono key
    · obtain ⟨b, o, c, rfl, hc, h⟩ := h.some hl
      refine (set7_some w l p b o c hc h hv hp).mono ?_
      rintro e w' ⟨k, hk, hb, he⟩
      refine ⟨.inr ⟨hv, hp, k, hk, ?_⟩, hb⟩
      by_cases hf : isAt l p.name k = false ∧ l.length = 16
      · rw [if_pos hf] at he
        exact .inl ⟨hf.1, hf.2, he⟩
      · rw [if_neg hf] at he
        exact .inr ⟨hf, he⟩

/-- The first value of a name. -/
def getL (l : List Pr) (nm : ByteArray) : Option Val := (l.find? fun p => p.name.toList == nm.toList).map Pr.val
def zeroV : Val := ⟨0, 0, ⟨#[]⟩, 0⟩
def getT (l : List Pr) (nm : ByteArray) (k : Nat) : Option Val := getL (l.drop k) nm
theorem getT_hit (l : List Pr) (nm : ByteArray) (k : Nat) (h : k < l.length) (e : (l[k].name.toList == nm.toList) = true) : getT l nm k = some l[k].val := by
  unfold getT getL
  rw [List.drop_eq_getElem_cons h, List.find?_cons_of_pos (by simpa using e)]
  rfl
theorem getT_miss (l : List Pr) (nm : ByteArray) (k : Nat) (h : k < l.length) (e : (l[k].name.toList == nm.toList) = false) : getT l nm k = getT l nm (k + 1) := by
  unfold getT getL
  rw [List.drop_eq_getElem_cons h, List.find?_cons_of_neg (by simpa using e)]
theorem getT_end (l : List Pr) (nm : ByteArray) (k : Nat) (h : l.length ≤ k) : getT l nm k = none := by
  unfold getT getL
  rw [List.drop_of_length_le h]
  rfl

theorem below_set {B : Nat} {a w : World} (h : Below B a w) {g : Nat} (C : Array Value) (hg : B ≤ g) : Below B a (w.setRow g C) :=
  ⟨h.os, h.tape, h.output, by rw [show (w.setRow g C).heap.size = w.heap.size by simp [World.setRow]]; exact h.size, fun k hk => by rw [setRow_other w g k C (by omega)]; exact h.block k hk⟩
theorem load24 (w : World) (g : Nat) (x : Val) (h : w.heap[g]? = some (.cells #[.int .i64 x.kind, .int .i64 x.num, .string x.text, .float .f64 x.real] 24 (0, 0))) :
    (loadVar 24 ⟨g, 0, none⟩).run Tryd.prog w = .ok x.v w := by
  have c0 : w.cell? ⟨g, 0, none⟩ = some (.int .i64 x.kind) := by simp [World.cell?, h]
  have c1 : w.cell? ⟨g, 1, none⟩ = some (.int .i64 x.num) := by simp [World.cell?, h]
  have c2 : w.cell? ⟨g, 2, none⟩ = some (.string x.text) := by simp [World.cell?, h]
  have c3 : w.cell? ⟨g, 3, none⟩ = some (.float .f64 x.real) := by simp [World.cell?, h]
  unfold Val.v
  go_simp

set_option maxRecDepth 8000 in
theorem ret_get {W : World} {g : Nat} {x : Val} {b : Bool} {tmps : Array Value} {R : Ending → World → Prop} (h : W.heap[g]? = some (.cells #[.int .i64 x.kind, .int .i64 x.num, .string x.text, .float .f64 x.real] 24 (0, 0)))
    (h4 : tmps.getD 4 undef = .pointer (some ⟨g, 0, none⟩)) (h5 : tmps.getD 5 undef = .bool b) (hR : R (.returned (.tuple #[x.v, .bool b])) W) : bodyPost Tryd.prog Tryd.f12 R .ret { tmps := tmps, defers := [] } W := by
  refine bodyPost_ret (v := .tuple #[x.v, .bool b]) ((results_cell_tmp rfl _ _ _).trans ?_) rfl hR
  have e : (asAddr (.pointer (some ⟨g, 0, none⟩))).run Tryd.prog W = .ok ⟨g, 0, none⟩ W := by go_simp
  show ((asAddr (tmps.getD 4 undef)).run Tryd.prog W).andThen _ = _
  rw [h4, e]
  show ((loadVar 24 ⟨g, 0, none⟩).run Tryd.prog W).andThen _ = _
  rw [load24 W g x h]
  show Result.ok (Value.tuple #[x.v, tmps.getD 5 undef]) W = _
  rw [h5]

set_option maxRecDepth 4000 in
set_option maxHeartbeats 1000000 in
theorem get7_some (w : World) (l : List Pr) (nm : ByteArray) (b o c : Nat) (h : ∀ i (h : i < l.length), PrAt w b (o + i * 5) l[i]) (h16 : l.length ≤ 9223372036854775806) :
    Calls Tryd.prog 12 #[.slice (some ⟨b, o, none⟩) l.length c, .string nm] w fun e w' => e = .returned (.tuple #[((getL l nm).getD zeroV).v, .bool (getL l nm).isSome]) ∧ Below w.heap.size w w' := by
  have H : Hid (∀ i (h : i < l.length), PrAt w b (o + i * 5) l[i]) := h
  have HH : Hid (∀ (k : Nat) (h : k < l.length), (l[k].name.toList == nm.toList) = true → getT l nm k = some l[k].val) := getT_hit l nm
  have HM : Hid (∀ (k : Nat) (h : k < l.length), (l[k].name.toList == nm.toList) = false → getT l nm k = getT l nm (k + 1)) := getT_miss l nm
  have HE : Hid (∀ k, l.length ≤ k → getT l nm k = none) := getT_end l nm
  have H0 : Hid (getL l nm = getT l nm 0) := rfl
  have hb1 : Below w.heap.size w (w.alloc (.cells #[.int .i64 0, .int .i64 0, .string ⟨#[]⟩, .float .f64 0] 24)) := (Below.refl _ w).alloc (Nat.le_refl _) _
  have hq1 : (w.alloc (.cells #[.int .i64 0, .int .i64 0, .string ⟨#[]⟩, .float .f64 0] 24)).heap[w.heap.size]? = some (.cells #[.int .i64 0, .int .i64 0, .string ⟨#[]⟩, .float .f64 0] 24 (0, 0)) := heap_alloc_new w _
  have hs1 : (w.alloc (.cells #[.int .i64 0, .int .i64 0, .string ⟨#[]⟩, .float .f64 0] 24)).heap.size = w.heap.size + 1 := by simp
  clear h
  go_enter Tryd.func12, Tryd.ntmps12
  go_wp2_with fail
  generalize (w.alloc (.cells #[.int .i64 0, .int .i64 0, .string ⟨#[]⟩, .float .f64 0] 24)) = w1 at *
  go_loopw [10] (fun i wr => ∃ k : Nat, k ≤ l.length ∧ i = .int .i64 k ∧ Below (w.heap.size + 1) w1 wr ∧ Hid (getL l nm = getT l nm k)) (fun i _ => l.length - (RowKit.intOf i).toNat)
  case atStart => exact ⟨0, by omega, rfl, Below.refl _ _, H0⟩
  case round =>
    obtain ⟨k, hk, rfl, hbr, hz⟩ := hrel
    have hwr := hbr.size
    have hq : wr.heap[w.heap.size]? = some (.cells #[.int .i64 0, .int .i64 0, .string ⟨#[]⟩, .float .f64 0] 24 (0, 0)) := by rw [hbr.block _ (by omega)]; exact hq1
    have hb0 : Below w.heap.size w wr := hb1.trans (hbr.mono (by omega))
    by_cases hlt : k < l.length
    · obtain ⟨a0, a1, a2, a3, a4⟩ := (H.out k hlt).on hb0
      have hH := HH.out k hlt
      have hM := HM.out k hlt
      obtain ⟨pk, hpk⟩ : ∃ pk, pk = l[k] := ⟨_, rfl⟩
      rw [← hpk] at a0 a1 a2 a3 a4 hH hM
      clear hpk
      cases e : (pk.name.toList == nm.toList) with
      | true =>
        have hr := hH e
        clear hH hM
        have hqA : (wr.alloc (.cells #[.string pk.name, .int .i64 pk.val.kind, .int .i64 pk.val.num, .string pk.val.text, .float .f64 pk.val.real] 33)).heap[w.heap.size]? = some (.cells #[.int .i64 0, .int .i64 0, .string ⟨#[]⟩, .float .f64 0] 24 (0, 0)) := by rw [heap_alloc_old wr _ (by omega)]; exact hq
        go_wp2_with (refine wpList_store_row rfl 24 (.tmp 4) (.tmp 19) rfl w.heap.size _ rfl rfl 24 _ hqA (by kernel_rfl) rfl (by simp [Value.oneCell']) ?_)
        refine ret_get (x := pk.val) (setRow_heap _ _ _ _ _ _ hqA) rfl rfl ?_
        rw [hz.out, hr]
        exact ⟨rfl, below_set (hb0.alloc (by omega) _) _ (Nat.le_refl _)⟩
      | false =>
        have hr := hM e
        have hz2 : Hid (getL l nm = getT l nm (k + 1)) := hz.out.trans hr
        clear hH hM hr
        go_wp2
        go_roundw
        case rel => exact ⟨k + 1, by omega, by go_num, hbr.alloc (by omega) _, hz2⟩
        case measure => simp [RowKit.intOf]; omega
    · have hr := hz.out.trans (HE.out k (by omega))
      go_wp2_with (refine wpList_store_row rfl 24 (.tmp 4) (.tmp 21) rfl w.heap.size _ rfl rfl 24 _ hq (by kernel_rfl) rfl (by simp [Value.oneCell']) ?_)
      refine ret_get (x := zeroV) (setRow_heap _ _ _ _ _ _ hq) rfl rfl ?_
      rw [hr]
      exact ⟨rfl, below_set hb0 _ (Nat.le_refl _)⟩

set_option maxRecDepth 4000 in
theorem get7_nil (w : World) (nm : ByteArray) (a : Option Addr) (c : Nat) :
    Calls Tryd.prog 12 #[.slice a 0 c, .string nm] w fun e w' => e = .returned (.tuple #[zeroV.v, .bool false]) ∧ Below w.heap.size w w' := by
  have hb1 : Below w.heap.size w (w.alloc (.cells #[.int .i64 0, .int .i64 0, .string ⟨#[]⟩, .float .f64 0] 24)) := (Below.refl _ w).alloc (Nat.le_refl _) _
  have hq1 : (w.alloc (.cells #[.int .i64 0, .int .i64 0, .string ⟨#[]⟩, .float .f64 0] 24)).heap[w.heap.size]? = some (.cells #[.int .i64 0, .int .i64 0, .string ⟨#[]⟩, .float .f64 0] 24 (0, 0)) := heap_alloc_new w _
  go_enter Tryd.func12, Tryd.ntmps12
  go_wp2_with fail
  generalize (w.alloc (.cells #[.int .i64 0, .int .i64 0, .string ⟨#[]⟩, .float .f64 0] 24)) = w1 at *
  go_loopw [10] (fun i wr => i = .int .i64 0 ∧ wr = w1) (fun _ _ => 0)
  case atStart => exact ⟨rfl, rfl⟩
  case round =>
    obtain ⟨rfl, hw⟩ := hrel
    subst hw
    go_wp2_with (refine wpList_store_row rfl 24 (.tmp 4) (.tmp 21) rfl w.heap.size _ rfl rfl 24 _ hq1 (by kernel_rfl) rfl (by simp [Value.oneCell']) ?_)
    refine ret_get (x := zeroV) (setRow_heap _ _ _ _ _ _ hq1) rfl rfl ?_
    exact ⟨rfl, below_set hb1 _ (Nat.le_refl _)⟩

theorem get7 (w : World) (v : Value) (l : List Pr) (nm : ByteArray) (h : RdP w v l) (h16 : l.length ≤ 9223372036854775806) :
    Calls Tryd.prog 12 #[v, .string nm] w fun e w' => e = .returned (.tuple #[((getL l nm).getD zeroV).v, .bool (getL l nm).isSome]) ∧ Below w.heap.size w w' := by
  rcases h with ⟨⟨a, c, rfl⟩, rfl⟩ | ⟨b, o, c, rfl, _, h⟩
  · exact get7_nil w nm a c
  · exact get7_some w l nm b o c h h16

set_option maxRecDepth 4000 in
theorem long7_some (w : World) (l : List Pr) (b o c : Nat) (h : ∀ i (h : i < l.length), PrAt w b (o + i * 5) l[i]) (h16 : l.length ≤ 9223372036854775806) :
    Calls Tryd.prog 10 #[.slice (some ⟨b, o, none⟩) l.length c] w fun e w' => (∃ r : Bool, e = .returned (.bool r)) ∧ Below w.heap.size w w' := by
  have H : Hid (∀ i (h : i < l.length), PrAt w b (o + i * 5) l[i]) := h
  clear h
  go_enter Tryd.func10, Tryd.ntmps10
  go_wp2_with fail
  go_loopw [3, 8] (fun s i wr => ∃ (k : Nat) (z : Int), k ≤ l.length ∧ i = .int .i64 k ∧ s = .int .i64 z ∧ Below w.heap.size w wr) (fun _ i _ => l.length - (RowKit.intOf i).toNat)
  case atStart => exact ⟨0, 0, by omega, rfl, rfl, Below.refl _ _⟩
  case round =>
    obtain ⟨k, z, hk, rfl, rfl, hbr⟩ := hrel
    have hwr := hbr.size
    by_cases hlt : k < l.length
    · obtain ⟨a0, a1, a2, a3, a4⟩ := (H.out k hlt).on hbr
      obtain ⟨pk, hpk⟩ : ∃ pk, pk = l[k] := ⟨_, rfl⟩
      rw [← hpk] at a0 a1 a2 a3 a4
      clear hpk
      go_wp2
      · go_ret
        exact ⟨⟨_, rfl⟩, hbr.alloc hwr _⟩
      · go_roundw
        case rel => exact ⟨k + 1, _, by omega, by go_num, rfl, hbr.alloc hwr _⟩
        case measure => simp [RowKit.intOf]; omega
    · go_wp2
      go_ret
      exact ⟨⟨_, rfl⟩, hbr⟩
set_option maxRecDepth 4000 in
theorem long7_nil (w : World) (a : Option Addr) (c : Nat) : Calls Tryd.prog 10 #[.slice a 0 c] w fun e w' => (∃ r : Bool, e = .returned (.bool r)) ∧ Below w.heap.size w w' := by
  go_enter Tryd.func10, Tryd.ntmps10
  go_wp2_with fail
  go_loopw [3, 8] (fun s i wr => i = .int .i64 0 ∧ s = .int .i64 0 ∧ wr = w) (fun _ _ _ => 0)
  case atStart => exact ⟨rfl, rfl, rfl⟩
  case round =>
    obtain ⟨rfl, rfl, rfl⟩ := hrel
    go_wp2
    go_ret
    exact ⟨⟨_, rfl⟩, Below.refl _ _⟩
theorem long7 (w : World) (v : Value) (l : List Pr) (h : RdP w v l) (h16 : l.length ≤ 9223372036854775806) : Calls Tryd.prog 10 #[v] w fun e w' => (∃ r : Bool, e = .returned (.bool r)) ∧ Below w.heap.size w w' := by
  rcases h with ⟨⟨a, c, rfl⟩, rfl⟩ | ⟨b, o, c, rfl, _, h⟩
  · exact long7_nil w a c
  · exact long7_some w l b o c h h16
end Go.Proofs.YtlhfdklfkfodkaaDoor
