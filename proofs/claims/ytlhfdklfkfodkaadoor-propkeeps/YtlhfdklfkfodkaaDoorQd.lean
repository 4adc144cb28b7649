/- What prop.Set answers. -/
import Derived.Test.YtlhfdklfkfodkaaDoorQc
namespace Go.Proofs.YtlhfdklfkfodkaaDoor
open Go.RowKit Go.Lib Ieee
set_option linter.unusedSimpArgs false

set_option maxRecDepth 4000 in
theorem set7_bad (w : World) (v : Value) (l : List Pr) (p : Pr) (h : RdP w v l) (hv : (validL l && canB p) = false) :
    Calls Tryd.prog 13 #[v, p.v] w fun e w' => e = .returned (.tuple #[.slice none 0 0, .int .i64 36]) ∧ Below w.heap.size w w' := by
  have hb1 : Below w.heap.size w (w.alloc (Obj.cells #[Value.string p.name, Value.int IntKind.i64 p.val.kind, Value.int IntKind.i64 p.val.num, Value.string p.val.text, Value.float FloatKind.f64 p.val.real] 33)) := (Below.refl _ w).alloc (Nat.le_refl _) _
  have HV := valid7 (w.alloc (Obj.cells #[Value.string p.name, Value.int IntKind.i64 p.val.kind, Value.int IntKind.i64 p.val.num, Value.string p.val.text, Value.float FloatKind.f64 p.val.real] 33)) v l (h.on ((Below.refl _ w).alloc (Nat.le_refl _) _))
  have HC := fun W : World => canbe7 W p
  have hs1 : (w.alloc (Obj.cells #[Value.string p.name, Value.int IntKind.i64 p.val.kind, Value.int IntKind.i64 p.val.num, Value.string p.val.text, Value.float FloatKind.f64 p.val.real] 33)).heap.size = w.heap.size + 1 := by simp
  have c0 : (w.alloc (Obj.cells #[Value.string p.name, Value.int IntKind.i64 p.val.kind, Value.int IntKind.i64 p.val.num, Value.string p.val.text, Value.float FloatKind.f64 p.val.real] 33)).cell? ⟨w.heap.size, 0, none⟩ = some (.string p.name) := World.cell?_alloc_new ..
  have c1 : (w.alloc (Obj.cells #[Value.string p.name, Value.int IntKind.i64 p.val.kind, Value.int IntKind.i64 p.val.num, Value.string p.val.text, Value.float FloatKind.f64 p.val.real] 33)).cell? ⟨w.heap.size, 1, none⟩ = some (.int .i64 p.val.kind) := World.cell?_alloc_new ..
  have c2 : (w.alloc (Obj.cells #[Value.string p.name, Value.int IntKind.i64 p.val.kind, Value.int IntKind.i64 p.val.num, Value.string p.val.text, Value.float FloatKind.f64 p.val.real] 33)).cell? ⟨w.heap.size, 2, none⟩ = some (.int .i64 p.val.num) := World.cell?_alloc_new ..
  have c3 : (w.alloc (Obj.cells #[Value.string p.name, Value.int IntKind.i64 p.val.kind, Value.int IntKind.i64 p.val.num, Value.string p.val.text, Value.float FloatKind.f64 p.val.real] 33)).cell? ⟨w.heap.size, 3, none⟩ = some (.string p.val.text) := World.cell?_alloc_new ..
  have c4 : (w.alloc (Obj.cells #[Value.string p.name, Value.int IntKind.i64 p.val.kind, Value.int IntKind.i64 p.val.num, Value.string p.val.text, Value.float FloatKind.f64 p.val.real] 33)).cell? ⟨w.heap.size, 4, none⟩ = some (.float .f64 p.val.real) := World.cell?_alloc_new ..
  unfold Pr.v at *
  cases e : validL l with
  | false =>
    rw [e] at HV
    go_enter Tryd.func13, Tryd.ntmps13
    go_wp2_with fail
    refine HV.mono ?_
    rintro e w2 ⟨rfl, hb2⟩
    go_wp2
    go_ret2
    exact ⟨rfl, hb1.trans (hb2.mono (by omega))⟩
  | true =>
    rw [e, Bool.true_and] at hv
    rw [e] at HV
    simp only [hv] at HC
    go_enter Tryd.func13, Tryd.ntmps13
    go_upto_region 1 with fail
    generalize (w.alloc (Obj.cells #[Value.string p.name, Value.int IntKind.i64 p.val.kind, Value.int IntKind.i64 p.val.num, Value.string p.val.text, Value.float FloatKind.f64 p.val.real] 33)) = w1 at *
    go_wp2_with fail
    refine HV.mono ?_
    rintro e w2 ⟨rfl, hb2⟩
    have d0 : w2.cell? ⟨w.heap.size, 0, none⟩ = some (.string p.name) := by rw [hb2.cell (by dsimp only; omega)]; exact c0
    have d1 : w2.cell? ⟨w.heap.size, 1, none⟩ = some (.int .i64 p.val.kind) := by rw [hb2.cell (by dsimp only; omega)]; exact c1
    have d2 : w2.cell? ⟨w.heap.size, 2, none⟩ = some (.int .i64 p.val.num) := by rw [hb2.cell (by dsimp only; omega)]; exact c2
    have d3 : w2.cell? ⟨w.heap.size, 3, none⟩ = some (.string p.val.text) := by rw [hb2.cell (by dsimp only; omega)]; exact c3
    have d4 : w2.cell? ⟨w.heap.size, 4, none⟩ = some (.float .f64 p.val.real) := by rw [hb2.cell (by dsimp only; omega)]; exact c4
    clear c0 c1 c2 c3 c4
    have b2 := hb1.trans (hb2.mono (by omega))
    go_wp2_with fail
    refine (HC _).mono ?_
    rintro e w3 ⟨rfl, hb3⟩
    go_wp2
    go_ret2
    exact ⟨rfl, b2.trans (hb3.mono b2.size)⟩

theorem rd_take {w : World} {b o c : Nat} {l : List Pr} (h : ∀ i (h : i < l.length), PrAt w b (o + i * 5) l[i]) (hc : l.length ≤ c) (k : Nat) (hk : k ≤ l.length) : RdP w (.slice (some ⟨b, o, none⟩) k c) (l.take k) := by
  refine .inr ⟨b, o, c, by rw [List.length_take, Nat.min_eq_left hk], by rw [List.length_take]; omega, fun i hi => ?_⟩
  rw [List.length_take] at hi
  rw [List.getElem_take]
  exact h i (by omega)
theorem rd_drop {w : World} {b o c : Nat} {l : List Pr} (h : ∀ i (h : i < l.length), PrAt w b (o + i * 5) l[i]) (hc : l.length ≤ c) (k : Nat) : RdP w (.slice (if c = k then some ⟨b, o, none⟩ else some ⟨b, o + k * 5, none⟩) (l.length - k) (c - k)) (l.drop k) := by
  by_cases hk : l.length ≤ k
  · refine .inl ⟨⟨_, _, by rw [Nat.sub_eq_zero_of_le hk]⟩, List.drop_of_length_le hk⟩
  · rw [if_neg (by omega)]
    refine .inr ⟨b, o + k * 5, c - k, by rw [List.length_drop], by rw [List.length_drop]; omega, fun i hi => ?_⟩
    rw [List.length_drop] at hi
    rw [List.getElem_drop]
    have := h (k + i) (by omega)
    rw [show o + k * 5 + i * 5 = o + (k + i) * 5 by omega]
    exact this
theorem rd_one (w : World) (p : Pr) : RdP (w.alloc (.cells #[Value.string p.name, Value.int IntKind.i64 p.val.kind, Value.int IntKind.i64 p.val.num, Value.string p.val.text, Value.float FloatKind.f64 p.val.real] 33)) (.slice (some ⟨w.heap.size, 0, none⟩) 1 1) [p] := by
  refine .inr ⟨w.heap.size, 0, 1, rfl, by simp, fun i hi => ?_⟩
  have : i = 0 := by simpa using hi
  subst this
  exact ⟨World.cell?_alloc_new .., World.cell?_alloc_new .., World.cell?_alloc_new .., World.cell?_alloc_new .., World.cell?_alloc_new ..⟩

theorem cat_at (w5 : World) (l : List Pr) (p : Pr) (b o c k en : Nat) (h : ∀ i (h : i < l.length), PrAt w5 b (o + i * 5) l[i]) (hc : l.length ≤ c) (hk : k ≤ en) (hen : en ≤ l.length) (h16 : l.length ≤ 16) :
    Calls Tryd.prog 28 #[.slice (some ⟨w5.heap.size + 1, 0, none⟩) 3 3] ((w5.alloc (Obj.cells #[Value.string p.name, Value.int IntKind.i64 p.val.kind, Value.int IntKind.i64 p.val.num, Value.string p.val.text, Value.float FloatKind.f64 p.val.real] 33)).alloc (Obj.cells #[Value.slice (some ⟨b, o, none⟩) k c, Value.slice (some ⟨w5.heap.size, 0, none⟩) 1 1, Value.slice (if c = en then some ⟨b, o, none⟩ else some ⟨b, o + en * 5, none⟩) (l.length - en) (c - en)] 30)) fun e w' =>
      ∃ v', e = .returned v' ∧ OwnP w' w5.heap.size v' (l.take k ++ [p] ++ l.drop en) ∧ Below w5.heap.size w5 w' := by
  have hb6 : Below w5.heap.size w5 (w5.alloc (Obj.cells #[Value.string p.name, Value.int IntKind.i64 p.val.kind, Value.int IntKind.i64 p.val.num, Value.string p.val.text, Value.float FloatKind.f64 p.val.real] 33)) := (Below.refl _ w5).alloc (Nat.le_refl _) _
  have hs6 : (w5.alloc (Obj.cells #[Value.string p.name, Value.int IntKind.i64 p.val.kind, Value.int IntKind.i64 p.val.num, Value.string p.val.text, Value.float FloatKind.f64 p.val.real] 33)).heap.size = w5.heap.size + 1 := by simp
  have r1 := rd_one w5 p
  have h6 : ∀ i (h : i < l.length), PrAt (w5.alloc (Obj.cells #[Value.string p.name, Value.int IntKind.i64 p.val.kind, Value.int IntKind.i64 p.val.num, Value.string p.val.text, Value.float FloatKind.f64 p.val.real] 33)) b (o + i * 5) l[i] := fun i hi => (h i hi).on hb6
  generalize (w5.alloc (Obj.cells #[Value.string p.name, Value.int IntKind.i64 p.val.kind, Value.int IntKind.i64 p.val.num, Value.string p.val.text, Value.float FloatKind.f64 p.val.real] 33)) = w6 at *
  have hb7 : Below w6.heap.size w6 (w6.alloc (Obj.cells #[Value.slice (some ⟨b, o, none⟩) k c, Value.slice (some ⟨w5.heap.size, 0, none⟩) 1 1, Value.slice (if c = en then some ⟨b, o, none⟩ else some ⟨b, o + en * 5, none⟩) (l.length - en) (c - en)] 30)) := (Below.refl _ w6).alloc (Nat.le_refl _) _
  rw [← hs6]
  refine Calls.mono (concat7 _ w6.heap.size (fun | 0 => some ⟨b, o, none⟩ | 1 => some ⟨w5.heap.size, 0, none⟩ | _ => if c = en then some ⟨b, o, none⟩ else some ⟨b, o + en * 5, none⟩) (fun | 0 => k | 1 => 1 | _ => l.length - en) (fun | 0 => c | 1 => 1 | _ => c - en) (fun | 0 => l.take k | 1 => [p] | _ => l.drop en) ?_ ?_ ?_ ?_ ?_) ?_
  · intro j hj
    rw [World.cell?_alloc_new]
    match j, hj with
    | 0, _ => rfl
    | 1, _ => rfl
    | 2, _ => rfl
  · intro j hj
    match j, hj with
    | 0, _ => exact (rd_take h6 hc k (by omega)).on hb7
    | 1, _ => exact r1.on hb7
    | 2, _ => exact (rd_drop h6 hc en).on hb7
  · intro j hj
    match j, hj with
    | 0, _ => show (l.take k).length = k; rw [List.length_take]; omega
    | 1, _ => rfl
    | 2, _ => show (l.drop en).length = l.length - en; rw [List.length_drop]
  · show 0 < k + 1 + (l.length - en); omega
  · show k + 1 + (l.length - en) ≤ 100; omega
  · rintro e w' ⟨v', rfl, ho, hb⟩
    refine ⟨v', rfl, ho.low (by simp; omega), ?_⟩
    exact hb6.trans ((hb7.trans (hb.mono (by simp))).mono (by omega))

/-- The list with it. -/
def putL (l : List Pr) (p : Pr) (k : Nat) : List Pr := l.take k ++ [p] ++ l.drop (if isAt l p.name k then k + 1 else k)

set_option maxRecDepth 4000 in
set_option maxHeartbeats 2000000 in
theorem set7_some (w : World) (l : List Pr) (p : Pr) (b o c : Nat) (hc : l.length ≤ c) (h : ∀ i (h : i < l.length), PrAt w b (o + i * 5) l[i]) (hv : validL l = true) (hp : canB p = true) :
    Calls Tryd.prog 13 #[.slice (some ⟨b, o, none⟩) l.length c, p.v] w fun e w' => ∃ k, AtP l p.name k ∧ Below w.heap.size w w' ∧
      (if isAt l p.name k = false ∧ l.length = 16 then e = .returned (.tuple #[.slice none 0 0, .int .i64 34]) else ∃ v', e = .returned (.tuple #[v', .int .i64 0]) ∧ OwnP w' w.heap.size v' (putL l p k)) := by
  have h16 : l.length ≤ 16 := by unfold validL at hv; simp only [Bool.and_eq_true, decide_eq_true_eq] at hv; exact hv.1
  have hri : rising l = true := by unfold validL at hv; simp only [Bool.and_eq_true, decide_eq_true_eq] at hv; exact hv.2.2
  have hR : RdP w (.slice (some ⟨b, o, none⟩) l.length c) l := .inr ⟨b, o, c, rfl, hc, h⟩
  have hb1 : Below w.heap.size w (w.alloc (Obj.cells #[Value.string p.name, Value.int IntKind.i64 p.val.kind, Value.int IntKind.i64 p.val.num, Value.string p.val.text, Value.float FloatKind.f64 p.val.real] 33)) := (Below.refl _ w).alloc (Nat.le_refl _) _
  have hR1 := hR.on hb1
  have HV := valid7 (w.alloc (Obj.cells #[Value.string p.name, Value.int IntKind.i64 p.val.kind, Value.int IntKind.i64 p.val.num, Value.string p.val.text, Value.float FloatKind.f64 p.val.real] 33)) _ l hR1
  have HC := fun W : World => canbe7 W p
  have hs1 : (w.alloc (Obj.cells #[Value.string p.name, Value.int IntKind.i64 p.val.kind, Value.int IntKind.i64 p.val.num, Value.string p.val.text, Value.float FloatKind.f64 p.val.real] 33)).heap.size = w.heap.size + 1 := by simp
  have c0 : (w.alloc (Obj.cells #[Value.string p.name, Value.int IntKind.i64 p.val.kind, Value.int IntKind.i64 p.val.num, Value.string p.val.text, Value.float FloatKind.f64 p.val.real] 33)).cell? ⟨w.heap.size, 0, none⟩ = some (.string p.name) := World.cell?_alloc_new ..
  have c1 : (w.alloc (Obj.cells #[Value.string p.name, Value.int IntKind.i64 p.val.kind, Value.int IntKind.i64 p.val.num, Value.string p.val.text, Value.float FloatKind.f64 p.val.real] 33)).cell? ⟨w.heap.size, 1, none⟩ = some (.int .i64 p.val.kind) := World.cell?_alloc_new ..
  have c2 : (w.alloc (Obj.cells #[Value.string p.name, Value.int IntKind.i64 p.val.kind, Value.int IntKind.i64 p.val.num, Value.string p.val.text, Value.float FloatKind.f64 p.val.real] 33)).cell? ⟨w.heap.size, 2, none⟩ = some (.int .i64 p.val.num) := World.cell?_alloc_new ..
  have c3 : (w.alloc (Obj.cells #[Value.string p.name, Value.int IntKind.i64 p.val.kind, Value.int IntKind.i64 p.val.num, Value.string p.val.text, Value.float FloatKind.f64 p.val.real] 33)).cell? ⟨w.heap.size, 3, none⟩ = some (.string p.val.text) := World.cell?_alloc_new ..
  have c4 : (w.alloc (Obj.cells #[Value.string p.name, Value.int IntKind.i64 p.val.kind, Value.int IntKind.i64 p.val.num, Value.string p.val.text, Value.float FloatKind.f64 p.val.real] 33)).cell? ⟨w.heap.size, 4, none⟩ = some (.float .f64 p.val.real) := World.cell?_alloc_new ..
  unfold Pr.v at *
  rw [hv] at HV
  simp only [hp] at HC
  have HR : Hid (RdP w (.slice (some ⟨b, o, none⟩) l.length c) l) := hR
  have HPr : Hid (∀ i (h : i < l.length), PrAt w b (o + i * 5) l[i]) := h
  clear hv hp hR hR1 h
  go_enter Tryd.func13, Tryd.ntmps13
  go_upto_region 1 with fail
  generalize (w.alloc (Obj.cells #[Value.string p.name, Value.int IntKind.i64 p.val.kind, Value.int IntKind.i64 p.val.num, Value.string p.val.text, Value.float FloatKind.f64 p.val.real] 33)) = w1 at *
  go_wp2_with fail
  refine HV.mono ?_
  rintro e w2 ⟨rfl, hb2⟩
  have d0 : w2.cell? ⟨w.heap.size, 0, none⟩ = some (.string p.name) := by rw [hb2.cell (by dsimp only; omega)]; exact c0
  have d1 : w2.cell? ⟨w.heap.size, 1, none⟩ = some (.int .i64 p.val.kind) := by rw [hb2.cell (by dsimp only; omega)]; exact c1
  have d2 : w2.cell? ⟨w.heap.size, 2, none⟩ = some (.int .i64 p.val.num) := by rw [hb2.cell (by dsimp only; omega)]; exact c2
  have d3 : w2.cell? ⟨w.heap.size, 3, none⟩ = some (.string p.val.text) := by rw [hb2.cell (by dsimp only; omega)]; exact c3
  have d4 : w2.cell? ⟨w.heap.size, 4, none⟩ = some (.float .f64 p.val.real) := by rw [hb2.cell (by dsimp only; omega)]; exact c4
  clear c0 c1 c2 c3 c4
  have b2 := hb1.trans (hb2.mono (by omega))
  have s2 : w.heap.size < w2.heap.size := by have := hb2.size; omega
  go_wp2_with fail
  refine (HC _).mono ?_
  rintro e w3 ⟨rfl, hb3⟩
  have c0 : w3.cell? ⟨w.heap.size, 0, none⟩ = some (.string p.name) := by rw [hb3.cell (by dsimp only; omega)]; exact d0
  have c1 : w3.cell? ⟨w.heap.size, 1, none⟩ = some (.int .i64 p.val.kind) := by rw [hb3.cell (by dsimp only; omega)]; exact d1
  have c2 : w3.cell? ⟨w.heap.size, 2, none⟩ = some (.int .i64 p.val.num) := by rw [hb3.cell (by dsimp only; omega)]; exact d2
  have c3 : w3.cell? ⟨w.heap.size, 3, none⟩ = some (.string p.val.text) := by rw [hb3.cell (by dsimp only; omega)]; exact d3
  have c4 : w3.cell? ⟨w.heap.size, 4, none⟩ = some (.float .f64 p.val.real) := by rw [hb3.cell (by dsimp only; omega)]; exact d4
  clear d0 d1 d2 d3 d4
  have b3 := b2.trans (hb3.mono b2.size)
  have s3 : w.heap.size < w3.heap.size := by have := hb3.size; omega
  go_wp2_with fail
  refine (place7 w3 _ l p.name h16 (HR.out.on b3) hri).mono ?_
  rintro e w4 ⟨k, hk, rfl, hb4⟩
  have d0 : w4.cell? ⟨w.heap.size, 0, none⟩ = some (.string p.name) := by rw [hb4.cell (by dsimp only; omega)]; exact c0
  have d1 : w4.cell? ⟨w.heap.size, 1, none⟩ = some (.int .i64 p.val.kind) := by rw [hb4.cell (by dsimp only; omega)]; exact c1
  have d2 : w4.cell? ⟨w.heap.size, 2, none⟩ = some (.int .i64 p.val.num) := by rw [hb4.cell (by dsimp only; omega)]; exact c2
  have d3 : w4.cell? ⟨w.heap.size, 3, none⟩ = some (.string p.val.text) := by rw [hb4.cell (by dsimp only; omega)]; exact c3
  have d4 : w4.cell? ⟨w.heap.size, 4, none⟩ = some (.float .f64 p.val.real) := by rw [hb4.cell (by dsimp only; omega)]; exact c4
  clear c0 c1 c2 c3 c4 HV HC
  have b4 := b3.trans (hb4.mono b3.size)
  have s4 : w.heap.size < w4.heap.size := by have := hb4.size; omega
  have hkl : k ≤ l.length := hk.1
  have HK : Hid (AtP l p.name k) := hk
  clear hk hri hb1 hb2 hb3 hb4 b2 b3 s2 s3 hs1
  obtain ⟨en, hen, hen2, hen3⟩ : ∃ en : Nat, (if isAt l p.name k then k + 1 else k) = en ∧ k ≤ en ∧ en ≤ l.length := by
    refine ⟨_, rfl, ?_, ?_⟩
    · split <;> omega
    · split
      · rename_i h
        obtain ⟨h2, _⟩ := of_decide_eq_true h
        omega
      · omega
  have hee : isAt l p.name k = false ↔ en = k := by
    rw [← hen]; cases isAt l p.name k <;> simp
  rw [hen]
  by_cases hfull : en = k ∧ l.length = 16
  · obtain ⟨e1, e2⟩ := hfull
    have hI : isAt l p.name k = false ∧ l.length = 16 := ⟨hee.2 e1, e2⟩
    have HI : Hid (isAt l p.name k = false ∧ l.length = 16) := hI
    subst e1
    clear hI hee hen
    have e3 : (l.length : Int) = 16 := by omega
    go_wp2
    go_ret2
    exact ⟨en, HK.out, b4, by rw [if_pos HI.out]; rfl⟩
  · have HI : Hid (¬ (isAt l p.name k = false ∧ l.length = 16)) := fun h => hfull ⟨hee.1 h.1, h.2⟩
    have HP : Hid (putL l p k = l.take k ++ [p] ++ l.drop en) := by show putL l p k = _; unfold putL; rw [hen]
    clear hen hee
    by_cases e1 : en = k
    · have e2 : (l.length : Int) ≠ 16 := by intro e2; exact hfull ⟨e1, by omega⟩
      clear hfull
      subst e1
      go_upto_region 6 with fail
      refine wp_region_held (S := fun W => W.cell? ⟨w.heap.size, 0, none⟩ = some (.string p.name) ∧ W.cell? ⟨w.heap.size, 1, none⟩ = some (.int .i64 p.val.kind) ∧ W.cell? ⟨w.heap.size, 2, none⟩ = some (.int .i64 p.val.num) ∧ W.cell? ⟨w.heap.size, 3, none⟩ = some (.string p.val.text) ∧ W.cell? ⟨w.heap.size, 4, none⟩ = some (.float .f64 p.val.real)) hmix ?_
      show wpAnyH _ _ _ _ _ _ _ _ w4.drew
      have hS : (fun W : World => W.cell? ⟨w.heap.size, 0, none⟩ = some (.string p.name) ∧ W.cell? ⟨w.heap.size, 1, none⟩ = some (.int .i64 p.val.kind) ∧ W.cell? ⟨w.heap.size, 2, none⟩ = some (.int .i64 p.val.num) ∧ W.cell? ⟨w.heap.size, 3, none⟩ = some (.string p.val.text) ∧ W.cell? ⟨w.heap.size, 4, none⟩ = some (.float .f64 p.val.real)) w4.drew := ⟨d0, d1, d2, d3, d4⟩
      have b5 : Below w.heap.size w w4.drew := b4.drew
      have s5 : w.heap.size < w4.drew.heap.size := s4
      clear d0 d1 d2 d3 d4 b4 s4
      generalize w4.drew = w5 at *
      refine wpAnyH_take (i := 0) (v := .slice (some ⟨b, o, none⟩) l.length c) rfl (by kernel_rfl) (by kernel_rfl) (by kernel_rfl) (fun _ _ _ h => h) (.inl ⟨by rfl, fun W' hW' => ?_⟩) hS ?_
      · go_simp
      simp only [Act.put, List.getElem_toArray, List.getElem_cons_succ, List.getElem_cons_zero, List.setIfInBounds_toArray, List.set_cons_succ, List.set_cons_zero]
      refine wpAnyH_take (i := 1) (v := .int .i64 en) rfl (by kernel_rfl) (by kernel_rfl) (by kernel_rfl) (fun _ _ _ h => h) (.inl ⟨by rfl, fun W' hW' => ?_⟩) hS ?_
      · go_simp
      simp only [Act.put, List.getElem_toArray, List.getElem_cons_succ, List.getElem_cons_zero, List.setIfInBounds_toArray, List.set_cons_succ, List.set_cons_zero]
      refine wpAnyH_take (i := 2) (v := .slice (some ⟨b, o, none⟩) en c) rfl (by kernel_rfl) (by kernel_rfl) (by kernel_rfl) (fun _ _ _ h => h) (.inl ⟨by rfl, fun W' hW' => ?_⟩) hS ?_
      · go_simp
        intro hh; omega
      simp only [Act.put, List.getElem_toArray, List.getElem_cons_succ, List.getElem_cons_zero, List.setIfInBounds_toArray, List.set_cons_succ, List.set_cons_zero]
      refine wpAnyH_take (i := 3) (v := .agg #[Value.string p.name, Value.int IntKind.i64 p.val.kind, Value.int IntKind.i64 p.val.num, Value.string p.val.text, Value.float FloatKind.f64 p.val.real]) rfl (by kernel_rfl) (by kernel_rfl) (by kernel_rfl) (fun _ _ _ h => h) (.inl ⟨by rfl, fun W' hW' => ?_⟩) hS ?_
      · obtain ⟨d0, d1, d2, d3, d4⟩ := hW'
        go_simp
      simp only [Act.put, List.getElem_toArray, List.getElem_cons_succ, List.getElem_cons_zero, List.setIfInBounds_toArray, List.set_cons_succ, List.set_cons_zero]
      refine wpAnyH_take (i := 5) (v := .slice (some ⟨b, o, none⟩) l.length c) rfl (by kernel_rfl) (by kernel_rfl) (by kernel_rfl) (fun _ _ _ h => h) (.inl ⟨by rfl, fun W' hW' => ?_⟩) hS ?_
      · go_simp
      simp only [Act.put, List.getElem_toArray, List.getElem_cons_succ, List.getElem_cons_zero, List.setIfInBounds_toArray, List.set_cons_succ, List.set_cons_zero]
      refine wpAnyH_take (i := 6) (v := .int .i64 en) rfl (by kernel_rfl) (by kernel_rfl) (by kernel_rfl) (fun _ _ _ h => h) (.inl ⟨by rfl, fun W' hW' => ?_⟩) hS ?_
      · go_simp
      simp only [Act.put, List.getElem_toArray, List.getElem_cons_succ, List.getElem_cons_zero, List.setIfInBounds_toArray, List.set_cons_succ, List.set_cons_zero]
      refine wpAnyH_take (i := 7) (v := .slice (if c = en then some ⟨b, o, none⟩ else some ⟨b, o + en * 5, none⟩) (l.length - en) (c - en)) rfl (by kernel_rfl) (by kernel_rfl) (by kernel_rfl) (fun _ _ _ h => h) (.inl ⟨by rfl, fun W' hW' => ?_⟩) hS ?_
      · go_simp
      simp only [Act.put, List.getElem_toArray, List.getElem_cons_succ, List.getElem_cons_zero, List.setIfInBounds_toArray, List.set_cons_succ, List.set_cons_zero]
      refine wpAnyH_one (i := 4) (by kernel_rfl) rfl (by rfl) (fun K hK => ?_)
      go_simp
      have hS6 : (fun W : World => W.cell? ⟨w.heap.size, 0, none⟩ = some (.string p.name) ∧ W.cell? ⟨w.heap.size, 1, none⟩ = some (.int .i64 p.val.kind) ∧ W.cell? ⟨w.heap.size, 2, none⟩ = some (.int .i64 p.val.num) ∧ W.cell? ⟨w.heap.size, 3, none⟩ = some (.string p.val.text) ∧ W.cell? ⟨w.heap.size, 4, none⟩ = some (.float .f64 p.val.real)) (w5.alloc (Obj.cells #[Value.string p.name, Value.int IntKind.i64 p.val.kind, Value.int IntKind.i64 p.val.num, Value.string p.val.text, Value.float FloatKind.f64 p.val.real] 33)) := by
        obtain ⟨d0, d1, d2, d3, d4⟩ := hS
        have hbA : Below w5.heap.size w5 (w5.alloc (Obj.cells #[Value.string p.name, Value.int IntKind.i64 p.val.kind, Value.int IntKind.i64 p.val.num, Value.string p.val.text, Value.float FloatKind.f64 p.val.real] 33)) := (Below.refl _ w5).alloc (Nat.le_refl _) _
        refine ⟨?_, ?_, ?_, ?_, ?_⟩ <;> (rw [hbA.cell (by dsimp only; omega)]; assumption)
      refine hK _ _ hS6 ?_
      clear hK K
      refine wpAnyH_one (i := 8) (by kernel_rfl) rfl (by rfl) (fun K hK => ?_)
      go_simp
      have hs6 : (w5.alloc (Obj.cells #[Value.string p.name, Value.int IntKind.i64 p.val.kind, Value.int IntKind.i64 p.val.num, Value.string p.val.text, Value.float FloatKind.f64 p.val.real] 33)).heap.size = w5.heap.size + 1 := by simp
      have hS7 : (fun W : World => W.cell? ⟨w.heap.size, 0, none⟩ = some (.string p.name) ∧ W.cell? ⟨w.heap.size, 1, none⟩ = some (.int .i64 p.val.kind) ∧ W.cell? ⟨w.heap.size, 2, none⟩ = some (.int .i64 p.val.num) ∧ W.cell? ⟨w.heap.size, 3, none⟩ = some (.string p.val.text) ∧ W.cell? ⟨w.heap.size, 4, none⟩ = some (.float .f64 p.val.real)) ((w5.alloc (Obj.cells #[Value.string p.name, Value.int IntKind.i64 p.val.kind, Value.int IntKind.i64 p.val.num, Value.string p.val.text, Value.float FloatKind.f64 p.val.real] 33)).alloc (Obj.cells #[Value.slice (some ⟨b, o, none⟩) en c, Value.slice (some ⟨w5.heap.size, 0, none⟩) 1 1, Value.slice (if c = en then some ⟨b, o, none⟩ else some ⟨b, o + en * 5, none⟩) (l.length - en) (c - en)] 30)) := by
        obtain ⟨d0, d1, d2, d3, d4⟩ := hS6
        have hbA : Below (w5.alloc (Obj.cells #[Value.string p.name, Value.int IntKind.i64 p.val.kind, Value.int IntKind.i64 p.val.num, Value.string p.val.text, Value.float FloatKind.f64 p.val.real] 33)).heap.size (w5.alloc (Obj.cells #[Value.string p.name, Value.int IntKind.i64 p.val.kind, Value.int IntKind.i64 p.val.num, Value.string p.val.text, Value.float FloatKind.f64 p.val.real] 33)) ((w5.alloc (Obj.cells #[Value.string p.name, Value.int IntKind.i64 p.val.kind, Value.int IntKind.i64 p.val.num, Value.string p.val.text, Value.float FloatKind.f64 p.val.real] 33)).alloc (Obj.cells #[Value.slice (some ⟨b, o, none⟩) en c, Value.slice (some ⟨w5.heap.size, 0, none⟩) 1 1, Value.slice (if c = en then some ⟨b, o, none⟩ else some ⟨b, o + en * 5, none⟩) (l.length - en) (c - en)] 30)) := (Below.refl _ (w5.alloc (Obj.cells #[Value.string p.name, Value.int IntKind.i64 p.val.kind, Value.int IntKind.i64 p.val.num, Value.string p.val.text, Value.float FloatKind.f64 p.val.real] 33))).alloc (Nat.le_refl _) _
        refine ⟨?_, ?_, ?_, ?_, ?_⟩ <;> (rw [hbA.cell (by dsimp only; omega)]; assumption)
      refine hK _ _ hS7 ?_
      clear hK K
      refine wpAnyH_one (i := 9) (by kernel_rfl) rfl (by rfl) (fun K hK => ?_)
      go_simp
      have hPr : ∀ i (h : i < l.length), PrAt w5 b (o + i * 5) l[i] := fun i hi => (HPr.out i hi).on b5
      refine (cat_at w5 l p b o c en en hPr hc (by omega) (by omega) h16).mono ?_
      rintro e w8 ⟨v8, rfl, ho8, hb8⟩
      have hS8 : (fun W : World => W.cell? ⟨w.heap.size, 0, none⟩ = some (.string p.name) ∧ W.cell? ⟨w.heap.size, 1, none⟩ = some (.int .i64 p.val.kind) ∧ W.cell? ⟨w.heap.size, 2, none⟩ = some (.int .i64 p.val.num) ∧ W.cell? ⟨w.heap.size, 3, none⟩ = some (.string p.val.text) ∧ W.cell? ⟨w.heap.size, 4, none⟩ = some (.float .f64 p.val.real)) w8 := by
        obtain ⟨d0, d1, d2, d3, d4⟩ := hS
        refine ⟨?_, ?_, ?_, ?_, ?_⟩ <;> (rw [hb8.cell (by dsimp only; omega)]; assumption)
      show K _ _
      refine hK _ _ hS8 ?_
      clear hK K
      refine wpAnyH_take (i := 10) (v := v8) rfl (by kernel_rfl) (by kernel_rfl) (by kernel_rfl) (fun _ _ _ h => h) (.inl ⟨by rfl, fun W' hW' => ?_⟩) hS8 ?_
      · go_simp
      simp only [Act.put, List.getElem_toArray, List.getElem_cons_succ, List.getElem_cons_zero, List.setIfInBounds_toArray, List.set_cons_succ, List.set_cons_zero]
      refine wpAnyH_take (i := 11) (v := .int .i64 0) rfl (by kernel_rfl) (by kernel_rfl) (by kernel_rfl) (fun _ _ _ h => h) (.inl ⟨by rfl, fun W' hW' => ?_⟩) hS8 ?_
      · go_simp
      simp only [Act.put, List.getElem_toArray, List.getElem_cons_succ, List.getElem_cons_zero, List.setIfInBounds_toArray, List.set_cons_succ, List.set_cons_zero]
      refine wpAnyH_done (by kernel_rfl) ?_ _
      have ho9 := ho8.low (Nat.le_of_lt s5)
      rw [← HP.out] at ho9
      go_wp2
      all_goals go_ret2
      all_goals exact ⟨en, HK.out, b5.trans (hb8.mono (Nat.le_of_lt s5)), by rw [if_neg HI.out]; exact ⟨v8, rfl, ho9⟩⟩

    · have e2 : (k : Int) ≠ (en : Int) := by omega
      clear hfull
      go_upto_region 6 with fail
      refine wp_region_held (S := fun W => W.cell? ⟨w.heap.size, 0, none⟩ = some (.string p.name) ∧ W.cell? ⟨w.heap.size, 1, none⟩ = some (.int .i64 p.val.kind) ∧ W.cell? ⟨w.heap.size, 2, none⟩ = some (.int .i64 p.val.num) ∧ W.cell? ⟨w.heap.size, 3, none⟩ = some (.string p.val.text) ∧ W.cell? ⟨w.heap.size, 4, none⟩ = some (.float .f64 p.val.real)) hmix ?_
      show wpAnyH _ _ _ _ _ _ _ _ w4.drew
      have hS : (fun W : World => W.cell? ⟨w.heap.size, 0, none⟩ = some (.string p.name) ∧ W.cell? ⟨w.heap.size, 1, none⟩ = some (.int .i64 p.val.kind) ∧ W.cell? ⟨w.heap.size, 2, none⟩ = some (.int .i64 p.val.num) ∧ W.cell? ⟨w.heap.size, 3, none⟩ = some (.string p.val.text) ∧ W.cell? ⟨w.heap.size, 4, none⟩ = some (.float .f64 p.val.real)) w4.drew := ⟨d0, d1, d2, d3, d4⟩
      have b5 : Below w.heap.size w w4.drew := b4.drew
      have s5 : w.heap.size < w4.drew.heap.size := s4
      clear d0 d1 d2 d3 d4 b4 s4
      generalize w4.drew = w5 at *
      refine wpAnyH_take (i := 0) (v := .slice (some ⟨b, o, none⟩) l.length c) rfl (by kernel_rfl) (by kernel_rfl) (by kernel_rfl) (fun _ _ _ h => h) (.inl ⟨by rfl, fun W' hW' => ?_⟩) hS ?_
      · go_simp
      simp only [Act.put, List.getElem_toArray, List.getElem_cons_succ, List.getElem_cons_zero, List.setIfInBounds_toArray, List.set_cons_succ, List.set_cons_zero]
      refine wpAnyH_take (i := 1) (v := .int .i64 k) rfl (by kernel_rfl) (by kernel_rfl) (by kernel_rfl) (fun _ _ _ h => h) (.inl ⟨by rfl, fun W' hW' => ?_⟩) hS ?_
      · go_simp
      simp only [Act.put, List.getElem_toArray, List.getElem_cons_succ, List.getElem_cons_zero, List.setIfInBounds_toArray, List.set_cons_succ, List.set_cons_zero]
      refine wpAnyH_take (i := 2) (v := .slice (some ⟨b, o, none⟩) k c) rfl (by kernel_rfl) (by kernel_rfl) (by kernel_rfl) (fun _ _ _ h => h) (.inl ⟨by rfl, fun W' hW' => ?_⟩) hS ?_
      · go_simp
        intro hh; omega
      simp only [Act.put, List.getElem_toArray, List.getElem_cons_succ, List.getElem_cons_zero, List.setIfInBounds_toArray, List.set_cons_succ, List.set_cons_zero]
      refine wpAnyH_take (i := 3) (v := .agg #[Value.string p.name, Value.int IntKind.i64 p.val.kind, Value.int IntKind.i64 p.val.num, Value.string p.val.text, Value.float FloatKind.f64 p.val.real]) rfl (by kernel_rfl) (by kernel_rfl) (by kernel_rfl) (fun _ _ _ h => h) (.inl ⟨by rfl, fun W' hW' => ?_⟩) hS ?_
      · obtain ⟨d0, d1, d2, d3, d4⟩ := hW'
        go_simp
      simp only [Act.put, List.getElem_toArray, List.getElem_cons_succ, List.getElem_cons_zero, List.setIfInBounds_toArray, List.set_cons_succ, List.set_cons_zero]
      refine wpAnyH_take (i := 5) (v := .slice (some ⟨b, o, none⟩) l.length c) rfl (by kernel_rfl) (by kernel_rfl) (by kernel_rfl) (fun _ _ _ h => h) (.inl ⟨by rfl, fun W' hW' => ?_⟩) hS ?_
      · go_simp
      simp only [Act.put, List.getElem_toArray, List.getElem_cons_succ, List.getElem_cons_zero, List.setIfInBounds_toArray, List.set_cons_succ, List.set_cons_zero]
      refine wpAnyH_take (i := 6) (v := .int .i64 en) rfl (by kernel_rfl) (by kernel_rfl) (by kernel_rfl) (fun _ _ _ h => h) (.inl ⟨by rfl, fun W' hW' => ?_⟩) hS ?_
      · go_simp
      simp only [Act.put, List.getElem_toArray, List.getElem_cons_succ, List.getElem_cons_zero, List.setIfInBounds_toArray, List.set_cons_succ, List.set_cons_zero]
      refine wpAnyH_take (i := 7) (v := .slice (if c = en then some ⟨b, o, none⟩ else some ⟨b, o + en * 5, none⟩) (l.length - en) (c - en)) rfl (by kernel_rfl) (by kernel_rfl) (by kernel_rfl) (fun _ _ _ h => h) (.inl ⟨by rfl, fun W' hW' => ?_⟩) hS ?_
      · go_simp
      simp only [Act.put, List.getElem_toArray, List.getElem_cons_succ, List.getElem_cons_zero, List.setIfInBounds_toArray, List.set_cons_succ, List.set_cons_zero]
      refine wpAnyH_one (i := 4) (by kernel_rfl) rfl (by rfl) (fun K hK => ?_)
      go_simp
      have hS6 : (fun W : World => W.cell? ⟨w.heap.size, 0, none⟩ = some (.string p.name) ∧ W.cell? ⟨w.heap.size, 1, none⟩ = some (.int .i64 p.val.kind) ∧ W.cell? ⟨w.heap.size, 2, none⟩ = some (.int .i64 p.val.num) ∧ W.cell? ⟨w.heap.size, 3, none⟩ = some (.string p.val.text) ∧ W.cell? ⟨w.heap.size, 4, none⟩ = some (.float .f64 p.val.real)) (w5.alloc (Obj.cells #[Value.string p.name, Value.int IntKind.i64 p.val.kind, Value.int IntKind.i64 p.val.num, Value.string p.val.text, Value.float FloatKind.f64 p.val.real] 33)) := by
        obtain ⟨d0, d1, d2, d3, d4⟩ := hS
        have hbA : Below w5.heap.size w5 (w5.alloc (Obj.cells #[Value.string p.name, Value.int IntKind.i64 p.val.kind, Value.int IntKind.i64 p.val.num, Value.string p.val.text, Value.float FloatKind.f64 p.val.real] 33)) := (Below.refl _ w5).alloc (Nat.le_refl _) _
        refine ⟨?_, ?_, ?_, ?_, ?_⟩ <;> (rw [hbA.cell (by dsimp only; omega)]; assumption)
      refine hK _ _ hS6 ?_
      clear hK K
      refine wpAnyH_one (i := 8) (by kernel_rfl) rfl (by rfl) (fun K hK => ?_)
      go_simp
      have hs6 : (w5.alloc (Obj.cells #[Value.string p.name, Value.int IntKind.i64 p.val.kind, Value.int IntKind.i64 p.val.num, Value.string p.val.text, Value.float FloatKind.f64 p.val.real] 33)).heap.size = w5.heap.size + 1 := by simp
      have hS7 : (fun W : World => W.cell? ⟨w.heap.size, 0, none⟩ = some (.string p.name) ∧ W.cell? ⟨w.heap.size, 1, none⟩ = some (.int .i64 p.val.kind) ∧ W.cell? ⟨w.heap.size, 2, none⟩ = some (.int .i64 p.val.num) ∧ W.cell? ⟨w.heap.size, 3, none⟩ = some (.string p.val.text) ∧ W.cell? ⟨w.heap.size, 4, none⟩ = some (.float .f64 p.val.real)) ((w5.alloc (Obj.cells #[Value.string p.name, Value.int IntKind.i64 p.val.kind, Value.int IntKind.i64 p.val.num, Value.string p.val.text, Value.float FloatKind.f64 p.val.real] 33)).alloc (Obj.cells #[Value.slice (some ⟨b, o, none⟩) k c, Value.slice (some ⟨w5.heap.size, 0, none⟩) 1 1, Value.slice (if c = en then some ⟨b, o, none⟩ else some ⟨b, o + en * 5, none⟩) (l.length - en) (c - en)] 30)) := by
        obtain ⟨d0, d1, d2, d3, d4⟩ := hS6
        have hbA : Below (w5.alloc (Obj.cells #[Value.string p.name, Value.int IntKind.i64 p.val.kind, Value.int IntKind.i64 p.val.num, Value.string p.val.text, Value.float FloatKind.f64 p.val.real] 33)).heap.size (w5.alloc (Obj.cells #[Value.string p.name, Value.int IntKind.i64 p.val.kind, Value.int IntKind.i64 p.val.num, Value.string p.val.text, Value.float FloatKind.f64 p.val.real] 33)) ((w5.alloc (Obj.cells #[Value.string p.name, Value.int IntKind.i64 p.val.kind, Value.int IntKind.i64 p.val.num, Value.string p.val.text, Value.float FloatKind.f64 p.val.real] 33)).alloc (Obj.cells #[Value.slice (some ⟨b, o, none⟩) k c, Value.slice (some ⟨w5.heap.size, 0, none⟩) 1 1, Value.slice (if c = en then some ⟨b, o, none⟩ else some ⟨b, o + en * 5, none⟩) (l.length - en) (c - en)] 30)) := (Below.refl _ (w5.alloc (Obj.cells #[Value.string p.name, Value.int IntKind.i64 p.val.kind, Value.int IntKind.i64 p.val.num, Value.string p.val.text, Value.float FloatKind.f64 p.val.real] 33))).alloc (Nat.le_refl _) _
        refine ⟨?_, ?_, ?_, ?_, ?_⟩ <;> (rw [hbA.cell (by dsimp only; omega)]; assumption)
      refine hK _ _ hS7 ?_
      clear hK K
      refine wpAnyH_one (i := 9) (by kernel_rfl) rfl (by rfl) (fun K hK => ?_)
      go_simp
      have hPr : ∀ i (h : i < l.length), PrAt w5 b (o + i * 5) l[i] := fun i hi => (HPr.out i hi).on b5
      refine (cat_at w5 l p b o c k en hPr hc (by omega) (by omega) h16).mono ?_
      rintro e w8 ⟨v8, rfl, ho8, hb8⟩
      have hS8 : (fun W : World => W.cell? ⟨w.heap.size, 0, none⟩ = some (.string p.name) ∧ W.cell? ⟨w.heap.size, 1, none⟩ = some (.int .i64 p.val.kind) ∧ W.cell? ⟨w.heap.size, 2, none⟩ = some (.int .i64 p.val.num) ∧ W.cell? ⟨w.heap.size, 3, none⟩ = some (.string p.val.text) ∧ W.cell? ⟨w.heap.size, 4, none⟩ = some (.float .f64 p.val.real)) w8 := by
        obtain ⟨d0, d1, d2, d3, d4⟩ := hS
        refine ⟨?_, ?_, ?_, ?_, ?_⟩ <;> (rw [hb8.cell (by dsimp only; omega)]; assumption)
      show K _ _
      refine hK _ _ hS8 ?_
      clear hK K
      refine wpAnyH_take (i := 10) (v := v8) rfl (by kernel_rfl) (by kernel_rfl) (by kernel_rfl) (fun _ _ _ h => h) (.inl ⟨by rfl, fun W' hW' => ?_⟩) hS8 ?_
      · go_simp
      simp only [Act.put, List.getElem_toArray, List.getElem_cons_succ, List.getElem_cons_zero, List.setIfInBounds_toArray, List.set_cons_succ, List.set_cons_zero]
      refine wpAnyH_take (i := 11) (v := .int .i64 0) rfl (by kernel_rfl) (by kernel_rfl) (by kernel_rfl) (fun _ _ _ h => h) (.inl ⟨by rfl, fun W' hW' => ?_⟩) hS8 ?_
      · go_simp
      simp only [Act.put, List.getElem_toArray, List.getElem_cons_succ, List.getElem_cons_zero, List.setIfInBounds_toArray, List.set_cons_succ, List.set_cons_zero]
      refine wpAnyH_done (by kernel_rfl) ?_ _
      have ho9 := ho8.low (Nat.le_of_lt s5)
      rw [← HP.out] at ho9
      go_wp2
      all_goals go_ret2
      all_goals exact ⟨k, HK.out, b5.trans (hb8.mono (Nat.le_of_lt s5)), by rw [if_neg HI.out]; exact ⟨v8, rfl, ho9⟩⟩


set_option maxRecDepth 4000 in
theorem nil_at (nm : ByteArray) : AtP [] nm 0 := ⟨by simp, fun j h => by simp at h, fun j h => by simp at h⟩
theorem RdP.some {w : World} {v : Value} {l : List Pr} (h : RdP w v l) (h0 : l ≠ []) : ∃ (b o c : Nat), v = .slice (some ⟨b, o, none⟩) l.length c ∧ l.length ≤ c ∧ ∀ i (h : i < l.length), PrAt w b (o + i * 5) l[i] := by
  rcases h with ⟨_, h⟩ | h
  · exact absurd h h0
  · exact h
end Go.Proofs.YtlhfdklfkfodkaaDoor
