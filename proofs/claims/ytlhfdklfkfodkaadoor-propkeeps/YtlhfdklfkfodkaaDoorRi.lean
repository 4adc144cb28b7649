/- Whatever list and property, trivetlaw07.PropKeeps answers true, where the library's table of powers of ten reads as it was laid. -/
import Derived.Test.YtlhfdklfkfodkaaDoorRh
namespace Go.Proofs.YtlhfdklfkfodkaaDoor
open Go.RowKit Go.Lib Ieee
set_option linter.unusedSimpArgs false

theorem RdP.drew {w : World} {v : Value} {l : List Pr} (h : RdP w v l) : RdP w.drew v l := h
def spareP : Pr := ⟨⟨#[115, 112, 97, 114, 101]⟩, zeroV⟩
/-- The property in its box. -/
def BoxP (q : Nat) (p : Pr) (W : World) : Prop := W.cell? ⟨q, 0, none⟩ = some (.string p.name) ∧ W.cell? ⟨q, 1, none⟩ = some (.int .i64 p.val.kind) ∧ W.cell? ⟨q, 2, none⟩ = some (.int .i64 p.val.num) ∧ W.cell? ⟨q, 3, none⟩ = some (.string p.val.text) ∧ W.cell? ⟨q, 4, none⟩ = some (.float .f64 p.val.real)
theorem BoxP.on {q : Nat} {p : Pr} {W W' : World} (h : BoxP q p W) (hb : Below W.heap.size W W') : BoxP q p W' := by
  obtain ⟨c0, c1, c2, c3, c4⟩ := h
  exact ⟨box_on c0 hb, box_on c1 hb, box_on c2 hb, box_on c3 hb, box_on c4 hb⟩
theorem BoxP.out {q : Nat} {p : Pr} {W : World} (h : BoxP q p W) : W.cell? ⟨q, 0, none⟩ = some (.string p.name) ∧ W.cell? ⟨q, 1, none⟩ = some (.int .i64 p.val.kind) ∧ W.cell? ⟨q, 2, none⟩ = some (.int .i64 p.val.num) ∧ W.cell? ⟨q, 3, none⟩ = some (.string p.val.text) ∧ W.cell? ⟨q, 4, none⟩ = some (.float .f64 p.val.real) := h
/-- Nothing has turned but in one block, which stays a row. -/
def FrA (ga capa : Nat) (u v : World) : Prop := v.os = u.os ∧ v.tape = u.tape ∧ v.output = u.output ∧ v.heap.size = u.heap.size ∧ (∀ j, j ≠ ga → v.heap[j]? = u.heap[j]?) ∧ ∃ cur, v.heap[ga]? = some (.cells cur 33 (0, 0)) ∧ cur.size = capa * 5
theorem FrA.set {ga capa : Nat} {u v : World} (h : FrA ga capa u v) (cur : Array Value) (hc : cur.size = capa * 5) : FrA ga capa u (v.setRow ga cur) := by
  obtain ⟨h1, h2, h3, h4, h5, c, h6, h7⟩ := h
  refine ⟨h1, h2, h3, ?_, fun j hj => ?_, cur, setRow_heap _ _ _ _ _ _ h6, hc⟩
  · rw [show (v.setRow ga cur).heap.size = v.heap.size by simp [World.setRow]]; exact h4
  · rw [setRow_other v ga j cur hj]; exact h5 j hj
theorem FrA.below {ga capa B : Nat} {w u v : World} (h : FrA ga capa u v) (hb : Below B w u) (hB : B ≤ ga) : Below B w v := by
  obtain ⟨h1, h2, h3, h4, h5, _⟩ := h
  exact ⟨h1.trans hb.os, h2.trans hb.tape, h3.trans hb.output, by rw [h4]; exact hb.size, fun k hk => (h5 k (by omega)).trans (hb.block k hk)⟩
theorem OwnP.fr {ga capa B : Nat} {u v : World} {x : Value} {l : List Pr} (h : OwnP u B x l) (hf : FrA ga capa u v) (hB : ga < B) : OwnP v B x l := by
  obtain ⟨hl, h⟩ := h
  refine ⟨hl, ?_⟩
  rcases h with h | ⟨g, cap, cur, hv, hg, hc, h⟩
  · exact .inl h
  · exact .inr ⟨g, cap, cur, hv, hg, by rw [hf.2.2.2.2.1 g (by omega)]; exact hc, h⟩
theorem own_empty (w : World) (C : Array Value) (hC : C.size = 0) : OwnP (w.alloc (.cells C 33)) w.heap.size (.slice (some ⟨w.heap.size, 0, none⟩) 0 0) [] :=
  ⟨rfl, .inr ⟨w.heap.size, 0, C, rfl, Nat.le_refl _, heap_alloc_new w _, Nat.le_refl _, by unfold maxLen; omega, by omega, rfl⟩⟩

set_option maxRecDepth 8000 in
set_option maxHeartbeats 4000000 in
theorem keeps_walk (w : World) (v : Value) (l : List Pr) (p : Pr) (h : RdP w v l) (hn : NilOk v) (hin : ∀ q ∈ l, Fits q) (hsh : ∀ q ∈ l, Short q) (hp : Fits p) (h63 : l.length ≤ 9223372036854775806) (ht : Tab w.heap.size w) :
    Calls Tryd.prog 5 #[v, p.v] w fun e w' => e = .returned (.bool true) ∧ Below w.heap.size w w' := by
  obtain ⟨X, hX17, HX1, HX2⟩ := set7x l p hin hp h63
  have HS1 : Hid (∀ (w : World) (v : Value), RdP w v l → NilOk v → Calls Tryd.prog 13 #[v, p.v] w fun e w' => (∃ va cd, e = .returned (.tuple #[va, .int .i64 cd]) ∧ OwnP w' w.heap.size va X) ∧ Below w.heap.size w w') := HX1
  have HS2 : Hid (∀ (w : World) (v : Value), RdP w v l → Calls Tryd.prog 15 #[v, p.v] w fun e w' => (∃ va cd, e = .returned (.tuple #[va, .int .i64 cd]) ∧ OwnP w' w.heap.size va X) ∧ Below w.heap.size w w') := HX2
  clear HX1 HX2
  obtain ⟨a0, c0, rfl⟩ := h.shape
  have bA : Below w.heap.size w (w.alloc (Obj.cells #[Value.string p.name, Value.int IntKind.i64 p.val.kind, Value.int IntKind.i64 p.val.num, Value.string p.val.text, Value.float FloatKind.f64 p.val.real] 33)) := (Below.refl _ w).alloc (Nat.le_refl _) _
  have xA : BoxP w.heap.size p (w.alloc (Obj.cells #[Value.string p.name, Value.int IntKind.i64 p.val.kind, Value.int IntKind.i64 p.val.num, Value.string p.val.text, Value.float FloatKind.f64 p.val.real] 33)) := ⟨World.cell?_alloc_new .., World.cell?_alloc_new .., World.cell?_alloc_new .., World.cell?_alloc_new .., World.cell?_alloc_new ..⟩
  have hsA : (w.alloc (Obj.cells #[Value.string p.name, Value.int IntKind.i64 p.val.kind, Value.int IntKind.i64 p.val.num, Value.string p.val.text, Value.float FloatKind.f64 p.val.real] 33)).heap.size = w.heap.size + 1 := by simp
  have HW := wakes7 (w.alloc (Obj.cells #[Value.string p.name, Value.int IntKind.i64 p.val.kind, Value.int IntKind.i64 p.val.num, Value.string p.val.text, Value.float FloatKind.f64 p.val.real] 33)) ((ht.on bA).mono (by omega))
  have HR : Hid (RdP w (.slice a0 l.length c0) l) := h
  have HSh : Hid (∀ q ∈ l, Short q) := hsh
  unfold Pr.v at *
  clear h hn hin hsh hp ht
  go_enter Tryd.func5, Tryd.ntmps5
  go_upto_region 1 with fail
  generalize (w.alloc (Obj.cells #[Value.string p.name, Value.int IntKind.i64 p.val.kind, Value.int IntKind.i64 p.val.num, Value.string p.val.text, Value.float FloatKind.f64 p.val.real] 33)) = wA at *
  go_wp2_with fail
  refine HW.mono ?_
  rintro e w1 ⟨rfl, hb1⟩
  have b1 := bA.trans (hb1.mono (by omega))
  have x1 := xA.on hb1
  clear HW bA xA hb1
  go_wp2_with fail
  refine (long7c w1 _ l (HR.out.on b1) HSh.out h63).mono ?_
  rintro e w2 ⟨⟨r, rfl, hr⟩, hb2⟩
  have b2 := b1.trans (hb2.mono b1.size)
  have x2 := x1.on hb2
  clear x1 hb2 b1 HSh
  obtain ⟨d0, d1, d2, d3, d4⟩ := x2.out
  cases r with
  | true =>
    go_wp2
    go_ret
    exact ⟨rfl, b2⟩
  | false =>
  have h16k : l.length ≤ 16384 := hr rfl
  clear hr h63
  by_cases htx : (p.val.text.size : Int) > 16384
  · go_wp2
    go_ret
    exact ⟨rfl, b2⟩
  go_upto_region 5 with fail
  have bE : Below w2.heap.size w2 (w2.alloc (.cells #[] 33)) := (Below.refl _ w2).alloc (Nat.le_refl _) _
  have oE := own_empty w2 #[] rfl
  have hRE : RdP (w2.alloc (.cells #[] 33)) (.slice a0 l.length c0) l := (HR.out.on b2).on bE
  have sE : w2.heap.size ≤ (w2.alloc (.cells #[] 33)).heap.size := bE.size
  go_wp2_with (at_builtin; refine wpl_appP rfl (.tmp 24) (.tmp 25) rfl w2.heap.size _ _ [] l (w2.alloc (.cells #[] 33)) rfl oE rfl hRE (by simp; omega) sE ?_)
  intro v3 w3 ho3 hb3
  have b23 : Below w2.heap.size w2 w3 := bE.trans hb3
  have s23 := b23.size
  clear bE oE hRE sE hb3
  go_wp2_with (at_builtin; refine wpl_app1 rfl (.tmp 26) (.tmp 28) rfl w2.heap.size _ l spareP w3 rfl ho3 rfl (by omega) s23 ?_)
  intro v4 w4 ho4 hb4 _
  have b24 : Below w2.heap.size w2 w4 := b23.trans hb4
  have b4 := b2.trans (b24.mono b2.size)
  have hxw4 : BoxP w.heap.size p w4 := x2.on b24
  have hRw4 : Hid (RdP w4 (.slice a0 l.length c0) l) := HR.out.on b4
  obtain ⟨g, cap, rfl, hg4, hP4, hcap⟩ : ∃ g cap, v4 = .slice (some ⟨g, 0, none⟩) (l.length + 1) cap ∧ g < w4.heap.size ∧ (∀ i (h : i < (l ++ [spareP]).length), PrAt w4 g (0 + i * 5) (l ++ [spareP])[i]) ∧ l.length + 1 ≤ cap := by
    rcases ho4.2 with ⟨_, h0⟩ | ⟨g, cap, cur, rfl, _, hg, hc, _, _, _⟩
    · simp at h0
    · obtain ⟨b', o', c', e, hc', hP⟩ := ho4.rd.some (by simp)
      rw [List.length_append] at e hc
      cases e
      refine ⟨g, cap, by simp, ?_, hP, by simpa using hc⟩
      rcases Nat.lt_or_ge g w4.heap.size with h1 | h1
      · exact h1
      · rw [Array.getElem?_eq_none h1] at hg; cases hg
  have hMw4 : Hid (RdP w4 (.slice (some ⟨g, 0, none⟩) l.length cap) l) := .inr ⟨g, 0, cap, rfl, by omega, fun i hi => by
    have := hP4 i (by simp; omega)
    rwa [List.getElem_append_left hi] at this⟩
  have hSpw4 : w4.cell? ⟨g, l.length * 5, none⟩ = some (.string ⟨#[115, 112, 97, 114, 101]⟩) := by
    have := (hP4 l.length (by simp)).1
    rw [List.getElem_append_right (Nat.le_refl _)] at this
    simpa [spareP] using this
  clear hP4 ho4 hb4 b23 b24 ho3 x2 d0 d1 d2 d3 d4 HR b2 s23
  go_upto_region 6 with fail
  refine wp_region_held (S := BoxP w.heap.size p) hmix ?_
  show wpAnyH _ _ _ _ _ _ _ _ w4.drew
  have hS : BoxP w.heap.size p w4.drew := hxw4
  refine wpAnyH_take (i := 0) (v := .slice (some ⟨g, 0, none⟩) (l.length + 1) cap) rfl (by kernel_rfl) (by kernel_rfl) (by kernel_rfl) (fun _ _ _ h => h) (.inl ⟨by rfl, fun W' hW' => ?_⟩) hS ?_
  · go_simp
  simp only [Act.put, List.getElem_toArray, List.getElem_cons_succ, List.getElem_cons_zero, List.setIfInBounds_toArray, List.set_cons_succ, List.set_cons_zero]
  refine wpAnyH_take (i := 1) (v := .slice a0 l.length c0) rfl (by kernel_rfl) (by kernel_rfl) (by kernel_rfl) (fun _ _ _ h => h) (.inl ⟨by rfl, fun W' hW' => ?_⟩) hS ?_
  · go_simp
  simp only [Act.put, List.getElem_toArray, List.getElem_cons_succ, List.getElem_cons_zero, List.setIfInBounds_toArray, List.set_cons_succ, List.set_cons_zero]
  refine wpAnyH_take (i := 2) (v := .int .i64 l.length) rfl (by kernel_rfl) (by kernel_rfl) (by kernel_rfl) (fun _ _ _ h => h) (.inl ⟨by rfl, fun W' hW' => ?_⟩) hS ?_
  · go_simp
  simp only [Act.put, List.getElem_toArray, List.getElem_cons_succ, List.getElem_cons_zero, List.setIfInBounds_toArray, List.set_cons_succ, List.set_cons_zero]
  refine wpAnyH_take (i := 3) (v := .slice (some ⟨g, 0, none⟩) l.length cap) rfl (by kernel_rfl) (by kernel_rfl) (by kernel_rfl) (fun _ _ _ h => h) (.inl ⟨by rfl, fun W' hW' => ?_⟩) hS ?_
  · go_simp
    (try (intro hh; omega))
  simp only [Act.put, List.getElem_toArray, List.getElem_cons_succ, List.getElem_cons_zero, List.setIfInBounds_toArray, List.set_cons_succ, List.set_cons_zero]
  refine wpAnyH_take (i := 4) (v := .agg #[Value.string p.name, Value.int IntKind.i64 p.val.kind, Value.int IntKind.i64 p.val.num, Value.string p.val.text, Value.float FloatKind.f64 p.val.real]) rfl (by kernel_rfl) (by kernel_rfl) (by kernel_rfl) (fun _ _ _ h => h) (.inl ⟨by rfl, fun W' hW' => ?_⟩) hS ?_
  · obtain ⟨d0, d1, d2, d3, d4⟩ := hW'.out
    go_simp
  simp only [Act.put, List.getElem_toArray, List.getElem_cons_succ, List.getElem_cons_zero, List.setIfInBounds_toArray, List.set_cons_succ, List.set_cons_zero]
  refine wpAnyH_one (i := 5) (by kernel_rfl) rfl (by rfl) (fun K hK => ?_)
  go_simp
  refine (HS1.out w4.drew _ (RdP.drew hMw4.out) (.inr ⟨_, _, _, rfl⟩)).mono ?_
  rintro e w5 ⟨⟨va, ca, rfl, hoa⟩, hbw5⟩
  have hS6 : BoxP w.heap.size p w5 := hS.on hbw5
  show K _ _
  refine hK _ _ hS6 ?_
  clear hK K
  refine wpAnyH_take (i := 6) (v := .tuple #[va, .int .i64 ca]) rfl (by kernel_rfl) (by kernel_rfl) (by kernel_rfl) (fun _ _ _ h => h) (.inl ⟨by rfl, fun W' hW' => ?_⟩) hS6 ?_
  · go_simp
  simp only [Act.put, List.getElem_toArray, List.getElem_cons_succ, List.getElem_cons_zero, List.setIfInBounds_toArray, List.set_cons_succ, List.set_cons_zero]
  refine wpAnyH_take (i := 7) (v := va) rfl (by kernel_rfl) (by kernel_rfl) (by kernel_rfl) (fun _ _ _ h => h) (.inl ⟨by rfl, fun W' hW' => ?_⟩) hS6 ?_
  · go_simp
  simp only [Act.put, List.getElem_toArray, List.getElem_cons_succ, List.getElem_cons_zero, List.setIfInBounds_toArray, List.set_cons_succ, List.set_cons_zero]
  refine wpAnyH_take (i := 8) (v := .int .i64 ca) rfl (by kernel_rfl) (by kernel_rfl) (by kernel_rfl) (fun _ _ _ h => h) (.inl ⟨by rfl, fun W' hW' => ?_⟩) hS6 ?_
  · go_simp
  simp only [Act.put, List.getElem_toArray, List.getElem_cons_succ, List.getElem_cons_zero, List.setIfInBounds_toArray, List.set_cons_succ, List.set_cons_zero]
  refine wpAnyH_take (i := 9) (v := va) rfl (by kernel_rfl) (by kernel_rfl) (by kernel_rfl) (fun _ _ _ h => h) (.inl ⟨by rfl, fun W' hW' => ?_⟩) hS6 ?_
  · go_simp
  simp only [Act.put, List.getElem_toArray, List.getElem_cons_succ, List.getElem_cons_zero, List.setIfInBounds_toArray, List.set_cons_succ, List.set_cons_zero]
  refine wpAnyH_take (i := 10) (v := .int .i64 ca) rfl (by kernel_rfl) (by kernel_rfl) (by kernel_rfl) (fun _ _ _ h => h) (.inl ⟨by rfl, fun W' hW' => ?_⟩) hS6 ?_
  · go_simp
  simp only [Act.put, List.getElem_toArray, List.getElem_cons_succ, List.getElem_cons_zero, List.setIfInBounds_toArray, List.set_cons_succ, List.set_cons_zero]
  refine wpAnyH_done (by kernel_rfl) ?_ _
  have b5 := b4.drew.trans (hbw5.mono b4.size)
  have hMw5 : Hid (RdP w5 (.slice (some ⟨g, 0, none⟩) l.length cap) l) := (RdP.drew hMw4.out).on hbw5
  have hRw5 : Hid (RdP w5 (.slice a0 l.length c0) l) := (RdP.drew hRw4.out).on hbw5
  have hSpw5 : w5.cell? ⟨g, l.length * 5, none⟩ = some (.string ⟨#[115, 112, 97, 114, 101]⟩) := box_on (w := w4.drew) hSpw4 hbw5
  have hxw5 : BoxP w.heap.size p w5 := hS6
  clear hS hS6
  have s45 : w4.heap.size ≤ w5.heap.size := hbw5.size
  have hg5 : g < w5.heap.size := by omega
  go_upto_region 7 with fail
  refine wp_region_held (S := BoxP w.heap.size p) hmix ?_
  show wpAnyH _ _ _ _ _ _ _ _ w5.drew
  have hS : BoxP w.heap.size p w5.drew := hxw5
  refine wpAnyH_take (i := 0) (v := .slice (some ⟨g, 0, none⟩) (l.length + 1) cap) rfl (by kernel_rfl) (by kernel_rfl) (by kernel_rfl) (fun _ _ _ h => h) (.inl ⟨by rfl, fun W' hW' => ?_⟩) hS ?_
  · go_simp
  simp only [Act.put, List.getElem_toArray, List.getElem_cons_succ, List.getElem_cons_zero, List.setIfInBounds_toArray, List.set_cons_succ, List.set_cons_zero]
  refine wpAnyH_take (i := 1) (v := .slice a0 l.length c0) rfl (by kernel_rfl) (by kernel_rfl) (by kernel_rfl) (fun _ _ _ h => h) (.inl ⟨by rfl, fun W' hW' => ?_⟩) hS ?_
  · go_simp
  simp only [Act.put, List.getElem_toArray, List.getElem_cons_succ, List.getElem_cons_zero, List.setIfInBounds_toArray, List.set_cons_succ, List.set_cons_zero]
  refine wpAnyH_take (i := 2) (v := .int .i64 l.length) rfl (by kernel_rfl) (by kernel_rfl) (by kernel_rfl) (fun _ _ _ h => h) (.inl ⟨by rfl, fun W' hW' => ?_⟩) hS ?_
  · go_simp
  simp only [Act.put, List.getElem_toArray, List.getElem_cons_succ, List.getElem_cons_zero, List.setIfInBounds_toArray, List.set_cons_succ, List.set_cons_zero]
  refine wpAnyH_take (i := 3) (v := .slice (some ⟨g, 0, none⟩) l.length cap) rfl (by kernel_rfl) (by kernel_rfl) (by kernel_rfl) (fun _ _ _ h => h) (.inl ⟨by rfl, fun W' hW' => ?_⟩) hS ?_
  · go_simp
    (try (intro hh; omega))
  simp only [Act.put, List.getElem_toArray, List.getElem_cons_succ, List.getElem_cons_zero, List.setIfInBounds_toArray, List.set_cons_succ, List.set_cons_zero]
  refine wpAnyH_take (i := 4) (v := .agg #[Value.string p.name, Value.int IntKind.i64 p.val.kind, Value.int IntKind.i64 p.val.num, Value.string p.val.text, Value.float FloatKind.f64 p.val.real]) rfl (by kernel_rfl) (by kernel_rfl) (by kernel_rfl) (fun _ _ _ h => h) (.inl ⟨by rfl, fun W' hW' => ?_⟩) hS ?_
  · obtain ⟨d0, d1, d2, d3, d4⟩ := hW'.out
    go_simp
  simp only [Act.put, List.getElem_toArray, List.getElem_cons_succ, List.getElem_cons_zero, List.setIfInBounds_toArray, List.set_cons_succ, List.set_cons_zero]
  refine wpAnyH_one (i := 5) (by kernel_rfl) rfl (by rfl) (fun K hK => ?_)
  go_simp
  refine (HS1.out w5.drew _ (RdP.drew hMw5.out) (.inr ⟨_, _, _, rfl⟩)).mono ?_
  rintro e w6 ⟨⟨vb, cb, rfl, hob⟩, hbw6⟩
  have hS6 : BoxP w.heap.size p w6 := hS.on hbw6
  show K _ _
  refine hK _ _ hS6 ?_
  clear hK K
  refine wpAnyH_take (i := 6) (v := .tuple #[vb, .int .i64 cb]) rfl (by kernel_rfl) (by kernel_rfl) (by kernel_rfl) (fun _ _ _ h => h) (.inl ⟨by rfl, fun W' hW' => ?_⟩) hS6 ?_
  · go_simp
  simp only [Act.put, List.getElem_toArray, List.getElem_cons_succ, List.getElem_cons_zero, List.setIfInBounds_toArray, List.set_cons_succ, List.set_cons_zero]
  refine wpAnyH_take (i := 7) (v := vb) rfl (by kernel_rfl) (by kernel_rfl) (by kernel_rfl) (fun _ _ _ h => h) (.inl ⟨by rfl, fun W' hW' => ?_⟩) hS6 ?_
  · go_simp
  simp only [Act.put, List.getElem_toArray, List.getElem_cons_succ, List.getElem_cons_zero, List.setIfInBounds_toArray, List.set_cons_succ, List.set_cons_zero]
  refine wpAnyH_take (i := 8) (v := .int .i64 cb) rfl (by kernel_rfl) (by kernel_rfl) (by kernel_rfl) (fun _ _ _ h => h) (.inl ⟨by rfl, fun W' hW' => ?_⟩) hS6 ?_
  · go_simp
  simp only [Act.put, List.getElem_toArray, List.getElem_cons_succ, List.getElem_cons_zero, List.setIfInBounds_toArray, List.set_cons_succ, List.set_cons_zero]
  refine wpAnyH_take (i := 9) (v := vb) rfl (by kernel_rfl) (by kernel_rfl) (by kernel_rfl) (fun _ _ _ h => h) (.inl ⟨by rfl, fun W' hW' => ?_⟩) hS6 ?_
  · go_simp
  simp only [Act.put, List.getElem_toArray, List.getElem_cons_succ, List.getElem_cons_zero, List.setIfInBounds_toArray, List.set_cons_succ, List.set_cons_zero]
  refine wpAnyH_take (i := 10) (v := .int .i64 cb) rfl (by kernel_rfl) (by kernel_rfl) (by kernel_rfl) (fun _ _ _ h => h) (.inl ⟨by rfl, fun W' hW' => ?_⟩) hS6 ?_
  · go_simp
  simp only [Act.put, List.getElem_toArray, List.getElem_cons_succ, List.getElem_cons_zero, List.setIfInBounds_toArray, List.set_cons_succ, List.set_cons_zero]
  refine wpAnyH_done (by kernel_rfl) ?_ _
  have b6 := b5.drew.trans (hbw6.mono b5.size)
  have hMw6 : Hid (RdP w6 (.slice (some ⟨g, 0, none⟩) l.length cap) l) := (RdP.drew hMw5.out).on hbw6
  have hRw6 : Hid (RdP w6 (.slice a0 l.length c0) l) := (RdP.drew hRw5.out).on hbw6
  have hSpw6 : w6.cell? ⟨g, l.length * 5, none⟩ = some (.string ⟨#[115, 112, 97, 114, 101]⟩) := box_on (w := w5.drew) hSpw5 hbw6
  have hxw6 : BoxP w.heap.size p w6 := hS6
  clear hS hS6
  have hoa6 : OwnP w6 w4.heap.size va X := by
    have h1 : OwnP w5.drew w4.heap.size va X := hoa
    exact h1.up hbw6
  have hvb : ∃ a2 c2, vb = .slice a2 X.length c2 := hob.rd.shape
  have b46 : Below w4.heap.size w4 w6 := by
    have h1 : Below w4.heap.size w4 w5 := (Below.refl _ w4).drew.trans hbw5
    exact h1.drew.trans (hbw6.mono h1.size)
  have s56 : w5.heap.size ≤ w6.heap.size := hbw6.size
  clear hbw5 hbw6 hMw5 hRw5 hSpw5 hxw5 hMw6 hRw6 hSpw6 hxw6 b5
  have TAIL : Hid (∀ w7 : World, Below w4.heap.size w4 w7 → OwnP w7 w5.heap.size vb X → True) := fun _ _ _ => trivial
  clear TAIL
  rcases hoa6.2 with ⟨rfl, hX0⟩ | ⟨ga, capa, cur, rfl, hga, hgg, hcx, _, hcs, _⟩
  · have hX0' : X.length = 0 := hX0
    go_wp2_with fail
    go_loopw [50] (fun i wr => i = .int .i64 0 ∧ wr = w6) (fun _ _ => 0)
    case atStart => exact ⟨rfl, rfl⟩
    case round =>
      obtain ⟨rfl, hwr⟩ := hrel
      replace hwr := hwr.symm
      subst hwr
      have hM7 : Hid (RdP w6 (.slice (some ⟨g, 0, none⟩) l.length cap) l) := hMw4.out.on b46
      have hR7 : RdP w6 (.slice a0 l.length c0) l := hRw4.out.on b46
      have hSp7 : w6.cell? ⟨g, l.length * 5, none⟩ = some (.string ⟨#[115, 112, 97, 114, 101]⟩) := box_on hSpw4 b46
      obtain ⟨d0, d1, d2, d3, d4⟩ := (hxw4.on b46).out
      have b7 : Below w.heap.size w w6 := b4.trans (b46.mono b4.size)
      go_wp2_with fail
      refine (HS2.out _ _ hR7).mono ?_
      rintro e w8 ⟨⟨vw, cw, rfl, how⟩, hb8⟩
      have hM8 : RdP w8 (.slice (some ⟨g, 0, none⟩) l.length cap) l := hM7.out.on hb8
      have hR8 := hR7.on hb8
      have hSp8 := box_on hSp7 hb8
      have hob8 := hob.up hb8
      have b8 := b7.trans (hb8.mono b7.size)
      have H1 := all7 w8 _ _ l l hM8 hR8 (by omega)
      rw [(sameL_eq l l).2 rfl] at H1
      clear d0 d1 d2 d3 d4 hM8 hR8
      go_wp2_with fail
      refine H1.mono ?_
      rintro e w9 ⟨rfl, hb9⟩
      have hSp9 := box_on hSp8 hb9
      have hob9 := hob8.up hb9
      have how9 := how.up hb9
      have b9 := b8.trans (hb9.mono b8.size)
      have H2 := all7 w9 vb vw X X hob9.rd how9.rd (by omega)
      rw [(sameL_eq X X).2 rfl] at H2
      clear H1
      go_wp2_with fail
      refine H2.mono ?_
      rintro e w10 ⟨rfl, hb10⟩
      go_wp2
      go_ret
      exact ⟨rfl, b9.trans (hb10.mono b9.size)⟩
  · have hlt5 : ga < w5.heap.size := (World.ownsRow.lt hoa ga rfl).2
    have F0 : FrA ga capa w6 w6 := ⟨rfl, rfl, rfl, rfl, fun _ _ => rfl, cur, hgg, hcs⟩
    clear hgg hoa hoa6 hcs
    go_wp2_with fail
    go_loopw [50] (fun i wr => ∃ k : Nat, k ≤ X.length ∧ i = .int .i64 k ∧ FrA ga capa w6 wr) (fun i _ => X.length - (RowKit.intOf i).toNat)
    case atStart => exact ⟨0, by omega, rfl, F0⟩
    case round =>
      obtain ⟨k, hk, rfl, hF⟩ := hrel
      by_cases hkx : k < X.length
      · obtain ⟨cur1, hh1, hs1⟩ := hF.2.2.2.2.2
        go_wp2_with (refine wpl_store33 rfl (.tmp 56) (.tmp 55) rfl _ ga k capa cur1 _ rfl rfl rfl (by simp [Value.oneCell']) hh1 hs1 (by omega) ?_)
        intro cur2 hc2
        have hF2 := hF.set cur2 hc2
        go_wp2
        go_roundw
        case rel => exact ⟨k + 1, by omega, by go_num, hF2⟩
        case measure => simp [RowKit.intOf]; omega
      · have b47 := hF.below b46 hga
        have hob7 := hob.fr hF hlt5
        have hM7 : Hid (RdP wr (.slice (some ⟨g, 0, none⟩) l.length cap) l) := hMw4.out.on b47
        have hR7 : RdP wr (.slice a0 l.length c0) l := hRw4.out.on b47
        have hSp7 : wr.cell? ⟨g, l.length * 5, none⟩ = some (.string ⟨#[115, 112, 97, 114, 101]⟩) := box_on hSpw4 b47
        obtain ⟨d0, d1, d2, d3, d4⟩ := (hxw4.on b47).out
        have b7 : Below w.heap.size w wr := b4.trans (b47.mono b4.size)
        go_wp2_with fail
        refine (HS2.out _ _ hR7).mono ?_
        rintro e w8 ⟨⟨vw, cw, rfl, how⟩, hb8⟩
        have hM8 : RdP w8 (.slice (some ⟨g, 0, none⟩) l.length cap) l := hM7.out.on hb8
        have hR8 := hR7.on hb8
        have hSp8 := box_on hSp7 hb8
        have hob8 := hob7.up hb8
        have b8 := b7.trans (hb8.mono b7.size)
        have H1 := all7 w8 _ _ l l hM8 hR8 (by omega)
        rw [(sameL_eq l l).2 rfl] at H1
        clear d0 d1 d2 d3 d4 hM8 hR8
        go_wp2_with fail
        refine H1.mono ?_
        rintro e w9 ⟨rfl, hb9⟩
        have hSp9 := box_on hSp8 hb9
        have hob9 := hob8.up hb9
        have how9 := how.up hb9
        have b9 := b8.trans (hb9.mono b8.size)
        have H2 := all7 w9 vb vw X X hob9.rd how9.rd (by omega)
        rw [(sameL_eq X X).2 rfl] at H2
        clear H1
        go_wp2_with fail
        refine H2.mono ?_
        rintro e w10 ⟨rfl, hb10⟩
        go_wp2
        go_ret
        exact ⟨rfl, b9.trans (hb10.mono b9.size)⟩
end Go.Proofs.YtlhfdklfkfodkaaDoor
