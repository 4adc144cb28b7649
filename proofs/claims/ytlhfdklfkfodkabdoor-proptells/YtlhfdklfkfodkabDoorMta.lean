/- What prop.Text answers of any value; texts of other values are others. -/
import Derived.Test.YtlhfdklfkfodkabDoorSx
import Derived.Test.YtlhfdklfkfodkabDoorVg
namespace Go.Proofs.YtlhfdklfkfodkabDoor
open Go.RowKit Go.Lib Ieee

theorem txt_len (neg : Bool) (D : List UInt8) (dp : Int) (h : D.length ≤ 20) : (Ff.txt neg D dp).length ≤ 60 := by
  have hs : (Ff.sgB neg).length ≤ 1 := by unfold Ff.sgB; split <;> simp
  unfold Ff.txt
  split
  · unfold Ff.txtE
    have hd : (Ff.dotB D).length ≤ 20 := by unfold Ff.dotB; split <;> simp; omega
    have he : (Ff.expB (dp - 1)).length ≤ 4 := by unfold Ff.expB; (repeat' split) <;> simp
    simp only [List.length_append, List.length_cons, List.length_nil]
    omega
  · unfold Ff.txtF
    split
    · simp only [List.length_append, List.length_cons, List.length_nil, List.length_replicate]
      omega
    · split
      · simp only [List.length_append, List.length_replicate]
        omega
      · simp only [List.length_append, List.length_cons, List.length_nil, List.length_take, List.length_drop]
        omega
theorem textB_len (b : Nat) (hb : b < 2 ^ 64) : (Ff.textB b).length ≤ 60 := by
  rcases Ff.kind b hb with ⟨_, e⟩ | ⟨_, e⟩ | ⟨_, e⟩ | ⟨_, e⟩ | ⟨_, e⟩ | ⟨n, mt, ex, F, e, _⟩
  all_goals rw [e]
  · simp
  · simp
  · simp
  · simp
  · simp
  · unfold Ff.numT
    exact txt_len _ _ _ (by rw [Ff.digL_length]; exact Ff.kN_le (by have := (Ff.dcN_bounds F).2; omega))

/-- A value's text. -/
def txV (x : Val) : List UInt8 :=
  if x.kind = 1 then 105 :: itoa x.num else if x.kind = 2 then 98 :: itoa x.num else if x.kind = 3 then 116 :: x.text.toList else 102 :: Ff.textB x.real

theorem app_list (c : UInt8) (t : ByteArray) : (⟨#[c]⟩ : ByteArray) ++ t = ⟨(c :: t.toList).toArray⟩ := by
  rw [ByteArray.toList_eq]
  apply ByteArray.ext
  simp

set_option maxRecDepth 4000 in
theorem text7_4 (w : World) (r : Nat) (hr : r < 2 ^ 64) (hc : canonB r = r) (hv : Ff.Vars w) (hP : Ff.Pow w) :
    Calls Tryd.prog 8 #[(⟨4, 0, ⟨#[]⟩, r⟩ : Val).v] w fun e w' => e = .returned (.tuple #[.string ⟨(102 :: Ff.textB r).toArray⟩, .int .i64 0]) ∧ Below w.heap.size w w' := by
  rw [← cons_app]
  have hlen := textB_len r hr
  have HG := fun W : World => good7 W ⟨4, 0, ⟨#[]⟩, r⟩
  have hg : goodV ⟨4, 0, ⟨#[]⟩, r⟩ = true := by simp [goodV, sameV, hc]
  simp only [hg] at HG
  have hb1 : Below w.heap.size w (w.alloc (.cells #[.int .i64 4, .int .i64 0, .string ⟨#[]⟩, .float .f64 r] 32)) := (Below.refl _ w).alloc (Nat.le_refl _) _
  have hs1 : (w.alloc (.cells #[.int .i64 4, .int .i64 0, .string ⟨#[]⟩, .float .f64 r] 32)).heap.size = w.heap.size + 1 := by simp
  have c0 : (w.alloc (.cells #[.int .i64 4, .int .i64 0, .string ⟨#[]⟩, .float .f64 r] 32)).cell? ⟨w.heap.size, 0, none⟩ = some (.int .i64 4) := World.cell?_alloc_new ..
  have c3 : (w.alloc (.cells #[.int .i64 4, .int .i64 0, .string ⟨#[]⟩, .float .f64 r] 32)).cell? ⟨w.heap.size, 3, none⟩ = some (.float .f64 r) := World.cell?_alloc_new ..
  have HT := fun (W : World) (h1 : Ff.Vars W) (h2 : Ff.Pow W) => Ff.text_any W r hr h1 h2
  unfold Val.v at *
  dsimp only at *
  clear hg hc hr
  generalize Ff.textB r = T at *
  go_enter Tryd.func8, Tryd.ntmps8
  go_wp2_with fail
  refine (HG _).mono ?_
  rintro e w3 ⟨rfl, hb3⟩
  have b3 := hb1.trans (hb3.mono (by omega))
  have d0 : w3.cell? ⟨w.heap.size, 0, none⟩ = some (.int .i64 4) := by rw [hb3.cell (by dsimp only; omega)]; exact c0
  have d3 : w3.cell? ⟨w.heap.size, 3, none⟩ = some (.float .f64 r) := by rw [hb3.cell (by dsimp only; omega)]; exact c3
  have hs3 := b3.size
  go_wp2_with fail
  refine (HT w3 (hv.on b3) (hP.on b3)).mono ?_
  rintro e w4 ⟨rfl, hb4⟩
  go_wp2
  go_ret2
  exact ⟨rfl, b3.trans (hb4.mono hs3)⟩

/-- What is told of a value that is written. -/
def FitV (x : Val) : Prop := (-9223372036854775808 ≤ x.num ∧ x.num ≤ 9223372036854775807) ∧ x.real < 2 ^ 64
theorem text7v (w : World) (x : Val) (hg : goodV x = true) (hx : FitV x) (ht : Tab w.heap.size w) (hv : Ff.Vars w) (hP : Ff.Pow w) :
    Calls Tryd.prog 8 #[x.v] w fun e w' => e = .returned (.tuple #[.string ⟨(txV x).toArray⟩, .int .i64 0]) ∧ Below w.heap.size w w' := by
  rcases goodV_cases x hg with ⟨n, rfl⟩ | ⟨n, hn, rfl⟩ | ⟨t, h, rfl⟩ | ⟨r, hr, rfl⟩
  · exact text7_1 w n hx.1.1 hx.1.2 ht
  · exact text7_2 w n hn ht
  · have := text7_3 w t h
    rw [app_list] at this
    exact this
  · exact text7_4 w r hx.2 hr hv hP
theorem txV_len (x : Val) (hg : goodV x = true) (hx : FitV x) : (txV x).length ≤ 1000 := by
  rcases goodV_cases x hg with ⟨n, rfl⟩ | ⟨n, hn, rfl⟩ | ⟨t, h, rfl⟩ | ⟨r, hr, rfl⟩
  · have := itoa_length n hx.1.1 hx.1.2
    simp [txV]; omega
  · have := itoa_length n hx.1.1 hx.1.2
    simp [txV]; omega
  · have := toList_len t
    simp [txV]; omega
  · have := textB_len r hx.2
    simp [txV]; omega
theorem txV_inj (x y : Val) (hx : goodV x = true) (hy : goodV y = true) (fx : FitV x) (fy : FitV y) (h : txV x = txV y) : x = y := by
  rcases goodV_cases x hx with ⟨n, rfl⟩ | ⟨n, hn, rfl⟩ | ⟨t, ht, rfl⟩ | ⟨r, hr, rfl⟩ <;>
  rcases goodV_cases y hy with ⟨n', rfl⟩ | ⟨n', hn', rfl⟩ | ⟨t', ht', rfl⟩ | ⟨r', hr', rfl⟩ <;>
  simp [txV] at h
  · rw [itoa_inj h]
  · rw [itoa_inj h]
  · rw [toList_inj h]
  · have := Ff.canon_texts fx.2 fy.2
    dsimp only at this
    rw [hr, hr', decide_eq_true h] at this
    have e : r = r' := by simpa using this.symm
    rw [e]
end Go.Proofs.YtlhfdklfkfodkabDoor

namespace Go.Proofs.YtlhfdklfkfodkabDoor
open Go.RowKit Go.Lib Ieee
set_option linter.unusedSimpArgs false

theorem valid_all {l : List Pr} (h : validL l = true) : l.length ≤ 16 ∧ ∀ q ∈ l, canB q = true := by
  unfold validL at h
  simp only [Bool.and_eq_true, decide_eq_true_eq, List.all_eq_true] at h
  exact ⟨h.1, h.2.1⟩
theorem can_parts {q : Pr} (h : canB q = true) : q.name.toList.length ≤ 16 ∧ goodV q.val = true := by
  unfold canB nameL at h
  simp only [Bool.and_eq_true, decide_eq_true_eq] at h
  exact ⟨h.1.1.2, h.2⟩

set_option maxRecDepth 4000 in
theorem encode7_nil (w : World) (a : Option Addr) (c : Nat) (ht : Tab w.heap.size w) :
    Calls Tryd.prog 6 #[.slice a 0 c] w fun e w' => ∃ v', e = .returned (.tuple #[v', .int .i64 0]) ∧ Own w' w.heap.size v' (encQ txV []) ∧ Below w.heap.size w w' := by
  have HV := valid7 w (.slice a 0 c) [] (.inl ⟨⟨_, _, rfl⟩, rfl⟩)
  rw [show validL [] = true from rfl] at HV
  have E : encQ txV [] = [] ++ encNs [((0 : Nat) : Int)] := by simp [encQ]
  rw [E]
  go_enter Tryd.func6, Tryd.ntmps6
  go_wp2_with fail
  refine HV.mono ?_
  rintro e w1 ⟨rfl, hb1⟩
  have hs1 := hb1.size
  go_wp2_with fail
  refine (num_any _ _ _ [] [((0 : Nat) : Int)] (.inl (.inl ⟨rfl, rfl⟩)) (lit1 w1 0 (by omega)) (by simp) (((ht.on hb1).on (Below.alloc (Below.refl _ w1) (Nat.le_refl _) _ |>.mono hs1)).mono (by simp; omega))).mono ?_
  rintro e w2 ⟨v2, rfl, ho2, hb2⟩
  have hb12 : Below w1.heap.size w1 w2 := ((Below.refl _ w1).alloc (Nat.le_refl _) _).trans (hb2.mono (by simp))
  have hb02 : Below w.heap.size w w2 := hb1.trans (hb12.mono hs1)
  have ho3 := ho2.low (B := w.heap.size) (by simp; omega)
  clear ho2 hb2 hb12 HV
  go_wp2_with fail
  go_loopw [4, 18] (fun v i wr => i = .int .i64 0 ∧ v = v2 ∧ wr = w2) (fun _ _ _ => 0)
  case atStart => exact ⟨rfl, rfl, rfl⟩
  case round =>
    obtain ⟨rfl, rfl, rfl⟩ := hrel
    go_wp2
    go_ret2
    exact ⟨_, rfl, ho3, hb02⟩

/-- What Encode answers. -/
def EncP (w' : World) (B : Nat) (l : List Pr) (e : Ending) : Prop :=
  validL l = false ∧ e = .returned (.tuple #[.slice none 0 0, .int .i64 36]) ∨ validL l = true ∧ ∃ v', e = .returned (.tuple #[v', .int .i64 0]) ∧ Own w' B v' (encQ txV l)
theorem encode7v (w : World) (v : Value) (l : List Pr) (h : RdP w v l) (hf : ∀ q ∈ l, FitV q.val) (ht : Tab w.heap.size w) (hv : Ff.Vars w) (hP : Ff.Pow w) :
    Calls Tryd.prog 6 #[v] w fun e w' => EncP w' w.heap.size l e ∧ Below w.heap.size w w' := by
  cases hvl : validL l with
  | false =>
    refine (encode7_bad w v l h hvl).mono ?_
    rintro e w' ⟨rfl, hb⟩
    exact ⟨.inl ⟨hvl, rfl⟩, hb⟩
  | true =>
    have fin : ∀ e w', (∃ v', e = .returned (.tuple #[v', .int .i64 0]) ∧ Own w' w.heap.size v' (encQ txV l) ∧ Below w.heap.size w w') → EncP w' w.heap.size l e ∧ Below w.heap.size w w' := by
      rintro e w' ⟨v', rfl, ho, hb⟩
      exact ⟨.inr ⟨hvl, v', rfl, ho⟩, hb⟩
    obtain ⟨h16, hc⟩ := valid_all hvl
    by_cases h0 : l = []
    · subst h0
      obtain ⟨a, c, rfl⟩ := h.shape
      exact (encode7_nil w a c ht).mono fin
    · obtain ⟨b, o, c, rfl, hcap, hPr⟩ := h.some h0
      refine (encode7_some w l b o c hPr hcap hvl txV (fun p hp W hW => ?_) (fun p hp => txV_len _ (can_parts (hc p hp)).2 (hf p hp)) (fun p hp => (can_parts (hc p hp)).1) h16 ht).mono fin
      exact text7v W p.val (can_parts (hc p hp)).2 (hf p hp) ((ht.on hW).mono hW.size) (hv.on hW) (hP.on hW)

theorem body_inj : ∀ (l m : List Pr), (∀ q ∈ l, canB q = true ∧ FitV q.val) → (∀ q ∈ m, canB q = true ∧ FitV q.val) → l.length = m.length →
    (l.flatMap fun p => encS p.name.toList ++ encS (txV p.val)) = (m.flatMap fun p => encS p.name.toList ++ encS (txV p.val)) → l = m
  | [], [], _, _, _, _ => rfl
  | x :: l, y :: m, hl, hm, hlen, h => by
    simp only [List.flatMap_cons, List.append_assoc] at h
    obtain ⟨e1, h1⟩ := encP_cancel (p := (true, 0, x.name.toList)) (q := (true, 0, y.name.toList)) (by simpa [encP] using h)
    obtain ⟨e2, h2⟩ := encP_cancel (p := (true, 0, txV x.val)) (q := (true, 0, txV y.val)) (by simpa [encP] using h1)
    have n1 : x.name.toList = y.name.toList := by simpa [eqP] using e1
    have n2 : txV x.val = txV y.val := by simpa [eqP] using e2
    have hx := hl x (by simp)
    have hy := hm y (by simp)
    have ev := txV_inj _ _ (can_parts hx.1).2 (can_parts hy.1).2 hx.2 hy.2 n2
    have exy : x = y := by
      obtain ⟨a, b⟩ := x
      obtain ⟨c, d⟩ := y
      dsimp only at n1 ev
      rw [toList_inj n1, ev]
    rw [exy, body_inj l m (fun q hq => hl q (by simp [hq])) (fun q hq => hm q (by simp [hq])) (by simpa using hlen) h2]
  | [], _ :: _, _, _, hlen, _ => by simp at hlen
  | _ :: _, [], _, _, hlen, _ => by simp at hlen
theorem encQ_inj (l m : List Pr) (hl : ∀ q ∈ l, canB q = true ∧ FitV q.val) (hm : ∀ q ∈ m, canB q = true ∧ FitV q.val) (h : encQ txV l = encQ txV m) : l = m := by
  unfold encQ at h
  obtain ⟨e1, h1⟩ := encP_cancel (p := (false, (l.length : Int), [])) (q := (false, (m.length : Int), [])) (by simpa [encP, encNs] using h)
  have n1 : (l.length : Int) = (m.length : Int) := by simpa [eqP] using e1
  exact body_inj l m hl hm (by omega) h1
end Go.Proofs.YtlhfdklfkfodkabDoor
