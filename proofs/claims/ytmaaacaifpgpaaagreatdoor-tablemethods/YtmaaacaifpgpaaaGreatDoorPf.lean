
/- What prop.canBe and prop.Valid answer. -/
import Derived.Test.YtmaaacaifpgpaaaGreatDoorPe
namespace Go.Proofs.YtmaaacaifpgpaaaGreatDoor
open Go.RowKit Go.Lib Ieee

/-- A property as the program holds it. -/
structure Pr where
  name : ByteArray
  val : Val
def Pr.v (p : Pr) : Value := .agg #[.string p.name, .int .i64 p.val.kind, .int .i64 p.val.num, .string p.val.text, .float .f64 p.val.real]
def canB (p : Pr) : Bool := nameL p.name.toList && goodV p.val

set_option maxRecDepth 4000 in
theorem canbe7 (w : World) (p : Pr) : Calls Tryz.prog 44 #[p.v] w fun e w' => e = .returned (.bool (canB p)) ∧ Below w.heap.size w w' := by
  obtain ⟨nm, k, n, t, r⟩ := p
  have HN := fun W : World => name7 W nm
  have HG := fun W : World => good7 W ⟨k, n, t, r⟩
  have hb1 : Below w.heap.size w (w.alloc (.cells #[.string nm, .int .i64 k, .int .i64 n, .string t, .float .f64 r] 44)) := (Below.refl _ w).alloc (Nat.le_refl _) _
  have c0 : (w.alloc (.cells #[.string nm, .int .i64 k, .int .i64 n, .string t, .float .f64 r] 44)).cell? ⟨w.heap.size, 0, none⟩ = some (.string nm) := World.cell?_alloc_new ..
  have c1 : (w.alloc (.cells #[.string nm, .int .i64 k, .int .i64 n, .string t, .float .f64 r] 44)).cell? ⟨w.heap.size, 1, none⟩ = some (.int .i64 k) := World.cell?_alloc_new ..
  have c2 : (w.alloc (.cells #[.string nm, .int .i64 k, .int .i64 n, .string t, .float .f64 r] 44)).cell? ⟨w.heap.size, 2, none⟩ = some (.int .i64 n) := World.cell?_alloc_new ..
  have c3 : (w.alloc (.cells #[.string nm, .int .i64 k, .int .i64 n, .string t, .float .f64 r] 44)).cell? ⟨w.heap.size, 3, none⟩ = some (.string t) := World.cell?_alloc_new ..
  have c4 : (w.alloc (.cells #[.string nm, .int .i64 k, .int .i64 n, .string t, .float .f64 r] 44)).cell? ⟨w.heap.size, 4, none⟩ = some (.float .f64 r) := World.cell?_alloc_new ..
  have hs1 : (w.alloc (.cells #[.string nm, .int .i64 k, .int .i64 n, .string t, .float .f64 r] 44)).heap.size = w.heap.size + 1 := by simp
  unfold canB Pr.v
  unfold Val.v at *
  dsimp only at *
  generalize goodV ⟨k, n, t, r⟩ = g at *
  cases e : nameL nm.toList with
  | false =>
    rw [e] at HN
    go_enter Tryz.func44, Tryz.ntmps44
    go_upto_region 1 with fail
    generalize (w.alloc (.cells #[.string nm, .int .i64 k, .int .i64 n, .string t, .float .f64 r] 44)) = w1 at *
    go_wp2_with fail
    refine (HN _).mono ?_
    rintro e w2 ⟨rfl, rfl⟩
    go_wp2
    go_ret
    exact ⟨rfl, hb1⟩
  | true =>
    rw [e] at HN
    go_enter Tryz.func44, Tryz.ntmps44
    go_upto_region 1 with fail
    generalize (w.alloc (.cells #[.string nm, .int .i64 k, .int .i64 n, .string t, .float .f64 r] 44)) = w1 at *
    go_wp2_with fail
    refine (HN _).mono ?_
    rintro e w2 ⟨rfl, rfl⟩
    go_wp2_with fail
    refine (HG _).mono ?_
    rintro e w3 ⟨rfl, hb3⟩
    go_wp2
    go_ret
    exact ⟨ret_b (by simp), hb1.trans (hb3.mono (by omega))⟩

/-- A slice of properties that can be read: of none wherever it points, or so many cells. -/
def PrAt (w : World) (b o : Nat) (p : Pr) : Prop :=
  w.cell? ⟨b, o, none⟩ = some (.string p.name) ∧ w.cell? ⟨b, o + 1, none⟩ = some (.int .i64 p.val.kind) ∧ w.cell? ⟨b, o + 2, none⟩ = some (.int .i64 p.val.num) ∧ w.cell? ⟨b, o + 3, none⟩ = some (.string p.val.text) ∧ w.cell? ⟨b, o + 4, none⟩ = some (.float .f64 p.val.real)
def RdP (w : World) (v : Value) (l : List Pr) : Prop :=
  ((∃ a c, v = .slice a 0 c) ∧ l = []) ∨ ∃ (b o c : Nat), v = .slice (some ⟨b, o, none⟩) l.length c ∧ l.length ≤ c ∧ ∀ i (h : i < l.length), PrAt w b (o + i * 5) l[i]

theorem PrAt.on {w w' : World} {b o : Nat} {p : Pr} (h : PrAt w b o p) (hb : Below w.heap.size w w') : PrAt w' b o p := by
  obtain ⟨h0, h1, h2, h3, h4⟩ := h
  have hl : b < w.heap.size := World.block_lt_of_cell? w _ h0
  exact ⟨by rw [hb.cell hl]; exact h0, by rw [hb.cell hl]; exact h1, by rw [hb.cell hl]; exact h2, by rw [hb.cell hl]; exact h3, by rw [hb.cell hl]; exact h4⟩
theorem RdP.on {w w' : World} {v : Value} {l : List Pr} (h : RdP w v l) (hb : Below w.heap.size w w') : RdP w' v l := by
  rcases h with h | ⟨b, o, c, rfl, hc, h⟩
  · exact .inl h
  · exact .inr ⟨b, o, c, rfl, hc, fun i hi => (h i hi).on hb⟩

/-- Whether each stands behind the one ahead of it. -/
def rising : List Pr → Bool
  | [] => true
  | [_] => true
  | a :: b :: l => Op.bytesLess a.name.toList b.name.toList && rising (b :: l)
def validL (l : List Pr) : Bool := decide (l.length ≤ 16) && (l.all canB && rising l)
end Go.Proofs.YtmaaacaifpgpaaaGreatDoor
