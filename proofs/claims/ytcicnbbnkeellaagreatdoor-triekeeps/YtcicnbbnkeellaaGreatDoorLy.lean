/- The program's trie and the document's beside one another: what the calls of one do to both; the calls on a nil trie. Conditions: Vars, what the library's tables hold when the call begins, and those that each row states. -/
import Derived.Test.YtcicnbbnkeellaaGreatDoorLg
import Derived.Test.YtcicnbbnkeellaaGreatDoorRxa
namespace Go.Proofs.YtcicnbbnkeellaaGreatDoor
open Go.RowKit Go.Lib
set_option maxRecDepth 100000

theorem addC_To : To.addC = addC := rfl
theorem addR_To : To.addR = addR := rfl
/-- The blocks of the document's trie. -/
def ZR (q : Nat) (vp vi : Value) (b : Nat) : Prop := b = q ∨ vp.ownBlock = some b ∨ vi.ownBlock = some b
theorem own_lt {e : TypeId} {w : World} {B : Nat} {v : Value} {xs : List Value} (h : To.OwnV e w B v xs) {b : Nat} (hb : v.ownBlock = some b) : b < w.heap.size := by
  obtain ⟨_, ⟨rfl, _⟩ | ⟨g, cap, cur, rfl, _, h2, _⟩⟩ := h
  · cases hb
  · injection hb with hb
    subst hb
    exact lt_of_some h2
theorem own_same {e : TypeId} {w w' : World} {B : Nat} {v : Value} {xs : List Value} (h : To.OwnV e w B v xs) (hk : ∀ b, v.ownBlock = some b → w'.heap[b]? = w.heap[b]?) : To.OwnV e w' B v xs := by
  obtain ⟨h1, h2 | ⟨g, cap, cur, rfl, h3, h4, h5⟩⟩ := h
  · exact ⟨h1, .inl h2⟩
  · exact ⟨h1, .inr ⟨g, cap, cur, rfl, h3, by rw [hk g rfl]; exact h4, h5⟩⟩
theorem rt_lt {w : World} {B q : Nat} {T : TypeId} {vp vi : Value} {l : List Pr} (h : To.RTr w B q T vp vi l) {b : Nat} (hb : ZR q vp vi b) : b < w.heap.size := by
  rcases hb with rfl | hb | hb
  · exact h.lt
  · exact own_lt h.ps hb
  · exact own_lt h.is hb
theorem rt_on {w w' : World} {B q : Nat} {T : TypeId} {vp vi : Value} {l : List Pr} (h : To.RTr w B q T vp vi l) (hk : ∀ b, ZR q vp vi b → w'.heap[b]? = w.heap[b]?) : To.RTr w' B q T vp vi l :=
  ⟨(hk q (.inl rfl)).trans h.blk, h.up, own_same h.ps (fun b hb => hk b (.inr (.inl hb))), own_same h.is (fun b hb => hk b (.inr (.inr hb))), h.ty⟩

/-- Both tries, made by the law, none of whose blocks is in K. -/
structure StR (w0 : World) (K : Nat → Prop) (W : World) (t N : Nat) (lt : List Pr) (q : Nat) (T : TypeId) (lu : List Pr) : Prop where
  tr : ∃ X vp vi, PT W X t N lt ∧ To.RTr W w0.heap.size q T vp vi lu ∧ (∀ b, X b → w0.heap.size ≤ b ∧ ¬ K b ∧ ¬ ZR q vp vi b) ∧ (∀ b, ZR q vp vi b → ¬ K b)
  below : Below w0.heap.size w0 W
  lt : ∀ b, K b → b < W.heap.size
theorem StR.on {w0 W w' : World} {K : Nat → Prop} {t N q : Nat} {lt lu : List Pr} {T : TypeId} (h : StR w0 K W t N lt q T lu) (hb : Below W.heap.size W w') : StR w0 K w' t N lt q T lu := by
  obtain ⟨X, vp, vi, h1, h2, h3, h4⟩ := h.tr
  exact ⟨⟨X, vp, vi, h1.below hb, h2.on hb, h3, h4⟩, nxt h.below hb, fun b hk => Nat.lt_of_lt_of_le (h.lt b hk) hb.size⟩
theorem StR.facts {w0 W : World} {K : Nat → Prop} {t N q : Nat} {lt lu : List Pr} {T : TypeId} (h : StR w0 K W t N lt q T lu) : (∀ x ∈ lt, pat x.1 = true) ∧ Rising lt ∧ lt.length ≤ 64 := by
  obtain ⟨X, vp, vi, h1, h2, h3, h4⟩ := h.tr
  exact h1.facts
theorem StR.one {w0 W : World} {K : Nat → Prop} {t N q : Nat} {lt lu : List Pr} {T : TypeId} (h : StR w0 K W t N lt q T lu) : St w0 K W t N lt := by
  obtain ⟨X, vp, vi, h1, h2, h3, h4⟩ := h.tr
  exact ⟨⟨X, h1, fun b hx => ⟨(h3 b hx).1, (h3 b hx).2.1⟩⟩, h.below, h.lt⟩
theorem StR.of_fr {w0 W w' : World} {K X X' : Nat → Prop} {t N' q : Nat} {lt' lu : List Pr} {T : TypeId} {vp vi : Value} (h2 : To.RTr W w0.heap.size q T vp vi lu) (h3 : ∀ b, X b → w0.heap.size ≤ b ∧ ¬ K b ∧ ¬ ZR q vp vi b) (h4 : ∀ b, ZR q vp vi b → ¬ K b)
    (hb : Below w0.heap.size w0 W) (hk : ∀ b, K b → b < W.heap.size) (h5 : PT w' X' t N' lt') (h6 : Fr X X' W w') : StR w0 K w' t N' lt' q T lu ∧ Kp K W w' := by
  refine ⟨⟨⟨X', vp, vi, h5, rt_on h2 (fun b hz => h6.keep b (rt_lt h2 hz) (fun hx => (h3 b hx).2.2 hz)), fun b hx => ?_, h4⟩, hb.trans (h6.below (fun b hx => (h3 b hx).1) hb.size), fun b hkb => Nat.lt_of_lt_of_le (hk b hkb) h6.size⟩, h6.size, fun b hkb => h6.keep b (hk b hkb) (fun hx => (h3 b hx).2.1 hkb)⟩
  rcases h6.new b hx with h | h
  · exact h3 b h
  · exact ⟨Nat.le_trans hb.size h, fun hkb => by have := hk b hkb; omega, fun hz => by have := rt_lt h2 hz; omega⟩
theorem StR.add {w0 W : World} {K : Nat → Prop} {t N q : Nat} {lt lu : List Pr} {T : TypeId} (h : StR w0 K W t N lt q T lu) (hv : To.Vars w0) (p : List UInt8) (hpl : p.length ≤ 9223372036854775807) (z : Int) (hN : N ≤ 1000000) :
    Calls Tryz.prog 10 #[.pointer (some ⟨t, 0, none⟩), str p, .int .i64 z] W fun e w' => e = .returned (.int .i64 (addC lt p z)) ∧ StR w0 K w' t (N + 8) (addR lt p z) q T lu ∧ Kp K W w' := by
  obtain ⟨X, vp, vi, h1, h2, h3, h4⟩ := h.tr
  refine (add_any W X t N lt h1 (hv.below h.below) p hpl z hN).mono ?_
  rintro e w' ⟨rfl, X', h6, h7⟩
  exact ⟨rfl, StR.of_fr h2 h3 h4 h.below h.lt h6 h7⟩
theorem StR.drop {w0 W : World} {K : Nat → Prop} {t N q : Nat} {lt lu : List Pr} {T : TypeId} (h : StR w0 K W t N lt q T lu) (p : List UInt8) (hpl : p.length ≤ 9223372036854775807) (z : Int) :
    Calls Tryz.prog 12 #[.pointer (some ⟨t, 0, none⟩), str p, .int .i64 z] W fun e w' => e = .returned (.int .i64 (if (p, z) ∈ lt then 0 else 33)) ∧ StR w0 K w' t N (lt.erase (p, z)) q T lu ∧ Kp K W w' := by
  obtain ⟨X, vp, vi, h1, h2, h3, h4⟩ := h.tr
  refine (drop_any W X t N lt h1 p hpl z).mono ?_
  rintro e w' ⟨rfl, X', h6, h7⟩
  exact ⟨rfl, StR.of_fr h2 h3 h4 h.below h.lt h6 h7⟩
theorem StR.of_fq {w0 W w' : World} {K X : Nat → Prop} {t N q : Nat} {lt lu' : List Pr} {T : TypeId} {vp vi v1 v2 : Value} (h1 : PT W X t N lt) (hup : w0.heap.size ≤ q) (h3 : ∀ b, X b → w0.heap.size ≤ b ∧ ¬ K b ∧ ¬ ZR q vp vi b) (h4 : ∀ b, ZR q vp vi b → ¬ K b)
    (hb : Below w0.heap.size w0 W) (hk : ∀ b, K b → b < W.heap.size) (h5 : To.RTr w' w0.heap.size q T v1 v2 lu') (h6 : To.Fq q W w')
    (n1 : ∀ b, v1.ownBlock = some b → vp.ownBlock = some b ∨ W.heap.size ≤ b) (n2 : ∀ b, v2.ownBlock = some b → vi.ownBlock = some b ∨ W.heap.size ≤ b) : StR w0 K w' t N lt q T lu' ∧ Kp K W w' := by
  have hz : ∀ b, ZR q v1 v2 b → ZR q vp vi b ∨ W.heap.size ≤ b := fun b hb => by
    rcases hb with h | h | h
    · exact .inl (.inl h)
    · rcases n1 b h with h | h
      · exact .inl (.inr (.inl h))
      · exact .inr h
    · rcases n2 b h with h | h
      · exact .inl (.inr (.inr h))
      · exact .inr h
  refine ⟨⟨⟨X, v1, v2, h1.on (fun b hx => h6.block b (h1.lt hx) (fun e => (h3 b hx).2.2 (.inl e))), h5, fun b hx => ⟨(h3 b hx).1, (h3 b hx).2.1, fun hz1 => ?_⟩, fun b hz1 hkb => ?_⟩, ?_, fun b hkb => Nat.lt_of_lt_of_le (hk b hkb) h6.size⟩, h6.size, fun b hkb => h6.block b (hk b hkb) (fun e => h4 b (.inl e) hkb)⟩
  · rcases hz b hz1 with h | h
    · exact (h3 b hx).2.2 h
    · have := h1.lt hx
      omega
  · rcases hz b hz1 with h | h
    · exact h4 b h hkb
    · have := hk b hkb
      omega
  · refine hb.trans ⟨h6.os, h6.tape, h6.output, h6.size, fun k hk => h6.block k (Nat.lt_of_lt_of_le hk hb.size) (by omega)⟩
theorem StR.radd {w0 W : World} {K : Nat → Prop} {t N q : Nat} {lt lu : List Pr} {T : TypeId} (h : StR w0 K W t N lt q T lu) (hl : lu.length ≤ 64) (p : List UInt8) (z : Int) :
    Calls Tryz.prog 11 #[.pointer (some ⟨q, 0, none⟩), str p, .int .i64 z] W fun e w' => e = .returned (.int .i64 (addC lu p z)) ∧ StR w0 K w' t N lt q T (addR lu p z) ∧ Kp K W w' := by
  obtain ⟨X, vp, vi, h1, h2, h3, h4⟩ := h.tr
  refine (To.radd_new W w0.heap.size q T vp vi lu h2 hl p z).mono ?_
  rintro e w' ⟨⟨v1, v2, h5, n1, n2⟩, h6, rfl⟩
  exact ⟨rfl, StR.of_fq h1 h2.up h3 h4 h.below h.lt h5 h6 n1 n2⟩
theorem StR.rdrop {w0 W : World} {K : Nat → Prop} {t N q : Nat} {lt lu : List Pr} {T : TypeId} (h : StR w0 K W t N lt q T lu) (hl : lu.length ≤ 64) (p : List UInt8) (z : Int) :
    Calls Tryz.prog 13 #[.pointer (some ⟨q, 0, none⟩), str p, .int .i64 z] W fun e w' => e = .returned (.int .i64 (if (p, z) ∈ lu then 0 else 33)) ∧ StR w0 K w' t N lt q T (lu.erase (p, z)) ∧ Kp K W w' := by
  obtain ⟨X, vp, vi, h1, h2, h3, h4⟩ := h.tr
  refine (To.rdrop_new W w0.heap.size q T vp vi lu h2 h.below.size (by omega) p z).mono ?_
  rintro e w' ⟨⟨v1, v2, h5, n1, n2⟩, h6, rfl⟩
  exact ⟨rfl, StR.of_fq h1 h2.up h3 h4 h.below h.lt h5 h6 n1 n2⟩
theorem StR.rfind {w0 W : World} {K : Nat → Prop} {t N q : Nat} {lt lu : List Pr} {T : TypeId} (h : StR w0 K W t N lt q T lu) (hl : lu.length ≤ 64) (hp : ∀ x ∈ lu, pat x.1 = true) (s : List UInt8) :
    Calls Tryz.prog 16 #[.pointer (some ⟨q, 0, none⟩), str s] W fun e w' => ∃ v, e = .returned v ∧ To.OwnV 3 w' W.heap.size v (ints (findP lu s)) ∧ Below W.heap.size W w' := by
  obtain ⟨X, vp, vi, h1, h2, h3, h4⟩ := h.tr
  refine (To.rfind_any W w0.heap.size q T vp vi lu h2 (by omega) (fun x hx => (pat_nums (hp x hx)).1) s).mono ?_
  rintro e w' ⟨⟨v, rfl, h5⟩, h6⟩
  exact ⟨v, rfl, h5, h6⟩
end Go.Proofs.YtcicnbbnkeellaaGreatDoor
