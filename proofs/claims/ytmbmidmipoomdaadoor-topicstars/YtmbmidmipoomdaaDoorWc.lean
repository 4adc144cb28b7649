/- What topic.turn, Slashes, Dots, Place and Find answer of any texts, and the law's wakes. Conditions: Vars, and texts that are not too long where a row says so. -/
import Derived.Test.YtmbmidmipoomdaaDoorWb
import Derived.OwnWalk
import Derived.Laws.Concat
namespace Go.Proofs.YtmbmidmipoomdaaDoor
open Go.RowKit Go.Lib

theorem e45 : ∀ args w, (callFunc 45 args).run Tryd.prog w = .ok (.enter 45 args) w := fun args w => by go_simp
theorem turnR_any (w : World) (z : Int) : Calls Tryd.prog 45 #[.int .i32 z] w fun e w' => e = .returned (.int .i32 (turnR z)) ∧ w' = w := by
  by_cases h1 : z = 46
  · subst h1
    go_enter Tryd.func45, Tryd.ntmps45
    go_wp2
    go_ret
    exact ⟨rfl, rfl⟩
  by_cases h2 : z = 47
  · subst h2
    go_enter Tryd.func45, Tryd.ntmps45
    go_wp2
    go_ret
    exact ⟨rfl, rfl⟩
  by_cases h3 : z = 42
  · subst h3
    go_enter Tryd.func45, Tryd.ntmps45
    go_wp2
    go_ret
    exact ⟨rfl, rfl⟩
  by_cases h4 : z = 43
  · subst h4
    go_enter Tryd.func45, Tryd.ntmps45
    go_wp2
    go_ret
    exact ⟨rfl, rfl⟩
  have e : turnR z = z := by unfold turnR; rw [if_neg h1, if_neg h2, if_neg h3, if_neg h4]
  rw [e]
  have h1 : (z == 46) = false := by rw [beq_eq_false_iff_ne]; exact h1
  have h2 : (z == 47) = false := by rw [beq_eq_false_iff_ne]; exact h2
  have h3 : (z == 42) = false := by rw [beq_eq_false_iff_ne]; exact h3
  have h4 : (z == 43) = false := by rw [beq_eq_false_iff_ne]; exact h4
  go_enter Tryd.func45, Tryd.ntmps45
  go_wp2
  go_ret
  exact ⟨rfl, rfl⟩
theorem map_turn (w : World) : MapAtRunes Tryd.prog 45 #[] turnR w := fun W x _ _ =>
  (turnR_any W (x : Int)).mono fun _ _ ⟨he, hw⟩ => ⟨he, 0, hw⟩
theorem turn_any (w : World) (hv : Vars w) (l : List UInt8) (hl : l.length < 35184372088832) : Calls Tryd.prog 35 #[str l] w fun e w' => e = .returned (str (Lib.mapD turnR l)) ∧ Below w.heap.size w w' := by
  have hc := Tryd.strings_Map_runes 45 #[] e45 turnR ⟨l.toArray⟩ w hl (map_turn w) (fun x hx => by unfold turnR; repeat' split; all_goals omega) hv.tabs
  rw [show (⟨l.toArray⟩ : ByteArray).data.toList = l from rfl] at hc
  generalize Lib.mapD turnR l = m at *
  go_enter Tryd.func35, Tryd.ntmps35
  go_wp2_with (go_at_call 44; refine hc.mono ?_; rintro e w' ⟨rfl, hb⟩)
  go_ret
  exact ⟨rfl, hb⟩

theorem slashes_ok (w : World) (hv : Vars w) (l : List UInt8) (h : pat l = true) : Calls Tryd.prog 18 #[str l] w fun e w' => e = .returned (.tuple #[str (l.map turnB), .int .i64 0]) ∧ Below w.heap.size w w' := by
  have hp := pattern_any w hv l
  rw [h] at hp
  have ht := fun W (hW : Vars W) => turn_any W hW l (by have := (pat_nums h).1; omega)
  rw [mapD_ascii l (pat_ascii h)] at ht
  generalize l.map turnB = m at *
  go_enter Tryd.func18, Tryd.ntmps18
  go_wp2_with fail
  refine hp.mono ?_
  rintro e1 w1 ⟨rfl, hb1⟩
  go_wp2_with fail
  refine (ht w1 (hv.below hb1)).mono ?_
  rintro e2 w2 ⟨rfl, hb2⟩
  go_wp2
  go_ret2
  exact ⟨rfl, nxt hb1 hb2⟩
theorem slashes_bad (w : World) (hv : Vars w) (l : List UInt8) (h : pat l = false) : Calls Tryd.prog 18 #[str l] w fun e w' => e = .returned (.tuple #[str [], .int .i64 30]) ∧ Below w.heap.size w w' := by
  have hp := pattern_any w hv l
  rw [h] at hp
  go_enter Tryd.func18, Tryd.ntmps18
  go_wp2_with fail
  refine hp.mono ?_
  rintro e1 w1 ⟨rfl, hb1⟩
  go_wp2
  go_ret2
  exact ⟨rfl, hb1⟩
theorem dots_ok (w : World) (hv : Vars w) (l : List UInt8) (hl : l.length < 35184372088832) (h : pat (l.map turnB) = true) : Calls Tryd.prog 20 #[str l] w fun e w' => e = .returned (.tuple #[str (l.map turnB), .int .i64 0]) ∧ Below w.heap.size w w' := by
  have ht := turn_any w hv l hl
  have h1 := pat_mapD l
  rw [h1.2 (by rw [h1.1]; exact h)] at ht
  clear h1
  obtain ⟨m, hm⟩ : ∃ m, l.map turnB = m := ⟨_, rfl⟩
  rw [hm] at ht h ⊢
  clear hm
  go_enter Tryd.func20, Tryd.ntmps20
  go_wp2_with fail
  refine ht.mono ?_
  rintro e1 w1 ⟨rfl, hb1⟩
  have hp := pattern_any w1 (hv.below hb1) m
  rw [h] at hp
  go_wp2_with fail
  refine hp.mono ?_
  rintro e2 w2 ⟨rfl, hb2⟩
  go_wp2
  go_ret2
  exact ⟨rfl, nxt hb1 hb2⟩
theorem dots_bad (w : World) (hv : Vars w) (l : List UInt8) (hl : l.length < 35184372088832) (h : pat (l.map turnB) = false) : Calls Tryd.prog 20 #[str l] w fun e w' => e = .returned (.tuple #[str [], .int .i64 30]) ∧ Below w.heap.size w w' := by
  have ht := turn_any w hv l hl
  rw [← (pat_mapD l).1] at h
  obtain ⟨m, hm⟩ : ∃ m, Lib.mapD turnR l = m := ⟨_, rfl⟩
  rw [hm] at ht h
  clear hm
  go_enter Tryd.func20, Tryd.ntmps20
  go_wp2_with fail
  refine ht.mono ?_
  rintro e1 w1 ⟨rfl, hb1⟩
  have hp := pattern_any w1 (hv.below hb1) m
  rw [h] at hp
  go_wp2_with fail
  refine hp.mono ?_
  rintro e2 w2 ⟨rfl, hb2⟩
  go_wp2
  go_ret2
  exact ⟨rfl, nxt hb1 hb2⟩

def qP : List UInt8 := [47, 113, 117, 101, 117, 101, 47]
def tP : List UInt8 := [47, 116, 111, 112, 105, 99, 47]
def roadP (q : Bool) : List UInt8 := if q then qP else tP
attribute [-go_sem] run_string_add_if
theorem place_any (w : World) (q : Bool) (l : List UInt8) (hl : l.length ≤ 8388608) : Calls Tryd.prog 24 #[.bool q, str l] w fun e w' => e = .returned (str (roadP q ++ l)) ∧ w' = w := by
  have hA : ∀ W, _ := fun W => run_string_add_lists (P := Tryd.prog) (w := W) qP l (by decide) (by omega)
  have hB : ∀ W, _ := fun W => run_string_add_lists (P := Tryd.prog) (w := W) tP l (by decide) (by omega)
  unfold qP at hA
  unfold tP at hB
  clear hl
  cases q with
  | true =>
    go_enter Tryd.func24, Tryd.ntmps24
    go_wp2
    go_ret
    exact ⟨rfl, rfl⟩
  | false =>
    go_enter Tryd.func24, Tryd.ntmps24
    go_wp2
    go_ret
    exact ⟨rfl, rfl⟩

/-- What Find answers: is it a queue, its text, the error. -/
def findL (l : List UInt8) : Bool × List UInt8 × Int :=
  if qP.isPrefixOf l && isW (l.drop 7) then (true, l.drop 7, 0) else if tP.isPrefixOf l && pat (l.drop 7) then (false, l.drop 7, 0) else (false, [], 30)
set_option maxHeartbeats 1000000 in
theorem find_any (w : World) (hv : Vars w) (l : List UInt8) : Calls Tryd.prog 22 #[str l] w fun e w' => e = .returned (.tuple #[.bool (findL l).1, str (findL l).2.1, .int .i64 (findL l).2.2]) ∧ Below w.heap.size w w' := by
  have hq := Tryd.strings_CutPrefix ⟨l.toArray⟩ ⟨qP.toArray⟩ w
  have ht : ∀ W, _ := fun W => Tryd.strings_CutPrefix ⟨l.toArray⟩ ⟨tP.toArray⟩ W
  simp only [Lib.trimPrefix, Lib.hasPrefix, show qP.length = 7 from rfl, show tP.length = 7 from rfl] at hq ht
  have hn := fun W => name_any W ⟨(l.drop 7).toArray⟩
  simp only [show bl ⟨(l.drop 7).toArray⟩ = l.drop 7 from rfl] at hn
  have hp := fun W (hv : Vars W) => pattern_any W hv (l.drop 7)
  unfold findL
  obtain ⟨d, hd⟩ : ∃ d, l.drop 7 = d := ⟨_, rfl⟩
  simp only [hd] at hq ht hn hp ⊢
  clear hd
  generalize qP.isPrefixOf l = q1 at *
  generalize tP.isPrefixOf l = t1 at *
  generalize isW d = q2 at *
  generalize pat d = t2 at *
  unfold qP at hq
  unfold tP at ht
  cases q1 <;> cases q2 <;> cases t1 <;> cases t2 <;> simp only [Bool.false_eq_true, if_true, if_false, Bool.and_true, Bool.and_false, Bool.and_self] at hq ht hn hp ⊢
  all_goals (
    go_enter Tryd.func22, Tryd.ntmps22
    go_wp2_with fail
    refine hq.mono ?_
    rintro e1 w1 ⟨rfl, rfl⟩
    go_wp2_with (first | (go_at_call 38; refine (hn _).mono ?_; rintro e w' ⟨rfl, rfl⟩) | (go_at_call 37; refine (ht _).mono ?_; rintro e w' ⟨rfl, rfl⟩) | (go_at_call 12; refine (hp _ hv).mono ?_; rintro e w' ⟨rfl, hb⟩))
    go_ret3
    first | exact ⟨rfl, Below.refl _ _⟩ | exact ⟨rfl, hb⟩)

set_option maxRecDepth 10000 in
theorem wakes_any (w : World) (hv : Vars w) : Calls Tryd.prog 9 #[] w fun e w' => e = .returned (.bool true) ∧ Below w.heap.size w w' := by
  have h1 := slashes_ok w hv [97, 46, 42, 46, 35] (by decide)
  rw [show ([97, 46, 42, 46, 35] : List UInt8).map turnB = [97, 47, 43, 47, 35] by decide] at h1
  have h2 := fun W (hW : Vars W) => match_any W hW [97, 46, 35] [97]
  rw [show mat [97, 46, 35] [97] = true by decide] at h2
  have h3 := fun W (hW : Vars W) => match_any W hW [97, 46, 42] [97]
  rw [show mat [97, 46, 42] [97] = false by decide] at h3
  go_enter Tryd.func9, Tryd.ntmps9
  go_wp2_with fail
  refine h1.mono ?_
  rintro e1 w1 ⟨rfl, hb1⟩
  have hv1 := hv.below hb1
  go_wp2_with fail
  refine (h2 w1 hv1).mono ?_
  rintro e2 w2 ⟨rfl, hb2⟩
  go_wp2_with fail
  refine (h3 w2 (hv1.below hb2)).mono ?_
  rintro e3 w3 ⟨rfl, hb3⟩
  go_wp2
  go_ret
  exact ⟨rfl, nxt hb1 (nxt hb2 hb3)⟩
end Go.Proofs.YtmbmidmipoomdaaDoor
