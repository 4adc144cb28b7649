/- The statement SealBack, walked: it answers true, and of what was there nothing has turned, for any bytes that can be read and any number. -/
import Derived.Test.YthamgdikggpkhaaTellsWalk
import Derived.Test.YthamgdikggpkhaaPiecesWalk
import Derived.Deep.RegionWith
import Derived.Deep.DeepCutAuto
namespace Go.Proofs.Ythamgdikggpkhaa
open Go.RowKit Go.Lib

/-- What is taken of bytes: those ahead, the number, whether there are eight. -/
def takeN (l : List UInt8) : List UInt8 × Nat × Bool := if l.length < 8 then ([], 0, false) else (l.take (l.length - 8), de (l.drop (l.length - 8)), true)
theorem take_any (w : World) (v : Value) (l : List UInt8) (h : RdA w v l) (hl : l.length + 100 ≤ 140737488355328) :
    Calls Try.prog 18 #[v] w fun e w' => ∃ v', e = .returned (.tuple #[v', .int .u64 ((takeN l).2.1 : Nat), .bool (takeN l).2.2]) ∧ Own w' w.heap.size v' (takeN l).1 ∧ Below w.heap.size w w' := by
  unfold takeN
  split
  · refine (take_few w v l h (by assumption)).mono ?_
    rintro e w' ⟨rfl, rfl⟩
    exact ⟨_, rfl, Own.nil _ _, Below.refl _ _⟩
  · exact take_many w v (l.take (l.length - 8)) (l.drop (l.length - 8)) (by rw [List.take_append_drop]; exact h) (by simp; omega) (by simp; omega)
theorem reftake_any (w : World) (v : Value) (l : List UInt8) (h : RdA w v l) (hl : l.length + 100 ≤ 140737488355328) :
    Calls Try.prog 19 #[v] w fun e w' => ∃ v', e = .returned (.tuple #[v', .int .u64 ((takeN l).2.1 : Nat), .bool (takeN l).2.2]) ∧ Own w' w.heap.size v' (takeN l).1 ∧ Below w.heap.size w w' := by
  unfold takeN
  split
  · refine (reftake_few w v l h (by assumption)).mono ?_
    rintro e w' ⟨rfl, rfl⟩
    exact ⟨_, rfl, Own.nil _ _, Below.refl _ _⟩
  · exact reftake_many w v (l.take (l.length - 8)) (l.drop (l.length - 8)) (by rw [List.take_append_drop]; exact h) (by simp; omega) (by simp; omega)
theorem take_put (l : List UInt8) (n : Nat) (hn : n < 18446744073709551616) : takeN (l ++ be8 n) = (l, n, true) := by
  have e : (be8 n).length = 8 := rfl
  unfold takeN
  rw [if_neg (by simp [e]), List.length_append, e, Nat.add_sub_cancel, List.take_left' rfl, List.drop_left' rfl, de_be8 n hn]

def room : List UInt8 := [114, 111, 111, 109, 32, 102, 111, 114, 32, 101, 105, 103, 104, 116]
theorem room_string (l : List UInt8) : (⟨l.toArray⟩ : ByteArray) ++ ⟨#[114, 111, 111, 109, 32, 102, 111, 114, 32, 101, 105, 103, 104, 116]⟩ = ⟨(l ++ room).toArray⟩ := by
  apply ByteArray.ext
  simp [room]

def room_of (l : List UInt8) : ByteArray := (⟨l.toArray⟩ : ByteArray) ++ ⟨#[114, 111, 111, 109, 32, 102, 111, 114, 32, 101, 105, 103, 104, 116]⟩
theorem conv_anyA {w : World} {v : Value} {l : List UInt8} (h : RdA w v l) : (convert 23 9 v).run Try.prog w = .ok (.string ⟨l.toArray⟩) w := by
  rcases h with h | ⟨⟨a', c', rfl⟩, rfl⟩
  · exact conv_any h
  · rw [run_convert_bytes_string w 23 9 5 _ _ _ Try.underlying23 Try.underlying5 Try.underlying9, run_bytesToString w a' 0 c' []]
    · rfl
    · simp [loadCells, loadCellsFrom]
set_option maxHeartbeats 1000000 in
theorem back_early (w : World) (n : Nat) (v : Value) (l : List UInt8) (h : RdA w v l) (hl : l.length ≤ 140737488355328) (hbad : 16384 < l.length) :
    Calls Try.prog 8 #[v, .int .u64 n] w fun e w' => e = .returned (.bool true) ∧ Below w.heap.size w w' := by
  obtain ⟨a, c, rfl⟩ := h.len
  clear h
  go_enter Try.func8, Try.ntmps8
  go_wp2_with (go_at_call 9; refine (wakes_any _).mono ?_; rintro e w1 ⟨rfl, b1⟩)
  go_ret
  exact ⟨rfl, b1⟩

theorem own14 {w : World} {B : Nat} {v : Value} {l : List UInt8} (h : Own w B v (l ++ room)) : ∃ g c, v = .slice (some ⟨g, 0, none⟩) (l.length + 14) c ∧ B ≤ g ∧ g < w.heap.size ∧ l.length + 14 ≤ c := by
  have e : (l ++ room).length = l.length + 14 := by simp [room]
  obtain ⟨g, c, h1, h2, h3, h4⟩ := own_is h (by omega)
  rw [e] at h1 h4
  exact ⟨g, c, h1, h2, h3, h4⟩
theorem own8 {w : World} {B n : Nat} {v : Value} {l : List UInt8} (h : Own w B v (l ++ be8 n)) : ∃ g c, v = .slice (some ⟨g, 0, none⟩) (l.length + 8) c ∧ B ≤ g ∧ g < w.heap.size ∧ l.length + 8 ≤ c := by
  have e : (l ++ be8 n).length = l.length + 8 := by simp [be8]
  obtain ⟨g, c, h1, h2, h3, h4⟩ := own_is h (by omega)
  rw [e] at h1 h4
  exact ⟨g, c, h1, h2, h3, h4⟩
theorem own_after {w w' : World} {B g : Nat} {v : Value} {l : List UInt8} (h : Own w B v l) (hg : w.grownBy w' (some g)) (hB : g < B) : Own w' B v l := by
  refine World.ownsRow.kept h hg ?_
  cases e : v.ownBlock with
  | none => exact .inl rfl
  | some k => exact .inr (fun h' => by have := (World.ownsRow.lt h k e).1; cases h'; omega)
theorem own_head {w : World} {B g c : Nat} {l : List UInt8} (h : Own w B (.slice (some ⟨g, 0, none⟩) (l.length + 14) c) (l ++ room)) (hc : l.length ≤ c) : RdA w (.slice (some ⟨g, 0, none⟩) l.length c) l := by
  refine .inl (.inr ⟨g, 0, c, rfl, hc, fun i hi => ?_⟩)
  rw [Nat.zero_add, h.cell (i := i) (by simp; omega), getD_left _ _ _ hi]
set_option maxHeartbeats 4000000 in
set_option maxRecDepth 100000 in
theorem back_late (w : World) (n : Nat) (v : Value) (l : List UInt8) (hn : n < 18446744073709551616) (h : RdA w v l) (hl : l.length ≤ 16384) :
    Calls Try.prog 8 #[v, .int .u64 n] w fun e w' => e = .returned (.bool true) ∧ Below w.heap.size w w' := by
  obtain ⟨a, c, rfl⟩ := h.len
  have HB : Hid (RdA w (.slice a l.length c) l) := h
  clear h
  go_enter Try.func8, Try.ntmps8
  go_wp2_with (first | (go_at_call 9; refine (wakes_any _).mono ?_; rintro e w1 ⟨rfl, b1⟩; have hs := b1.size; have hr := (HB.out.on b1).on (below_new _ (.cells #[] 5))) | (at_builtin; refine appB rfl (.tmp 22) (.tmp 23) rfl w.heap.size _ _ [] l _ rfl (own_empty _ _ hs) rfl hr (by simp; omega) (by simp; omega) ?_; intro v2 w3 ho2 hb2; simp only [List.nil_append] at ho2; have hs3 := hb2.size; simp only [World.size_alloc] at hs3) | (at_builtin; refine appS rfl (.tmp 24) (.const (.string ⟨#[114, 111, 111, 109, 32, 102, 111, 114, 32, 101, 105, 103, 104, 116]⟩)) rfl w.heap.size v2 l w3 ⟨#[114, 111, 111, 109, 32, 102, 111, 114, 32, 101, 105, 103, 104, 116]⟩ rfl ho2 rfl (by simp [ByteArray.size]; omega) (by omega) ?_; intro v5 w5 ho5 hb5; obtain ⟨g, cp, rfl, hg, hgl, hlc⟩ := own14 ho5; have hs5 := hb5.size))
  have hr5 : RdA w5 (.slice (some ⟨g, 0, none⟩) l.length cp) l := own_head ho5 (by omega)
  have b5 : Below w.heap.size w w5 := ((b1.trans ((below_new w1 (.cells #[] 5)).mono hs)).trans hb2).trans hb5
  have hM5 : RdB w5 (.slice (some ⟨g, 0, none⟩) (l.length + 14) cp) (l ++ room) := ho5.rd
  clear hr ho2 hb2 hb5 b1 ho5
  have PU := put_any w5 _ l n hn hr5 (by omega)
  refine PU.mono ?_
  rintro e w6 ⟨v6, rfl, ho6, hb6⟩
  have b6 := b5.trans (hb6.mono (by omega))
  have hs6 := hb6.size
  have hM6 := hM5.on hb6
  have hX6 := ho6.rd
  clear PU hr5 hM5 b5
  go_wp2_with fail
  have hRm : Hid (room_of l = (⟨(l ++ room).toArray⟩ : ByteArray)) := room_string l
  have f1 : (convert 23 9 v6).run Try.prog w6.drew = .ok (.string ⟨(l ++ be8 n).toArray⟩) w6.drew := conv_any (hX6.on (Below.refl _ _).drew)
  have f2 : (convert 23 9 (.slice (some ⟨g, 0, none⟩) (l.length + 14) cp)).run Try.prog w6.drew = .ok (.string (room_of l)) w6.drew := by
    rw [hRm.out]; exact conv_any (hM6.on (Below.refl _ _).drew)
  have f3 : (convert 23 9 (.slice a l.length c)).run Try.prog w6.drew = .ok (.string ⟨l.toArray⟩) w6.drew := conv_anyA ((HB.out.on b6).on (Below.refl _ _).drew)
  have N17 : Hid (Calls Try.prog 17 #[.slice a l.length c, .int .u64 n] w6.drew fun e w' => ∃ v', e = .returned v' ∧ (convert 23 9 v').run Try.prog w' = .ok (.string ⟨(l ++ be8 n).toArray⟩) w' ∧ (convert 23 9 v6).run Try.prog w' = .ok (.string ⟨(l ++ be8 n).toArray⟩) w' ∧ (convert 23 9 (.slice (some ⟨g, 0, none⟩) (l.length + 14) cp)).run Try.prog w' = .ok (.string (room_of l)) w' ∧ (convert 23 9 (.slice a l.length c)).run Try.prog w' = .ok (.string ⟨l.toArray⟩) w' ∧ Hid (Below w6.heap.size w6 w')) := by
    have hdr : Below w6.heap.size w6 w6.drew := (Below.refl _ _).drew
    refine (refput_any w6.drew _ l n hn ((HB.out.on b6).on hdr) (by omega)).mono ?_
    rintro e w' ⟨v', rfl, ho, hb⟩
    have hb' : Below w6.heap.size w6 w' := hdr.trans hb
    exact ⟨v', rfl, conv_any ho.rd, conv_any (hX6.on hb'), by rw [hRm.out]; exact conv_any (hM6.on hb'), conv_anyA ((HB.out.on b6).on hb'), hb'⟩
  have hAdd : (⟨l.toArray⟩ : ByteArray) ++ ⟨#[114, 111, 111, 109, 32, 102, 111, 114, 32, 101, 105, 103, 104, 116]⟩ = room_of l := rfl
  have O6 : Hid (Own w6 w5.heap.size v6 (l ++ be8 n)) := ho6
  have B6 : Hid (Below w.heap.size w w6) := b6
  clear hX6 hM6 hb6 ho6 b6 hRm
  generalize hXX : (⟨(l ++ be8 n).toArray⟩ : ByteArray) = X at *
  clear hXX
  generalize room_of l = M at *
  have hSl : (⟨l.toArray⟩ : ByteArray).size ≤ 16384 := by simpa [ByteArray.size] using hl
  generalize hSS : (⟨l.toArray⟩ : ByteArray) = S at *
  have HS : Hid (⟨l.toArray⟩ = S) := hSS
  clear hSS
  go_cut [46] (fun s w' => s = .bool false ∧ Hid (Below w6.heap.size w6 w'))
  case first =>
    go_region_with ((go_at_call 17; refine N17.out.mono ?_; rintro e w7 ⟨v7, rfl, g1, g2, g3, g4, hb7⟩))
    all_goals go_wp2_with fail
    all_goals go_meet
    all_goals exact ⟨rfl, hb7⟩
  case rest =>
    obtain ⟨rfl, hbc⟩ := hcut
    have hb7 : Below w6.heap.size w6 wc := hbc.out
    have hs7 := hb7.size
    have b7 : Hid (Below w.heap.size w wc) := B6.out.trans (hb7.mono (by omega))
    have o7 : Own wc w5.heap.size v6 (l ++ be8 n) := O6.out.on hb7
    obtain ⟨gx, cx, rfl, hgx, hgxl, hlcx⟩ := own8 o7
    have O7 : Hid (Own wc w5.heap.size (.slice (some ⟨gx, 0, none⟩) (l.length + 8) cx) (l ++ be8 n)) := o7
    clear N17 f1 f2 f3 hAdd O6 B6 hb7 hbc o7
    have T18 := take_any wc _ (l ++ be8 n) (.inl O7.out.rd) (by simp [be8]; omega)
    rw [take_put l n hn] at T18
    go_wp2_with fail
    refine T18.mono ?_
    clear T18
    rintro e w8 ⟨v8, rfl, ho8, hb8⟩
    have b8 : Hid (Below w.heap.size w w8) := b7.out.trans (hb8.mono (by omega))
    have hs8 := hb8.size
    have O8 : Hid (Own w8 w5.heap.size (.slice (some ⟨gx, 0, none⟩) (l.length + 8) cx) (l ++ be8 n)) := O7.out.on hb8
    have T19 := reftake_any w8 _ l (HB.out.on b8.out) (by omega)
    go_wp2_with fail
    refine T19.mono ?_
    rintro e w9 ⟨v9, rfl, ho9, hb9⟩
    have b9 : Hid (Below w.heap.size w w9) := b8.out.trans (hb9.mono (by omega))
    have hs9 := hb9.size
    have O9 : Hid (Own w9 w5.heap.size (.slice (some ⟨gx, 0, none⟩) (l.length + 8) cx) (l ++ be8 n)) := O8.out.on hb9
    have Y9 : Hid (Own w9 wc.heap.size v8 l) := ho8.on hb9
    have T20 := take_any w9 _ l (HB.out.on b9.out) (by omega)
    clear T19 b7 b8 O7 O8 hb8 hb9 ho8
    go_wp2_with fail
    refine T20.mono ?_
    rintro e w10 ⟨v10, rfl, ho10, hb10⟩
    have b10 : Hid (Below w.heap.size w w10) := b9.out.trans (hb10.mono (by omega))
    have hs10 := hb10.size
    have O10 : Hid (Own w10 w5.heap.size (.slice (some ⟨gx, 0, none⟩) (l.length + 8) cx) (l ++ be8 n)) := O9.out.on hb10
    have Y10 : Hid (Own w10 wc.heap.size v8 l) := Y9.out.on hb10
    have Z10 : Hid (Own w10 w8.heap.size v9 (takeN l).1) := ho9.on hb10
    have P10 : Hid (Own w10 w9.heap.size v10 (takeN l).1) := ho10
    clear T20 b9 O9 Y9 hb10 ho9 ho10
    generalize (takeN l).1 = tl at *
    generalize (takeN l).2.1 = tn at *
    generalize (takeN l).2.2 = tb at *
    go_wp2_with fail
    go_loopw [67] (fun i wr => ∃ k : Nat, k ≤ l.length + 8 ∧ i = .int .i64 k ∧ w10.grownBy wr (some gx) ∧ ∃ m : List UInt8, m.length = l.length + 8 ∧ Own wr w5.heap.size (.slice (some ⟨gx, 0, none⟩) (l.length + 8) cx) m) (fun i _ => l.length + 8 - (RowKit.intOf i).toNat)
    case atStart => exact ⟨0, by omega, rfl, ⟨rfl, rfl, rfl, Nat.le_refl _, fun _ _ _ => rfl⟩, _, by simp [be8], O10.out⟩
    case round =>
      obtain ⟨k, hk, rfl, hgr, m, hml, hom⟩ := hrel
      by_cases hlt : k < l.length + 8
      · have hcg : wr.cell? ⟨gx, k, none⟩ = some (.int .u8 ((m.getD k 0).toNat : Int)) := hom.cell (by omega)
        have hfz : wr.frozen? ⟨gx, k, none⟩ = false := by
          have h' := hom
          unfold Own at h'
          rw [hml] at h'
          exact World.ownsRow.frozenAt h' k
        have G2 : Hid (w10.grownBy (wr.setCell ⟨gx, k, none⟩ (.int .u8 0)) (some gx)) := ⟨hgr.os, hgr.tape, hgr.output, by simpa using hgr.size, fun j hj hne => by rw [heap_setCell_other wr ⟨gx, k, none⟩ j _ (fun e => hne (by simp [e]))]; exact hgr.block j hj hne⟩
        have O2 : Hid (∃ m' : List UInt8, m'.length = l.length + 8 ∧ Own (wr.setCell ⟨gx, k, none⟩ (.int .u8 0)) w5.heap.size (.slice (some ⟨gx, 0, none⟩) (l.length + 8) cx) m') := by
          rw [← hml] at hom
          have := hom.set k 0
          rw [hml] at this
          exact ⟨m.set k 0, by simpa using hml, this⟩
        clear hgr hom hml
        go_wp2
        go_roundw
        case rel => exact ⟨k + 1, by omega, by go_num, G2.out, O2.out⟩
        case measure => simp [RowKit.intOf]; omega
      · have hY := own_after Y10.out hgr (by omega)
        have hZ := own_after Z10.out hgr (by omega)
        have hP := own_after P10.out hgr (by omega)
        have hB : Below w.heap.size w wr := b10.out.grown hgr b10.out.size (fun j hj => by cases hj; omega)
        have f1 := conv_any hY.rd
        have f2 := conv_any hZ.rd
        have f3 := conv_any hP.rd
        have f4 := conv_anyA (HB.out.on hB)
        have HE : Hid (Below w.heap.size w wr) := hB
        rw [HS.out] at f1 f4
        generalize (⟨tl.toArray⟩ : ByteArray) = TL at *
        clear hY hZ hP hB hgr hom hml
        go_wp2
        go_ret
        exact ⟨ret_true (by simp), HE.out⟩
theorem back_walk (w : World) (n : Nat) (v : Value) (l : List UInt8) (hn : n < 18446744073709551616) (h : RdA w v l) (hl : l.length ≤ 140737488355328) :
    Calls Try.prog 8 #[v, .int .u64 n] w fun e w' => e = .returned (.bool true) ∧ Below w.heap.size w w' := by
  by_cases hbad : 16384 < l.length
  · exact back_early w n v l h hl hbad
  · exact back_late w n v l hn h (by omega)
end Go.Proofs.Ythamgdikggpkhaa
