/- The statement CordPuts, walked: it answers true, and of what was there nothing has turned, for any bytes and numbers that can be read and any text, where the library's table and its two errors' variables read as they were laid. -/
import Derived.Test.YtbdfhmffdnlbfaaDoorWakes
import Derived.Test.YtbdfhmffdnlbfaaDoorRef
import Derived.Deep.RegionWith
namespace Go.Proofs.YtbdfhmffdnlbfaaDoor
open Go.RowKit Go.Lib

theorem RdA.len {w : World} {v : Value} {l : List UInt8} (h : RdA w v l) : ∃ a c, v = .slice a l.length c := by
  rcases h with (⟨rfl, rfl⟩ | ⟨b, o, c, rfl, _⟩) | ⟨⟨a, c, rfl⟩, rfl⟩
  · exact ⟨_, _, rfl⟩
  · exact ⟨_, _, rfl⟩
  · exact ⟨_, _, rfl⟩
theorem RdN.len {w : World} {v : Value} {l : List Int} (h : RdN w v l) : ∃ a c, v = .slice a l.length c := by
  rcases h.2 with ⟨⟨a, c, rfl⟩, rfl⟩ | ⟨b, o, c, rfl, _⟩
  · exact ⟨_, _, rfl⟩
  · exact ⟨_, _, rfl⟩

set_option maxHeartbeats 400000 in
theorem puts_big (w : World) (v u : Value) (l : List UInt8) (zs : List Int) (s : ByteArray) (h : RdA w v l) (hz : RdN w u zs) (hs : s.size ≤ 140737488355328) (hl : l.length ≤ 140737488355328) (hzl : zs.length ≤ 140737488355328) (hV : Vars w.heap.size w)
    (hbig : 8192 < l.length + s.size ∨ 500 < zs.length) :
    Calls Tryd.prog 3 #[v, u, .string s] w fun e w' => e = .returned (.bool true) ∧ Below w.heap.size w w' := by
  obtain ⟨a, c, rfl⟩ := h.len
  obtain ⟨a', c', rfl⟩ := hz.len
  clear h hz
  generalize l.length = n at *
  generalize zs.length = m at *
  go_enter Tryd.func3, Tryd.ntmps3
  go_wp2_with fail
  refine (wakes_any w hV).mono ?_
  rintro e w1 ⟨rfl, hb1⟩
  by_cases h1 : 8192 < n + s.size
  · have h2 : (8192 : Int) < (n : Int) + (s.size : Int) := by omega
    go_wp2
    go_ret
    exact ⟨rfl, hb1⟩
  · have h2 : (n : Int) + (s.size : Int) ≤ 8192 := by omega
    have h3 : (500 : Int) < (m : Int) := by omega
    go_wp2
    go_ret
    exact ⟨rfl, hb1⟩

theorem RdN.at {w : World} {a : Option Addr} {n c : Nat} {zs : List Int} (h : RdN w (.slice a n c) zs) {k : Nat} (hk : k < zs.length) : ∃ b o, a = some ⟨b, o, none⟩ ∧ w.cell? ⟨b, o + k, none⟩ = some (.int .i64 (zs.getD k 0)) := by
  rcases h.2 with ⟨_, rfl⟩ | ⟨b, o, c, e, hc⟩
  · simp at hk
  · cases e
    exact ⟨b, o, rfl, hc k hk⟩

/-- What a slice of bytes is as a string. -/
def ConvTo (w : World) (v : Value) (x : ByteArray) : Prop := (convert 22 9 v).run Tryd.prog w = .ok (.string x) w

theorem last_num (w W : World) (a a' : Option Addr) (c c' : Nat) (l : List UInt8) (zs : List Int) (x : Value) (h : RdA w (.slice a l.length c) l) (hz : RdN w (.slice a' zs.length c') zs) (hV : Vars w.heap.size w)
    (h1 : l.length ≤ 8192) (h2 : zs.length ≤ 500) (hb : Below w.heap.size w W) (hx : RdB W x (l ++ encNs zs)) :
    Calls Tryd.prog 11 #[.slice a l.length c, .slice a' zs.length c'] W fun e w' => ∃ v', e = .returned v' ∧ (convert 22 9 v').run Tryd.prog w' = .ok (.string ⟨(l ++ encNs zs).toArray⟩) w' ∧ (convert 22 9 x).run Tryd.prog w' = .ok (.string ⟨(l ++ encNs zs).toArray⟩) w' ∧ Below w.heap.size w w' := by
  refine (num_any W _ _ l zs (h.on hb) (hz.on hb) (by omega) (hV.up hb hb.size).tab).mono ?_
  rintro e w' ⟨v', rfl, ho, hb'⟩
  exact ⟨v', rfl, conv_any ho.rd, conv_any (hx.on hb'), hb.trans (hb'.mono hb.size)⟩

theorem last_str (w W : World) (a : Option Addr) (c : Nat) (l : List UInt8) (s : ByteArray) (h : RdA w (.slice a l.length c) l) (hV : Vars w.heap.size w) (h1 : l.length + s.size ≤ 8192) (hb : Below w.heap.size w W) :
    Calls Tryd.prog 12 #[.slice a l.length c, .string s] W fun e w' => ∃ v', e = .returned v' ∧ (convert 22 9 v').run Tryd.prog w' = .ok (.string ⟨(l ++ encS s.data.toList).toArray⟩) w' ∧ Hid (∀ W', Below w'.heap.size w' W' → (convert 22 9 v').run Tryd.prog W' = .ok (.string ⟨(l ++ encS s.data.toList).toArray⟩) W') ∧ Below w.heap.size w w' := by
  refine (str_any W _ l s (h.on hb) (by omega) (hV.up hb hb.size).tab).mono ?_
  rintro e w' ⟨v', rfl, ho, hb'⟩
  exact ⟨v', rfl, conv_any ho.rd, fun W' hW' => conv_any (ho.rd.on hW'), hb.trans (hb'.mono hb.size)⟩

theorem last_ref (w W : World) (a : Option Addr) (c : Nat) (l : List UInt8) (s : ByteArray) (h : RdA w (.slice a l.length c) l) (hV : Vars w.heap.size w) (h1 : l.length + s.size ≤ 8192) (hb : Below w.heap.size w W) :
    Calls Tryd.prog 13 #[.slice a l.length c, .string s] W fun e w' => ∃ v', e = .returned v' ∧ (convert 22 9 v').run Tryd.prog w' = .ok (.string ⟨(l ++ encS s.data.toList).toArray⟩) w' ∧ Below W.heap.size W w' ∧ Below w.heap.size w w' := by
  refine (refstr_any W _ l s (h.on hb) (by omega) (hV.up hb hb.size)).mono ?_
  rintro e w' ⟨v', rfl, ho, hb'⟩
  exact ⟨v', rfl, conv_any ho.rd, hb', hb.trans (hb'.mono hb.size)⟩

set_option maxHeartbeats 4000000 in
theorem puts_small (w : World) (v u : Value) (l : List UInt8) (zs : List Int) (s : ByteArray) (h : RdA w v l) (hz : RdN w u zs) (hV : Vars w.heap.size w)
    (h1 : l.length + s.size ≤ 8192) (h2 : zs.length ≤ 500) :
    Calls Tryd.prog 3 #[v, u, .string s] w fun e w' => e = .returned (.bool true) ∧ Below w.heap.size w w' := by
  obtain ⟨a, c, rfl⟩ := h.len
  obtain ⟨a', c', rfl⟩ := hz.len
  have HV : Hid (Vars w.heap.size w) := hV
  have HB : Hid (RdA w (.slice a l.length c) l) := h
  have HZ : Hid (RdN w (.slice a' zs.length c') zs) := hz
  have h3 : (l.length : Int) + (s.size : Int) ≤ 8192 := by omega
  have h4 : (zs.length : Int) ≤ 500 := by omega
  clear h hz hV
  go_enter Tryd.func3, Tryd.ntmps3
  go_wp2_with fail
  refine (wakes_any w HV.out).mono ?_
  rintro e w1 ⟨rfl, hb1⟩
  have hs1 := hb1.size
  have hr := (HB.out.on hb1).on (below_new w1 (.cells #[] 5))
  go_wp2_with (at_builtin; refine appB rfl (.tmp 23) (.tmp 24) rfl w1.heap.size _ _ [] l (w1.alloc (.cells #[] 5)) rfl (own_empty w1 _ (Nat.le_refl _)) rfl hr (by simp; omega) (by simp) ?_)
  intro v2 w2 ho2 hb2
  have b2 : Below w.heap.size w w2 := hb1.trans (((below_new w1 (.cells #[] 5)).trans hb2).mono hs1)
  have hr2 : RdB w2 v2 (l ++ encNs (zs.take 0)) := by simpa [encNs] using ho2.rd
  clear hr hb2 ho2 hb1 hs1
  go_wp2_with fail
  go_loopw [7, 28] (fun v i wr => ∃ k : Nat, k ≤ zs.length ∧ i = .int .i64 k ∧ RdB wr v (l ++ encNs (zs.take k)) ∧ Below w.heap.size w wr) (fun _ i _ => zs.length - (RowKit.intOf i).toNat)
  case atStart => exact ⟨0, Nat.zero_le _, rfl, hr2, b2⟩
  case round =>
    clear hr2 b2
    obtain ⟨k, hk, rfl, hr, hbr⟩ := hrel
    have hwr := hbr.size
    by_cases hlt : k < zs.length
    · obtain ⟨b, o, rfl, hc⟩ := HZ.out.at hlt
      have hcx : wr.cell? ⟨b, o + k, none⟩ = some (.int .i64 (zs.getD k 0)) := by
        rw [hbr.cell (p := ⟨b, o + k, none⟩) (World.block_lt_of_cell? w _ hc)]; exact hc
      clear hc
      have hrg := getD_range HZ.out.1 k
      have htl := take_range HZ.out.1 k
      have hS : Hid (l ++ encNs (zs.take (k + 1)) = l ++ encNs (zs.take k) ++ (itoa (zs.getD k 0) ++ [59])) := by show _ = _; rw [encNs_take zs k hlt]; simp
      have hN := refnum_any wr _ (l ++ encNs (zs.take k)) (zs.getD k 0) (.inl hr) (by simp only [List.length_append]; omega) hrg.1 hrg.2 (HV.out.up hbr hwr)
      clear hr htl
      generalize zs.getD k 0 = z at *
      obtain ⟨hr1, hr2⟩ := hrg
      go_wp2_with fail
      refine hN.mono ?_
      rintro e w3 ⟨v3, rfl, ho3, hb3⟩
      have hr3 := ho3.rd
      rw [← hS.out] at hr3
      have b3 := hbr.trans (hb3.mono hwr)
      clear hN hS ho3 hb3
      go_wp2
      go_roundw
      case rel => exact ⟨k + 1, by omega, by go_num, hr3, b3⟩
      case measure => simp [RowKit.intOf]; omega
    · have ek : zs.take k = zs := List.take_of_length_le (by omega)
      rw [ek] at hr
      clear ek
      go_wp2_with fail
      have bd : Below w.heap.size w wr.drew := hbr.drew
      have hrd : RdB wr.drew u7 (l ++ encNs zs) := hr.on (Below.refl _ _).drew
      have hcw := conv_any hrd
      have N11 := last_num w wr.drew a a' c c' l zs u7 HB.out HZ.out HV.out (by omega) h2 bd hrd
      have N12 : Hid (∀ W, Below w.heap.size w W → _) := fun W hW => last_str w W a c l s HB.out HV.out h1 hW
      have N13 : Hid (∀ W, Below w.heap.size w W → _) := fun W hW => last_ref w W a c l s HB.out HV.out h1 hW
      generalize (⟨(l ++ encNs zs).toArray⟩ : ByteArray) = X at *
      generalize (⟨(l ++ encS s.data.toList).toArray⟩ : ByteArray) = Y at *
      clear hr hrd hbr bd
      go_region_with (first | (go_at_call 11; refine N11.mono ?_; rintro e w4 ⟨v4, rfl, hA, hB, b4⟩) | (go_at_call 12; refine (N12.out _ (by assumption)).mono ?_; rintro e w5 ⟨v5, rfl, hC, hC', b5⟩) | (go_at_call 13; refine (N13.out _ (by assumption)).mono ?_; rintro e w6 ⟨v6, rfl, hD, hk, b6⟩; have hE := hC'.out _ hk))
      all_goals go_wp2
      all_goals go_ret
      all_goals exact ⟨rfl, b6⟩
end Go.Proofs.YtbdfhmffdnlbfaaDoor
