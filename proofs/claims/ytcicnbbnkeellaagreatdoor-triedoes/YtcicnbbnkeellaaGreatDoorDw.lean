/- (*Trie).Drop: the walk. Conditions: those that each row states. -/
import Derived.Test.YtcicnbbnkeellaaGreatDoorAw
namespace Go.Proofs.YtcicnbbnkeellaaGreatDoor
open Go.RowKit
set_option maxRecDepth 100000

def DropOk (w : World) (X : Nat → Prop) (t N : Nat) (l : List Pr) (p : List UInt8) (z : Int) (e : Ending) (w' : World) : Prop :=
  e = .returned (.int .i64 (if (p, z) ∈ l then 0 else 33)) ∧ ∃ X', PT w' X' t N (l.erase (p, z)) ∧ Fr X X' w w'
set_option maxHeartbeats 2000000 in
theorem drop_any (w : World) (X : Nat → Prop) (t N : Nat) (l : List Pr) (h : PT w X t N l) (p : List UInt8) (hpl : p.length ≤ 9223372036854775807) (z : Int) :
    Calls Tryz.prog 12 #[.pointer (some ⟨t, 0, none⟩), str p, .int .i64 z] w (DropOk w X t N l p z) := by
  have HP0 : Hid (PT w X t N l) := h
  obtain ⟨T, nd, hPT, rfl⟩ := h
  have HT : Hid (PTT w t N T nd l) := hPT
  have c0 : w.cell? ⟨t, 0, none⟩ = some (.pointer (some ⟨nd.q, 0, none⟩)) := (cell_1 hPT.cell).1
  obtain ⟨o, ho⟩ : ∃ o, (T (wordsL p)).map Nd.q = o := ⟨_, rfl⟩
  have hs := seek_any idx_dot w hPT.tr hPT.root p hpl
  rw [ho] at hs
  clear hPT
  generalize hR : DropOk w (XP t T) t N l p z = R
  have HR : Hid (DropOk w (XP t T) t N l p z = R) := hR
  clear hR
  rw [show ptrO (some nd.q) = .pointer (some ⟨nd.q, 0, none⟩) from rfl] at hs
  simp only [str] at hs ⊢
  go_enter Tryz.func12, Tryz.ntmps12
  go_wp2_with fail
  refine hs.mono ?_
  rintro e w2 ⟨rfl, hb2⟩
  obtain ⟨k, hk, hpa⟩ := place_at HT.out hb2 p z
  rw [ho] at hpa
  have c2 : w2.cell? ⟨t, 0, none⟩ = some (.pointer (some ⟨nd.q, 0, none⟩)) := (hb2.cell (p := ⟨t, 0, none⟩) (World.block_lt_of_cell? w _ c0)).trans c0
  have HKK : Hid (∀ n, T (wordsL p) = some n → k = posI n.ids z) := hk
  clear hs hk
  by_cases hin : (p, z) ∈ l
  · rw [decide_eq_true hin] at hpa
    obtain ⟨n, hn⟩ : ∃ n, T (wordsL p) = some n := by
      cases e : T (wordsL p) with
      | none => exact absurd hin (HT.out.not_there p z e)
      | some n => exact ⟨n, rfl⟩
    have hoq : o = some n.q := by rw [← ho, hn]; rfl
    have HKN : Hid (k = posI n.ids z) := HKK.out n hn
    subst hoq
    have HIN : Hid ((p, z) ∈ l) := hin
    have HN : Hid (T (wordsL p) = some n) := hn
    clear hin hn ho HKK
    simp only [ptrO] at hpa ⊢
    go_wp2_with fail
    refine hpa.mono ?_
    rintro e w3 ⟨rfl, hb3⟩
    have hb03 : Below w.heap.size w w3 := hb2.trans (hb3.mono hb2.size)
    have hPT3 : PTT w3 t N T nd l := HT.out.on (fun b hb => hb03.block b (HT.out.lt hb))
    have hat3 := hPT3.tr.at' _ n HN.out
    obtain ⟨d0, d1, g0, g1⟩ := cell_q hat3.cells
    have hzn : z ∈ n.ids := by have := (hPT3.mem _).1 HIN.out; rw [ids_some HN.out] at this; exact this
    have hdf := (del_facts n.ids z hat3.ris hzn).1
    have hdel := delete_any w3 n.v n.ids hat3.ids (posI n.ids z) hdf
    rw [← HKN.out] at hdel
    have hk64 : k < 64 := by have := hat3.few; have := HKN.out; omega
    have H3 : Hid (PTT w3 t N T nd l) := hPT3
    clear hpa hPT3 hat3 hdf hzn
    go_wp2_with fail
    refine hdel.mono ?_
    rintro e w4 ⟨v', rfl, hr4, hf4⟩
    rw [HKN.out] at hr4
    obtain ⟨a', c', rfl⟩ := row_len hr4
    have hq4 : w4.heap[n.q]? = w3.heap[n.q]? := hf4.keep _ (H3.out.tr.lt ⟨_, n, HN.out, .inl rfl⟩) (H3.out.tr.qv HN.out HN.out)
    have hc4 : w4.heap[n.q]? = some (.cells #[.map (some n.m), n.v] 58 (0, 0)) := hq4.trans (H3.out.tr.at' _ n HN.out).cells
    obtain ⟨_, k4, _, g4⟩ := cell_q hc4
    have hfin := H3.out.dropped p z HIN.out HN.out hr4 hf4
    have hpr := prune_any N 9 [] _ _ nd (by simp) hfin.1.tr hfin.1.root
    have c5 : (w4.setCell ⟨n.q, 1, none⟩ (.slice a' (n.ids.length - 1) c')).cell? ⟨t, 0, none⟩ = some (.pointer (some ⟨nd.q, 0, none⟩)) := (cell_1 hfin.1.cell).1
    have HF : Hid _ := hfin
    clear hfin hr4 hf4 hq4 hc4 hdel
    simp only [ptrO] at hpr
    go_wp2_with fail
    refine hpr.mono ?_
    rintro e w6 ⟨rfl, hP6⟩
    have HE : Hid (DropOk w (XP t T) t N l p z (.returned (.int .i64 0)) w6) := by
      obtain ⟨T6, h61, h62⟩ := HF.out.1.pruned hP6
      exact ⟨by rw [if_pos HIN.out], _, ⟨_, _, h61, rfl⟩, (Fr.of_below hb03).trans (HF.out.2.trans h62)⟩
    rw [HR.out] at HE
    clear hpr hP6
    go_wp2
    exact HE.out
  · rw [decide_eq_false hin] at hpa
    have HE : Hid (∀ w', Below w.heap.size w w' → DropOk w (XP t T) t N l p z (.returned (.int .i64 33)) w') := fun w' hb => ⟨by rw [if_neg hin], _, by rw [List.erase_of_not_mem hin]; exact HP0.out.below hb, Fr.of_below hb⟩
    rw [HR.out] at HE
    clear hin
    go_wp2_with (go_at_call 23; refine hpa.mono ?_; rintro e w3 ⟨rfl, hb3⟩)
    exact HE.out _ (hb2.trans (hb3.mono hb2.size))
end Go.Proofs.YtcicnbbnkeellaaGreatDoor
