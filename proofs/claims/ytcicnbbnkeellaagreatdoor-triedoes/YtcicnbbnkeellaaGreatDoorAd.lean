/- (*Trie).Add and Drop. Conditions: those that each row states. -/
import Derived.Test.YtcicnbbnkeellaaGreatDoorAe
namespace Go.Proofs.YtcicnbbnkeellaaGreatDoor
open Go.RowKit
set_option maxRecDepth 100000

/-- What Add answers, and leaves. -/
def addC (l : List Pr) (p : List UInt8) (z : Int) : Int := if pat p = false then 30 else if (p, z) ∈ l then 32 else if 64 ≤ l.length then 34 else 0
def addR (l : List Pr) (p : List UInt8) (z : Int) : List Pr := if addC l p z = 0 then addP l (p, z) else l
theorem addR_eq {l : List Pr} {p : List UInt8} {z : Int} {c : Int} (h : addC l p z = c) (hc : c ≠ 0) : addR l p z = l := by unfold addR; rw [if_neg (by rw [h]; exact hc)]
theorem Fr.ofB {X : Nat → Prop} {w w' : World} (h : Below w.heap.size w w') : Fr X X w w' := Fr.of_below h
theorem ids_few {w : World} {t N : Nat} {T : Tr} {nd : Nd} {l : List Pr} (h : PTT w t N T nd l) (p : List Wd) : (idsAt T p).length ≤ l.length := by
  have h1 : ((idsAt T p).map (fun z => (joinL p, z))).Nodup := by
    cases e : T p with
    | none => rw [ids_none e]; exact List.nodup_nil
    | some n =>
      rw [ids_some e]
      refine List.Pairwise.map _ (fun a b hab => ?_) (h.tr.at' _ n e).ris
      intro e'
      injection e' with _ e'
      have : a < b := hab
      omega
  have := nodup_len _ l h1 (fun x hx => by
    obtain ⟨z, hz, rfl⟩ := List.mem_map.1 hx
    exact h.joined _ _ hz)
  simpa using this
/-- A pair is there just if the number stands at the pattern's node. -/
theorem PTT.there {w : World} {t N : Nat} {T : Tr} {nd : Nd} {l : List Pr} (h : PTT w t N T nd l) (p : List UInt8) (z : Int) {n : Nd} (hn : T (wordsL p) = some n) : (p, z) ∈ l ↔ n.ids.contains z = true := by
  rw [h.mem, ids_some hn]
  simp
theorem PTT.not_there {w : World} {t N : Nat} {T : Tr} {nd : Nd} {l : List Pr} (h : PTT w t N T nd l) (p : List UInt8) (z : Int) (hn : T (wordsL p) = none) : (p, z) ∉ l := by
  rw [h.mem, ids_none hn]
  simp
theorem words_eq {a b : List UInt8} : wordsL a = wordsL b ↔ a = b := ⟨wordsL_inj, fun e => by rw [e]⟩

/-- What stands behind an Insert. -/
theorem PTT.added {w w1 w2 : World} {t N N' : Nat} {T T' : Tr} {nd n : Nd} {l : List Pr} (h : PTT w t N T nd l) (p : List UInt8) (z : Int) (hpat : pat p = true) (hnot : (p, z) ∉ l) (hroom : l.length < 64)
    (hT' : TrW w1 N' T') (hn : T' (wordsL p) = some n) (hids : ∀ x, idsAt T' x = idsAt T x) (hext : ∀ x nx, T x = some nx → T' x = some nx) (ht1 : w1.heap[t]? = w.heap[t]?) {v' : Value}
    (hr : w2.ownsRow 0 3 1 v' (n.ids.length + 1) (ints (n.ids.take (posI n.ids z) ++ z :: n.ids.drop (posI n.ids z)))) (hf : Fr1 n.v v' w1 w2) :
    PTT (w2.setCell ⟨n.q, 1, none⟩ v') t N' (addN T' (wordsL p) ⟨n.q, n.m, v', n.ids.take (posI n.ids z) ++ z :: n.ids.drop (posI n.ids z)⟩) nd (addP l (p, z)) ∧
    Fr (XP t T') (XP t (addN T' (wordsL p) ⟨n.q, n.m, v', n.ids.take (posI n.ids z) ++ z :: n.ids.drop (posI n.ids z)⟩)) w1 (w2.setCell ⟨n.q, 1, none⟩ v') := by
  have hat := hT'.at' _ n hn
  have hzn : z ∉ n.ids := fun hz => hnot ((h.mem _).2 (by rw [← hids, ids_some hn]; exact hz))
  obtain ⟨f1, f2⟩ := ins_facts n.ids z hat.ris hzn
  have hlen : (n.ids.take (posI n.ids z) ++ z :: n.ids.drop (posI n.ids z)).length = n.ids.length + 1 := by simp [List.length_take, List.length_drop]; have := posI_le n.ids z; omega
  have hfew : n.ids.length ≤ l.length := by
    have := ids_few h (wordsL p)
    rw [← hids, ids_some hn] at this
    exact this
  have hxq : XT T' n.q := ⟨_, n, hn, .inl rfl⟩
  have hq2 : w2.heap[n.q]? = some (.cells #[.map (some n.m), n.v] 58 (0, 0)) := (hf.keep _ (hT'.lt hxq) (hT'.qv hn hn)).trans hat.cells
  have hvq : v'.ownBlock ≠ some n.q := fun e => by
    obtain ⟨cur, hc⟩ := row_lt hr e
    rw [hq2] at hc
    injection hc with hc
    injection hc with _ hc
    cases hc
  have hsc : ∀ b, b ≠ n.q → (w2.setCell ⟨n.q, 1, none⟩ v').heap[b]? = w2.heap[b]? := fun b hb => RowKit.Below.heap_setCell _ _ _ _ hb
  have hqn : (w2.setCell ⟨n.q, 1, none⟩ v').heap[n.q]? = some (.cells #[.map (some n.m), v'] 58 (0, 0)) := by
    simp only [World.setCell, Array.getElem?_modify, if_pos, hq2]
    simp
  have hrow : (w2.setCell ⟨n.q, 1, none⟩ v').ownsRow 0 3 1 v' (n.ids.take (posI n.ids z) ++ z :: n.ids.drop (posI n.ids z)).length (ints (n.ids.take (posI n.ids z) ++ z :: n.ids.drop (posI n.ids z))) := by
    rw [hlen]
    exact row_on hr (fun b hb => hsc b (fun e => hvq (e ▸ hb)))
  have htr := hT'.put hn (wordsL_ne p) hqn hrow f1 (by rw [hlen]; omega) (fun b hb h1 h2 => (hsc b h1).trans (hf.keep b (hT'.lt hb) h2)) hf.new
  have htq : t ≠ n.q := fun e => by
    have h1 := h.cell
    rw [e] at h1 ht1
    rw [hat.cells, h1] at ht1
    injection ht1 with ht1
    injection ht1 with _ ht1
    cases ht1
  have htv : n.v.ownBlock ≠ some t := fun e => by
    obtain ⟨cur, hc⟩ := row_lt hat.ids e
    rw [ht1, h.cell] at hc
    injection hc with hc
    injection hc with _ hc
    cases hc
  have htl : t < w1.heap.size := by
    have := h.cell
    rw [← ht1] at this
    exact lt_of_some this
  refine ⟨⟨?_, ?_, htr, fun x => ?_, fun x hx => ?_, add_rising l _ h.ris hnot, ?_⟩, ?_⟩
  · rw [hsc t htq, hf.keep t htl htv, ht1]
    exact h.cell
  · rw [addN_other _ _ _ (fun e => wordsL_ne p e.symm)]
    exact hext _ _ h.root
  · rw [add_mem, put_ids]
    by_cases e : wordsL x.1 = wordsL p
    · have e1 := words_eq.1 e
      rw [if_pos e, f2, h.mem, ← hids, e, ids_some hn]
      constructor
      · rintro (h1 | h1)
        · left; rw [h1]
        · exact .inr h1
      · rintro (h1 | h1)
        · left; exact Prod.ext e1 h1
        · exact .inr h1
    · rw [if_neg e, hids, ← h.mem]
      constructor
      · rintro (h1 | h1)
        · exact absurd (by rw [h1]) e
        · exact h1
      · exact .inr
  · rcases (add_mem _ _ _).1 hx with rfl | h1
    · exact hpat
    · exact h.pats x h1
  · have : (addP l (p, z)).length = l.length + 1 := by
      have e := congrArg List.length (List.takeWhile_append_dropWhile (p := fun y => plt y (p, z)) (l := l))
      rw [List.length_append] at e
      unfold addP
      rw [List.length_append, List.length_cons]
      omega
    omega
  · refine ⟨hf.os, hf.tape, hf.output, by simpa using hf.size, fun b hb hx => ?_, fun b hb => ?_⟩
    · rw [hsc b (fun e => hx (.inr (e ▸ hxq))), hf.keep b hb (fun e => hx (.inr ⟨_, n, hn, .inr (.inr e)⟩))]
    · rcases hb with rfl | hb
      · exact .inl (.inl rfl)
      · rcases XT_put hn hb with h1 | h1
        · exact .inl (.inr h1)
        · rcases hf.new b h1 with h2 | h2
          · exact .inl (.inr ⟨_, n, hn, .inr (.inr h2)⟩)
          · exact .inr h2
/-- What stands behind a Delete. -/
theorem PTT.dropped {w w2 : World} {t N : Nat} {T : Tr} {nd n : Nd} {l : List Pr} (h : PTT w t N T nd l) (p : List UInt8) (z : Int) (hthere : (p, z) ∈ l) (hn : T (wordsL p) = some n) {v' : Value}
    (hr : w2.ownsRow 0 3 1 v' (n.ids.length - 1) (ints (n.ids.take (posI n.ids z) ++ n.ids.drop (posI n.ids z + 1)))) (hf : Fr1 n.v v' w w2) :
    PTT (w2.setCell ⟨n.q, 1, none⟩ v') t N (addN T (wordsL p) ⟨n.q, n.m, v', n.ids.take (posI n.ids z) ++ n.ids.drop (posI n.ids z + 1)⟩) nd (l.erase (p, z)) ∧
    Fr (XP t T) (XP t (addN T (wordsL p) ⟨n.q, n.m, v', n.ids.take (posI n.ids z) ++ n.ids.drop (posI n.ids z + 1)⟩)) w (w2.setCell ⟨n.q, 1, none⟩ v') := by
  have hat := h.tr.at' _ n hn
  have hzn : z ∈ n.ids := by have := (h.mem _).1 hthere; rw [ids_some hn] at this; exact this
  obtain ⟨f0, f1, f2⟩ := del_facts n.ids z hat.ris hzn
  have hlen : (n.ids.take (posI n.ids z) ++ n.ids.drop (posI n.ids z + 1)).length = n.ids.length - 1 := by simp [List.length_take, List.length_drop]; omega
  have hxq : XT T n.q := ⟨_, n, hn, .inl rfl⟩
  have hq2 : w2.heap[n.q]? = some (.cells #[.map (some n.m), n.v] 58 (0, 0)) := (hf.keep _ (h.tr.lt hxq) (h.tr.qv hn hn)).trans hat.cells
  have hvq : v'.ownBlock ≠ some n.q := fun e => by
    obtain ⟨cur, hc⟩ := row_lt hr e
    rw [hq2] at hc
    injection hc with hc
    injection hc with _ hc
    cases hc
  have hsc : ∀ b, b ≠ n.q → (w2.setCell ⟨n.q, 1, none⟩ v').heap[b]? = w2.heap[b]? := fun b hb => RowKit.Below.heap_setCell _ _ _ _ hb
  have hqn : (w2.setCell ⟨n.q, 1, none⟩ v').heap[n.q]? = some (.cells #[.map (some n.m), v'] 58 (0, 0)) := by
    simp only [World.setCell, Array.getElem?_modify, if_pos, hq2]
    simp
  have hrow : (w2.setCell ⟨n.q, 1, none⟩ v').ownsRow 0 3 1 v' (n.ids.take (posI n.ids z) ++ n.ids.drop (posI n.ids z + 1)).length (ints (n.ids.take (posI n.ids z) ++ n.ids.drop (posI n.ids z + 1))) := by
    rw [hlen]
    exact row_on hr (fun b hb => hsc b (fun e => hvq (e ▸ hb)))
  have htr := h.tr.put hn (wordsL_ne p) hqn hrow f1 (by rw [hlen]; have := hat.few; omega) (fun b hb h1 h2 => (hsc b h1).trans (hf.keep b (h.tr.lt hb) h2)) hf.new
  have htq : t ≠ n.q := fun e => by
    have h1 := h.cell
    rw [e, hat.cells] at h1
    injection h1 with h1
    injection h1 with _ h1
    cases h1
  have htv : n.v.ownBlock ≠ some t := fun e => by
    obtain ⟨cur, hc⟩ := row_lt hat.ids e
    rw [h.cell] at hc
    injection hc with hc
    injection hc with _ hc
    cases hc
  refine ⟨⟨?_, ?_, htr, fun x => ?_, fun x hx => h.pats x ((drop_mem l _ _ h.ris).1 hx).2, drop_rising l _ h.ris, ?_⟩, ?_⟩
  · rw [hsc t htq, hf.keep t (lt_of_some h.cell) htv]
    exact h.cell
  · rw [addN_other _ _ _ (fun e => wordsL_ne p e.symm)]
    exact h.root
  · rw [drop_mem l _ _ h.ris, put_ids, h.mem]
    by_cases e : wordsL x.1 = wordsL p
    · have e1 := words_eq.1 e
      rw [if_pos e, f2, e, ids_some hn]
      constructor
      · rintro ⟨h1, h2⟩
        exact ⟨fun h3 => h1 (Prod.ext e1 h3), h2⟩
      · rintro ⟨h1, h2⟩
        exact ⟨fun h3 => h1 (by rw [h3]), h2⟩
    · rw [if_neg e]
      constructor
      · exact fun h1 => h1.2
      · exact fun h1 => ⟨fun h3 => e (by rw [h3]), h1⟩
  · rw [List.length_erase_of_mem hthere]
    have := h.few
    omega
  · refine ⟨hf.os, hf.tape, hf.output, by simpa using hf.size, fun b hb hx => ?_, fun b hb => ?_⟩
    · rw [hsc b (fun e => hx (.inr (e ▸ hxq))), hf.keep b hb (fun e => hx (.inr ⟨_, n, hn, .inr (.inr e)⟩))]
    · rcases hb with rfl | hb
      · exact .inl (.inl rfl)
      · rcases XT_put hn hb with h1 | h1
        · exact .inl (.inr h1)
        · rcases hf.new b h1 with h2 | h2
          · exact .inl (.inr ⟨_, n, hn, .inr (.inr h2)⟩)
          · exact .inr h2
theorem PTT.pruned {w w' : World} {t N : Nat} {T : Tr} {nd : Nd} {l : List Pr} (h : PTT w t N T nd l) (hp : PruW N [] T w w') : ∃ T', PTT w' t N T' nd l ∧ Fr (XP t T) (XP t T') w w' := by
  obtain ⟨T', h1, h2, h3⟩ := hp
  have htm : ∀ s ns, T ([] ++ s) = some ns → t ≠ ns.m := fun s ns e he => by
    obtain ⟨es, c, hm⟩ := (h.tr.at' _ ns e).map.isMap
    rw [← he, h.cell] at hm
    cases hm
  have hf := h3.fr h2
  refine ⟨T', ⟨(h3.keep t (lt_of_some h.cell) htm).trans h.cell, ?_, h1, fun x => by rw [h.mem, h2.ids], h.pats, h.ris, h.few⟩, ⟨hf.os, hf.tape, hf.output, hf.size, fun b hb hx => hf.keep b hb (fun e => hx (.inr e)), fun b hb => ?_⟩⟩
  · rw [h2.out [] (fun ⟨k, s, e⟩ => by cases e)]
    exact h.root
  · rcases hb with rfl | hb
    · exact .inl (.inl rfl)
    · exact .inl (.inr (h2.X hb))
end Go.Proofs.YtcicnbbnkeellaaGreatDoor
