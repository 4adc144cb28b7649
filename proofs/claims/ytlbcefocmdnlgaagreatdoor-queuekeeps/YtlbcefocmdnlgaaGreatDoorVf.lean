/- The document's Settle and Release: halfway. Conditions: those that each row states. -/
import Derived.Test.YtlbcefocmdnlgaaGreatDoorVe
namespace Go.Proofs.YtlbcefocmdnlgaaGreatDoor
open Go.RowKit Go.Lib
set_option maxRecDepth 100000

/-- The two blocks at the head of the document's calls. -/
structure Ou2 (w W : World) (qs : Array Value) : Prop where
  q : Blk W w.heap.size qs 25
  r : Blk W (w.heap.size + 1) #[.string ⟨#[]⟩, .bool false, .int .i64 0, .int .i64 0, .int .i64 0, .slice none 0 0, .slice none 0 0] 25
  b : Below w.heap.size w W
theorem Ou2.on {w W W' : World} {qs : Array Value} (h : Ou2 w W qs) (hb : Below W.heap.size W W') : Ou2 w W' qs := ⟨h.q.on hb, h.r.on hb, nxt h.b hb⟩
theorem Ou2.start (w : World) (qs : Array Value) : Ou2 w ((w.alloc (.cells qs 25)).alloc (.cells #[.string ⟨#[]⟩, .bool false, .int .i64 0, .int .i64 0, .int .i64 0, .slice none 0 0, .slice none 0 0] 25)) qs := by
  refine ⟨(Blk.new _ _ _).alloc _, ?_, ((Below.refl _ w).alloc (Nat.le_refl _) _).alloc (by simp) _⟩
  have := Blk.new (w.alloc (.cells qs 25)) #[.string ⟨#[]⟩, .bool false, .int .i64 0, .int .i64 0, .int .i64 0, .slice none 0 0, .slice none 0 0] 25
  rwa [World.size_alloc] at this
/-- Halfway: the queue that is answered, in block g; nothing else of what was there at u is changed. -/
structure StS (w u W : World) (g Bi Bh : Nat) (q : Que) (its : List Itm) (hs : List Hld) : Prop where
  s : ∃ ai ni ci ah nh ch, Blk W g #[tx q.name, .bool q.dur, .int .i64 q.depth, .int .i64 q.seq, .int .i64 q.tag, .slice ai ni ci, .slice ah nh ch] 25 ∧ (∃ zs : Zs Itm, zs.map (·.2) = its ∧ OwnZ 43 7 (ItR (OwnP W w.heap.size)) W Bi (.slice ai ni ci) zs) ∧ (∃ zs : Zs Hld, zs.map (·.2) = hs ∧ OwnZ 61 10 (HeR (OwnP W w.heap.size)) W Bh (.slice ah nh ch) zs)
  G : u.grownBy W (some g)
theorem ziKeep {W W' : World} {B Bi : Nat} {v : Value} {its : List Itm} (h : ∃ zs : Zs Itm, zs.map (·.2) = its ∧ OwnZ 43 7 (ItR (OwnP W B)) W Bi v zs) (k1 : Kt 43 W W') (k2 : Kt 54 W W') : ∃ zs : Zs Itm, zs.map (·.2) = its ∧ OwnZ 43 7 (ItR (OwnP W' B)) W' Bi v zs := by
  obtain ⟨zs, e, h⟩ := h
  exact ⟨zs, e, (h.keep k1).imp fun _ _ h => h.keep k2⟩
theorem zhKeep {W W' : World} {B Bi : Nat} {v : Value} {its : List Hld} (h : ∃ zs : Zs Hld, zs.map (·.2) = its ∧ OwnZ 61 10 (HeR (OwnP W B)) W Bi v zs) (k1 : Kt 61 W W') (k2 : Kt 54 W W') : ∃ zs : Zs Hld, zs.map (·.2) = its ∧ OwnZ 61 10 (HeR (OwnP W' B)) W' Bi v zs := by
  obtain ⟨zs, e, h⟩ := h
  exact ⟨zs, e, (h.keep k1).imp fun _ _ h => h.keep k2⟩
theorem StS.on {w u W W' : World} {g Bi Bh : Nat} {q : Que} {its : List Itm} {hs : List Hld} (h : StS w u W g Bi Bh q its hs) (hb : Below W.heap.size W W') : StS w u W' g Bi Bh q its hs := by
  obtain ⟨⟨ai, ni, ci, ah, nh, ch, k, h1, h2⟩, G⟩ := h
  exact ⟨⟨ai, ni, ci, ah, nh, ch, k.on hb, ziKeep h1 (.of_below hb) (.of_below hb), zhKeep h2 (.of_below hb) (.of_below hb)⟩, gb_trans G (gb_below hb _)⟩
theorem gb_own {u W W' : World} {g : Nat} {row : Option Nat} (G : u.grownBy W (some g)) (h : W.grownBy W' row) (hr : ∀ k, row = some k → u.heap.size ≤ k) : u.grownBy W' (some g) :=
  ⟨h.os.trans G.os, h.tape.trans G.tape, h.output.trans G.output, Nat.le_trans G.size h.size, fun k hk hne => (h.block k (Nat.lt_of_lt_of_le hk G.size) (fun e => by have := hr k e.symm; omega)).trans (G.block k hk hne)⟩
theorem StS.setI {w u W W' : World} {g Bi Bh : Nat} {q : Que} {its : List Itm} {hs : List Hld} {ai : Option Addr} {ni ci : Nat} {ah : Option Addr} {nh ch : Nat} {cs : Array Value} (k : Blk W g cs 25) (k' : Blk W' g #[tx q.name, .bool q.dur, .int .i64 q.depth, .int .i64 q.seq, .int .i64 q.tag, .slice ai ni ci, .slice ah nh ch] 25)
    (h1 : ∃ zs : Zs Itm, zs.map (·.2) = its ∧ OwnZ 43 7 (ItR (OwnP W w.heap.size)) W Bi (.slice ai ni ci) zs) (h2 : ∃ zs : Zs Hld, zs.map (·.2) = hs ∧ OwnZ 61 10 (HeR (OwnP W w.heap.size)) W Bh (.slice ah nh ch) zs) (G : u.grownBy W (some g)) (hg : W.grownBy W' (some g)) : StS w u W' g Bi Bh q its hs :=
  ⟨⟨ai, ni, ci, ah, nh, ch, k', ziKeep h1 (kt_grown k hg (by decide)) (kt_grown k hg (by decide)), zhKeep h2 (kt_grown k hg (by decide)) (kt_grown k hg (by decide))⟩, gb_trans G hg⟩
theorem StS.appH {w u W : World} {g Bi : Nat} {its : List Itm} {hs : List Hld} {cs : Array Value} {iv hv : Value} (k : Blk W g cs 25) (h1 : ∃ zs : Zs Itm, zs.map (·.2) = its ∧ OwnZ 43 7 (ItR (OwnP W w.heap.size)) W Bi iv zs) (h2 : ∃ zs : Zs Hld, zs.map (·.2) = hs ∧ OwnZ 61 10 (HeR (OwnP W w.heap.size)) W u.heap.size hv zs) (G : u.grownBy W (some g))
    {ops : Array Oper} {rest : List Oper} {o : Oper} {a : Act} {Q : Exit → Act → World → Prop} (hgd : o.guard = none) (s x : Operand) (ho : o.op = .call { callee := .builtin .append, args := #[s, x], argTypes := #[23, 23] }) (hs' : a.eval s = hv) (it : Hld) (pv : Value) (hx : a.eval x = .slice (some ⟨W.heap.size, 0, none⟩) 1 1) (hp : OwnP W w.heap.size pv it.itm.msg.props) (hk : hs.length ≤ 90000)
    (cont : ∀ v' w', Blk w' g cs 25 → (∃ zs : Zs Itm, zs.map (·.2) = its ∧ OwnZ 43 7 (ItR (OwnP w' w.heap.size)) w' Bi iv zs) → (∃ zs : Zs Hld, zs.map (·.2) = hs ++ [it] ∧ OwnZ 61 10 (HeR (OwnP w' w.heap.size)) w' u.heap.size v' zs) → u.grownBy w' (some g) → wpList Tryz.prog ops Q rest (a.put o.dst v') w') :
    wpList Tryz.prog ops Q (o :: rest) a (W.alloc (.cells (hldV it pv).toArray 61)) := by
  have hb := (Below.refl W.heap.size W).alloc (Nat.le_refl _) (.cells (hldV it pv).toArray 61)
  have hn := Blk.new W (hldV it pv).toArray 61
  have hone : pv.oneCell' = true := hp.rd.one
  obtain ⟨zs, e2, z2⟩ := zhKeep h2 (.of_below hb) (.of_below hb)
  have hlen : zs.length ≤ 90000 := by
    rw [← e2, List.length_map] at hk
    exact hk
  refine wpl_appH hgd s x ho u.heap.size hv zs _ _ hs' z2 W.heap.size 1 (hldV it pv, it) hx ⟨hldV_one it hone, pv, rfl, hp.keep (.of_below hb)⟩ (fun j v hv => ?_) (by omega) (Nat.le_trans G.size hb.size) ?_
  · rw [hn.cell j]
    simpa using hv
  · intro v' w' h6 h7
    have k54 : Kt 54 _ w' := Kt.of_grown z2.1 h7 (by decide)
    have k25 : Kt 25 _ w' := Kt.of_grown z2.1 h7 (by decide)
    have k43 : Kt 43 _ w' := Kt.of_grown z2.1 h7 (by decide)
    exact cont v' w' ((k.on hb).kt k25) (ziKeep (ziKeep h1 (.of_below hb) (.of_below hb)) k43 k54) ⟨zs ++ [(hldV it pv, it)], by rw [List.map_append, e2]; rfl, h6.imp fun _ _ h => h.keep k54⟩ (gb_own (gb_trans G (gb_below hb _)) h7 (fun k hk => (World.ownsRow.lt z2.1 k hk).1))
theorem StS.appI {w u W : World} {g Bh : Nat} {its : List Itm} {hs : List Hld} {cs : Array Value} {iv hv : Value} (k : Blk W g cs 25) (h1 : ∃ zs : Zs Itm, zs.map (·.2) = its ∧ OwnZ 43 7 (ItR (OwnP W w.heap.size)) W u.heap.size iv zs) (h2 : ∃ zs : Zs Hld, zs.map (·.2) = hs ∧ OwnZ 61 10 (HeR (OwnP W w.heap.size)) W Bh hv zs) (G : u.grownBy W (some g))
    {ops : Array Oper} {rest : List Oper} {o : Oper} {a : Act} {Q : Exit → Act → World → Prop} (hgd : o.guard = none) (s x : Operand) (ho : o.op = .call { callee := .builtin .append, args := #[s, x], argTypes := #[22, 22] }) (hs' : a.eval s = iv) (it : Itm) (pv : Value) (hx : a.eval x = .slice (some ⟨W.heap.size, 0, none⟩) 1 1) (hp : OwnP W w.heap.size pv it.msg.props) (hk : its.length ≤ 90000)
    (cont : ∀ v' w', Blk w' g cs 25 → (∃ zs : Zs Itm, zs.map (·.2) = its ++ [it] ∧ OwnZ 43 7 (ItR (OwnP w' w.heap.size)) w' u.heap.size v' zs) → (∃ zs : Zs Hld, zs.map (·.2) = hs ∧ OwnZ 61 10 (HeR (OwnP w' w.heap.size)) w' Bh hv zs) → u.grownBy w' (some g) → wpList Tryz.prog ops Q rest (a.put o.dst v') w') :
    wpList Tryz.prog ops Q (o :: rest) a (W.alloc (.cells (itmV it pv).toArray 43)) := by
  have hb := (Below.refl W.heap.size W).alloc (Nat.le_refl _) (.cells (itmV it pv).toArray 43)
  have hn := Blk.new W (itmV it pv).toArray 43
  have hone : pv.oneCell' = true := hp.rd.one
  obtain ⟨zs, e2, z2⟩ := ziKeep h1 (.of_below hb) (.of_below hb)
  have hlen : zs.length ≤ 90000 := by
    rw [← e2, List.length_map] at hk
    exact hk
  refine wpl_appI hgd s x ho u.heap.size iv zs _ _ hs' z2 W.heap.size 1 (itmV it pv, it) hx ⟨itmV_one it hone, pv, rfl, hp.keep (.of_below hb)⟩ (fun j v hv => ?_) (by omega) (Nat.le_trans G.size hb.size) ?_
  · rw [hn.cell j]
    simpa using hv
  · intro v' w' h6 h7
    have k54 : Kt 54 _ w' := Kt.of_grown z2.1 h7 (by decide)
    have k25 : Kt 25 _ w' := Kt.of_grown z2.1 h7 (by decide)
    have k61 : Kt 61 _ w' := Kt.of_grown z2.1 h7 (by decide)
    exact cont v' w' ((k.on hb).kt k25) ⟨zs ++ [(itmV it pv, it)], by rw [List.map_append, e2]; rfl, h6.imp fun _ _ h => h.keep k54⟩ (zhKeep (zhKeep h2 (.of_below hb) (.of_below hb)) k61 k54) (gb_own (gb_trans G (gb_below hb _)) h7 (fun k hk => (World.ownsRow.lt z2.1 k hk).1))
theorem ownZI_len {W : World} {B Bi : Nat} {v : Value} {its : List Itm} (h : ∃ zs : Zs Itm, zs.map (·.2) = its ∧ OwnZ 43 7 (ItR (OwnP W B)) W Bi v zs) : ∃ a c, v = .slice a its.length c := by
  obtain ⟨zs, rfl, h⟩ := h
  rw [List.length_map]
  exact h.rd.len
theorem ownZH_len {W : World} {B Bi : Nat} {v : Value} {its : List Hld} (h : ∃ zs : Zs Hld, zs.map (·.2) = its ∧ OwnZ 61 10 (HeR (OwnP W B)) W Bi v zs) : ∃ a c, v = .slice a its.length c := by
  obtain ⟨zs, rfl, h⟩ := h
  rw [List.length_map]
  exact h.rd.len
/-- What is put back of the first k, what stays of them. -/
def itsK (q : Que) (p : Hld → Bool) (ag : Bool) (k : Nat) : List Itm := bif ag then backs q.items ((q.held.take k).filter p) else q.items
def hsK (q : Que) (p : Hld → Bool) (k : Nat) : List Hld := (q.held.take k).filter (fun h => !p h)
theorem itsK_zero (q : Que) (p : Hld → Bool) (ag : Bool) : itsK q p ag 0 = q.items := by cases ag <;> simp [itsK, backs]
theorem itsK_yes {q : Que} {p : Hld → Bool} {k : Nat} (hk : k < q.held.length) (hp : p q.held[k] = true) : itsK q p true (k + 1) = putB (itsK q p true k) q.held[k].itm := by
  simp only [itsK, cond_true]
  rw [filt_snoc p q.held k hk, if_pos hp, backs_snoc]
theorem itsK_no {q : Que} {p : Hld → Bool} {k : Nat} (ag : Bool) (hk : k < q.held.length) (hp : p q.held[k] = false) : itsK q p ag (k + 1) = itsK q p ag k := by
  simp only [itsK]
  rw [filt_snoc p q.held k hk, if_neg (by simp [hp]), List.append_nil]
theorem hsK_yes {q : Que} {p : Hld → Bool} {k : Nat} (hk : k < q.held.length) (hp : p q.held[k] = true) : hsK q p (k + 1) = hsK q p k := by
  unfold hsK
  rw [filt_snoc _ q.held k hk, if_neg (by simp [hp]), List.append_nil]
theorem hsK_no {q : Que} {p : Hld → Bool} {k : Nat} (hk : k < q.held.length) (hp : p q.held[k] = false) : hsK q p (k + 1) = hsK q p k ++ [q.held[k]] := by
  unfold hsK
  rw [filt_snoc _ q.held k hk, if_pos (by simp [hp])]
theorem itsK_len {q : Que} (h : GoodP q) (hl : lenQ q ≤ 64) (p : Hld → Bool) (ag : Bool) (k : Nat) : (itsK q p ag k).length ≤ 64 := by
  cases ag with
  | true => exact Nat.le_trans (backs_size h p k) hl
  | false => exact Nat.le_trans (Nat.le_add_right _ _) hl
theorem hsK_len {q : Que} (hl : lenQ q ≤ 64) (p : Hld → Bool) (k : Nat) : (hsK q p k).length ≤ 64 := by
  have h1 : (hsK q p k).length ≤ q.held.length := (List.filter_sublist.trans (List.take_sublist _ _)).length_le
  unfold lenQ at hl
  omega
end Go.Proofs.YtlbcefocmdnlgaaGreatDoor
