/- What prop.canBe and prop.Valid answer. -/
import Derived.Test.YtnpikgakpmkipabGreatDoorZ02
import Derived.Test.YtnpikgakpmkipabGreatDoorZ00
import Derived.Laws.AppendOwn
import Derived.OwnWalk
import Derived.Below
import Derived.OrdersHeld
namespace Go.Proofs.YtnpikgakpmkipabGreatDoor
open Go.RowKit Go.Lib Ieee
structure Pr where
 name : ByteArray
 val : Val
def Pr.v (p : Pr) : Value := .agg #[.string p.name, .int .i64 p.val.kind, .int .i64 p.val.num, .string p.val.text, .float .f64 p.val.real]
def canB (p : Pr) : Bool := nameL p.name.toList && goodV p.val
set_option maxRecDepth 4000 in
theorem canbe7 (w : World) (p : Pr) : Calls Tryz.prog 224 #[p.v] w fun e w' => e = .returned (.bool (canB p)) ∧ Below w.heap.size w w' := by
 obtain ⟨nm, k, n, t, r⟩ := p
 have HN := fun W : World => name7 W nm
 have HG := fun W : World => good7 W ⟨k, n, t, r⟩
 have hb1 : Below w.heap.size w (w.alloc (.cells #[.string nm, .int .i64 k, .int .i64 n, .string t, .float .f64 r] 66)) := (Below.refl _ w).alloc (Nat.le_refl _) _
 have c0 : (w.alloc (.cells #[.string nm, .int .i64 k, .int .i64 n, .string t, .float .f64 r] 66)).cell? ⟨w.heap.size, 0, none⟩ = some (.string nm) := World.cell?_alloc_new ..
 have c1 : (w.alloc (.cells #[.string nm, .int .i64 k, .int .i64 n, .string t, .float .f64 r] 66)).cell? ⟨w.heap.size, 1, none⟩ = some (.int .i64 k) := World.cell?_alloc_new ..
 have c2 : (w.alloc (.cells #[.string nm, .int .i64 k, .int .i64 n, .string t, .float .f64 r] 66)).cell? ⟨w.heap.size, 2, none⟩ = some (.int .i64 n) := World.cell?_alloc_new ..
 have c3 : (w.alloc (.cells #[.string nm, .int .i64 k, .int .i64 n, .string t, .float .f64 r] 66)).cell? ⟨w.heap.size, 3, none⟩ = some (.string t) := World.cell?_alloc_new ..
 have c4 : (w.alloc (.cells #[.string nm, .int .i64 k, .int .i64 n, .string t, .float .f64 r] 66)).cell? ⟨w.heap.size, 4, none⟩ = some (.float .f64 r) := World.cell?_alloc_new ..
 have hs1 : (w.alloc (.cells #[.string nm, .int .i64 k, .int .i64 n, .string t, .float .f64 r] 66)).heap.size = w.heap.size + 1 := by simp
 unfold canB Pr.v
 unfold Val.v at *
 dsimp only at *
 generalize goodV ⟨k, n, t, r⟩ = g at *
 cases e : nameL nm.toList with
 | false =>
  rw [e] at HN
  go_enter Tryz.func224, Tryz.ntmps224
  go_upto_region 1 with fail
  generalize (w.alloc (.cells #[.string nm, .int .i64 k, .int .i64 n, .string t, .float .f64 r] 66)) = w1 at *
  go_wp2_with fail
  refine (HN _).mono ?_
  rintro e w2 ⟨rfl, rfl⟩
  go_wp2
  go_ret
  exact ⟨rfl, hb1⟩
 | true =>
  rw [e] at HN
  go_enter Tryz.func224, Tryz.ntmps224
  go_upto_region 1 with fail
  generalize (w.alloc (.cells #[.string nm, .int .i64 k, .int .i64 n, .string t, .float .f64 r] 66)) = w1 at *
  go_wp2_with fail
  refine (HN _).mono ?_
  rintro e w2 ⟨rfl, rfl⟩
  go_wp2_with fail
  refine (HG _).mono ?_
  rintro e w3 ⟨rfl, hb3⟩
  go_wp2
  go_ret
  exact ⟨ret_b (by simp), hb1.trans (hb3.mono (by omega))⟩
def PrAt (w : World) (b o : Nat) (p : Pr) : Prop :=
 w.cell? ⟨b, o, none⟩ = some (.string p.name) ∧ w.cell? ⟨b, o + 1, none⟩ = some (.int .i64 p.val.kind) ∧ w.cell? ⟨b, o + 2, none⟩ = some (.int .i64 p.val.num) ∧ w.cell? ⟨b, o + 3, none⟩ = some (.string p.val.text) ∧ w.cell? ⟨b, o + 4, none⟩ = some (.float .f64 p.val.real)
def RdP (w : World) (v : Value) (l : List Pr) : Prop :=
 ((∃ a c, v = .slice a 0 c) ∧ l = []) ∨ ∃ (b o c : Nat), v = .slice (some ⟨b, o, none⟩) l.length c ∧ l.length ≤ c ∧ ∀ i (h : i < l.length), PrAt w b (o + i * 5) l[i]
theorem PrAt.on {w w' : World} {b o : Nat} {p : Pr} (h : PrAt w b o p) (hb : Below w.heap.size w w') : PrAt w' b o p := by
 obtain ⟨h0, h1, h2, h3, h4⟩ := h
 have hl : b < w.heap.size := World.block_lt_of_cell? w _ h0
 exact ⟨by rw [hb.cell hl]; exact h0, by rw [hb.cell hl]; exact h1, by rw [hb.cell hl]; exact h2, by rw [hb.cell hl]; exact h3, by rw [hb.cell hl]; exact h4⟩
theorem RdP.on {w w' : World} {v : Value} {l : List Pr} (h : RdP w v l) (hb : Below w.heap.size w w') : RdP w' v l := by
 rcases h with h | ⟨b, o, c, rfl, hc, h⟩
 ·exact .inl h
 ·exact .inr ⟨b, o, c, rfl, hc, fun i hi => (h i hi).on hb⟩
def rising : List Pr → Bool
 | [] => true
 | [_] => true
 | a :: b :: l => Op.bytesLess a.name.toList b.name.toList && rising (b :: l)
def validL (l : List Pr) : Bool := decide (l.length ≤ 16) && (l.all canB && rising l)
end Go.Proofs.YtnpikgakpmkipabGreatDoor
namespace Go.Proofs.YtnpikgakpmkipabGreatDoor
open Go.RowKit Go.Lib
structure Msg where
 topic : List UInt8
 body : List UInt8
 props : List Pr
 dur : Bool
 til : Int
structure Itm where
 seq : Int
 again : Bool
 msg : Msg
structure Hld where
 tag : Int
 conn : Int
 sub : Int
 itm : Itm
structure Que where
 name : List UInt8
 dur : Bool
 depth : Int
 seq : Int
 tag : Int
 items : List Itm
 held : List Hld
def numB (n : Int) : Bool := decide (0 ≤ n) && decide (n ≤ 1099511627776)
def depB (n : Int) : Bool := decide (1 ≤ n) && decide (n ≤ 64)
def conB (n : Int) : Bool := decide (0 ≤ n) && decide (n < 8)
def givB (n last : Int) : Bool := decide (1 ≤ n) && decide (n ≤ last)
def msgB (m : Msg) : Bool := good m.topic && decide (m.body.length ≤ 1024) && validL m.props && numB m.til
def itmB (s : Int) (x : Itm) : Bool := givB x.seq s && msgB x.msg
def itmsB (s : Int) : Int → List Itm → Bool
 | _, [] => true
 | a, x :: l => decide (a < x.seq) && itmB s x && itmsB s x.seq l
def hldB (s t : Int) (h : Hld) : Bool := givB h.tag t && conB h.conn && numB h.sub && itmB s h.itm
def hldsB (s t : Int) : Int → List Hld → Bool
 | _, [] => true
 | a, h :: l => decide (a < h.tag) && hldB s t h && hldsB s t h.tag l
def seqs (q : Que) : List Int := q.items.map (·.seq) ++ q.held.map (·.itm.seq)
def lenQ (q : Que) : Nat := q.items.length + q.held.length
def goodQ (q : Que) : Bool := nameL q.name && depB q.depth && numB q.seq && numB q.tag && decide ((lenQ q : Int) ≤ q.depth) && itmsB q.seq 0 q.items && hldsB q.seq q.tag 0 q.held && decide (seqs q).Nodup
def zeroQ : Que := ⟨[], false, 0, 0, 0, [], []⟩
def zeroM : Msg := ⟨[], [], [], false, 0⟩
def zeroI : Itm := ⟨0, false, zeroM⟩
def pushC (q : Que) (m : Msg) : Int := if !goodQ q || decide (q.seq = 1099511627776) then 1 else if !msgB m then 36 else if (lenQ q : Int) = q.depth then 35 else 0
def pushQ (q : Que) (m : Msg) : Que := { q with seq := q.seq + 1, items := q.items ++ [⟨q.seq + 1, false, m⟩] }
def takeC (q : Que) (conn sub : Int) : Int := if !goodQ q || (!conB conn || (!numB sub || decide (q.tag = 1099511627776))) then 1 else if q.items.length = 0 then 33 else 0
def takeQ (q : Que) (conn sub : Int) (hold : Bool) : Que :=
 if hold then { q with tag := q.tag + 1, items := q.items.drop 1, held := q.held ++ [⟨q.tag + 1, conn, sub, q.items.headD zeroI⟩] } else { q with items := q.items.drop 1 }
def isH (conn tag : Int) (h : Hld) : Bool := decide (h.conn = conn) && decide (h.tag = tag)
def putB (l : List Itm) (x : Itm) : List Itm := l.takeWhile (fun y => decide (y.seq < x.seq)) ++ { x with again := true } :: l.dropWhile (fun y => decide (y.seq < x.seq))
def zeroH : Hld := ⟨0, 0, 0, zeroI⟩
def settleC (q : Que) (conn tag : Int) : Int := if !goodQ q then 1 else if q.held.findIdx (isH conn tag) < q.held.length then 0 else 33
def settleQ (q : Que) (conn tag : Int) (again : Bool) : Que :=
 { q with held := q.held.eraseIdx (q.held.findIdx (isH conn tag)), items := if again then putB q.items (q.held.getD (q.held.findIdx (isH conn tag)) zeroH).itm else q.items }
def isR (conn sub : Int) (h : Hld) : Bool := decide (h.conn = conn) && (decide (h.sub = sub) || decide (sub = -1))
def backs (l : List Itm) (hs : List Hld) : List Itm := hs.foldl (fun a h => putB a h.itm) l
def releaseQ (q : Que) (conn sub : Int) : Que := { q with items := backs q.items (q.held.filter (isR conn sub)), held := q.held.filter (fun h => !isR conn sub h) }
def oldB (now : Int) (x : Itm) : Bool := decide (0 < x.msg.til) && decide (x.msg.til ≤ now)
def expireQ (q : Que) (now : Int) : Que := { q with items := q.items.filter (fun x => !oldB now x) }
def holdsQ (q : Que) (conn sub : Int) : Nat := q.held.countP (fun h => decide (h.conn = conn) && decide (h.sub = sub))
end Go.Proofs.YtnpikgakpmkipabGreatDoor
namespace Go.Proofs.YtnpikgakpmkipabGreatDoor
open Go.RowKit
abbrev Zs (α : Type) := List (List Value × α)
def cellsZ {α : Type} (zs : Zs α) : List Value := zs.flatMap (·.1)
theorem cellsZ_app {α : Type} (a b : Zs α) : cellsZ (a ++ b) = cellsZ a ++ cellsZ b := by simp [cellsZ]
theorem cellsZ_len {α : Type} {k : Nat} : ∀ {zs : Zs α}, (∀ z ∈ zs, z.1.length = k) → (cellsZ zs).length = zs.length * k
 | [], _ => by simp [cellsZ]
 | z :: zs, h => by
  have := cellsZ_len (k := k) (zs := zs) (fun y hy => h y (List.mem_cons_of_mem _ hy))
  simp only [cellsZ, List.flatMap_cons, List.length_append, List.length_cons] at this ⊢
  rw [this, h z (List.mem_cons_self ..), Nat.succ_mul, Nat.add_comm]
theorem cellsZ_at {α : Type} {k : Nat} : ∀ {zs : Zs α}, (∀ z ∈ zs, z.1.length = k) → ∀ (i : Nat) (h : i < zs.length) (j : Nat), j < k → (cellsZ zs)[i * k + j]? = (zs[i].1)[j]?
 | z :: zs, hk, 0, _, j, hj => by
  simp only [cellsZ, List.flatMap_cons, List.getElem_cons_zero, Nat.zero_mul, Nat.zero_add]
  rw [List.getElem?_append_left (by rw [hk z (List.mem_cons_self ..)]; exact hj)]
 | z :: zs, hk, i + 1, h, j, hj => by
  have := cellsZ_at (k := k) (zs := zs) (fun y hy => hk y (List.mem_cons_of_mem _ hy)) i (by simpa using h) j hj
  simp only [cellsZ, List.flatMap_cons, List.getElem_cons_succ] at this ⊢
  have hz := hk z (List.mem_cons_self ..)
  rw [List.getElem?_append_right (by rw [hz, Nat.succ_mul]; omega), ← this]
  congr 1
  rw [hz, Nat.succ_mul]
  omega
theorem cellsZ_take {α : Type} {k : Nat} : ∀ {zs : Zs α}, (∀ z ∈ zs, z.1.length = k) → ∀ i, (cellsZ zs).take (i * k) = cellsZ (zs.take i)
 | [], _, i => by simp [cellsZ]
 | z :: zs, hk, 0 => by simp [cellsZ]
 | z :: zs, hk, i + 1 => by
  have := cellsZ_take (k := k) (zs := zs) (fun y hy => hk y (List.mem_cons_of_mem _ hy)) i
  simp only [cellsZ, List.flatMap_cons, List.take_succ_cons] at this ⊢
  have hz := hk z (List.mem_cons_self ..)
  rw [List.take_append, hz, List.take_of_length_le (by rw [hz, Nat.succ_mul]; omega), ← this, Nat.succ_mul, Nat.add_sub_cancel]
theorem cellsZ_drop {α : Type} {k : Nat} : ∀ {zs : Zs α}, (∀ z ∈ zs, z.1.length = k) → ∀ i, (cellsZ zs).drop (i * k) = cellsZ (zs.drop i)
 | [], _, i => by simp [cellsZ]
 | z :: zs, hk, 0 => by simp [cellsZ]
 | z :: zs, hk, i + 1 => by
  have := cellsZ_drop (k := k) (zs := zs) (fun y hy => hk y (List.mem_cons_of_mem _ hy)) i
  simp only [cellsZ, List.flatMap_cons, List.drop_succ_cons] at this ⊢
  have hz := hk z (List.mem_cons_self ..)
  rw [List.drop_append, hz, List.drop_of_length_le (by rw [hz, Nat.succ_mul]; omega), ← this, Nat.succ_mul, Nat.add_sub_cancel, List.nil_append]
theorem run_clear_row {P : Program} (w : World) (t e ty : TypeId) (z : Value) (ht : P.underlying t = some (.slice e)) (hv : ∀ w, (zeroValue e).run P w = .ok z w) (h1 : ∀ u ∈ z.cells.toList, u.oneCell' = true)
  (g o n c : Nat) (hn : 0 < n) (cur : Array Value) (hg : w.heap[g]? = some (.cells cur e (0, 0))) (hfit : o + n * z.cells.size ≤ cur.size) :
  ∃ zs : List Value, zs.length = n * z.cells.size ∧ (Builtin.clear_ #[t] ty #[.slice (some ⟨g, o, none⟩) n c]).run P w = .ok (.tuple #[]) (w.setRow g (cur.toList.take o ++ zs ++ cur.toList.drop (o + zs.length)).toArray) := by
 have hl : (Builtin.zeroCells z.cells n).toList.length = n * z.cells.size := by simp [Builtin.zeroCells]
 refine ⟨(Builtin.zeroCells z.cells n).toList, hl, ?_⟩
 have hone : ∀ u ∈ (Builtin.zeroCells z.cells n).toList, u.oneCell' = true := by
  intro u hu
  simp only [Builtin.zeroCells, Array.toList_map, List.mem_map] at hu
  obtain ⟨i, hi, rfl⟩ := hu
  have hi2 : i < n * z.cells.size := by simpa using hi
  have hpos : 0 < z.cells.size := by
   rcases Nat.eq_zero_or_pos z.cells.size with h0 | h0
   ·rw [h0] at hi2; omega
   ·exact h0
  have hm := Nat.mod_lt i hpos
  rw [getElem!_pos z.cells (i % z.cells.size) hm]
  exact h1 _ (by simp)
 have hst := run_storeCells_at P g o e (Builtin.zeroCells z.cells n).toList 0 cur w hg (by rw [hl]; omega) hone
 obtain ⟨m, rfl⟩ : ∃ m, n = m + 1 := ⟨n - 1, by omega⟩
 simp only [Nat.add_zero] at hst
 simp [Builtin.clear_, run_underlying ht, hv, hst]
end Go.Proofs.YtnpikgakpmkipabGreatDoor
namespace Go.Proofs.YtnpikgakpmkipabGreatDoor
open Go
def tkOk (md : Region.Mode) (ops : Array Oper) : List Nat → Array Bool → Bool
  | [], _ => true
  | i :: l, b => (ops[i]?).isSome && Region.free md ops b i && (Region.ready md ops b).contains i && tkOk md ops l (b.setIfInBounds i true)
def tkL : List Nat → Array Bool → Array Bool
  | [], b => b
  | i :: l, b => tkL l (b.setIfInBounds i true)
def tkA (ops : Array Oper) : List Nat → List Value → Act → Act
  | i :: l, v :: vs, a => tkA ops l vs (a.put ((ops[i]?).bind Oper.dst) v)
  | _, _, a => a
def tkY (P : Program) (ops : Array Oper) (S : World → Prop) : List Nat → List Value → Act → Prop
  | i :: l, v :: vs, a => (match ops[i]? with
    | some o => YieldsIf P ops S o v a
    | none => False) ∧ tkY P ops S l vs (a.put ((ops[i]?).bind Oper.dst) v)
  | [], [], _ => True
  | _, _, _ => False
theorem takes {P : Program} {md : Region.Mode} {ops : Array Oper} {Q : Exit → Act → World → Prop} {S : World → Prop} (hs : Region.noSelect ops = true) (hQ : ∀ c (a : Act) t w, Q (.panic c) ⟨t, a.defers⟩ w → Q (.panic c) a w) :
    ∀ (l : List Nat) (vs : List Value) (n : Nat) (b : Array Bool) (a : Act) (w : World), tkOk md ops l b = true → tkY P ops S l vs a → S w → wpAnyH P md ops Q S n (tkL l b) (tkA ops l vs a) w → wpAnyH P md ops Q S (n + l.length) b a w
  | [], vs, n, b, a, w, _, hy, _, h => by
    cases vs with
    | nil => exact h
    | cons v vs => exact absurd hy (by simp [tkY])
  | i :: l, [], n, b, a, w, _, hy, _, h => absurd hy (by simp [tkY])
  | i :: l, v :: vs, n, b, a, w, hk, hy, hS, h => by
    simp only [tkOk, Bool.and_eq_true] at hk
    obtain ⟨⟨⟨h1, h2⟩, h3⟩, h4⟩ := hk
    unfold tkY at hy
    obtain ⟨h5, h6⟩ := hy
    unfold tkL tkA at h
    cases ho : ops[i]? with
    | none =>
      rw [ho] at h1
      cases h1
    | some o =>
      rw [ho] at h5 h6 h
      have h7 := takes hs hQ l vs n (b.setIfInBounds i true) (a.put o.dst v) w h4 h6 hS h
      refine wpAnyH_take ho hs h2 h3 (fun c a' w' hq => ?_) h5 hS h7
      cases hd : o.dst with
      | none =>
        rw [hd] at hq
        exact hq
      | some d =>
        rw [hd] at hq
        exact hQ c a' _ w' hq
theorem tks {P : Program} {md : Region.Mode} {ops : Array Oper} {Q : Exit → Act → World → Prop} {S : World → Prop} {b : Array Bool} {a : Act} {w : World} {m : Nat} (l : List Nat) (vs : List Value) (n : Nat)
    (hy : tkY P ops S l vs a) (hS : S w) (h : wpAnyH P md ops Q S n (tkL l b) (tkA ops l vs a) w) (hk : tkOk md ops l b = true := by kernel_rfl) (hn : m = n + l.length := by kernel_rfl) (hs : Region.noSelect ops = true := by kernel_rfl) (hQ : ∀ c (a : Act) t w, Q (.panic c) ⟨t, a.defers⟩ w → Q (.panic c) a w := by exact fun _ _ _ _ h => h) :
    wpAnyH P md ops Q S m b a w := by
  subst hn
  exact takes hs hQ l vs n b a w hk hy hS h
theorem tkf : (∀ (α : Type) (l : List α) (i : Nat), l.toArray[i]? = l[i]?) ∧ (∀ (α : Type) (a : α) (l : List α) (n : Nat), (a :: l)[n + 1]? = l[n]?) ∧ (∀ (α : Type) (a : α) (l : List α), (a :: l)[0]? = some a) ∧ (∀ (α : Type) (l : List α) (i : Nat) (h : i < l.toArray.size), l.toArray[i] = l[i]'(by simpa using h)) ∧ (∀ (α : Type) (a : α) (l : List α) (n : Nat) (h : n + 1 < (a :: l).length), (a :: l)[n + 1] = l[n]'(by simpa using h)) ∧ (∀ (α : Type) (a : α) (l : List α) (h : 0 < (a :: l).length), (a :: l)[0] = a) ∧ (∀ (α : Type) (l : List α) (i : Nat) (v : α), l.toArray.setIfInBounds i v = (l.set i v).toArray) ∧ (∀ (α : Type) (a : α) (l : List α) (n : Nat) (v : α), (a :: l).set (n + 1) v = a :: l.set n v) ∧ (∀ (α : Type) (a : α) (l : List α) (v : α), (a :: l).set 0 v = v :: l) ∧ (∀ (α β : Type) (x : α) (f : α → Option β), (some x).bind f = f x) ∧ (∀ (a : Act) (d : Tmp) (v : Value), a.put (some d) v = ⟨a.tmps.setIfInBounds d v, a.defers⟩) ∧ (∀ (a : Act) (v : Value), a.put none v = a) :=
  ⟨fun _ _ _ => List.getElem?_toArray .., fun _ _ _ _ => List.getElem?_cons_succ .., fun _ _ _ => List.getElem?_cons_zero .., fun _ _ _ _ => List.getElem_toArray .., fun _ _ _ _ _ => List.getElem_cons_succ .., fun _ _ _ _ => List.getElem_cons_zero .., fun _ _ _ _ => List.setIfInBounds_toArray .., fun _ _ _ _ _ => List.set_cons_succ .., fun _ _ _ _ => List.set_cons_zero .., fun _ _ _ _ => rfl, fun _ _ _ => rfl, fun _ _ => rfl⟩
theorem ak {P : Program} {md : Region.Mode} {ops : Array Oper} {Q : Exit → Act → World → Prop} {S : World → Prop} (i : Nat) {o : Oper} {fuel : Nat} {listed : Array Bool} {a : Act} {w : World}
    (h : ∀ K : Act → World → Prop, (∀ a' w', S w' → wpAnyH P md ops Q S fuel (listed.setIfInBounds i true) a' w' → K a' w') → o.wp P a w K Q) (hr : Region.ready md ops listed = [i] := by kernel_rfl) (ho : ops[i]? = some o := by exact rfl) (hw : Region.wanted o (yielded ops a.tmps) = true := by rfl) : wpAnyH P md ops Q S (fuel + 1) listed a w :=
  wpAnyH_all hr (by simp) (fun j hj => by
    simp only [List.mem_singleton] at hj
    subst hj
    unfold wpOp
    simp only [ho]
    rw [if_pos hw]
    exact .inl (h _ (fun _ _ h1 h2 => ⟨h1, h2⟩)))
theorem _root_.Go.YieldsIf.no {P : Program} {ops : Array Oper} {S : World → Prop} {o : Oper} {a : Act} (h : Region.wanted o (yielded ops a.tmps) = false := by rfl) : YieldsIf P ops S o undef a := .inr ⟨h, rfl⟩
theorem _root_.Go.YieldsIf.yes {P : Program} {ops : Array Oper} {S : World → Prop} {o : Oper} {v : Value} {a : Act} (h : ∀ w, S w → (execOp a.eval o).run P w = .ok (.value v) w) (hw : Region.wanted o (yielded ops a.tmps) = true := by rfl) : YieldsIf P ops S o v a := .inl ⟨hw, h⟩
theorem ad {P : Program} {md : Region.Mode} {ops : Array Oper} {Q : Exit → Act → World → Prop} {S : World → Prop} {b : Array Bool} {a : Act} {w : World} {n : Nat} (h : Q .normal a w) (hr : Region.ready md ops b = [] := by kernel_rfl) : wpAnyH P md ops Q S n b a w := wpAnyH_done hr h n
theorem rh {P : Program} {id : Nat} {ops : Array Oper} {Q : Exit → Act → World → Prop} {a : Act} {w : World} (S : World → Prop) (h : wpAnyH P .any ops Q S ops.size (Array.replicate ops.size false) a w.drew) (hm : P.follows .mixedOrders = true := by kernel_rfl) : (Code.region id ops true).wp P Q a w := wp_region_held hm h
end Go.Proofs.YtnpikgakpmkipabGreatDoor
namespace Go.Proofs.YtnpikgakpmkipabGreatDoor
open Go.RowKit Go.Lib Ieee
set_option linter.unusedSimpArgs false
abbrev prA (p : Pr) : Array Value := #[.string p.name, .int .i64 p.val.kind, .int .i64 p.val.num, .string p.val.text, .float .f64 p.val.real]
@[go_sem] theorem run_store_float (P : Program) (w : World) (a : Addr) (m : Mode) (k : FloatKind) (b : Nat) : (store a (.float k b) m).run P w = stored P w a (.float k b) m := run_store P w a _ m rfl
theorem rising_take : ∀ (l : List Pr) (k : Nat) (h : k + 1 < l.length), rising (l.take (k + 2)) = (rising (l.take (k + 1)) && Op.bytesLess (l[k]'(by omega)).name.toList l[k + 1].name.toList)
 | a :: b :: l, 0, h => by simp [rising]
 | a :: b :: l, k + 1, h => by
  have := rising_take (b :: l) k (by simpa using h)
  simp only [List.take_succ_cons, rising, List.getElem_cons_succ] at this ⊢
  rw [this, Bool.and_assoc]
 | [_], k, h => by simp at h
 | [], k, h => by simp at h
def okT (l : List Pr) (k : Nat) : Bool := (l.take k).all canB && rising (l.take k)
theorem okT_0 (l : List Pr) : okT l 0 = true := rfl
theorem okT_1 (l : List Pr) (h : 0 < l.length) : okT l 1 = canB l[0] := by
 match l, h with
 | a :: l, _ => simp [okT, rising]
theorem all_takeP {p : Pr → Bool} {s : List Pr} (k : Nat) (h : k < s.length) : (s.take (k + 1)).all p = ((s.take k).all p && p s[k]) := by
 rw [List.take_succ_eq_append_getElem h, List.all_append]
 simp
theorem okT_s (l : List Pr) (k : Nat) (h : k + 1 < l.length) : okT l (k + 2) = (okT l (k + 1) && (canB l[k + 1] && Op.bytesLess (l[k]'(by omega)).name.toList l[k + 1].name.toList)) := by
 unfold okT
 rw [rising_take l k h, all_takeP (k + 1) h]
 cases (l.take (k + 1)).all canB <;> cases rising (l.take (k + 1)) <;> simp
theorem rising_pre : ∀ (l : List Pr) (k : Nat), rising (l.take k) = false → rising l = false
 | a :: b :: l, k + 2, h => by
  simp only [List.take_succ_cons, rising, Bool.and_eq_false_iff] at h ⊢
  rcases h with h | h
  ·exact .inl h
  ·exact .inr (rising_pre (b :: l) (k + 1) (by simpa using h))
 | _, 0, h => by simp [rising] at h
 | [], _ + 1, h => by simp [rising] at h
 | [_], _ + 1, h => by simp [rising] at h
 | _ :: _ :: _, 1, h => by simp [rising] at h
theorem okT_no (l : List Pr) (k : Nat) (h : okT l k = false) : (l.all canB && rising l) = false := by
 simp only [okT, Bool.and_eq_false_iff] at h ⊢
 rcases h with h | h
 ·left; rw [← List.take_append_drop k l, List.all_append, h]; rfl
 ·exact .inr (rising_pre l k h)
theorem okT_all (l : List Pr) (k : Nat) (h : l.length ≤ k) : okT l k = (l.all canB && rising l) := by
 unfold okT; rw [List.take_of_length_le h]
theorem okT_bad (l : List Pr) (k : Nat) (h : k < l.length) (hc : canB l[k] = false) : okT l (k + 1) = false := by
 unfold okT
 rw [all_takeP k h, hc]
 simp
set_option maxRecDepth 4000 in
theorem valid7_nil (w : World) (a : Option Addr) (c : Nat) : Calls Tryz.prog 152 #[.slice a 0 c] w fun e w' => e = .returned (.bool true) ∧ Below w.heap.size w w' := by
 go_enter Tryz.func152, Tryz.ntmps152
 go_wp2_with fail
 go_loopw [10] (fun i wr => i = .int .i64 0 ∧ wr = w) (fun _ _ => 0)
 case atStart => exact ⟨rfl, rfl⟩
 case round =>
  obtain ⟨rfl, rfl⟩ := hrel
  go_wp2
  go_ret
  exact ⟨rfl, Below.refl _ _⟩
set_option maxRecDepth 4000 in
set_option maxHeartbeats 2000000 in
theorem valid7_some (w : World) (l : List Pr) (b o c : Nat) (h : ∀ i (h : i < l.length), PrAt w b (o + i * 5) l[i]) :
  Calls Tryz.prog 152 #[.slice (some ⟨b, o, none⟩) l.length c] w fun e w' => e = .returned (.bool (validL l)) ∧ Below w.heap.size w w' := by
 by_cases h16 : (l.length : Int) > 16
 ·have e : validL l = false := by simp [validL]; omega
  rw [e]
  go_enter Tryz.func152, Tryz.ntmps152
  go_wp2
  go_ret
  exact ⟨rfl, Below.refl _ _⟩
 have e : validL l = (l.all canB && rising l) := by unfold validL; rw [decide_eq_true (by omega)]; rfl
 rw [e]
 clear e
 have H : Hid (∀ i (h : i < l.length), PrAt w b (o + i * 5) l[i]) := h
 have K0 := okT_0 l
 have K1 : Hid (∀ (h : 0 < l.length), okT l 1 = canB l[0]) := okT_1 l
 have KS : Hid (∀ (k : Nat) (h : k + 1 < l.length), okT l (k + 2) = (okT l (k + 1) && (canB l[k + 1] && Op.bytesLess (l[k]'(by omega)).name.toList l[k + 1].name.toList))) := okT_s l
 have KN : Hid (∀ k, okT l k = false → (l.all canB && rising l) = false) := okT_no l
 have KA : Hid (∀ k, l.length ≤ k → okT l k = (l.all canB && rising l)) := okT_all l
 clear h
 generalize (l.all canB && rising l) = r at *
 go_enter Tryz.func152, Tryz.ntmps152
 go_wp2_with fail
 go_loopw [10] (fun i wr => ∃ k : Nat, k ≤ l.length ∧ i = .int .i64 k ∧ Below w.heap.size w wr ∧ Hid (okT l k = true)) (fun i _ => l.length - (RowKit.intOf i).toNat)
 case atStart => exact ⟨0, by omega, rfl, Below.refl _ _, K0⟩
 case round =>
  obtain ⟨k, hk, rfl, hbr, hz⟩ := hrel
  by_cases hlt : k < l.length
  ·obtain ⟨a0, a1, a2, a3, a4⟩ := (H.out k hlt).on hbr
   have hwr := hbr.size
   have HC := fun W : World => canbe7 W l[k]
   unfold Pr.v at HC
   cases hcan : canB l[k] with
   | false =>
    have hr := KN.out _ (okT_bad l k hlt hcan)
    rw [hcan] at HC
    obtain ⟨pk, hpk⟩ : ∃ pk, pk = l[k] := ⟨_, rfl⟩
    rw [← hpk] at a0 a1 a2 a3 a4 HC
    clear hcan hpk hz
    go_upto_region 6 with fail
    have hbA : Below w.heap.size w (wr.alloc (Obj.cells (prA pk) 66)) := hbr.alloc hwr _
    have c0 : (wr.alloc (Obj.cells (prA pk) 66)).cell? ⟨wr.heap.size, 0, none⟩ = some (.string pk.name) := World.cell?_alloc_new ..
    have c1 : (wr.alloc (Obj.cells (prA pk) 66)).cell? ⟨wr.heap.size, 1, none⟩ = some (.int .i64 pk.val.kind) := World.cell?_alloc_new ..
    have c2 : (wr.alloc (Obj.cells (prA pk) 66)).cell? ⟨wr.heap.size, 2, none⟩ = some (.int .i64 pk.val.num) := World.cell?_alloc_new ..
    have c3 : (wr.alloc (Obj.cells (prA pk) 66)).cell? ⟨wr.heap.size, 3, none⟩ = some (.string pk.val.text) := World.cell?_alloc_new ..
    have c4 : (wr.alloc (Obj.cells (prA pk) 66)).cell? ⟨wr.heap.size, 4, none⟩ = some (.float .f64 pk.val.real) := World.cell?_alloc_new ..
    have hsA : (wr.alloc (Obj.cells (prA pk) 66)).heap.size = wr.heap.size + 1 := by simp
    refine rh (fun W => W.cell? ⟨wr.heap.size, 0, none⟩ = some (.string pk.name) ∧ W.cell? ⟨wr.heap.size, 1, none⟩ = some (.int .i64 pk.val.kind) ∧ W.cell? ⟨wr.heap.size, 2, none⟩ = some (.int .i64 pk.val.num) ∧ W.cell? ⟨wr.heap.size, 3, none⟩ = some (.string pk.val.text) ∧ W.cell? ⟨wr.heap.size, 4, none⟩ = some (.float .f64 pk.val.real)) ?_
    have hS : (fun W : World => W.cell? ⟨wr.heap.size, 0, none⟩ = some (.string pk.name) ∧ W.cell? ⟨wr.heap.size, 1, none⟩ = some (.int .i64 pk.val.kind) ∧ W.cell? ⟨wr.heap.size, 2, none⟩ = some (.int .i64 pk.val.num) ∧ W.cell? ⟨wr.heap.size, 3, none⟩ = some (.string pk.val.text) ∧ W.cell? ⟨wr.heap.size, 4, none⟩ = some (.float .f64 pk.val.real)) (wr.alloc (Obj.cells (prA pk) 66)).drew := ⟨c0, c1, c2, c3, c4⟩
    have hb1 : Below w.heap.size w (wr.alloc (Obj.cells (prA pk) 66)).drew := hbA.drew
    have hs1 : (wr.alloc (Obj.cells (prA pk) 66)).drew.heap.size = wr.heap.size + 1 := hsA
    clear c0 c1 c2 c3 c4 hbA hsA
    generalize (wr.alloc (Obj.cells (prA pk) 66)).drew = w1 at *
    refine tks [0] [.agg (prA pk)] 17 ?_ hS ?_
    ·simp only [tkY, tkf]
     refine ⟨.yes ?_, trivial⟩
     all_goals
      intro W' hW'
      obtain ⟨d0, d1, d2, d3, d4⟩ := hW'
      go_simp
    simp only [tkA, tkf]
    refine ak 1 fun K hK => ?_
    go_simp
    refine (HC _).mono ?_
    rintro e w2 ⟨rfl, hb2⟩
    have hS2 : (fun W : World => W.cell? ⟨wr.heap.size, 0, none⟩ = some (.string pk.name) ∧ W.cell? ⟨wr.heap.size, 1, none⟩ = some (.int .i64 pk.val.kind) ∧ W.cell? ⟨wr.heap.size, 2, none⟩ = some (.int .i64 pk.val.num) ∧ W.cell? ⟨wr.heap.size, 3, none⟩ = some (.string pk.val.text) ∧ W.cell? ⟨wr.heap.size, 4, none⟩ = some (.float .f64 pk.val.real)) w2 := by
     obtain ⟨d0, d1, d2, d3, d4⟩ := hS
     exact ⟨by rw [hb2.cell (by dsimp only; omega)]; exact d0, by rw [hb2.cell (by dsimp only; omega)]; exact d1, by rw [hb2.cell (by dsimp only; omega)]; exact d2, by rw [hb2.cell (by dsimp only; omega)]; exact d3, by rw [hb2.cell (by dsimp only; omega)]; exact d4⟩
    have hb02 : Below w.heap.size w w2 := hb1.trans (hb2.mono (by omega))
    show K _ _
    refine hK _ _ hS2 ?_
    clear hK K
    refine tks [2, 3, 4, 5, 6, 7, 8, 9, 10, 11, 12, 13, 14, 15, 16, 17] [.bool true, .bool true, undef, undef, undef, undef, undef, undef, undef, undef, undef, undef, undef, undef, undef, .bool true] 0 ?_ hS2 ?_
    ·simp only [tkY, tkf]
     refine ⟨.yes ?_, .yes ?_, .no, .no, .no, .no, .no, .no, .no, .no, .no, .no, .no, .no, .no, .yes ?_, trivial⟩
     all_goals
      intro W' hW'
      go_simp
    simp only [tkA, tkf]
    refine ad ?_
    go_wp2
    go_ret
    exact ⟨ret_b (by first | rfl | exact hr.symm), hb02⟩
   | true =>
    rw [hcan] at HC
    rcases Nat.eq_zero_or_pos k with hk0 | hk0
    ·subst hk0
     have hok : Hid (okT l 1 = true) := by rw [K1.out hlt]; exact hcan
     obtain ⟨pk, hpk⟩ : ∃ pk, pk = l[0] := ⟨_, rfl⟩
     rw [← hpk] at a0 a1 a2 a3 a4 HC
     rw [show o + 0 * 5 = o by omega] at a0 a1 a2 a3 a4
     clear hcan hpk hz
     go_upto_region 6 with fail
     have hbA : Below w.heap.size w (wr.alloc (Obj.cells (prA pk) 66)) := hbr.alloc hwr _
     have c0 : (wr.alloc (Obj.cells (prA pk) 66)).cell? ⟨wr.heap.size, 0, none⟩ = some (.string pk.name) := World.cell?_alloc_new ..
     have c1 : (wr.alloc (Obj.cells (prA pk) 66)).cell? ⟨wr.heap.size, 1, none⟩ = some (.int .i64 pk.val.kind) := World.cell?_alloc_new ..
     have c2 : (wr.alloc (Obj.cells (prA pk) 66)).cell? ⟨wr.heap.size, 2, none⟩ = some (.int .i64 pk.val.num) := World.cell?_alloc_new ..
     have c3 : (wr.alloc (Obj.cells (prA pk) 66)).cell? ⟨wr.heap.size, 3, none⟩ = some (.string pk.val.text) := World.cell?_alloc_new ..
     have c4 : (wr.alloc (Obj.cells (prA pk) 66)).cell? ⟨wr.heap.size, 4, none⟩ = some (.float .f64 pk.val.real) := World.cell?_alloc_new ..
     have hsA : (wr.alloc (Obj.cells (prA pk) 66)).heap.size = wr.heap.size + 1 := by simp
     refine rh (fun W => W.cell? ⟨wr.heap.size, 0, none⟩ = some (.string pk.name) ∧ W.cell? ⟨wr.heap.size, 1, none⟩ = some (.int .i64 pk.val.kind) ∧ W.cell? ⟨wr.heap.size, 2, none⟩ = some (.int .i64 pk.val.num) ∧ W.cell? ⟨wr.heap.size, 3, none⟩ = some (.string pk.val.text) ∧ W.cell? ⟨wr.heap.size, 4, none⟩ = some (.float .f64 pk.val.real)) ?_
     have hS : (fun W : World => W.cell? ⟨wr.heap.size, 0, none⟩ = some (.string pk.name) ∧ W.cell? ⟨wr.heap.size, 1, none⟩ = some (.int .i64 pk.val.kind) ∧ W.cell? ⟨wr.heap.size, 2, none⟩ = some (.int .i64 pk.val.num) ∧ W.cell? ⟨wr.heap.size, 3, none⟩ = some (.string pk.val.text) ∧ W.cell? ⟨wr.heap.size, 4, none⟩ = some (.float .f64 pk.val.real)) (wr.alloc (Obj.cells (prA pk) 66)).drew := ⟨c0, c1, c2, c3, c4⟩
     have hb1 : Below w.heap.size w (wr.alloc (Obj.cells (prA pk) 66)).drew := hbA.drew
     have hs1 : (wr.alloc (Obj.cells (prA pk) 66)).drew.heap.size = wr.heap.size + 1 := hsA
     clear c0 c1 c2 c3 c4 hbA hsA
     generalize (wr.alloc (Obj.cells (prA pk) 66)).drew = w1 at *
     refine tks [0] [.agg (prA pk)] 17 ?_ hS ?_
     ·simp only [tkY, tkf]
      refine ⟨.yes ?_, trivial⟩
      all_goals
       intro W' hW'
       obtain ⟨d0, d1, d2, d3, d4⟩ := hW'
       go_simp
     simp only [tkA, tkf]
     refine ak 1 fun K hK => ?_
     go_simp
     refine (HC _).mono ?_
     rintro e w2 ⟨rfl, hb2⟩
     have hS2 : (fun W : World => W.cell? ⟨wr.heap.size, 0, none⟩ = some (.string pk.name) ∧ W.cell? ⟨wr.heap.size, 1, none⟩ = some (.int .i64 pk.val.kind) ∧ W.cell? ⟨wr.heap.size, 2, none⟩ = some (.int .i64 pk.val.num) ∧ W.cell? ⟨wr.heap.size, 3, none⟩ = some (.string pk.val.text) ∧ W.cell? ⟨wr.heap.size, 4, none⟩ = some (.float .f64 pk.val.real)) w2 := by
      obtain ⟨d0, d1, d2, d3, d4⟩ := hS
      exact ⟨by rw [hb2.cell (by dsimp only; omega)]; exact d0, by rw [hb2.cell (by dsimp only; omega)]; exact d1, by rw [hb2.cell (by dsimp only; omega)]; exact d2, by rw [hb2.cell (by dsimp only; omega)]; exact d3, by rw [hb2.cell (by dsimp only; omega)]; exact d4⟩
     have hb02 : Below w.heap.size w w2 := hb1.trans (hb2.mono (by omega))
     show K _ _
     refine hK _ _ hS2 ?_
     clear hK K
     refine tks [2, 3, 4, 5, 6, 7, 8, 9, 10, 11, 12, 13, 14, 15, 16, 17] [.bool false, .bool false, .int .i64 0, .bool false, .bool false, undef, undef, undef, undef, undef, undef, undef, undef, undef, .bool false, .bool false] 0 ?_ hS2 ?_
     ·simp only [tkY, tkf]
      refine ⟨.yes ?_, .yes ?_, .yes ?_, .yes ?_, .yes ?_, .no, .no, .no, .no, .no, .no, .no, .no, .no, .yes ?_, .yes ?_, trivial⟩
      all_goals
       intro W' hW'
       go_simp
     simp only [tkA, tkf]
     refine ad ?_
     go_wp2
     go_roundw
     case rel => exact ⟨1, by omega, by go_num, hb02, hok⟩
     case measure => simp [RowKit.intOf]; omega
    ·obtain ⟨m, hm⟩ : ∃ m, k = m + 1 := ⟨k - 1, by omega⟩
     subst hm
     have hst := KS.out m hlt
     obtain ⟨q0, _, _, _, _⟩ := (H.out m (by omega)).on hbr
     obtain ⟨pk, hpk⟩ : ∃ pk, pk = l[m + 1] := ⟨_, rfl⟩
     obtain ⟨pn, hpn⟩ : ∃ pn, pn = l[m].name := ⟨_, rfl⟩
     rw [hz.out, hcan, ← hpk, ← hpn, Bool.true_and, Bool.true_and] at hst
     rw [← hpn] at q0
     rw [← hpk] at a0 a1 a2 a3 a4 HC
     clear hcan hpk hpn hz
     cases hle : Op.bytesLess pn.toList pk.name.toList with
     | true =>
      rw [hle] at hst
      have hok : Hid (okT l (m + 2) = true) := hst
      clear hst
      go_upto_region 6 with fail
      have hbA : Below w.heap.size w (wr.alloc (Obj.cells (prA pk) 66)) := hbr.alloc hwr _
      have c0 : (wr.alloc (Obj.cells (prA pk) 66)).cell? ⟨wr.heap.size, 0, none⟩ = some (.string pk.name) := World.cell?_alloc_new ..
      have c1 : (wr.alloc (Obj.cells (prA pk) 66)).cell? ⟨wr.heap.size, 1, none⟩ = some (.int .i64 pk.val.kind) := World.cell?_alloc_new ..
      have c2 : (wr.alloc (Obj.cells (prA pk) 66)).cell? ⟨wr.heap.size, 2, none⟩ = some (.int .i64 pk.val.num) := World.cell?_alloc_new ..
      have c3 : (wr.alloc (Obj.cells (prA pk) 66)).cell? ⟨wr.heap.size, 3, none⟩ = some (.string pk.val.text) := World.cell?_alloc_new ..
      have c4 : (wr.alloc (Obj.cells (prA pk) 66)).cell? ⟨wr.heap.size, 4, none⟩ = some (.float .f64 pk.val.real) := World.cell?_alloc_new ..
      have hsA : (wr.alloc (Obj.cells (prA pk) 66)).heap.size = wr.heap.size + 1 := by simp
      have c5 : (wr.alloc (Obj.cells (prA pk) 66)).cell? ⟨b, o + m * 5, none⟩ = some (.string pn) := by rw [((Below.refl _ wr).alloc (Nat.le_refl _) _).cell (World.block_lt_of_cell? wr _ q0)]; exact q0
      refine rh (fun W => W.cell? ⟨wr.heap.size, 0, none⟩ = some (.string pk.name) ∧ W.cell? ⟨wr.heap.size, 1, none⟩ = some (.int .i64 pk.val.kind) ∧ W.cell? ⟨wr.heap.size, 2, none⟩ = some (.int .i64 pk.val.num) ∧ W.cell? ⟨wr.heap.size, 3, none⟩ = some (.string pk.val.text) ∧ W.cell? ⟨wr.heap.size, 4, none⟩ = some (.float .f64 pk.val.real) ∧ W.cell? ⟨b, o + m * 5, none⟩ = some (.string pn)) ?_
      have hS : (fun W : World => W.cell? ⟨wr.heap.size, 0, none⟩ = some (.string pk.name) ∧ W.cell? ⟨wr.heap.size, 1, none⟩ = some (.int .i64 pk.val.kind) ∧ W.cell? ⟨wr.heap.size, 2, none⟩ = some (.int .i64 pk.val.num) ∧ W.cell? ⟨wr.heap.size, 3, none⟩ = some (.string pk.val.text) ∧ W.cell? ⟨wr.heap.size, 4, none⟩ = some (.float .f64 pk.val.real) ∧ W.cell? ⟨b, o + m * 5, none⟩ = some (.string pn)) (wr.alloc (Obj.cells (prA pk) 66)).drew := ⟨c0, c1, c2, c3, c4, c5⟩
      have hb1 : Below w.heap.size w (wr.alloc (Obj.cells (prA pk) 66)).drew := hbA.drew
      have hs1 : (wr.alloc (Obj.cells (prA pk) 66)).drew.heap.size = wr.heap.size + 1 := hsA
      clear c0 c1 c2 c3 c4 c5 hbA hsA
      generalize (wr.alloc (Obj.cells (prA pk) 66)).drew = w1 at *
      refine tks [0] [.agg (prA pk)] 17 ?_ hS ?_
      ·simp only [tkY, tkf]
       refine ⟨.yes ?_, trivial⟩
       all_goals
        intro W' hW'
        obtain ⟨d0, d1, d2, d3, d4, d5⟩ := hW'
        go_simp
      simp only [tkA, tkf]
      refine ak 1 fun K hK => ?_
      go_simp
      refine (HC _).mono ?_
      rintro e w2 ⟨rfl, hb2⟩
      have hS2 : (fun W : World => W.cell? ⟨wr.heap.size, 0, none⟩ = some (.string pk.name) ∧ W.cell? ⟨wr.heap.size, 1, none⟩ = some (.int .i64 pk.val.kind) ∧ W.cell? ⟨wr.heap.size, 2, none⟩ = some (.int .i64 pk.val.num) ∧ W.cell? ⟨wr.heap.size, 3, none⟩ = some (.string pk.val.text) ∧ W.cell? ⟨wr.heap.size, 4, none⟩ = some (.float .f64 pk.val.real) ∧ W.cell? ⟨b, o + m * 5, none⟩ = some (.string pn)) w2 := by
       obtain ⟨d0, d1, d2, d3, d4, d5⟩ := hS
       exact ⟨by rw [hb2.cell (by dsimp only; omega)]; exact d0, by rw [hb2.cell (by dsimp only; omega)]; exact d1, by rw [hb2.cell (by dsimp only; omega)]; exact d2, by rw [hb2.cell (by dsimp only; omega)]; exact d3, by rw [hb2.cell (by dsimp only; omega)]; exact d4, by rw [hb2.cell (World.block_lt_of_cell? w1 _ d5)]; exact d5⟩
      have hb02 : Below w.heap.size w w2 := hb1.trans (hb2.mono (by omega))
      show K _ _
      refine hK _ _ hS2 ?_
      clear hK K
      refine tks [2, 3, 4, 5, 6, 7, 8] [.bool false, .bool false, .int .i64 (m + 1 : Nat), .bool true, .bool true, .slice (some ⟨b, o, none⟩) l.length c, .int .i64 (m + 1 : Nat)] 9 ?_ hS2 ?_
      ·simp only [tkY, tkf]
       refine ⟨.yes ?_, .yes ?_, .yes ?_, .yes ?_, .yes ?_, .yes ?_, .yes ?_, trivial⟩
       all_goals
        intro W' hW'
        go_simp
      simp only [tkA, tkf]
      refine wpAnyH_take (i := 9) (v := .int .i64 (m : Int)) rfl (by kernel_rfl) (by kernel_rfl) (by kernel_rfl) (fun _ _ _ h => h) (.inl ⟨by rfl, fun W' hW' => ?_⟩) hS2 ?_
      ·go_simp
       rw [IntKind.wrap_i64]; omega
      simp only [tkf]
      refine wpAnyH_take (i := 10) (v := .pointer (some ⟨b, o + m * 5, none⟩)) rfl (by kernel_rfl) (by kernel_rfl) (by kernel_rfl) (fun _ _ _ h => h) (.inl ⟨by rfl, fun W' hW' => ?_⟩) hS2 ?_
      ·go_simp
       intro hh; omega
      simp only [tkf]
      refine tks [11, 12, 13, 14, 15, 16, 17] [.pointer (some ⟨b, o + m * 5, none⟩), .string pn, .pointer (some ⟨wr.heap.size, 0, none⟩), .string pk.name, .bool false, .bool false, .bool false] 0 ?_ hS2 ?_
      ·simp only [tkY, tkf]
       refine ⟨.yes ?_, .yes ?_, .yes ?_, .yes ?_, .yes ?_, .yes ?_, .yes ?_, trivial⟩
       all_goals
        intro W' hW'
        obtain ⟨d0, d1, d2, d3, d4, d5⟩ := hW'
        go_simp
      simp only [tkA, tkf]
      refine ad ?_
      go_wp2
      go_roundw
      case rel => exact ⟨m + 2, by omega, by go_num, hb02, hok⟩
      case measure => simp [RowKit.intOf]; omega
     | false =>
      rw [hle] at hst
      have hr := KN.out _ hst
      clear hst
      go_upto_region 6 with fail
      have hbA : Below w.heap.size w (wr.alloc (Obj.cells (prA pk) 66)) := hbr.alloc hwr _
      have c0 : (wr.alloc (Obj.cells (prA pk) 66)).cell? ⟨wr.heap.size, 0, none⟩ = some (.string pk.name) := World.cell?_alloc_new ..
      have c1 : (wr.alloc (Obj.cells (prA pk) 66)).cell? ⟨wr.heap.size, 1, none⟩ = some (.int .i64 pk.val.kind) := World.cell?_alloc_new ..
      have c2 : (wr.alloc (Obj.cells (prA pk) 66)).cell? ⟨wr.heap.size, 2, none⟩ = some (.int .i64 pk.val.num) := World.cell?_alloc_new ..
      have c3 : (wr.alloc (Obj.cells (prA pk) 66)).cell? ⟨wr.heap.size, 3, none⟩ = some (.string pk.val.text) := World.cell?_alloc_new ..
      have c4 : (wr.alloc (Obj.cells (prA pk) 66)).cell? ⟨wr.heap.size, 4, none⟩ = some (.float .f64 pk.val.real) := World.cell?_alloc_new ..
      have hsA : (wr.alloc (Obj.cells (prA pk) 66)).heap.size = wr.heap.size + 1 := by simp
      have c5 : (wr.alloc (Obj.cells (prA pk) 66)).cell? ⟨b, o + m * 5, none⟩ = some (.string pn) := by rw [((Below.refl _ wr).alloc (Nat.le_refl _) _).cell (World.block_lt_of_cell? wr _ q0)]; exact q0
      refine rh (fun W => W.cell? ⟨wr.heap.size, 0, none⟩ = some (.string pk.name) ∧ W.cell? ⟨wr.heap.size, 1, none⟩ = some (.int .i64 pk.val.kind) ∧ W.cell? ⟨wr.heap.size, 2, none⟩ = some (.int .i64 pk.val.num) ∧ W.cell? ⟨wr.heap.size, 3, none⟩ = some (.string pk.val.text) ∧ W.cell? ⟨wr.heap.size, 4, none⟩ = some (.float .f64 pk.val.real) ∧ W.cell? ⟨b, o + m * 5, none⟩ = some (.string pn)) ?_
      have hS : (fun W : World => W.cell? ⟨wr.heap.size, 0, none⟩ = some (.string pk.name) ∧ W.cell? ⟨wr.heap.size, 1, none⟩ = some (.int .i64 pk.val.kind) ∧ W.cell? ⟨wr.heap.size, 2, none⟩ = some (.int .i64 pk.val.num) ∧ W.cell? ⟨wr.heap.size, 3, none⟩ = some (.string pk.val.text) ∧ W.cell? ⟨wr.heap.size, 4, none⟩ = some (.float .f64 pk.val.real) ∧ W.cell? ⟨b, o + m * 5, none⟩ = some (.string pn)) (wr.alloc (Obj.cells (prA pk) 66)).drew := ⟨c0, c1, c2, c3, c4, c5⟩
      have hb1 : Below w.heap.size w (wr.alloc (Obj.cells (prA pk) 66)).drew := hbA.drew
      have hs1 : (wr.alloc (Obj.cells (prA pk) 66)).drew.heap.size = wr.heap.size + 1 := hsA
      clear c0 c1 c2 c3 c4 c5 hbA hsA
      generalize (wr.alloc (Obj.cells (prA pk) 66)).drew = w1 at *
      refine tks [0] [.agg (prA pk)] 17 ?_ hS ?_
      ·simp only [tkY, tkf]
       refine ⟨.yes ?_, trivial⟩
       all_goals
        intro W' hW'
        obtain ⟨d0, d1, d2, d3, d4, d5⟩ := hW'
        go_simp
      simp only [tkA, tkf]
      refine ak 1 fun K hK => ?_
      go_simp
      refine (HC _).mono ?_
      rintro e w2 ⟨rfl, hb2⟩
      have hS2 : (fun W : World => W.cell? ⟨wr.heap.size, 0, none⟩ = some (.string pk.name) ∧ W.cell? ⟨wr.heap.size, 1, none⟩ = some (.int .i64 pk.val.kind) ∧ W.cell? ⟨wr.heap.size, 2, none⟩ = some (.int .i64 pk.val.num) ∧ W.cell? ⟨wr.heap.size, 3, none⟩ = some (.string pk.val.text) ∧ W.cell? ⟨wr.heap.size, 4, none⟩ = some (.float .f64 pk.val.real) ∧ W.cell? ⟨b, o + m * 5, none⟩ = some (.string pn)) w2 := by
       obtain ⟨d0, d1, d2, d3, d4, d5⟩ := hS
       exact ⟨by rw [hb2.cell (by dsimp only; omega)]; exact d0, by rw [hb2.cell (by dsimp only; omega)]; exact d1, by rw [hb2.cell (by dsimp only; omega)]; exact d2, by rw [hb2.cell (by dsimp only; omega)]; exact d3, by rw [hb2.cell (by dsimp only; omega)]; exact d4, by rw [hb2.cell (World.block_lt_of_cell? w1 _ d5)]; exact d5⟩
      have hb02 : Below w.heap.size w w2 := hb1.trans (hb2.mono (by omega))
      show K _ _
      refine hK _ _ hS2 ?_
      clear hK K
      refine tks [2, 3, 4, 5, 6, 7, 8] [.bool false, .bool false, .int .i64 (m + 1 : Nat), .bool true, .bool true, .slice (some ⟨b, o, none⟩) l.length c, .int .i64 (m + 1 : Nat)] 9 ?_ hS2 ?_
      ·simp only [tkY, tkf]
       refine ⟨.yes ?_, .yes ?_, .yes ?_, .yes ?_, .yes ?_, .yes ?_, .yes ?_, trivial⟩
       all_goals
        intro W' hW'
        go_simp
      simp only [tkA, tkf]
      refine wpAnyH_take (i := 9) (v := .int .i64 (m : Int)) rfl (by kernel_rfl) (by kernel_rfl) (by kernel_rfl) (fun _ _ _ h => h) (.inl ⟨by rfl, fun W' hW' => ?_⟩) hS2 ?_
      ·go_simp
       rw [IntKind.wrap_i64]; omega
      simp only [tkf]
      refine wpAnyH_take (i := 10) (v := .pointer (some ⟨b, o + m * 5, none⟩)) rfl (by kernel_rfl) (by kernel_rfl) (by kernel_rfl) (fun _ _ _ h => h) (.inl ⟨by rfl, fun W' hW' => ?_⟩) hS2 ?_
      ·go_simp
       intro hh; omega
      simp only [tkf]
      refine tks [11, 12, 13, 14, 15, 16, 17] [.pointer (some ⟨b, o + m * 5, none⟩), .string pn, .pointer (some ⟨wr.heap.size, 0, none⟩), .string pk.name, .bool true, .bool true, .bool true] 0 ?_ hS2 ?_
      ·simp only [tkY, tkf]
       refine ⟨.yes ?_, .yes ?_, .yes ?_, .yes ?_, .yes ?_, .yes ?_, .yes ?_, trivial⟩
       all_goals
        intro W' hW'
        obtain ⟨d0, d1, d2, d3, d4, d5⟩ := hW'
        go_simp
      simp only [tkA, tkf]
      refine ad ?_
      go_wp2
      go_ret
      exact ⟨ret_b (by first | rfl | exact hr.symm), hb02⟩
  ·have h4 := KA.out k (by omega)
   rw [hz.out] at h4
   go_wp2
   go_ret
   exact ⟨ret_b h4, hbr⟩
theorem valid7 (w : World) (v : Value) (l : List Pr) (h : RdP w v l) : Calls Tryz.prog 152 #[v] w fun e w' => e = .returned (.bool (validL l)) ∧ Below w.heap.size w w' := by
 rcases h with ⟨⟨a, c, rfl⟩, rfl⟩ | ⟨b, o, c, rfl, _, h⟩
 ·exact valid7_nil w a c
 ·exact valid7_some w l b o c h
def prC (p : Pr) : List Value := [.string p.name, .int .i64 p.val.kind, .int .i64 p.val.num, .string p.val.text, .float .f64 p.val.real]
def cellsP (l : List Pr) : List Value := l.flatMap prC
theorem cellsP_len (l : List Pr) : (cellsP l).length = l.length * 5 := by
 induction l with
 | nil => rfl
 | cons a l ih => simp [cellsP, prC] at ih ⊢; omega
theorem cellsP_app (l m : List Pr) : cellsP (l ++ m) = cellsP l ++ cellsP m := by simp [cellsP]
theorem cellsP_at : ∀ (l : List Pr) (i : Nat) (h : i < l.length) (j : Nat), j < 5 → (cellsP l)[i * 5 + j]? = (prC l[i])[j]?
 | a :: l, 0, _, j, hj => by
  simp only [cellsP, List.flatMap_cons, List.getElem_cons_zero, Nat.zero_mul, Nat.zero_add]
  rw [List.getElem?_append_left (by simp [prC]; omega)]
 | a :: l, i + 1, h, j, hj => by
  have := cellsP_at l i (by simpa using h) j hj
  simp only [cellsP, List.flatMap_cons, List.getElem_cons_succ] at this ⊢
  rw [List.getElem?_append_right (by simp [prC]; omega), ← this]
  congr 1
  simp [prC]
  omega
theorem cellsP_one (l : List Pr) : ∀ u ∈ cellsP l, u.oneCell' = true := by
 intro u hu
 simp only [cellsP, List.mem_flatMap] at hu
 obtain ⟨p, _, hu⟩ := hu
 simp only [prC, List.mem_cons, List.not_mem_nil, or_false] at hu
 rcases hu with rfl | rfl | rfl | rfl | rfl <;> rfl
theorem info33 : (Tryz.prog.info? 66).map (fun i => (i.zero, i.size, i.bytes)) = some (some (.agg #[.string ⟨#[]⟩, .int .i64 0, .int .i64 0, .string ⟨#[]⟩, .float .f64 0]), 5, 56) := by kernel_rfl
def OwnP (w : World) (B : Nat) (v : Value) (l : List Pr) : Prop := w.ownsRow B 66 5 v l.length (cellsP l)
theorem prAt_cells {w : World} {b o : Nat} {l : List Pr} (h : ∀ i (h : i < l.length), PrAt w b (o + i * 5) l[i]) : ∀ j u, (cellsP l)[j]? = some u → w.cell? ⟨b, o + j, none⟩ = some u := by
 intro j u hu
 have hj : j < l.length * 5 := by
  rcases Nat.lt_or_ge j (l.length * 5) with h' | h'
  ·exact h'
  ·rw [List.getElem?_eq_none (by rw [cellsP_len]; omega)] at hu; cases hu
 obtain ⟨i, k, rfl, hk⟩ : ∃ i k, j = i * 5 + k ∧ k < 5 := ⟨j / 5, j % 5, by omega, by omega⟩
 have hi : i < l.length := by omega
 rw [cellsP_at l i hi k hk] at hu
 obtain ⟨h0, h1, h2, h3, h4⟩ := h i hi
 match k, hk, hu with
 | 0, _, hu => simp [prC] at hu; subst hu; exact h0
 | 1, _, hu => simp [prC] at hu; subst hu; exact h1
 | 2, _, hu => simp [prC] at hu; subst hu; exact h2
 | 3, _, hu => simp [prC] at hu; subst hu; exact h3
 | 4, _, hu => simp [prC] at hu; subst hu; exact h4
theorem OwnP.rd {w : World} {B : Nat} {v : Value} {l : List Pr} (h : OwnP w B v l) : RdP w v l := by
 obtain ⟨hl, h⟩ := h
 rcases h with ⟨rfl, h0⟩ | ⟨g, cap, cur, rfl, hb, hg, hc, hm, hs, ht⟩
 ·exact .inl ⟨⟨_, _, rfl⟩, List.length_eq_zero_iff.1 h0⟩
 ·refine .inr ⟨g, 0, cap, rfl, hc, fun i hi => ?_⟩
  have key : ∀ j, j < 5 → w.cell? ⟨g, 0 + i * 5 + j, none⟩ = (prC l[i])[j]? := fun j hj => by
   rw [← cellsP_at l i hi j hj, ← ht, List.getElem?_take_of_lt (by omega)]
   simp [World.cell?, hg]
  exact ⟨key 0 (by omega), key 1 (by omega), key 2 (by omega), key 3 (by omega), key 4 (by omega)⟩
theorem OwnP.low {w : World} {B B' : Nat} {v : Value} {l : List Pr} (h : OwnP w B' v l) (hB : B ≤ B') : OwnP w B v l := by
 obtain ⟨hl, h⟩ := h
 refine ⟨hl, ?_⟩
 rcases h with h | ⟨g, cap, cur, hv, hb, h⟩
 ·exact .inl h
 ·exact .inr ⟨g, cap, cur, hv, by omega, h⟩
theorem OwnP.up {w w' : World} {B : Nat} {v : Value} {l : List Pr} (h : OwnP w B v l) (hb : Below w.heap.size w w') : OwnP w' B v l := by
 obtain ⟨hl, h⟩ := h
 refine ⟨hl, ?_⟩
 rcases h with h | ⟨g, cap, cur, hv, hg, hc, h⟩
 ·exact .inl h
 ·have hlt : g < w.heap.size := by
   rcases Nat.lt_or_ge g w.heap.size with h1 | h1
   ·exact h1
   ·rw [Array.getElem?_eq_none h1] at hc; cases hc
  exact .inr ⟨g, cap, cur, hv, hg, by rw [hb.block g hlt]; exact hc, h⟩
end Go.Proofs.YtnpikgakpmkipabGreatDoor
