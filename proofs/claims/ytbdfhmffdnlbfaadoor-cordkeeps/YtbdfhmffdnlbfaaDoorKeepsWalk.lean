/- The statement CordKeeps, walked: it answers true, and of what was there nothing has turned, for any bytes and ints that can be read, where the library's table and its two errors' variables read as they were laid. -/
import Derived.Test.YtbdfhmffdnlbfaaDoorKeepsBase
import Derived.Deep.RegionHeld3
namespace Go.Proofs.YtbdfhmffdnlbfaaDoor
open Go.RowKit Go.Lib

set_option maxHeartbeats 400000 in
theorem keeps_big (w : World) (v u : Value) (l : List UInt8) (zs : List Int) (h : RdA w v l) (hz : RdN w u zs) (hV : Vars w.heap.size w) (hbig : 4096 < l.length ∨ 200 < zs.length) :
    Calls Tryd.prog 8 #[v, u] w fun e w' => e = .returned (.bool true) ∧ Below w.heap.size w w' := by
  obtain ⟨a, c, rfl⟩ := h.lenc
  obtain ⟨a', c', rfl⟩ := hz.lenc
  clear h hz
  generalize l.length = n at *
  generalize zs.length = m at *
  go_enter Tryd.func8, Tryd.ntmps8
  go_wp2_with fail
  refine (wakes_any w hV).mono ?_
  rintro e w1 ⟨rfl, hb1⟩
  by_cases h1 : 4096 < n
  · have h2 : (4096 : Int) < (n : Int) := by omega
    go_wp2
    go_ret
    exact ⟨rfl, hb1⟩
  · have h2 : (n : Int) ≤ 4096 := by omega
    have h3 : (200 : Int) < (m : Int) := by omega
    go_wp2
    go_ret
    exact ⟨rfl, hb1⟩

theorem Kp.on {w0 : World} {B4 B5 B6 B7 R Q : Nat} {y z u v : Value} {ly lz l : List UInt8} {w w' : World} (h : Kp w0 B4 B5 B6 B7 R Q y z u v ly lz l w) (hb : Below w.heap.size w w') : Kp w0 B4 B5 B6 B7 R Q y z u v ly lz l w' :=
  ⟨h.y.on hb, h.z.on hb, h.r.on hb h.r.lt, h.u.on hb, h.q.on hb h.q.lt, h.v.on hb, h.b.trans (hb.mono h.b.size)⟩

/-- The first call of the last row. -/
theorem keep13 (w W : World) (B4 B5 B6 B7 R Q : Nat) (a za : Option Addr) (c zn zc : Nat) (y u v : Value) (l : List UInt8) (zs : List Int) (hB : RdA w (.slice a l.length c) l) (hV : Vars w.heap.size w) (h1 : l.length ≤ 4096)
    (hk : Kp w B4 B5 B6 B7 R Q y (.slice za zn zc) u v (l ++ encS [97]) (l ++ encNs zs) l W) (hzn : zn = (l ++ encNs zs).length) :
    Calls Tryd.prog 13 #[.slice a l.length c, .string ⟨#[97]⟩] W fun e w' => ∃ v', e = .returned v' ∧
      (convert 22 9 v').run Tryd.prog w' = .ok (.string ⟨(l ++ encS [97]).toArray⟩) w' ∧ (convert 22 9 y).run Tryd.prog w' = .ok (.string ⟨(l ++ encS [97]).toArray⟩) w' ∧
      (convert 22 9 (.slice za l.length zc)).run Tryd.prog w' = .ok (.string ⟨l.toArray⟩) w' ∧ (convert 22 9 (.slice a l.length c)).run Tryd.prog w' = .ok (.string ⟨l.toArray⟩) w' ∧
      Hid (Kp w B4 B5 B6 B7 R Q y (.slice za zn zc) u v (l ++ encS [97]) (l ++ encNs zs) l w') := by
  have e97 : (⟨#[97]⟩ : ByteArray).size = 1 := rfl
  refine (refstr_any W _ l ⟨#[97]⟩ (hB.on hk.b) (by omega) (hV.up hk.b hk.b.size)).mono ?_
  rintro e w' ⟨v', rfl, ho, hb'⟩
  have hk' := hk.on hb'
  subst hzn
  have c1 := conv_take (RdA.on (.inl hk'.z.rd) (Below.refl _ _)) l.length (by simp)
  have c2 := conv_take (hB.on hk'.b) l.length (Nat.le_refl _)
  rw [List.take_left] at c1
  rw [List.take_length] at c2
  exact ⟨v', rfl, conv_any ho.rd, conv_any hk'.y.rd, c1, c2, hk'⟩

/-- The second call of the last row. -/
theorem keep15 (w W : World) (B4 B5 B6 B7 R Q : Nat) (y z u v : Value) (ly lz l : List UInt8) (hV : Vars w.heap.size w) (h0 : w.heap.size ≤ R) (hne : Q ≠ R)
    (hk : Kp w B4 B5 B6 B7 R Q y z u v ly lz l W) :
    Calls Tryd.prog 15 #[.pointer (some ⟨R, 0, none⟩)] W fun e w' => e = .returned (.int .i64 (numR (-9223372036854775808) false l).1) ∧ Hid (Ref w' Q false l ∧ Below w.heap.size w w') := by
  obtain ⟨hr, hq⟩ := hk.rdr
  refine (rnum_any W w.heap.size R false l hr (hV.on hk.b) h0).mono ?_
  rintro e w' ⟨rfl, _, hg⟩
  exact ⟨rfl, hq.past hr hg hne, hk.b.grown hg hk.b.size (by intro k hk; cases hk; exact h0)⟩
/-- The third call of the last row. -/
theorem keep16 (w W : World) (Q : Nat) (l : List UInt8) (hV : Vars w.heap.size w) (h0 : w.heap.size ≤ Q) (h1 : l.length ≤ 4096) (hk : Ref W Q false l ∧ Below w.heap.size w W) :
    Calls Tryd.prog 16 #[.pointer (some ⟨Q, 0, none⟩)] W fun e w' => e = .returned (.int .i64 (numR (-9223372036854775808) false l).1) ∧ Below w.heap.size w w' := by
  obtain ⟨hq, hb⟩ := hk
  refine (rfnum_any W w.heap.size Q false l hq (by intro h; cases h) (by omega) (hV.on hb) h0).mono ?_
  rintro e w' ⟨rfl, _, hg⟩
  exact ⟨rfl, hb.grown hg hb.size (by intro k hk; cases hk; exact h0)⟩

/-- The row that the first loop writes. -/
def XRow (wr : World) (lo B4 M : Nat) (xa : Option Addr) (xn : Nat) : Prop := ∀ k, k < xn → ∃ X, xa = some ⟨X, 0, none⟩ ∧ Row wr X xn ∧ lo ≤ X ∧ X < B4 ∧ X ≠ M

set_option maxHeartbeats 4000000 in
set_option maxRecDepth 100000 in
theorem keeps_small (w : World) (v u : Value) (l : List UInt8) (zs : List Int) (h : RdA w v l) (hz : RdN w u zs) (hV : Vars w.heap.size w) (h1 : l.length ≤ 4096) (h2 : zs.length ≤ 200) :
    Calls Tryd.prog 8 #[v, u] w fun e w' => e = .returned (.bool true) ∧ Below w.heap.size w w' := by
  obtain ⟨a, c, rfl, hlc⟩ := h.lens
  obtain ⟨a', c', rfl⟩ := hz.lenc
  have HV : Hid (Vars w.heap.size w) := hV
  have HB : Hid (RdA w (.slice a l.length c) l) := h
  have HZ : Hid (RdN w (.slice a' zs.length c') zs) := hz
  have h3 : (l.length : Int) ≤ 4096 := by omega
  have h4 : (zs.length : Int) ≤ 200 := by omega
  clear h hz hV
  go_enter Tryd.func8, Tryd.ntmps8
  go_wp2_with fail
  refine (wakes_any w HV.out).mono ?_
  rintro e w1 ⟨rfl, b1⟩
  have hs1 := b1.size
  have hr := (HB.out.on b1).on (below_new w1 (.cells #[] 5))
  go_wp2_with (at_builtin; refine appB rfl (.tmp 23) (.tmp 24) rfl w1.heap.size _ _ [] l (w1.alloc (.cells #[] 5)) rfl (own_empty w1 _ (Nat.le_refl _)) rfl hr (by simp; omega) (by simp) ?_)
  intro v2 w2 ho2 hb2
  have b2 := (below_new w1 (.cells #[] 5)).trans hb2
  have hs2 := b2.size
  have ho2 : Own w2 w1.heap.size v2 l := by simpa using ho2
  clear hr hb2
  go_wp2_with (at_builtin; refine appS rfl (.tmp 25) (.const (.string ⟨#[115, 112, 97, 114, 101]⟩)) rfl w1.heap.size v2 l w2 ⟨#[115, 112, 97, 114, 101]⟩ rfl ho2 rfl (by show l.length + 5 ≤ _; omega) (by omega) ?_)
  intro v3 w3 ho3 hb3
  have b3 : Below w.heap.size w w3 := b1.trans ((b2.trans hb3).mono hs1)
  have hs3 := b3.size
  have ho3 : Own w3 w1.heap.size v3 (l ++ [115, 112, 97, 114, 101]) := ho3
  clear hb3 b2 ho2
  obtain ⟨M, c3, rfl, hc3, hM1, hM3, hrow⟩ : ∃ M c3, v3 = .slice (some ⟨M, 0, none⟩) (l ++ [115, 112, 97, 114, 101]).length c3 ∧ (l ++ [115, 112, 97, 114, 101]).length ≤ c3 ∧ w1.heap.size ≤ M ∧ M < w3.heap.size ∧ Row w3 M (l ++ [115, 112, 97, 114, 101]).length := by
    rcases ho3.row with ⟨_, e⟩ | h
    · simp at e
    · exact h
  obtain ⟨m5, hm5⟩ : ∃ m5, m5 = (l ++ [115, 112, 97, 114, 101]).length := ⟨_, rfl⟩
  rw [← hm5] at hc3 hrow ho3 ⊢
  have hm5' : m5 = l.length + 5 := by rw [hm5]; simp
  have HM : Hid (Own w3 w1.heap.size (.slice (some ⟨M, 0, none⟩) m5 c3) (l ++ [115, 112, 97, 114, 101])) := ho3
  have HMr : Hid (RdB w3 (.slice (some ⟨M, 0, none⟩) l.length c3) l) := by
    have := own_take ho3 l.length (by simp)
    rw [List.take_left] at this
    exact this
  have HRow : Hid (Row w3 M m5) := hrow
  have i1 : (l.length : Int) ≤ (c3 : Int) := by omega
  have HM5 : Hid (m5 = l.length + 5) := hm5'
  have hm5b : m5 ≤ 10000 := by omega
  clear ho3 hrow hm5 hm5'
  go_wp2_with fail
  refine (num_any w3 _ _ l zs (.inl HMr.out) (HZ.out.on b3) (by omega) (HV.out.up b3 hs3).tab).mono ?_
  rintro e w4 ⟨x, rfl, hox, hb4⟩
  have b4 := b3.trans (hb4.mono hs3)
  have hs4 := hb4.size
  obtain ⟨xa, xn, xc, rfl, hxn, HX⟩ : ∃ xa xn xc, x = .slice xa xn xc ∧ xn ≤ 10000 ∧ Hid (XRow w4 w3.heap.size w4.heap.size M xa xn) := by
    rcases hox.row with ⟨rfl, _⟩ | ⟨X, xc, rfl, _, hX1, hX2, hXr⟩
    · exact ⟨none, 0, 0, rfl, by omega, fun k hk => by omega⟩
    · have he := encNs_length zs HZ.out.1
      exact ⟨_, _, _, rfl, by rw [List.length_append]; omega, fun k hk => ⟨X, rfl, hXr, hX1, hX2, by omega⟩⟩
  clear hox
  go_wp2_with fail
  refine (str_any w4 _ l ⟨#[97]⟩ (.inl (HMr.out.on hb4)) (by show l.length + 1 + 100 ≤ _; omega) (HV.out.up b4 (by omega)).tab).mono ?_
  rintro e w5 ⟨y, rfl, hoy, hb5⟩
  have hoy : Own w5 w4.heap.size y (l ++ encS [97]) := hoy
  have b5 := b4.trans (hb5.mono (by omega))
  have hs5 := hb5.size
  go_wp2_with fail
  refine (num_any w5 _ _ l zs (.inl ((HMr.out.on hb4).on hb5)) (HZ.out.on b5) (by omega) (HV.out.up b5 (by omega)).tab).mono ?_
  rintro e w6 ⟨z, rfl, hoz, hb6⟩
  have b6 := b5.trans (hb6.mono (by omega))
  have hs6 := hb6.size
  go_wp2_with fail
  refine (new_own w6 _ l (.inl (((HMr.out.on hb4).on hb5).on hb6)) (by omega)).mono ?_
  rintro e w7 ⟨R, ru, rfl, hR, hrr, hou, hb7⟩
  have b7 := b6.trans (hb7.mono (by omega))
  have hs7 := hb7.size
  have b37 : Below w3.heap.size w3 w7 := hb4.trans ((hb5.trans ((hb6.trans (hb7.mono hs6)).mono hs5)).mono hs4)
  have hcm := conv_any (HM.out.on b37).rd
  have hcb := conv_take (HB.out.on b7) l.length (Nat.le_refl _)
  rw [List.take_length] at hcb
  obtain ⟨S5, eS5⟩ : ∃ S : ByteArray, S = ⟨(l ++ [115, 112, 97, 114, 101]).toArray⟩ := ⟨_, rfl⟩
  obtain ⟨Sb, eSb⟩ : ∃ S : ByteArray, S = ⟨l.toArray⟩ := ⟨_, rfl⟩
  rw [← eS5] at hcm
  rw [← eSb] at hcb
  have hsz : ¬ 9223372036854775807 < Sb.size + 5 := by
    have : Sb.size = l.length := by rw [eSb]; show l.toArray.size = _; simp
    omega
  have hq : (S5.toList == (Sb ++ ⟨#[115, 112, 97, 114, 101]⟩).toList) = true := by
    rw [toList_data, toList_data, eS5, eSb, beq_iff_eq]
    simp [ByteArray.data_append]
  clear eS5 eSb
  obtain ⟨za, zn, zc, rfl, hzl, hzc, HZN⟩ : ∃ za zn zc, z = .slice za zn zc ∧ l.length ≤ zn ∧ zn ≤ zc ∧ Hid (zn = (l ++ encNs zs).length) := by
    rcases hoz.row with ⟨rfl, e⟩ | ⟨Z, zc, rfl, hzc, _⟩
    · exact ⟨none, 0, 0, rfl, by rw [List.append_eq_nil_iff] at e; simp [e.1], Nat.le_refl _, by show _ = _; rw [e]; rfl⟩
    · exact ⟨_, _, _, rfl, by simp, hzc, by show _ = _; rfl⟩
  have hra := (HB.out.on b7).on (below_new w7 (.cells #[] 5))
  go_wp2_with (at_builtin; refine appB rfl (.tmp 55) (.tmp 56) rfl w7.heap.size _ _ [] l (w7.alloc (.cells #[] 5)) rfl (own_empty w7 _ (Nat.le_refl _)) rfl hra (by simp; omega) (by simp) ?_)
  intro v8 w8 ho8 hb8
  have b78 := (below_new w7 (.cells #[] 5)).trans hb8
  have hs8 := b78.size
  have ho8 : Own w8 w7.heap.size v8 l := by simpa using ho8
  obtain ⟨va, vn, vc, rfl⟩ := ho8.rd.shape
  clear hra hb8 hq hsz hcm hcb
  have hk : Kp w w4.heap.size w5.heap.size w6.heap.size w7.heap.size R w8.heap.size y (.slice za zn zc) ru (.slice va vn vc) (l ++ encS [97]) (l ++ encNs zs) l (w8.alloc (.cells #[.slice va vn vc, .bool false] 33)) := by
    have n8 := below_new w8 (.cells #[.slice va vn vc, .bool false] 33)
    have h68 := (hb7.trans (b78.mono hs7)).trans (n8.mono (by omega))
    have h58 := hb6.trans (h68.mono hs6)
    exact ⟨hoy.on h58, hoz.on h68, (hrr.on (b78.trans (n8.mono hs8)) hrr.lt), hou.on (b78.trans (n8.mono hs8)), heap_alloc_new _ _, ho8.on n8, b7.trans ((b78.trans (n8.mono hs8)).mono (by omega))⟩
  have HR3 : Hid (Row (w8.alloc (.cells #[.slice va vn vc, .bool false] 33)) M m5 ∧ XRow (w8.alloc (.cells #[.slice va vn vc, .bool false] 33)) w3.heap.size w4.heap.size M xa xn) := by
    have n8 := below_new w8 (.cells #[.slice va vn vc, .bool false] 33)
    have h38 := (b37.trans (b78.mono (by omega))).trans (n8.mono (by omega))
    have h48 := ((hb5.trans ((hb6.trans (hb7.mono hs6)).mono hs5)).trans (b78.mono (by omega))).trans (n8.mono (by omega))
    refine ⟨HRow.out.on h38 hM3, fun k hk => ?_⟩
    obtain ⟨X, e, hX, r⟩ := HX.out k hk
    exact ⟨X, e, hX.on h48 r.2.1, r⟩
  have hRl := hrr.lt
  clear ho2 hb4 hb5 hb6 hb7 b78 b37 b1 b3 b4 b5 b6 b7 hoy hoz hrr hou ho8 HRow HX HMr HM
  obtain ⟨Q, eQ⟩ : ∃ Q, Q = w8.heap.size := ⟨_, rfl⟩
  rw [← eQ] at hk
  have HQ : Hid (Q = w8.heap.size) := eQ
  have hQR : Q ≠ R := by omega
  have hQ7 : w7.heap.size ≤ Q := by omega
  clear eQ
  go_wp2_with fail
  rw [← HQ.out]
  go_loopw [61] (fun i wr => ∃ k : Nat, k ≤ xn ∧ i = .int .i64 k ∧ Hid (Kp w w4.heap.size w5.heap.size w6.heap.size w7.heap.size R Q y (.slice za zn zc) ru (.slice va vn vc) (l ++ encS [97]) (l ++ encNs zs) l wr) ∧ Hid (Row wr M m5 ∧ XRow wr w3.heap.size w4.heap.size M xa xn)) (fun i _ => xn - (RowKit.intOf i).toNat)
  case atStart => exact ⟨0, Nat.zero_le _, rfl, hk, HR3⟩
  case round =>
    clear hk HR3
    obtain ⟨k, hkx, rfl, HK, HR⟩ := hrel
    by_cases hlt : k < xn
    · obtain ⟨X, rfl, hXr, hX1, hX2, hXM⟩ := HR.out.2 k hlt
      obtain ⟨cv, hcv⟩ := hXr.cell hlt
      have hfz := hXr.frozen k
      have HK' : Hid (Kp w w4.heap.size w5.heap.size w6.heap.size w7.heap.size R Q y (.slice za zn zc) ru (.slice va vn vc) (l ++ encS [97]) (l ++ encNs zs) l (wr.setCell ⟨X, k, none⟩ (.int .u8 113))) :=
        HK.out.set hs5 hs6 hs7 hR (by omega) X k _ hX2 (by omega)
      have HR' : Hid (Row (wr.setCell ⟨X, k, none⟩ (.int .u8 113)) M m5 ∧ XRow (wr.setCell ⟨X, k, none⟩ (.int .u8 113)) w3.heap.size w4.heap.size M (some ⟨X, 0, none⟩) xn) :=
        ⟨HR.out.1.past (fun e => hXM e.symm) k _, fun j hj => by
          obtain ⟨X', e, hX', r⟩ := HR.out.2 j hj
          cases e
          exact ⟨X, rfl, hXr.set k _, r⟩⟩
      have HK2 : Hid (Kp w w4.heap.size w5.heap.size w6.heap.size w7.heap.size R Q y (.slice za zn zc) ru (.slice va vn vc) (l ++ encS [97]) (l ++ encNs zs) l (wr.setCell ⟨X, k, none⟩ (.int .u8 113)) ∧ (Row (wr.setCell ⟨X, k, none⟩ (.int .u8 113)) M m5 ∧ XRow (wr.setCell ⟨X, k, none⟩ (.int .u8 113)) w3.heap.size w4.heap.size M (some ⟨X, 0, none⟩) xn)) := ⟨HK'.out, HR'.out⟩
      clear HK HR HK' HR' hXr
      go_wp2
      go_roundw
      case rel => exact ⟨k + 1, by omega, by go_num, HK2.out.1, HK2.out.2⟩
      case measure => simp [RowKit.intOf]; omega
    · have HRM : Hid (Row wr M m5) := HR.out.1
      clear HR
      go_wp2_with fail
      clear hlt
      go_loopw [70] (fun i wr => ∃ k : Nat, k ≤ m5 ∧ i = .int .i64 k ∧ Hid (Kp w w4.heap.size w5.heap.size w6.heap.size w7.heap.size R Q y (.slice za zn zc) ru (.slice va vn vc) (l ++ encS [97]) (l ++ encNs zs) l wr) ∧ Hid (Row wr M m5)) (fun i _ => m5 - (RowKit.intOf i).toNat)
      case atStart => exact ⟨0, Nat.zero_le _, rfl, HK, HRM⟩
      case round =>
        clear HK HRM
        obtain ⟨k', hkm, rfl, HK, HR⟩ := hrel
        by_cases hlt : k' < m5
        · obtain ⟨cv, hcv⟩ := HR.out.cell hlt
          have hfz := HR.out.frozen k'
          have HK2 : Hid (Kp w w4.heap.size w5.heap.size w6.heap.size w7.heap.size R Q y (.slice za zn zc) ru (.slice va vn vc) (l ++ encS [97]) (l ++ encNs zs) l (wr.setCell ⟨M, k', none⟩ (.int .u8 122)) ∧ Row (wr.setCell ⟨M, k', none⟩ (.int .u8 122)) M m5) :=
            ⟨HK.out.set hs5 hs6 hs7 hR hQ7 M k' _ (by omega) (by omega), HR.out.set k' _⟩
          clear HK HR
          go_wp2
          go_roundw
          case rel => exact ⟨k' + 1, by omega, by go_num, HK2.out.1, HK2.out.2⟩
          case measure => simp [RowKit.intOf]; omega
        · clear HR
          go_wp2_with fail
          have HKd : Hid (Kp w w4.heap.size w5.heap.size w6.heap.size w7.heap.size R Q y (.slice za zn zc) ru (.slice va vn vc) (l ++ encS [97]) (l ++ encNs zs) l wr.drew) := HK.out.on (Below.refl _ _).drew
          have hy0 := conv_any HKd.out.y.rd
          have N13 := keep13 w wr.drew _ _ _ _ R Q a za c zn zc y ru _ l zs HB.out HV.out h1 HKd.out HZN.out
          have N15 : Hid (∀ W, Hid (Kp w w4.heap.size w5.heap.size w6.heap.size w7.heap.size R Q y (.slice za zn zc) ru (.slice va vn vc) (l ++ encS [97]) (l ++ encNs zs) l W) → _) := fun W hW => keep15 w W _ _ _ _ R Q y _ ru _ _ _ l HV.out (by omega) hQR hW.out
          have N16 : Hid (∀ W, Hid (Ref W Q false l ∧ Below w.heap.size w W) → _) := fun W hW => keep16 w W Q l HV.out (by omega) h1 hW.out
          have g1 : (l.length : Int) ≤ (zn : Int) := by omega
          have g2 : (l.length : Int) ≤ (zc : Int) := by omega
          generalize (numR (-9223372036854775808) false l).1 = nn at *
          obtain ⟨Yb, eY⟩ : ∃ S : ByteArray, S = ⟨(l ++ encS [97]).toArray⟩ := ⟨_, rfl⟩
          obtain ⟨Lb, eL⟩ : ∃ S : ByteArray, S = ⟨l.toArray⟩ := ⟨_, rfl⟩
          rw [← eY] at hy0 N13
          rw [← eL] at N13
          clear eY eL HK HKd HV HB HZ HZN HQ HM5 ho3 hoy ho8
          clear hs1 hs2 hs3 hs4 hs5 hs6 hs7 hs8 hR hRl hQ7 hM1 hM3 hQR hkm hkx hxn hm5b h1 h2 hlc hc3
          refine wp_region_noPanic ?_
          go_region_held (fun _ => True) (trivial) (first | (go_at_call 13; refine N13.mono ?_; rintro e w9 ⟨v9, rfl, hc1, hc2, hc3, hc4, HK9⟩) | (go_at_call 15; refine (N15.out _ (by assumption)).mono ?_; rintro e w10 ⟨rfl, HK10⟩) | (go_at_call 16; refine (N16.out _ (by assumption)).mono ?_; rintro e w11 ⟨rfl, b11⟩))
          all_goals refine NoPanic.normal ?_
          all_goals go_wp2
          all_goals go_ret
          all_goals exact ⟨rfl, b11⟩
end Go.Proofs.YtbdfhmffdnlbfaaDoor
