/- QueueKeeps: the law's walk. Conditions: To.Vars, what the library's variables hold, and sizes as Go knows them. -/
import Derived.Test.YtlbcefocmdnlgaaGreatDoorVp
namespace Go.Proofs.YtlbcefocmdnlgaaGreatDoor
open Go.RowKit Go.Lib
set_option maxRecDepth 100000
set_option linter.unusedSimpArgs false

set_option maxHeartbeats 16000000 in
theorem keeps_law (w : World) (hva : To.Vars w) (v : Value) (q : Que) (h : RdQ w v q) (hf : FitQ q) (hpi : ∀ y ∈ q.items, y.msg.props.length ≤ 2513169434916) (hph : ∀ y ∈ q.held, y.itm.msg.props.length ≤ 2513169434916) (hbig : lenQ q ≤ 9223372036854775806)
    (o : Opn) (ov : Value) (hp : RdP w ov o.m.props) (hfm : FitM o.m) (hpn : o.m.props.length ≤ 2513169434916) :
    Calls Tryz.prog 5 #[v, .agg (opV o ov).toArray] w fun e w' => e = .returned (.bool true) ∧ Below w.heap.size w w' := by
  have hR := h
  obtain ⟨iv, hv, rfl, hi, hh⟩ := h
  obtain ⟨ai, ci, rfl⟩ := hi.len
  obtain ⟨ah, ch, rfl⟩ := hh.len
  obtain ⟨ni, hni⟩ : ∃ n, q.items.length = n := ⟨_, rfl⟩
  obtain ⟨nh, hnh⟩ : ∃ n, q.held.length = n := ⟨_, rfl⟩
  rw [hni, hnh] at hR ⊢
  have NQ : Hid (q.items.length = ni ∧ q.held.length = nh) := ⟨hni, hnh⟩
  have RQ : Hid (RdQ w (queV q (.slice ai ni ci) (.slice ah nh ch)) q) := hR
  obtain ⟨pa, pc, rfl⟩ := hp.shape
  obtain ⟨np, hnp⟩ : ∃ n, o.m.props.length = n := ⟨_, rfl⟩
  have NP : Hid (o.m.props.length = np) := hnp
  have HPN : Hid (∀ l, l = o.m.props → l.length ≤ 2513169434916) := fun l e => by rw [e]; exact hpn
  rw [hnp] at hp ⊢
  have HP : Hid (RdP w (.slice pa np pc) o.m.props ∧ FitM o.m) := ⟨hp, hfm⟩
  have HF : Hid (FitQ q ∧ (∀ y ∈ q.items, y.msg.props.length ≤ 2513169434916) ∧ ∀ y ∈ q.held, y.itm.msg.props.length ≤ 2513169434916) := ⟨hf, hpi, hph⟩
  have hmix : Tryz.prog.follows .mixedOrders = true := by kernel_rfl
  clear hi hh hni hnh hnp hp hfm hf hpi hph hR hpn
  have S1 : Hid (Qx2 w ((w.alloc (.cells #[tx q.name, .bool q.dur, .int .i64 q.depth, .int .i64 q.seq, .int .i64 q.tag, .slice ai ni ci, .slice ah nh ch] 25)).alloc (.cells #[.int .i64 o.kind, .int .i64 o.conn, .int .i64 o.n, .bool o.flag, tx o.m.topic, tx o.m.body, .slice pa np pc, .bool o.m.dur, .int .i64 o.m.til] 30)) #[tx q.name, .bool q.dur, .int .i64 q.depth, .int .i64 q.seq, .int .i64 q.tag, .slice ai ni ci, .slice ah nh ch] #[.int .i64 o.kind, .int .i64 o.conn, .int .i64 o.n, .bool o.flag, tx o.m.topic, tx o.m.body, .slice pa np pc, .bool o.m.dur, .int .i64 o.m.til]) := Qx2.start w #[tx q.name, .bool q.dur, .int .i64 q.depth, .int .i64 q.seq, .int .i64 q.tag, .slice ai ni ci, .slice ah nh ch] #[.int .i64 o.kind, .int .i64 o.conn, .int .i64 o.n, .bool o.flag, tx o.m.topic, tx o.m.body, .slice pa np pc, .bool o.m.dur, .int .i64 o.m.til]
  unfold queV opV at *
  go_enter Tryz.func5, Tryz.ntmps5
  go_upto_region 1 with fail
  generalize (w.alloc (.cells #[tx q.name, .bool q.dur, .int .i64 q.depth, .int .i64 q.seq, .int .i64 q.tag, .slice ai ni ci, .slice ah nh ch] 25)).alloc (.cells #[.int .i64 o.kind, .int .i64 o.conn, .int .i64 o.n, .bool o.flag, tx o.m.topic, tx o.m.body, .slice pa np pc, .bool o.m.dur, .int .i64 o.m.til] 30) = w1 at *
  go_wp2_with fail
  refine (wakes_any w1 (hva.below S1.out.l)).mono ?_
  rintro e w2 ⟨rfl, b2⟩
  have S2 : Hid (Qx2 w w2 #[tx q.name, .bool q.dur, .int .i64 q.depth, .int .i64 q.seq, .int .i64 q.tag, .slice ai ni ci, .slice ah nh ch] #[.int .i64 o.kind, .int .i64 o.conn, .int .i64 o.n, .bool o.flag, tx o.m.topic, tx o.m.body, .slice pa np pc, .bool o.m.dur, .int .i64 o.m.til]) := S1.out.on b2
  have HL := long_any w2 _ q (RQ.out.on S2.out.l) hbig
  clear S1 b2
  go_wp2_with (refine wpl_load25 rfl (.tmp 2) rfl _ _ rfl S2.out.q rfl ?_)
  refine HL.mono ?_
  rintro e w3 ⟨⟨bl, rfl, hbl⟩, b3⟩
  have S3 : Hid (Qx2 w w3 #[tx q.name, .bool q.dur, .int .i64 q.depth, .int .i64 q.seq, .int .i64 q.tag, .slice ai ni ci, .slice ah nh ch] #[.int .i64 o.kind, .int .i64 o.conn, .int .i64 o.n, .bool o.flag, tx o.m.topic, tx o.m.body, .slice pa np pc, .bool o.m.dur, .int .i64 o.m.til]) := S2.out.on b3
  clear HL S2 b3
  have o6 : w3.cell? ⟨w.heap.size + 1, 6, none⟩ = some (.slice pa np pc) := S3.out.o.cell 6
  have o0 : w3.cell? ⟨w.heap.size + 1, 0, none⟩ = some (.int .i64 o.kind) := S3.out.o.cell 0
  cases bl with
  | true =>
    go_wp2_with fail
    go_ret
    exact ⟨rfl, S3.out.l⟩
  | false =>
    have hl200 : lenQ q ≤ 200 := hbl rfl
    by_cases hpl : (np : Int) > 1000
    · go_wp2_with fail
      go_ret
      exact ⟨rfl, S3.out.l⟩
    by_cases hk0 : o.kind < 0
    · go_wp2_with fail
      go_ret
      exact ⟨rfl, S3.out.l⟩
    by_cases hk4 : o.kind > 4
    · go_wp2_with fail
      go_ret
      exact ⟨rfl, S3.out.l⟩
    have hsq : Small q := ⟨by unfold lenQ at hl200; omega, by unfold lenQ at hl200; omega, HF.out.2.1, HF.out.2.2⟩
    have hpn : o.m.props.length ≤ 2513169434916 := HPN.out _ rfl
    have HK04 : Hid (0 ≤ o.kind ∧ o.kind ≤ 4) := ⟨by omega, by omega⟩
    go_upto_region 5 with fail
    clear o6 o0
    go_cut [5, 6] (fun s5 s6 wq => ∃ (ga gb bm sm bx sx : Nat) (a1 : Option Addr) (c1 : Nat) (a2 : Option Addr) (c2 : Nat) (pb : Option Addr) (pd : Nat), s5 = .pointer (some ⟨ga, 0, none⟩) ∧ s6 = .pointer (some ⟨gb, 0, none⟩) ∧ Hid (KpA w wq q o.m.props #[tx q.name, .bool q.dur, .int .i64 q.depth, .int .i64 q.seq, .int .i64 q.tag, .slice ai ni ci, .slice ah nh ch] #[.int .i64 o.kind, .int .i64 o.conn, .int .i64 o.n, .bool o.flag, tx o.m.topic, tx o.m.body, .slice pa np pc, .bool o.m.dur, .int .i64 o.m.til] #[tx q.name, .bool q.dur, .int .i64 q.depth, .int .i64 q.seq, .int .i64 q.tag, .slice a1 ni c1, .slice a2 nh c2] #[tx o.m.topic, tx o.m.body, .slice pb np pd, .bool o.m.dur, .int .i64 o.m.til] ga gb bm sm bx sx (queV q (.slice a1 ni c1) (.slice a2 nh c2)) (.slice pb np pd)))
    case first =>
      have hS : Qx2 w w3.drew #[tx q.name, .bool q.dur, .int .i64 q.depth, .int .i64 q.seq, .int .i64 q.tag, .slice ai ni ci, .slice ah nh ch] #[.int .i64 o.kind, .int .i64 o.conn, .int .i64 o.n, .bool o.flag, tx o.m.topic, tx o.m.body, .slice pa np pc, .bool o.m.dur, .int .i64 o.m.til] := ⟨⟨S3.out.q.h⟩, ⟨S3.out.o.h⟩, S3.out.l.drew⟩
      clear S3
      refine wp_region_held (S := fun W => Qx2 w W #[tx q.name, .bool q.dur, .int .i64 q.depth, .int .i64 q.seq, .int .i64 q.tag, .slice ai ni ci, .slice ah nh ch] #[.int .i64 o.kind, .int .i64 o.conn, .int .i64 o.n, .bool o.flag, tx o.m.topic, tx o.m.body, .slice pa np pc, .bool o.m.dur, .int .i64 o.m.til]) hmix ?_
      show wpAnyH _ _ _ _ _ _ _ _ (World.drew _)
      generalize w3.drew = v0 at *
      refine wpAnyH_take (i := 0) (v := .agg #[tx q.name, .bool q.dur, .int .i64 q.depth, .int .i64 q.seq, .int .i64 q.tag, .slice ai ni ci, .slice ah nh ch]) rfl (by kernel_rfl) (by kernel_rfl) (by kernel_rfl) (fun _ _ _ h => h) (.inl ⟨by rfl, fun W' hW' => ?_⟩) hS ?_
      · obtain ⟨d0, d1, d2, d3, d4, d5, d6⟩ := hW'.q.c7
        go_simp
      simp only [Act.put, List.getElem_toArray, List.getElem_cons_zero, List.setIfInBounds_toArray, List.set_cons_succ, List.set_cons_zero]
      refine wpAnyH_take (i := 2) (v := .pointer (some ⟨w.heap.size + 1, 4, none⟩)) rfl (by kernel_rfl) (by kernel_rfl) (by kernel_rfl) (fun _ _ _ h => h) (.inl ⟨by rfl, fun W' hW' => ?_⟩) hS ?_
      · have d4 : W'.cell? ⟨w.heap.size + 1, 4, none⟩ = some (tx o.m.topic) := hW'.o.cell 4
        have d5 : W'.cell? ⟨w.heap.size + 1, 5, none⟩ = some (tx o.m.body) := hW'.o.cell 5
        have d6 : W'.cell? ⟨w.heap.size + 1, 6, none⟩ = some (.slice pa np pc) := hW'.o.cell 6
        have d7 : W'.cell? ⟨w.heap.size + 1, 7, none⟩ = some (.bool o.m.dur) := hW'.o.cell 7
        have d8 : W'.cell? ⟨w.heap.size + 1, 8, none⟩ = some (.int .i64 o.m.til) := hW'.o.cell 8
        go_simp
      simp only [Act.put, List.getElem_toArray, List.getElem_cons_succ, List.getElem_cons_zero, List.setIfInBounds_toArray, List.set_cons_succ, List.set_cons_zero]
      refine wpAnyH_take (i := 3) (v := .agg #[tx o.m.topic, tx o.m.body, .slice pa np pc, .bool o.m.dur, .int .i64 o.m.til]) rfl (by kernel_rfl) (by kernel_rfl) (by kernel_rfl) (fun _ _ _ h => h) (.inl ⟨by rfl, fun W' hW' => ?_⟩) hS ?_
      · have d4 : W'.cell? ⟨w.heap.size + 1, 4, none⟩ = some (tx o.m.topic) := hW'.o.cell 4
        have d5 : W'.cell? ⟨w.heap.size + 1, 5, none⟩ = some (tx o.m.body) := hW'.o.cell 5
        have d6 : W'.cell? ⟨w.heap.size + 1, 6, none⟩ = some (.slice pa np pc) := hW'.o.cell 6
        have d7 : W'.cell? ⟨w.heap.size + 1, 7, none⟩ = some (.bool o.m.dur) := hW'.o.cell 7
        have d8 : W'.cell? ⟨w.heap.size + 1, 8, none⟩ = some (.int .i64 o.m.til) := hW'.o.cell 8
        go_simp
      simp only [Act.put, List.getElem_toArray, List.getElem_cons_succ, List.getElem_cons_zero, List.setIfInBounds_toArray, List.set_cons_succ, List.set_cons_zero]
      refine wpAnyH_three (i := 1) (j := 5) (l := 6) (by kernel_rfl) rfl rfl rfl (by rfl) (by rfl) (by rfl) (fun K hK => ?_) (fun K hK => ?_) (fun K hK => ?_)
      · go_simp
        refine (rcopy_any v0 _ q (RQ.out.on hS.l) hsq).mono ?_
        rintro e v1 ⟨vv, rfl, oq, b⟩
        have sq := oq.spq (Nat.le_refl _) hsq
        obtain ⟨iv2, hv2, e2, oi2, oh2⟩ := oq
        obtain ⟨a1, c1, h1⟩ := oi2.rd.len
        obtain ⟨a2, c2, h2⟩ := oh2.rd.len
        rw [NQ.out.1] at h1
        rw [NQ.out.2] at h2
        subst h1 h2 e2
        have oq : OwnQ v1 v0.heap.size (queV q (.slice a1 ni c1) (.slice a2 nh c2)) q := ⟨_, _, rfl, oi2, oh2⟩
        clear oi2 oh2
        obtain ⟨bm, ebm⟩ : ∃ n, v0.heap.size = n := ⟨_, rfl⟩
        obtain ⟨sm, esm⟩ : ∃ n, v1.heap.size = n := ⟨_, rfl⟩
        have hm1 : w.heap.size + 1 < bm := by rw [← ebm]; exact hS.o.lt
        rw [ebm] at oq
        rw [ebm, esm] at sq
        have hm2 : sm ≤ v1.heap.size := by rw [esm]; exact Nat.le_refl _
        have hS2 := hS.on b
        show K _ _
        refine hK _ _ hS2 ?_
        clear hK K hS b ebm esm
        unfold queV
        try simp only [Act.put, List.getElem_toArray, List.getElem_cons_succ, List.getElem_cons_zero, List.setIfInBounds_toArray, List.set_cons_succ, List.set_cons_zero]
        rename Qx2 w _ _ _ => hS
        refine wpAnyH_three (i := 4) (j := 5) (l := 6) (by kernel_rfl) rfl rfl rfl (by rfl) (by rfl) (by rfl) (fun K hK => ?_) (fun K hK => ?_) (fun K hK => ?_)
        · go_simp
          refine (rcopyMsg_any v1 o.m (.slice pa np pc) (HP.out.1.on hS.l) hpn).mono ?_
          rintro e v2 ⟨pp, rfl, op, b⟩
          have sp := op.pvOk (S := v2.heap.size) (Nat.le_refl _) hpn
          obtain ⟨pb, pd, h3⟩ := op.shape
          rw [NP.out] at h3
          subst h3
          replace oq := oq.on b
          replace sq := sq.shp (shp_below b)
          have hmx0 := hm2
          replace hm2 : sm ≤ v2.heap.size := Nat.le_trans hm2 b.size
          obtain ⟨bx, ebx⟩ : ∃ n, v1.heap.size = n := ⟨_, rfl⟩
          have hmx : sm ≤ bx := by rw [← ebx]; exact hmx0
          clear hmx0
          obtain ⟨sx, esx⟩ : ∃ n, v2.heap.size = n := ⟨_, rfl⟩
          have hx1 : w.heap.size + 1 < bx := by rw [← ebx]; exact hS.o.lt
          rw [ebx] at op
          rw [ebx, esx] at sp
          have hx2 : sx ≤ v2.heap.size := by rw [esx]; exact Nat.le_refl _
          have hS2 := hS.on b
          show K _ _
          refine hK _ _ hS2 ?_
          clear hK K hS b ebx esx
          unfold msgV
          try simp only [Act.put, List.getElem_toArray, List.getElem_cons_succ, List.getElem_cons_zero, List.setIfInBounds_toArray, List.set_cons_succ, List.set_cons_zero]
          rename Qx2 w _ _ _ => hS
          refine wpAnyH_two (i := 5) (j := 6) (by kernel_rfl) rfl rfl (by rfl) (by rfl) (fun K hK => ?_) (fun K hK => ?_)
          · go_simp
            have b := (Below.refl v2.heap.size v2).alloc (Nat.le_refl _) (.cells #[.string ⟨#[]⟩, .bool false, .int .i64 0, .int .i64 0, .int .i64 0, .slice none 0 0, .slice none 0 0] 25)
            have kA := Blk.new v2 #[.string ⟨#[]⟩, .bool false, .int .i64 0, .int .i64 0, .int .i64 0, .slice none 0 0, .slice none 0 0] 25
            obtain ⟨ga, ega⟩ : ∃ n, v2.heap.size = n := ⟨_, rfl⟩
            have hga : w.heap.size + 1 < ga := by rw [← ega]; exact hS.o.lt
            have rA1 : ga < bm ∨ sm ≤ ga := .inr (by rw [← ega]; exact hm2)
            have rA2 : ga < bx ∨ sx ≤ ga := .inr (by rw [← ega]; exact hx2)
            replace oq := oq.on b
            replace sq := sq.shp (shp_below b)
            replace hm2 : sm ≤ (v2.alloc (.cells #[.string ⟨#[]⟩, .bool false, .int .i64 0, .int .i64 0, .int .i64 0, .slice none 0 0, .slice none 0 0] 25)).heap.size := Nat.le_trans hm2 b.size
            replace op := op.keep (.of_below b)
            replace sp := sp.shp (shp_below b).p
            replace hx2 : sx ≤ (v2.alloc (.cells #[.string ⟨#[]⟩, .bool false, .int .i64 0, .int .i64 0, .int .i64 0, .slice none 0 0, .slice none 0 0] 25)).heap.size := Nat.le_trans hx2 b.size
            have hS2 := hS.on b
            show K _ _
            refine hK _ _ hS2 ?_
            rw [ega] at kA ⊢
            clear hK K hS b ega
            generalize v2.alloc (.cells #[.string ⟨#[]⟩, .bool false, .int .i64 0, .int .i64 0, .int .i64 0, .slice none 0 0, .slice none 0 0] 25) = v3 at *
            try simp only [Act.put, List.getElem_toArray, List.getElem_cons_succ, List.getElem_cons_zero, List.setIfInBounds_toArray, List.set_cons_succ, List.set_cons_zero]
            rename Qx2 w _ _ _ => hS
            refine wpAnyH_one (i := 6) (by kernel_rfl) rfl (by rfl) (fun K hK => ?_)
            go_simp
            have b := (Below.refl v3.heap.size v3).alloc (Nat.le_refl _) (.cells #[.string ⟨#[]⟩, .string ⟨#[]⟩, .slice none 0 0, .bool false, .int .i64 0] 28)
            have kB := Blk.new v3 #[.string ⟨#[]⟩, .string ⟨#[]⟩, .slice none 0 0, .bool false, .int .i64 0] 28
            obtain ⟨gb, egb⟩ : ∃ n, v3.heap.size = n := ⟨_, rfl⟩
            have hgb : w.heap.size + 1 < gb := by rw [← egb]; exact hS.o.lt
            have rB1 : gb < bm ∨ sm ≤ gb := .inr (by rw [← egb]; exact hm2)
            have rB2 : gb < bx ∨ sx ≤ gb := .inr (by rw [← egb]; exact hx2)
            replace oq := oq.on b
            replace sq := sq.shp (shp_below b)
            replace hm2 : sm ≤ (v3.alloc (.cells #[.string ⟨#[]⟩, .string ⟨#[]⟩, .slice none 0 0, .bool false, .int .i64 0] 28)).heap.size := Nat.le_trans hm2 b.size
            replace op := op.keep (.of_below b)
            replace sp := sp.shp (shp_below b).p
            replace hx2 : sx ≤ (v3.alloc (.cells #[.string ⟨#[]⟩, .string ⟨#[]⟩, .slice none 0 0, .bool false, .int .i64 0] 28)).heap.size := Nat.le_trans hx2 b.size
            replace kA := kA.on b
            have hS2 := hS.on b
            show K _ _
            refine hK _ _ hS2 ?_
            rw [egb] at kB ⊢
            clear hK K hS b egb
            generalize v3.alloc (.cells #[.string ⟨#[]⟩, .string ⟨#[]⟩, .slice none 0 0, .bool false, .int .i64 0] 28) = v4 at *
            try simp only [Act.put, List.getElem_toArray, List.getElem_cons_succ, List.getElem_cons_zero, List.setIfInBounds_toArray, List.set_cons_succ, List.set_cons_zero]
            rename Qx2 w _ _ _ => hS
            refine wpAnyH_one (i := 7) (by kernel_rfl) rfl (by rfl) (fun K hK => ?_)
            refine wp_store_row 25 (.tmp 5) (.tmp 44) rfl ga _ rfl rfl 25 _ kA.h (by kernel_rfl) rfl (by simp [Value.oneCell']) ?_
            have HM := kp_made hS kA kB oq op sq sp ⟨rA1, rA2⟩ ⟨rB1, rB2⟩ ⟨hm1, hx1, hga, hgb⟩ ⟨hm2, hx2⟩ hmx #[tx q.name, .bool q.dur, .int .i64 q.depth, .int .i64 q.seq, .int .i64 q.tag, .slice a1 ni c1, .slice a2 nh c2] #[tx o.m.topic, tx o.m.body, .slice pb np pd, .bool o.m.dur, .int .i64 o.m.til]
            refine hK _ _ HM.1 ?_
            clear hK K hS kA kB oq op sq sp hm1 hx1 hm2 hx2 rA1 rA2 rB1 rB2 hga hgb hmx
            obtain ⟨_, HB, HZ, HK⟩ := HM
            generalize v4.setRow ga #[tx q.name, .bool q.dur, .int .i64 q.depth, .int .i64 q.seq, .int .i64 q.tag, .slice a1 ni c1, .slice a2 nh c2] = vL at *
            try simp only [Act.put, List.getElem_toArray, List.getElem_cons_succ, List.getElem_cons_zero, List.setIfInBounds_toArray, List.set_cons_succ, List.set_cons_zero]
            refine wpAnyH_one (i := 8) (by kernel_rfl) rfl (by rfl) (fun K hK => ?_)
            refine wp_store_row 28 (.tmp 6) (.tmp 47) rfl gb _ rfl rfl 28 _ HB.h (by kernel_rfl) rfl (by simp [Value.oneCell']) ?_
            refine hK _ _ HZ ?_
            clear hK K HB HZ
            generalize vL.setRow gb #[tx o.m.topic, tx o.m.body, .slice pb np pd, .bool o.m.dur, .int .i64 o.m.til] = vM at *
            try simp only [Act.put, List.getElem_toArray, List.getElem_cons_succ, List.getElem_cons_zero, List.setIfInBounds_toArray, List.set_cons_succ, List.set_cons_zero]
            refine wpAnyH_done (by kernel_rfl) ?_ _
            go_wp2_with fail
            go_meet
            exact ⟨ga, gb, bm, sm, bx, sx, a1, c1, a2, c2, pb, pd, rfl, rfl, HK⟩
          · go_simp
            have b := (Below.refl v2.heap.size v2).alloc (Nat.le_refl _) (.cells #[.string ⟨#[]⟩, .string ⟨#[]⟩, .slice none 0 0, .bool false, .int .i64 0] 28)
            have kB := Blk.new v2 #[.string ⟨#[]⟩, .string ⟨#[]⟩, .slice none 0 0, .bool false, .int .i64 0] 28
            obtain ⟨gb, egb⟩ : ∃ n, v2.heap.size = n := ⟨_, rfl⟩
            have hgb : w.heap.size + 1 < gb := by rw [← egb]; exact hS.o.lt
            have rB1 : gb < bm ∨ sm ≤ gb := .inr (by rw [← egb]; exact hm2)
            have rB2 : gb < bx ∨ sx ≤ gb := .inr (by rw [← egb]; exact hx2)
            replace oq := oq.on b
            replace sq := sq.shp (shp_below b)
            replace hm2 : sm ≤ (v2.alloc (.cells #[.string ⟨#[]⟩, .string ⟨#[]⟩, .slice none 0 0, .bool false, .int .i64 0] 28)).heap.size := Nat.le_trans hm2 b.size
            replace op := op.keep (.of_below b)
            replace sp := sp.shp (shp_below b).p
            replace hx2 : sx ≤ (v2.alloc (.cells #[.string ⟨#[]⟩, .string ⟨#[]⟩, .slice none 0 0, .bool false, .int .i64 0] 28)).heap.size := Nat.le_trans hx2 b.size
            have hS2 := hS.on b
            show K _ _
            refine hK _ _ hS2 ?_
            rw [egb] at kB ⊢
            clear hK K hS b egb
            generalize v2.alloc (.cells #[.string ⟨#[]⟩, .string ⟨#[]⟩, .slice none 0 0, .bool false, .int .i64 0] 28) = v5 at *
            try simp only [Act.put, List.getElem_toArray, List.getElem_cons_succ, List.getElem_cons_zero, List.setIfInBounds_toArray, List.set_cons_succ, List.set_cons_zero]
            rename Qx2 w _ _ _ => hS
            refine wpAnyH_one (i := 5) (by kernel_rfl) rfl (by rfl) (fun K hK => ?_)
            go_simp
            have b := (Below.refl v5.heap.size v5).alloc (Nat.le_refl _) (.cells #[.string ⟨#[]⟩, .bool false, .int .i64 0, .int .i64 0, .int .i64 0, .slice none 0 0, .slice none 0 0] 25)
            have kA := Blk.new v5 #[.string ⟨#[]⟩, .bool false, .int .i64 0, .int .i64 0, .int .i64 0, .slice none 0 0, .slice none 0 0] 25
            obtain ⟨ga, ega⟩ : ∃ n, v5.heap.size = n := ⟨_, rfl⟩
            have hga : w.heap.size + 1 < ga := by rw [← ega]; exact hS.o.lt
            have rA1 : ga < bm ∨ sm ≤ ga := .inr (by rw [← ega]; exact hm2)
            have rA2 : ga < bx ∨ sx ≤ ga := .inr (by rw [← ega]; exact hx2)
            replace oq := oq.on b
            replace sq := sq.shp (shp_below b)
            replace hm2 : sm ≤ (v5.alloc (.cells #[.string ⟨#[]⟩, .bool false, .int .i64 0, .int .i64 0, .int .i64 0, .slice none 0 0, .slice none 0 0] 25)).heap.size := Nat.le_trans hm2 b.size
            replace op := op.keep (.of_below b)
            replace sp := sp.shp (shp_below b).p
            replace hx2 : sx ≤ (v5.alloc (.cells #[.string ⟨#[]⟩, .bool false, .int .i64 0, .int .i64 0, .int .i64 0, .slice none 0 0, .slice none 0 0] 25)).heap.size := Nat.le_trans hx2 b.size
            replace kB := kB.on b
            have hS2 := hS.on b
            show K _ _
            refine hK _ _ hS2 ?_
            rw [ega] at kA ⊢
            clear hK K hS b ega
            generalize v5.alloc (.cells #[.string ⟨#[]⟩, .bool false, .int .i64 0, .int .i64 0, .int .i64 0, .slice none 0 0, .slice none 0 0] 25) = v6 at *
            try simp only [Act.put, List.getElem_toArray, List.getElem_cons_succ, List.getElem_cons_zero, List.setIfInBounds_toArray, List.set_cons_succ, List.set_cons_zero]
            rename Qx2 w _ _ _ => hS
            refine wpAnyH_one (i := 7) (by kernel_rfl) rfl (by rfl) (fun K hK => ?_)
            refine wp_store_row 25 (.tmp 5) (.tmp 44) rfl ga _ rfl rfl 25 _ kA.h (by kernel_rfl) rfl (by simp [Value.oneCell']) ?_
            have HM := kp_made hS kA kB oq op sq sp ⟨rA1, rA2⟩ ⟨rB1, rB2⟩ ⟨hm1, hx1, hga, hgb⟩ ⟨hm2, hx2⟩ hmx #[tx q.name, .bool q.dur, .int .i64 q.depth, .int .i64 q.seq, .int .i64 q.tag, .slice a1 ni c1, .slice a2 nh c2] #[tx o.m.topic, tx o.m.body, .slice pb np pd, .bool o.m.dur, .int .i64 o.m.til]
            refine hK _ _ HM.1 ?_
            clear hK K hS kA kB oq op sq sp hm1 hx1 hm2 hx2 rA1 rA2 rB1 rB2 hga hgb hmx
            obtain ⟨_, HB, HZ, HK⟩ := HM
            generalize v6.setRow ga #[tx q.name, .bool q.dur, .int .i64 q.depth, .int .i64 q.seq, .int .i64 q.tag, .slice a1 ni c1, .slice a2 nh c2] = vL at *
            try simp only [Act.put, List.getElem_toArray, List.getElem_cons_succ, List.getElem_cons_zero, List.setIfInBounds_toArray, List.set_cons_succ, List.set_cons_zero]
            refine wpAnyH_one (i := 8) (by kernel_rfl) rfl (by rfl) (fun K hK => ?_)
            refine wp_store_row 28 (.tmp 6) (.tmp 47) rfl gb _ rfl rfl 28 _ HB.h (by kernel_rfl) rfl (by simp [Value.oneCell']) ?_
            refine hK _ _ HZ ?_
            clear hK K HB HZ
            generalize vL.setRow gb #[tx o.m.topic, tx o.m.body, .slice pb np pd, .bool o.m.dur, .int .i64 o.m.til] = vM at *
            try simp only [Act.put, List.getElem_toArray, List.getElem_cons_succ, List.getElem_cons_zero, List.setIfInBounds_toArray, List.set_cons_succ, List.set_cons_zero]
            refine wpAnyH_done (by kernel_rfl) ?_ _
            go_wp2_with fail
            go_meet
            exact ⟨ga, gb, bm, sm, bx, sx, a1, c1, a2, c2, pb, pd, rfl, rfl, HK⟩
        · go_simp
          have b := (Below.refl v1.heap.size v1).alloc (Nat.le_refl _) (.cells #[.string ⟨#[]⟩, .bool false, .int .i64 0, .int .i64 0, .int .i64 0, .slice none 0 0, .slice none 0 0] 25)
          have kA := Blk.new v1 #[.string ⟨#[]⟩, .bool false, .int .i64 0, .int .i64 0, .int .i64 0, .slice none 0 0, .slice none 0 0] 25
          obtain ⟨ga, ega⟩ : ∃ n, v1.heap.size = n := ⟨_, rfl⟩
          have hga : w.heap.size + 1 < ga := by rw [← ega]; exact hS.o.lt
          have rA1 : ga < bm ∨ sm ≤ ga := .inr (by rw [← ega]; exact hm2)
          replace oq := oq.on b
          replace sq := sq.shp (shp_below b)
          replace hm2 : sm ≤ (v1.alloc (.cells #[.string ⟨#[]⟩, .bool false, .int .i64 0, .int .i64 0, .int .i64 0, .slice none 0 0, .slice none 0 0] 25)).heap.size := Nat.le_trans hm2 b.size
          have hS2 := hS.on b
          show K _ _
          refine hK _ _ hS2 ?_
          rw [ega] at kA ⊢
          clear hK K hS b ega
          generalize v1.alloc (.cells #[.string ⟨#[]⟩, .bool false, .int .i64 0, .int .i64 0, .int .i64 0, .slice none 0 0, .slice none 0 0] 25) = v7 at *
          try simp only [Act.put, List.getElem_toArray, List.getElem_cons_succ, List.getElem_cons_zero, List.setIfInBounds_toArray, List.set_cons_succ, List.set_cons_zero]
          rename Qx2 w _ _ _ => hS
          refine wpAnyH_two (i := 4) (j := 6) (by kernel_rfl) rfl rfl (by rfl) (by rfl) (fun K hK => ?_) (fun K hK => ?_)
          · go_simp
            refine (rcopyMsg_any v7 o.m (.slice pa np pc) (HP.out.1.on hS.l) hpn).mono ?_
            rintro e v8 ⟨pp, rfl, op, b⟩
            have sp := op.pvOk (S := v8.heap.size) (Nat.le_refl _) hpn
            obtain ⟨pb, pd, h3⟩ := op.shape
            rw [NP.out] at h3
            subst h3
            replace oq := oq.on b
            replace sq := sq.shp (shp_below b)
            have hmx0 := hm2
            replace hm2 : sm ≤ v8.heap.size := Nat.le_trans hm2 b.size
            have hAl := kA.lt
            replace kA := kA.on b
            obtain ⟨bx, ebx⟩ : ∃ n, v7.heap.size = n := ⟨_, rfl⟩
            have hmx : sm ≤ bx := by rw [← ebx]; exact hmx0
            clear hmx0
            obtain ⟨sx, esx⟩ : ∃ n, v8.heap.size = n := ⟨_, rfl⟩
            have hx1 : w.heap.size + 1 < bx := by rw [← ebx]; exact hS.o.lt
            rw [ebx] at op
            rw [ebx, esx] at sp
            have hx2 : sx ≤ v8.heap.size := by rw [esx]; exact Nat.le_refl _
            have rA2 : ga < bx ∨ sx ≤ ga := .inl (by rw [← ebx]; exact hAl)
            have hS2 := hS.on b
            show K _ _
            refine hK _ _ hS2 ?_
            clear hK K hS b ebx esx
            unfold msgV
            try simp only [Act.put, List.getElem_toArray, List.getElem_cons_succ, List.getElem_cons_zero, List.setIfInBounds_toArray, List.set_cons_succ, List.set_cons_zero]
            rename Qx2 w _ _ _ => hS
            refine wpAnyH_one (i := 6) (by kernel_rfl) rfl (by rfl) (fun K hK => ?_)
            go_simp
            have b := (Below.refl v8.heap.size v8).alloc (Nat.le_refl _) (.cells #[.string ⟨#[]⟩, .string ⟨#[]⟩, .slice none 0 0, .bool false, .int .i64 0] 28)
            have kB := Blk.new v8 #[.string ⟨#[]⟩, .string ⟨#[]⟩, .slice none 0 0, .bool false, .int .i64 0] 28
            obtain ⟨gb, egb⟩ : ∃ n, v8.heap.size = n := ⟨_, rfl⟩
            have hgb : w.heap.size + 1 < gb := by rw [← egb]; exact hS.o.lt
            have rB1 : gb < bm ∨ sm ≤ gb := .inr (by rw [← egb]; exact hm2)
            have rB2 : gb < bx ∨ sx ≤ gb := .inr (by rw [← egb]; exact hx2)
            replace oq := oq.on b
            replace sq := sq.shp (shp_below b)
            replace hm2 : sm ≤ (v8.alloc (.cells #[.string ⟨#[]⟩, .string ⟨#[]⟩, .slice none 0 0, .bool false, .int .i64 0] 28)).heap.size := Nat.le_trans hm2 b.size
            replace op := op.keep (.of_below b)
            replace sp := sp.shp (shp_below b).p
            replace hx2 : sx ≤ (v8.alloc (.cells #[.string ⟨#[]⟩, .string ⟨#[]⟩, .slice none 0 0, .bool false, .int .i64 0] 28)).heap.size := Nat.le_trans hx2 b.size
            replace kA := kA.on b
            have hS2 := hS.on b
            show K _ _
            refine hK _ _ hS2 ?_
            rw [egb] at kB ⊢
            clear hK K hS b egb
            generalize v8.alloc (.cells #[.string ⟨#[]⟩, .string ⟨#[]⟩, .slice none 0 0, .bool false, .int .i64 0] 28) = v9 at *
            try simp only [Act.put, List.getElem_toArray, List.getElem_cons_succ, List.getElem_cons_zero, List.setIfInBounds_toArray, List.set_cons_succ, List.set_cons_zero]
            rename Qx2 w _ _ _ => hS
            refine wpAnyH_one (i := 7) (by kernel_rfl) rfl (by rfl) (fun K hK => ?_)
            refine wp_store_row 25 (.tmp 5) (.tmp 44) rfl ga _ rfl rfl 25 _ kA.h (by kernel_rfl) rfl (by simp [Value.oneCell']) ?_
            have HM := kp_made hS kA kB oq op sq sp ⟨rA1, rA2⟩ ⟨rB1, rB2⟩ ⟨hm1, hx1, hga, hgb⟩ ⟨hm2, hx2⟩ hmx #[tx q.name, .bool q.dur, .int .i64 q.depth, .int .i64 q.seq, .int .i64 q.tag, .slice a1 ni c1, .slice a2 nh c2] #[tx o.m.topic, tx o.m.body, .slice pb np pd, .bool o.m.dur, .int .i64 o.m.til]
            refine hK _ _ HM.1 ?_
            clear hK K hS kA kB oq op sq sp hm1 hx1 hm2 hx2 rA1 rA2 rB1 rB2 hga hgb hmx
            obtain ⟨_, HB, HZ, HK⟩ := HM
            generalize v9.setRow ga #[tx q.name, .bool q.dur, .int .i64 q.depth, .int .i64 q.seq, .int .i64 q.tag, .slice a1 ni c1, .slice a2 nh c2] = vL at *
            try simp only [Act.put, List.getElem_toArray, List.getElem_cons_succ, List.getElem_cons_zero, List.setIfInBounds_toArray, List.set_cons_succ, List.set_cons_zero]
            refine wpAnyH_one (i := 8) (by kernel_rfl) rfl (by rfl) (fun K hK => ?_)
            refine wp_store_row 28 (.tmp 6) (.tmp 47) rfl gb _ rfl rfl 28 _ HB.h (by kernel_rfl) rfl (by simp [Value.oneCell']) ?_
            refine hK _ _ HZ ?_
            clear hK K HB HZ
            generalize vL.setRow gb #[tx o.m.topic, tx o.m.body, .slice pb np pd, .bool o.m.dur, .int .i64 o.m.til] = vM at *
            try simp only [Act.put, List.getElem_toArray, List.getElem_cons_succ, List.getElem_cons_zero, List.setIfInBounds_toArray, List.set_cons_succ, List.set_cons_zero]
            refine wpAnyH_done (by kernel_rfl) ?_ _
            go_wp2_with fail
            go_meet
            exact ⟨ga, gb, bm, sm, bx, sx, a1, c1, a2, c2, pb, pd, rfl, rfl, HK⟩
          · go_simp
            have b := (Below.refl v7.heap.size v7).alloc (Nat.le_refl _) (.cells #[.string ⟨#[]⟩, .string ⟨#[]⟩, .slice none 0 0, .bool false, .int .i64 0] 28)
            have kB := Blk.new v7 #[.string ⟨#[]⟩, .string ⟨#[]⟩, .slice none 0 0, .bool false, .int .i64 0] 28
            obtain ⟨gb, egb⟩ : ∃ n, v7.heap.size = n := ⟨_, rfl⟩
            have hgb : w.heap.size + 1 < gb := by rw [← egb]; exact hS.o.lt
            have rB1 : gb < bm ∨ sm ≤ gb := .inr (by rw [← egb]; exact hm2)
            replace oq := oq.on b
            replace sq := sq.shp (shp_below b)
            replace hm2 : sm ≤ (v7.alloc (.cells #[.string ⟨#[]⟩, .string ⟨#[]⟩, .slice none 0 0, .bool false, .int .i64 0] 28)).heap.size := Nat.le_trans hm2 b.size
            replace kA := kA.on b
            have hS2 := hS.on b
            show K _ _
            refine hK _ _ hS2 ?_
            rw [egb] at kB ⊢
            clear hK K hS b egb
            generalize v7.alloc (.cells #[.string ⟨#[]⟩, .string ⟨#[]⟩, .slice none 0 0, .bool false, .int .i64 0] 28) = v10 at *
            try simp only [Act.put, List.getElem_toArray, List.getElem_cons_succ, List.getElem_cons_zero, List.setIfInBounds_toArray, List.set_cons_succ, List.set_cons_zero]
            rename Qx2 w _ _ _ => hS
            refine wpAnyH_one (i := 4) (by kernel_rfl) rfl (by rfl) (fun K hK => ?_)
            go_simp
            refine (rcopyMsg_any v10 o.m (.slice pa np pc) (HP.out.1.on hS.l) hpn).mono ?_
            rintro e v11 ⟨pp, rfl, op, b⟩
            have sp := op.pvOk (S := v11.heap.size) (Nat.le_refl _) hpn
            obtain ⟨pb, pd, h3⟩ := op.shape
            rw [NP.out] at h3
            subst h3
            replace oq := oq.on b
            replace sq := sq.shp (shp_below b)
            have hmx0 := hm2
            replace hm2 : sm ≤ v11.heap.size := Nat.le_trans hm2 b.size
            have hAl := kA.lt
            replace kA := kA.on b
            have hBl := kB.lt
            replace kB := kB.on b
            obtain ⟨bx, ebx⟩ : ∃ n, v10.heap.size = n := ⟨_, rfl⟩
            have hmx : sm ≤ bx := by rw [← ebx]; exact hmx0
            clear hmx0
            obtain ⟨sx, esx⟩ : ∃ n, v11.heap.size = n := ⟨_, rfl⟩
            have hx1 : w.heap.size + 1 < bx := by rw [← ebx]; exact hS.o.lt
            rw [ebx] at op
            rw [ebx, esx] at sp
            have hx2 : sx ≤ v11.heap.size := by rw [esx]; exact Nat.le_refl _
            have rA2 : ga < bx ∨ sx ≤ ga := .inl (by rw [← ebx]; exact hAl)
            have rB2 : gb < bx ∨ sx ≤ gb := .inl (by rw [← ebx]; exact hBl)
            have hS2 := hS.on b
            show K _ _
            refine hK _ _ hS2 ?_
            clear hK K hS b ebx esx
            unfold msgV
            try simp only [Act.put, List.getElem_toArray, List.getElem_cons_succ, List.getElem_cons_zero, List.setIfInBounds_toArray, List.set_cons_succ, List.set_cons_zero]
            rename Qx2 w _ _ _ => hS
            refine wpAnyH_one (i := 7) (by kernel_rfl) rfl (by rfl) (fun K hK => ?_)
            refine wp_store_row 25 (.tmp 5) (.tmp 44) rfl ga _ rfl rfl 25 _ kA.h (by kernel_rfl) rfl (by simp [Value.oneCell']) ?_
            have HM := kp_made hS kA kB oq op sq sp ⟨rA1, rA2⟩ ⟨rB1, rB2⟩ ⟨hm1, hx1, hga, hgb⟩ ⟨hm2, hx2⟩ hmx #[tx q.name, .bool q.dur, .int .i64 q.depth, .int .i64 q.seq, .int .i64 q.tag, .slice a1 ni c1, .slice a2 nh c2] #[tx o.m.topic, tx o.m.body, .slice pb np pd, .bool o.m.dur, .int .i64 o.m.til]
            refine hK _ _ HM.1 ?_
            clear hK K hS kA kB oq op sq sp hm1 hx1 hm2 hx2 rA1 rA2 rB1 rB2 hga hgb hmx
            obtain ⟨_, HB, HZ, HK⟩ := HM
            generalize v11.setRow ga #[tx q.name, .bool q.dur, .int .i64 q.depth, .int .i64 q.seq, .int .i64 q.tag, .slice a1 ni c1, .slice a2 nh c2] = vL at *
            try simp only [Act.put, List.getElem_toArray, List.getElem_cons_succ, List.getElem_cons_zero, List.setIfInBounds_toArray, List.set_cons_succ, List.set_cons_zero]
            refine wpAnyH_one (i := 8) (by kernel_rfl) rfl (by rfl) (fun K hK => ?_)
            refine wp_store_row 28 (.tmp 6) (.tmp 47) rfl gb _ rfl rfl 28 _ HB.h (by kernel_rfl) rfl (by simp [Value.oneCell']) ?_
            refine hK _ _ HZ ?_
            clear hK K HB HZ
            generalize vL.setRow gb #[tx o.m.topic, tx o.m.body, .slice pb np pd, .bool o.m.dur, .int .i64 o.m.til] = vM at *
            try simp only [Act.put, List.getElem_toArray, List.getElem_cons_succ, List.getElem_cons_zero, List.setIfInBounds_toArray, List.set_cons_succ, List.set_cons_zero]
            refine wpAnyH_done (by kernel_rfl) ?_ _
            go_wp2_with fail
            go_meet
            exact ⟨ga, gb, bm, sm, bx, sx, a1, c1, a2, c2, pb, pd, rfl, rfl, HK⟩
        · go_simp
          have b := (Below.refl v1.heap.size v1).alloc (Nat.le_refl _) (.cells #[.string ⟨#[]⟩, .string ⟨#[]⟩, .slice none 0 0, .bool false, .int .i64 0] 28)
          have kB := Blk.new v1 #[.string ⟨#[]⟩, .string ⟨#[]⟩, .slice none 0 0, .bool false, .int .i64 0] 28
          obtain ⟨gb, egb⟩ : ∃ n, v1.heap.size = n := ⟨_, rfl⟩
          have hgb : w.heap.size + 1 < gb := by rw [← egb]; exact hS.o.lt
          have rB1 : gb < bm ∨ sm ≤ gb := .inr (by rw [← egb]; exact hm2)
          replace oq := oq.on b
          replace sq := sq.shp (shp_below b)
          replace hm2 : sm ≤ (v1.alloc (.cells #[.string ⟨#[]⟩, .string ⟨#[]⟩, .slice none 0 0, .bool false, .int .i64 0] 28)).heap.size := Nat.le_trans hm2 b.size
          have hS2 := hS.on b
          show K _ _
          refine hK _ _ hS2 ?_
          rw [egb] at kB ⊢
          clear hK K hS b egb
          generalize v1.alloc (.cells #[.string ⟨#[]⟩, .string ⟨#[]⟩, .slice none 0 0, .bool false, .int .i64 0] 28) = v12 at *
          try simp only [Act.put, List.getElem_toArray, List.getElem_cons_succ, List.getElem_cons_zero, List.setIfInBounds_toArray, List.set_cons_succ, List.set_cons_zero]
          rename Qx2 w _ _ _ => hS
          refine wpAnyH_two (i := 4) (j := 5) (by kernel_rfl) rfl rfl (by rfl) (by rfl) (fun K hK => ?_) (fun K hK => ?_)
          · go_simp
            refine (rcopyMsg_any v12 o.m (.slice pa np pc) (HP.out.1.on hS.l) hpn).mono ?_
            rintro e v13 ⟨pp, rfl, op, b⟩
            have sp := op.pvOk (S := v13.heap.size) (Nat.le_refl _) hpn
            obtain ⟨pb, pd, h3⟩ := op.shape
            rw [NP.out] at h3
            subst h3
            replace oq := oq.on b
            replace sq := sq.shp (shp_below b)
            have hmx0 := hm2
            replace hm2 : sm ≤ v13.heap.size := Nat.le_trans hm2 b.size
            have hBl := kB.lt
            replace kB := kB.on b
            obtain ⟨bx, ebx⟩ : ∃ n, v12.heap.size = n := ⟨_, rfl⟩
            have hmx : sm ≤ bx := by rw [← ebx]; exact hmx0
            clear hmx0
            obtain ⟨sx, esx⟩ : ∃ n, v13.heap.size = n := ⟨_, rfl⟩
            have hx1 : w.heap.size + 1 < bx := by rw [← ebx]; exact hS.o.lt
            rw [ebx] at op
            rw [ebx, esx] at sp
            have hx2 : sx ≤ v13.heap.size := by rw [esx]; exact Nat.le_refl _
            have rB2 : gb < bx ∨ sx ≤ gb := .inl (by rw [← ebx]; exact hBl)
            have hS2 := hS.on b
            show K _ _
            refine hK _ _ hS2 ?_
            clear hK K hS b ebx esx
            unfold msgV
            try simp only [Act.put, List.getElem_toArray, List.getElem_cons_succ, List.getElem_cons_zero, List.setIfInBounds_toArray, List.set_cons_succ, List.set_cons_zero]
            rename Qx2 w _ _ _ => hS
            refine wpAnyH_one (i := 5) (by kernel_rfl) rfl (by rfl) (fun K hK => ?_)
            go_simp
            have b := (Below.refl v13.heap.size v13).alloc (Nat.le_refl _) (.cells #[.string ⟨#[]⟩, .bool false, .int .i64 0, .int .i64 0, .int .i64 0, .slice none 0 0, .slice none 0 0] 25)
            have kA := Blk.new v13 #[.string ⟨#[]⟩, .bool false, .int .i64 0, .int .i64 0, .int .i64 0, .slice none 0 0, .slice none 0 0] 25
            obtain ⟨ga, ega⟩ : ∃ n, v13.heap.size = n := ⟨_, rfl⟩
            have hga : w.heap.size + 1 < ga := by rw [← ega]; exact hS.o.lt
            have rA1 : ga < bm ∨ sm ≤ ga := .inr (by rw [← ega]; exact hm2)
            have rA2 : ga < bx ∨ sx ≤ ga := .inr (by rw [← ega]; exact hx2)
            replace oq := oq.on b
            replace sq := sq.shp (shp_below b)
            replace hm2 : sm ≤ (v13.alloc (.cells #[.string ⟨#[]⟩, .bool false, .int .i64 0, .int .i64 0, .int .i64 0, .slice none 0 0, .slice none 0 0] 25)).heap.size := Nat.le_trans hm2 b.size
            replace op := op.keep (.of_below b)
            replace sp := sp.shp (shp_below b).p
            replace hx2 : sx ≤ (v13.alloc (.cells #[.string ⟨#[]⟩, .bool false, .int .i64 0, .int .i64 0, .int .i64 0, .slice none 0 0, .slice none 0 0] 25)).heap.size := Nat.le_trans hx2 b.size
            replace kB := kB.on b
            have hS2 := hS.on b
            show K _ _
            refine hK _ _ hS2 ?_
            rw [ega] at kA ⊢
            clear hK K hS b ega
            generalize v13.alloc (.cells #[.string ⟨#[]⟩, .bool false, .int .i64 0, .int .i64 0, .int .i64 0, .slice none 0 0, .slice none 0 0] 25) = v14 at *
            try simp only [Act.put, List.getElem_toArray, List.getElem_cons_succ, List.getElem_cons_zero, List.setIfInBounds_toArray, List.set_cons_succ, List.set_cons_zero]
            rename Qx2 w _ _ _ => hS
            refine wpAnyH_one (i := 7) (by kernel_rfl) rfl (by rfl) (fun K hK => ?_)
            refine wp_store_row 25 (.tmp 5) (.tmp 44) rfl ga _ rfl rfl 25 _ kA.h (by kernel_rfl) rfl (by simp [Value.oneCell']) ?_
            have HM := kp_made hS kA kB oq op sq sp ⟨rA1, rA2⟩ ⟨rB1, rB2⟩ ⟨hm1, hx1, hga, hgb⟩ ⟨hm2, hx2⟩ hmx #[tx q.name, .bool q.dur, .int .i64 q.depth, .int .i64 q.seq, .int .i64 q.tag, .slice a1 ni c1, .slice a2 nh c2] #[tx o.m.topic, tx o.m.body, .slice pb np pd, .bool o.m.dur, .int .i64 o.m.til]
            refine hK _ _ HM.1 ?_
            clear hK K hS kA kB oq op sq sp hm1 hx1 hm2 hx2 rA1 rA2 rB1 rB2 hga hgb hmx
            obtain ⟨_, HB, HZ, HK⟩ := HM
            generalize v14.setRow ga #[tx q.name, .bool q.dur, .int .i64 q.depth, .int .i64 q.seq, .int .i64 q.tag, .slice a1 ni c1, .slice a2 nh c2] = vL at *
            try simp only [Act.put, List.getElem_toArray, List.getElem_cons_succ, List.getElem_cons_zero, List.setIfInBounds_toArray, List.set_cons_succ, List.set_cons_zero]
            refine wpAnyH_one (i := 8) (by kernel_rfl) rfl (by rfl) (fun K hK => ?_)
            refine wp_store_row 28 (.tmp 6) (.tmp 47) rfl gb _ rfl rfl 28 _ HB.h (by kernel_rfl) rfl (by simp [Value.oneCell']) ?_
            refine hK _ _ HZ ?_
            clear hK K HB HZ
            generalize vL.setRow gb #[tx o.m.topic, tx o.m.body, .slice pb np pd, .bool o.m.dur, .int .i64 o.m.til] = vM at *
            try simp only [Act.put, List.getElem_toArray, List.getElem_cons_succ, List.getElem_cons_zero, List.setIfInBounds_toArray, List.set_cons_succ, List.set_cons_zero]
            refine wpAnyH_done (by kernel_rfl) ?_ _
            go_wp2_with fail
            go_meet
            exact ⟨ga, gb, bm, sm, bx, sx, a1, c1, a2, c2, pb, pd, rfl, rfl, HK⟩
          · go_simp
            have b := (Below.refl v12.heap.size v12).alloc (Nat.le_refl _) (.cells #[.string ⟨#[]⟩, .bool false, .int .i64 0, .int .i64 0, .int .i64 0, .slice none 0 0, .slice none 0 0] 25)
            have kA := Blk.new v12 #[.string ⟨#[]⟩, .bool false, .int .i64 0, .int .i64 0, .int .i64 0, .slice none 0 0, .slice none 0 0] 25
            obtain ⟨ga, ega⟩ : ∃ n, v12.heap.size = n := ⟨_, rfl⟩
            have hga : w.heap.size + 1 < ga := by rw [← ega]; exact hS.o.lt
            have rA1 : ga < bm ∨ sm ≤ ga := .inr (by rw [← ega]; exact hm2)
            replace oq := oq.on b
            replace sq := sq.shp (shp_below b)
            replace hm2 : sm ≤ (v12.alloc (.cells #[.string ⟨#[]⟩, .bool false, .int .i64 0, .int .i64 0, .int .i64 0, .slice none 0 0, .slice none 0 0] 25)).heap.size := Nat.le_trans hm2 b.size
            replace kB := kB.on b
            have hS2 := hS.on b
            show K _ _
            refine hK _ _ hS2 ?_
            rw [ega] at kA ⊢
            clear hK K hS b ega
            generalize v12.alloc (.cells #[.string ⟨#[]⟩, .bool false, .int .i64 0, .int .i64 0, .int .i64 0, .slice none 0 0, .slice none 0 0] 25) = v15 at *
            try simp only [Act.put, List.getElem_toArray, List.getElem_cons_succ, List.getElem_cons_zero, List.setIfInBounds_toArray, List.set_cons_succ, List.set_cons_zero]
            rename Qx2 w _ _ _ => hS
            refine wpAnyH_one (i := 4) (by kernel_rfl) rfl (by rfl) (fun K hK => ?_)
            go_simp
            refine (rcopyMsg_any v15 o.m (.slice pa np pc) (HP.out.1.on hS.l) hpn).mono ?_
            rintro e v16 ⟨pp, rfl, op, b⟩
            have sp := op.pvOk (S := v16.heap.size) (Nat.le_refl _) hpn
            obtain ⟨pb, pd, h3⟩ := op.shape
            rw [NP.out] at h3
            subst h3
            replace oq := oq.on b
            replace sq := sq.shp (shp_below b)
            have hmx0 := hm2
            replace hm2 : sm ≤ v16.heap.size := Nat.le_trans hm2 b.size
            have hAl := kA.lt
            replace kA := kA.on b
            have hBl := kB.lt
            replace kB := kB.on b
            obtain ⟨bx, ebx⟩ : ∃ n, v15.heap.size = n := ⟨_, rfl⟩
            have hmx : sm ≤ bx := by rw [← ebx]; exact hmx0
            clear hmx0
            obtain ⟨sx, esx⟩ : ∃ n, v16.heap.size = n := ⟨_, rfl⟩
            have hx1 : w.heap.size + 1 < bx := by rw [← ebx]; exact hS.o.lt
            rw [ebx] at op
            rw [ebx, esx] at sp
            have hx2 : sx ≤ v16.heap.size := by rw [esx]; exact Nat.le_refl _
            have rA2 : ga < bx ∨ sx ≤ ga := .inl (by rw [← ebx]; exact hAl)
            have rB2 : gb < bx ∨ sx ≤ gb := .inl (by rw [← ebx]; exact hBl)
            have hS2 := hS.on b
            show K _ _
            refine hK _ _ hS2 ?_
            clear hK K hS b ebx esx
            unfold msgV
            try simp only [Act.put, List.getElem_toArray, List.getElem_cons_succ, List.getElem_cons_zero, List.setIfInBounds_toArray, List.set_cons_succ, List.set_cons_zero]
            rename Qx2 w _ _ _ => hS
            refine wpAnyH_one (i := 7) (by kernel_rfl) rfl (by rfl) (fun K hK => ?_)
            refine wp_store_row 25 (.tmp 5) (.tmp 44) rfl ga _ rfl rfl 25 _ kA.h (by kernel_rfl) rfl (by simp [Value.oneCell']) ?_
            have HM := kp_made hS kA kB oq op sq sp ⟨rA1, rA2⟩ ⟨rB1, rB2⟩ ⟨hm1, hx1, hga, hgb⟩ ⟨hm2, hx2⟩ hmx #[tx q.name, .bool q.dur, .int .i64 q.depth, .int .i64 q.seq, .int .i64 q.tag, .slice a1 ni c1, .slice a2 nh c2] #[tx o.m.topic, tx o.m.body, .slice pb np pd, .bool o.m.dur, .int .i64 o.m.til]
            refine hK _ _ HM.1 ?_
            clear hK K hS kA kB oq op sq sp hm1 hx1 hm2 hx2 rA1 rA2 rB1 rB2 hga hgb hmx
            obtain ⟨_, HB, HZ, HK⟩ := HM
            generalize v16.setRow ga #[tx q.name, .bool q.dur, .int .i64 q.depth, .int .i64 q.seq, .int .i64 q.tag, .slice a1 ni c1, .slice a2 nh c2] = vL at *
            try simp only [Act.put, List.getElem_toArray, List.getElem_cons_succ, List.getElem_cons_zero, List.setIfInBounds_toArray, List.set_cons_succ, List.set_cons_zero]
            refine wpAnyH_one (i := 8) (by kernel_rfl) rfl (by rfl) (fun K hK => ?_)
            refine wp_store_row 28 (.tmp 6) (.tmp 47) rfl gb _ rfl rfl 28 _ HB.h (by kernel_rfl) rfl (by simp [Value.oneCell']) ?_
            refine hK _ _ HZ ?_
            clear hK K HB HZ
            generalize vL.setRow gb #[tx o.m.topic, tx o.m.body, .slice pb np pd, .bool o.m.dur, .int .i64 o.m.til] = vM at *
            try simp only [Act.put, List.getElem_toArray, List.getElem_cons_succ, List.getElem_cons_zero, List.setIfInBounds_toArray, List.set_cons_succ, List.set_cons_zero]
            refine wpAnyH_done (by kernel_rfl) ?_ _
            go_wp2_with fail
            go_meet
            exact ⟨ga, gb, bm, sm, bx, sx, a1, c1, a2, c2, pb, pd, rfl, rfl, HK⟩
      · go_simp
        have b := (Below.refl v0.heap.size v0).alloc (Nat.le_refl _) (.cells #[.string ⟨#[]⟩, .bool false, .int .i64 0, .int .i64 0, .int .i64 0, .slice none 0 0, .slice none 0 0] 25)
        have kA := Blk.new v0 #[.string ⟨#[]⟩, .bool false, .int .i64 0, .int .i64 0, .int .i64 0, .slice none 0 0, .slice none 0 0] 25
        obtain ⟨ga, ega⟩ : ∃ n, v0.heap.size = n := ⟨_, rfl⟩
        have hga : w.heap.size + 1 < ga := by rw [← ega]; exact hS.o.lt
        have hS2 := hS.on b
        show K _ _
        refine hK _ _ hS2 ?_
        rw [ega] at kA ⊢
        clear hK K hS b ega
        generalize v0.alloc (.cells #[.string ⟨#[]⟩, .bool false, .int .i64 0, .int .i64 0, .int .i64 0, .slice none 0 0, .slice none 0 0] 25) = v17 at *
        try simp only [Act.put, List.getElem_toArray, List.getElem_cons_succ, List.getElem_cons_zero, List.setIfInBounds_toArray, List.set_cons_succ, List.set_cons_zero]
        rename Qx2 w _ _ _ => hS
        refine wpAnyH_two (i := 1) (j := 6) (by kernel_rfl) rfl rfl (by rfl) (by rfl) (fun K hK => ?_) (fun K hK => ?_)
        · go_simp
          refine (rcopy_any v17 _ q (RQ.out.on hS.l) hsq).mono ?_
          rintro e v18 ⟨vv, rfl, oq, b⟩
          have sq := oq.spq (Nat.le_refl _) hsq
          obtain ⟨iv2, hv2, e2, oi2, oh2⟩ := oq
          obtain ⟨a1, c1, h1⟩ := oi2.rd.len
          obtain ⟨a2, c2, h2⟩ := oh2.rd.len
          rw [NQ.out.1] at h1
          rw [NQ.out.2] at h2
          subst h1 h2 e2
          have oq : OwnQ v18 v17.heap.size (queV q (.slice a1 ni c1) (.slice a2 nh c2)) q := ⟨_, _, rfl, oi2, oh2⟩
          clear oi2 oh2
          have hAl := kA.lt
          replace kA := kA.on b
          obtain ⟨bm, ebm⟩ : ∃ n, v17.heap.size = n := ⟨_, rfl⟩
          obtain ⟨sm, esm⟩ : ∃ n, v18.heap.size = n := ⟨_, rfl⟩
          have hm1 : w.heap.size + 1 < bm := by rw [← ebm]; exact hS.o.lt
          rw [ebm] at oq
          rw [ebm, esm] at sq
          have hm2 : sm ≤ v18.heap.size := by rw [esm]; exact Nat.le_refl _
          have rA1 : ga < bm ∨ sm ≤ ga := .inl (by rw [← ebm]; exact hAl)
          have hS2 := hS.on b
          show K _ _
          refine hK _ _ hS2 ?_
          clear hK K hS b ebm esm
          unfold queV
          try simp only [Act.put, List.getElem_toArray, List.getElem_cons_succ, List.getElem_cons_zero, List.setIfInBounds_toArray, List.set_cons_succ, List.set_cons_zero]
          rename Qx2 w _ _ _ => hS
          refine wpAnyH_two (i := 4) (j := 6) (by kernel_rfl) rfl rfl (by rfl) (by rfl) (fun K hK => ?_) (fun K hK => ?_)
          · go_simp
            refine (rcopyMsg_any v18 o.m (.slice pa np pc) (HP.out.1.on hS.l) hpn).mono ?_
            rintro e v19 ⟨pp, rfl, op, b⟩
            have sp := op.pvOk (S := v19.heap.size) (Nat.le_refl _) hpn
            obtain ⟨pb, pd, h3⟩ := op.shape
            rw [NP.out] at h3
            subst h3
            replace oq := oq.on b
            replace sq := sq.shp (shp_below b)
            have hmx0 := hm2
            replace hm2 : sm ≤ v19.heap.size := Nat.le_trans hm2 b.size
            have hAl := kA.lt
            replace kA := kA.on b
            obtain ⟨bx, ebx⟩ : ∃ n, v18.heap.size = n := ⟨_, rfl⟩
            have hmx : sm ≤ bx := by rw [← ebx]; exact hmx0
            clear hmx0
            obtain ⟨sx, esx⟩ : ∃ n, v19.heap.size = n := ⟨_, rfl⟩
            have hx1 : w.heap.size + 1 < bx := by rw [← ebx]; exact hS.o.lt
            rw [ebx] at op
            rw [ebx, esx] at sp
            have hx2 : sx ≤ v19.heap.size := by rw [esx]; exact Nat.le_refl _
            have rA2 : ga < bx ∨ sx ≤ ga := .inl (by rw [← ebx]; exact hAl)
            have hS2 := hS.on b
            show K _ _
            refine hK _ _ hS2 ?_
            clear hK K hS b ebx esx
            unfold msgV
            try simp only [Act.put, List.getElem_toArray, List.getElem_cons_succ, List.getElem_cons_zero, List.setIfInBounds_toArray, List.set_cons_succ, List.set_cons_zero]
            rename Qx2 w _ _ _ => hS
            refine wpAnyH_one (i := 6) (by kernel_rfl) rfl (by rfl) (fun K hK => ?_)
            go_simp
            have b := (Below.refl v19.heap.size v19).alloc (Nat.le_refl _) (.cells #[.string ⟨#[]⟩, .string ⟨#[]⟩, .slice none 0 0, .bool false, .int .i64 0] 28)
            have kB := Blk.new v19 #[.string ⟨#[]⟩, .string ⟨#[]⟩, .slice none 0 0, .bool false, .int .i64 0] 28
            obtain ⟨gb, egb⟩ : ∃ n, v19.heap.size = n := ⟨_, rfl⟩
            have hgb : w.heap.size + 1 < gb := by rw [← egb]; exact hS.o.lt
            have rB1 : gb < bm ∨ sm ≤ gb := .inr (by rw [← egb]; exact hm2)
            have rB2 : gb < bx ∨ sx ≤ gb := .inr (by rw [← egb]; exact hx2)
            replace oq := oq.on b
            replace sq := sq.shp (shp_below b)
            replace hm2 : sm ≤ (v19.alloc (.cells #[.string ⟨#[]⟩, .string ⟨#[]⟩, .slice none 0 0, .bool false, .int .i64 0] 28)).heap.size := Nat.le_trans hm2 b.size
            replace op := op.keep (.of_below b)
            replace sp := sp.shp (shp_below b).p
            replace hx2 : sx ≤ (v19.alloc (.cells #[.string ⟨#[]⟩, .string ⟨#[]⟩, .slice none 0 0, .bool false, .int .i64 0] 28)).heap.size := Nat.le_trans hx2 b.size
            replace kA := kA.on b
            have hS2 := hS.on b
            show K _ _
            refine hK _ _ hS2 ?_
            rw [egb] at kB ⊢
            clear hK K hS b egb
            generalize v19.alloc (.cells #[.string ⟨#[]⟩, .string ⟨#[]⟩, .slice none 0 0, .bool false, .int .i64 0] 28) = v20 at *
            try simp only [Act.put, List.getElem_toArray, List.getElem_cons_succ, List.getElem_cons_zero, List.setIfInBounds_toArray, List.set_cons_succ, List.set_cons_zero]
            rename Qx2 w _ _ _ => hS
            refine wpAnyH_one (i := 7) (by kernel_rfl) rfl (by rfl) (fun K hK => ?_)
            refine wp_store_row 25 (.tmp 5) (.tmp 44) rfl ga _ rfl rfl 25 _ kA.h (by kernel_rfl) rfl (by simp [Value.oneCell']) ?_
            have HM := kp_made hS kA kB oq op sq sp ⟨rA1, rA2⟩ ⟨rB1, rB2⟩ ⟨hm1, hx1, hga, hgb⟩ ⟨hm2, hx2⟩ hmx #[tx q.name, .bool q.dur, .int .i64 q.depth, .int .i64 q.seq, .int .i64 q.tag, .slice a1 ni c1, .slice a2 nh c2] #[tx o.m.topic, tx o.m.body, .slice pb np pd, .bool o.m.dur, .int .i64 o.m.til]
            refine hK _ _ HM.1 ?_
            clear hK K hS kA kB oq op sq sp hm1 hx1 hm2 hx2 rA1 rA2 rB1 rB2 hga hgb hmx
            obtain ⟨_, HB, HZ, HK⟩ := HM
            generalize v20.setRow ga #[tx q.name, .bool q.dur, .int .i64 q.depth, .int .i64 q.seq, .int .i64 q.tag, .slice a1 ni c1, .slice a2 nh c2] = vL at *
            try simp only [Act.put, List.getElem_toArray, List.getElem_cons_succ, List.getElem_cons_zero, List.setIfInBounds_toArray, List.set_cons_succ, List.set_cons_zero]
            refine wpAnyH_one (i := 8) (by kernel_rfl) rfl (by rfl) (fun K hK => ?_)
            refine wp_store_row 28 (.tmp 6) (.tmp 47) rfl gb _ rfl rfl 28 _ HB.h (by kernel_rfl) rfl (by simp [Value.oneCell']) ?_
            refine hK _ _ HZ ?_
            clear hK K HB HZ
            generalize vL.setRow gb #[tx o.m.topic, tx o.m.body, .slice pb np pd, .bool o.m.dur, .int .i64 o.m.til] = vM at *
            try simp only [Act.put, List.getElem_toArray, List.getElem_cons_succ, List.getElem_cons_zero, List.setIfInBounds_toArray, List.set_cons_succ, List.set_cons_zero]
            refine wpAnyH_done (by kernel_rfl) ?_ _
            go_wp2_with fail
            go_meet
            exact ⟨ga, gb, bm, sm, bx, sx, a1, c1, a2, c2, pb, pd, rfl, rfl, HK⟩
          · go_simp
            have b := (Below.refl v18.heap.size v18).alloc (Nat.le_refl _) (.cells #[.string ⟨#[]⟩, .string ⟨#[]⟩, .slice none 0 0, .bool false, .int .i64 0] 28)
            have kB := Blk.new v18 #[.string ⟨#[]⟩, .string ⟨#[]⟩, .slice none 0 0, .bool false, .int .i64 0] 28
            obtain ⟨gb, egb⟩ : ∃ n, v18.heap.size = n := ⟨_, rfl⟩
            have hgb : w.heap.size + 1 < gb := by rw [← egb]; exact hS.o.lt
            have rB1 : gb < bm ∨ sm ≤ gb := .inr (by rw [← egb]; exact hm2)
            replace oq := oq.on b
            replace sq := sq.shp (shp_below b)
            replace hm2 : sm ≤ (v18.alloc (.cells #[.string ⟨#[]⟩, .string ⟨#[]⟩, .slice none 0 0, .bool false, .int .i64 0] 28)).heap.size := Nat.le_trans hm2 b.size
            replace kA := kA.on b
            have hS2 := hS.on b
            show K _ _
            refine hK _ _ hS2 ?_
            rw [egb] at kB ⊢
            clear hK K hS b egb
            generalize v18.alloc (.cells #[.string ⟨#[]⟩, .string ⟨#[]⟩, .slice none 0 0, .bool false, .int .i64 0] 28) = v21 at *
            try simp only [Act.put, List.getElem_toArray, List.getElem_cons_succ, List.getElem_cons_zero, List.setIfInBounds_toArray, List.set_cons_succ, List.set_cons_zero]
            rename Qx2 w _ _ _ => hS
            refine wpAnyH_one (i := 4) (by kernel_rfl) rfl (by rfl) (fun K hK => ?_)
            go_simp
            refine (rcopyMsg_any v21 o.m (.slice pa np pc) (HP.out.1.on hS.l) hpn).mono ?_
            rintro e v22 ⟨pp, rfl, op, b⟩
            have sp := op.pvOk (S := v22.heap.size) (Nat.le_refl _) hpn
            obtain ⟨pb, pd, h3⟩ := op.shape
            rw [NP.out] at h3
            subst h3
            replace oq := oq.on b
            replace sq := sq.shp (shp_below b)
            have hmx0 := hm2
            replace hm2 : sm ≤ v22.heap.size := Nat.le_trans hm2 b.size
            have hAl := kA.lt
            replace kA := kA.on b
            have hBl := kB.lt
            replace kB := kB.on b
            obtain ⟨bx, ebx⟩ : ∃ n, v21.heap.size = n := ⟨_, rfl⟩
            have hmx : sm ≤ bx := by rw [← ebx]; exact hmx0
            clear hmx0
            obtain ⟨sx, esx⟩ : ∃ n, v22.heap.size = n := ⟨_, rfl⟩
            have hx1 : w.heap.size + 1 < bx := by rw [← ebx]; exact hS.o.lt
            rw [ebx] at op
            rw [ebx, esx] at sp
            have hx2 : sx ≤ v22.heap.size := by rw [esx]; exact Nat.le_refl _
            have rA2 : ga < bx ∨ sx ≤ ga := .inl (by rw [← ebx]; exact hAl)
            have rB2 : gb < bx ∨ sx ≤ gb := .inl (by rw [← ebx]; exact hBl)
            have hS2 := hS.on b
            show K _ _
            refine hK _ _ hS2 ?_
            clear hK K hS b ebx esx
            unfold msgV
            try simp only [Act.put, List.getElem_toArray, List.getElem_cons_succ, List.getElem_cons_zero, List.setIfInBounds_toArray, List.set_cons_succ, List.set_cons_zero]
            rename Qx2 w _ _ _ => hS
            refine wpAnyH_one (i := 7) (by kernel_rfl) rfl (by rfl) (fun K hK => ?_)
            refine wp_store_row 25 (.tmp 5) (.tmp 44) rfl ga _ rfl rfl 25 _ kA.h (by kernel_rfl) rfl (by simp [Value.oneCell']) ?_
            have HM := kp_made hS kA kB oq op sq sp ⟨rA1, rA2⟩ ⟨rB1, rB2⟩ ⟨hm1, hx1, hga, hgb⟩ ⟨hm2, hx2⟩ hmx #[tx q.name, .bool q.dur, .int .i64 q.depth, .int .i64 q.seq, .int .i64 q.tag, .slice a1 ni c1, .slice a2 nh c2] #[tx o.m.topic, tx o.m.body, .slice pb np pd, .bool o.m.dur, .int .i64 o.m.til]
            refine hK _ _ HM.1 ?_
            clear hK K hS kA kB oq op sq sp hm1 hx1 hm2 hx2 rA1 rA2 rB1 rB2 hga hgb hmx
            obtain ⟨_, HB, HZ, HK⟩ := HM
            generalize v22.setRow ga #[tx q.name, .bool q.dur, .int .i64 q.depth, .int .i64 q.seq, .int .i64 q.tag, .slice a1 ni c1, .slice a2 nh c2] = vL at *
            try simp only [Act.put, List.getElem_toArray, List.getElem_cons_succ, List.getElem_cons_zero, List.setIfInBounds_toArray, List.set_cons_succ, List.set_cons_zero]
            refine wpAnyH_one (i := 8) (by kernel_rfl) rfl (by rfl) (fun K hK => ?_)
            refine wp_store_row 28 (.tmp 6) (.tmp 47) rfl gb _ rfl rfl 28 _ HB.h (by kernel_rfl) rfl (by simp [Value.oneCell']) ?_
            refine hK _ _ HZ ?_
            clear hK K HB HZ
            generalize vL.setRow gb #[tx o.m.topic, tx o.m.body, .slice pb np pd, .bool o.m.dur, .int .i64 o.m.til] = vM at *
            try simp only [Act.put, List.getElem_toArray, List.getElem_cons_succ, List.getElem_cons_zero, List.setIfInBounds_toArray, List.set_cons_succ, List.set_cons_zero]
            refine wpAnyH_done (by kernel_rfl) ?_ _
            go_wp2_with fail
            go_meet
            exact ⟨ga, gb, bm, sm, bx, sx, a1, c1, a2, c2, pb, pd, rfl, rfl, HK⟩
        · go_simp
          have b := (Below.refl v17.heap.size v17).alloc (Nat.le_refl _) (.cells #[.string ⟨#[]⟩, .string ⟨#[]⟩, .slice none 0 0, .bool false, .int .i64 0] 28)
          have kB := Blk.new v17 #[.string ⟨#[]⟩, .string ⟨#[]⟩, .slice none 0 0, .bool false, .int .i64 0] 28
          obtain ⟨gb, egb⟩ : ∃ n, v17.heap.size = n := ⟨_, rfl⟩
          have hgb : w.heap.size + 1 < gb := by rw [← egb]; exact hS.o.lt
          replace kA := kA.on b
          have hS2 := hS.on b
          show K _ _
          refine hK _ _ hS2 ?_
          rw [egb] at kB ⊢
          clear hK K hS b egb
          generalize v17.alloc (.cells #[.string ⟨#[]⟩, .string ⟨#[]⟩, .slice none 0 0, .bool false, .int .i64 0] 28) = v23 at *
          try simp only [Act.put, List.getElem_toArray, List.getElem_cons_succ, List.getElem_cons_zero, List.setIfInBounds_toArray, List.set_cons_succ, List.set_cons_zero]
          rename Qx2 w _ _ _ => hS
          refine wpAnyH_one (i := 1) (by kernel_rfl) rfl (by rfl) (fun K hK => ?_)
          go_simp
          refine (rcopy_any v23 _ q (RQ.out.on hS.l) hsq).mono ?_
          rintro e v24 ⟨vv, rfl, oq, b⟩
          have sq := oq.spq (Nat.le_refl _) hsq
          obtain ⟨iv2, hv2, e2, oi2, oh2⟩ := oq
          obtain ⟨a1, c1, h1⟩ := oi2.rd.len
          obtain ⟨a2, c2, h2⟩ := oh2.rd.len
          rw [NQ.out.1] at h1
          rw [NQ.out.2] at h2
          subst h1 h2 e2
          have oq : OwnQ v24 v23.heap.size (queV q (.slice a1 ni c1) (.slice a2 nh c2)) q := ⟨_, _, rfl, oi2, oh2⟩
          clear oi2 oh2
          have hAl := kA.lt
          replace kA := kA.on b
          have hBl := kB.lt
          replace kB := kB.on b
          obtain ⟨bm, ebm⟩ : ∃ n, v23.heap.size = n := ⟨_, rfl⟩
          obtain ⟨sm, esm⟩ : ∃ n, v24.heap.size = n := ⟨_, rfl⟩
          have hm1 : w.heap.size + 1 < bm := by rw [← ebm]; exact hS.o.lt
          rw [ebm] at oq
          rw [ebm, esm] at sq
          have hm2 : sm ≤ v24.heap.size := by rw [esm]; exact Nat.le_refl _
          have rA1 : ga < bm ∨ sm ≤ ga := .inl (by rw [← ebm]; exact hAl)
          have rB1 : gb < bm ∨ sm ≤ gb := .inl (by rw [← ebm]; exact hBl)
          have hS2 := hS.on b
          show K _ _
          refine hK _ _ hS2 ?_
          clear hK K hS b ebm esm
          unfold queV
          try simp only [Act.put, List.getElem_toArray, List.getElem_cons_succ, List.getElem_cons_zero, List.setIfInBounds_toArray, List.set_cons_succ, List.set_cons_zero]
          rename Qx2 w _ _ _ => hS
          refine wpAnyH_one (i := 4) (by kernel_rfl) rfl (by rfl) (fun K hK => ?_)
          go_simp
          refine (rcopyMsg_any v24 o.m (.slice pa np pc) (HP.out.1.on hS.l) hpn).mono ?_
          rintro e v25 ⟨pp, rfl, op, b⟩
          have sp := op.pvOk (S := v25.heap.size) (Nat.le_refl _) hpn
          obtain ⟨pb, pd, h3⟩ := op.shape
          rw [NP.out] at h3
          subst h3
          replace oq := oq.on b
          replace sq := sq.shp (shp_below b)
          have hmx0 := hm2
          replace hm2 : sm ≤ v25.heap.size := Nat.le_trans hm2 b.size
          have hAl := kA.lt
          replace kA := kA.on b
          have hBl := kB.lt
          replace kB := kB.on b
          obtain ⟨bx, ebx⟩ : ∃ n, v24.heap.size = n := ⟨_, rfl⟩
          have hmx : sm ≤ bx := by rw [← ebx]; exact hmx0
          clear hmx0
          obtain ⟨sx, esx⟩ : ∃ n, v25.heap.size = n := ⟨_, rfl⟩
          have hx1 : w.heap.size + 1 < bx := by rw [← ebx]; exact hS.o.lt
          rw [ebx] at op
          rw [ebx, esx] at sp
          have hx2 : sx ≤ v25.heap.size := by rw [esx]; exact Nat.le_refl _
          have rA2 : ga < bx ∨ sx ≤ ga := .inl (by rw [← ebx]; exact hAl)
          have rB2 : gb < bx ∨ sx ≤ gb := .inl (by rw [← ebx]; exact hBl)
          have hS2 := hS.on b
          show K _ _
          refine hK _ _ hS2 ?_
          clear hK K hS b ebx esx
          unfold msgV
          try simp only [Act.put, List.getElem_toArray, List.getElem_cons_succ, List.getElem_cons_zero, List.setIfInBounds_toArray, List.set_cons_succ, List.set_cons_zero]
          rename Qx2 w _ _ _ => hS
          refine wpAnyH_one (i := 7) (by kernel_rfl) rfl (by rfl) (fun K hK => ?_)
          refine wp_store_row 25 (.tmp 5) (.tmp 44) rfl ga _ rfl rfl 25 _ kA.h (by kernel_rfl) rfl (by simp [Value.oneCell']) ?_
          have HM := kp_made hS kA kB oq op sq sp ⟨rA1, rA2⟩ ⟨rB1, rB2⟩ ⟨hm1, hx1, hga, hgb⟩ ⟨hm2, hx2⟩ hmx #[tx q.name, .bool q.dur, .int .i64 q.depth, .int .i64 q.seq, .int .i64 q.tag, .slice a1 ni c1, .slice a2 nh c2] #[tx o.m.topic, tx o.m.body, .slice pb np pd, .bool o.m.dur, .int .i64 o.m.til]
          refine hK _ _ HM.1 ?_
          clear hK K hS kA kB oq op sq sp hm1 hx1 hm2 hx2 rA1 rA2 rB1 rB2 hga hgb hmx
          obtain ⟨_, HB, HZ, HK⟩ := HM
          generalize v25.setRow ga #[tx q.name, .bool q.dur, .int .i64 q.depth, .int .i64 q.seq, .int .i64 q.tag, .slice a1 ni c1, .slice a2 nh c2] = vL at *
          try simp only [Act.put, List.getElem_toArray, List.getElem_cons_succ, List.getElem_cons_zero, List.setIfInBounds_toArray, List.set_cons_succ, List.set_cons_zero]
          refine wpAnyH_one (i := 8) (by kernel_rfl) rfl (by rfl) (fun K hK => ?_)
          refine wp_store_row 28 (.tmp 6) (.tmp 47) rfl gb _ rfl rfl 28 _ HB.h (by kernel_rfl) rfl (by simp [Value.oneCell']) ?_
          refine hK _ _ HZ ?_
          clear hK K HB HZ
          generalize vL.setRow gb #[tx o.m.topic, tx o.m.body, .slice pb np pd, .bool o.m.dur, .int .i64 o.m.til] = vM at *
          try simp only [Act.put, List.getElem_toArray, List.getElem_cons_succ, List.getElem_cons_zero, List.setIfInBounds_toArray, List.set_cons_succ, List.set_cons_zero]
          refine wpAnyH_done (by kernel_rfl) ?_ _
          go_wp2_with fail
          go_meet
          exact ⟨ga, gb, bm, sm, bx, sx, a1, c1, a2, c2, pb, pd, rfl, rfl, HK⟩
      · go_simp
        have b := (Below.refl v0.heap.size v0).alloc (Nat.le_refl _) (.cells #[.string ⟨#[]⟩, .string ⟨#[]⟩, .slice none 0 0, .bool false, .int .i64 0] 28)
        have kB := Blk.new v0 #[.string ⟨#[]⟩, .string ⟨#[]⟩, .slice none 0 0, .bool false, .int .i64 0] 28
        obtain ⟨gb, egb⟩ : ∃ n, v0.heap.size = n := ⟨_, rfl⟩
        have hgb : w.heap.size + 1 < gb := by rw [← egb]; exact hS.o.lt
        have hS2 := hS.on b
        show K _ _
        refine hK _ _ hS2 ?_
        rw [egb] at kB ⊢
        clear hK K hS b egb
        generalize v0.alloc (.cells #[.string ⟨#[]⟩, .string ⟨#[]⟩, .slice none 0 0, .bool false, .int .i64 0] 28) = v26 at *
        try simp only [Act.put, List.getElem_toArray, List.getElem_cons_succ, List.getElem_cons_zero, List.setIfInBounds_toArray, List.set_cons_succ, List.set_cons_zero]
        rename Qx2 w _ _ _ => hS
        refine wpAnyH_two (i := 1) (j := 5) (by kernel_rfl) rfl rfl (by rfl) (by rfl) (fun K hK => ?_) (fun K hK => ?_)
        · go_simp
          refine (rcopy_any v26 _ q (RQ.out.on hS.l) hsq).mono ?_
          rintro e v27 ⟨vv, rfl, oq, b⟩
          have sq := oq.spq (Nat.le_refl _) hsq
          obtain ⟨iv2, hv2, e2, oi2, oh2⟩ := oq
          obtain ⟨a1, c1, h1⟩ := oi2.rd.len
          obtain ⟨a2, c2, h2⟩ := oh2.rd.len
          rw [NQ.out.1] at h1
          rw [NQ.out.2] at h2
          subst h1 h2 e2
          have oq : OwnQ v27 v26.heap.size (queV q (.slice a1 ni c1) (.slice a2 nh c2)) q := ⟨_, _, rfl, oi2, oh2⟩
          clear oi2 oh2
          have hBl := kB.lt
          replace kB := kB.on b
          obtain ⟨bm, ebm⟩ : ∃ n, v26.heap.size = n := ⟨_, rfl⟩
          obtain ⟨sm, esm⟩ : ∃ n, v27.heap.size = n := ⟨_, rfl⟩
          have hm1 : w.heap.size + 1 < bm := by rw [← ebm]; exact hS.o.lt
          rw [ebm] at oq
          rw [ebm, esm] at sq
          have hm2 : sm ≤ v27.heap.size := by rw [esm]; exact Nat.le_refl _
          have rB1 : gb < bm ∨ sm ≤ gb := .inl (by rw [← ebm]; exact hBl)
          have hS2 := hS.on b
          show K _ _
          refine hK _ _ hS2 ?_
          clear hK K hS b ebm esm
          unfold queV
          try simp only [Act.put, List.getElem_toArray, List.getElem_cons_succ, List.getElem_cons_zero, List.setIfInBounds_toArray, List.set_cons_succ, List.set_cons_zero]
          rename Qx2 w _ _ _ => hS
          refine wpAnyH_two (i := 4) (j := 5) (by kernel_rfl) rfl rfl (by rfl) (by rfl) (fun K hK => ?_) (fun K hK => ?_)
          · go_simp
            refine (rcopyMsg_any v27 o.m (.slice pa np pc) (HP.out.1.on hS.l) hpn).mono ?_
            rintro e v28 ⟨pp, rfl, op, b⟩
            have sp := op.pvOk (S := v28.heap.size) (Nat.le_refl _) hpn
            obtain ⟨pb, pd, h3⟩ := op.shape
            rw [NP.out] at h3
            subst h3
            replace oq := oq.on b
            replace sq := sq.shp (shp_below b)
            have hmx0 := hm2
            replace hm2 : sm ≤ v28.heap.size := Nat.le_trans hm2 b.size
            have hBl := kB.lt
            replace kB := kB.on b
            obtain ⟨bx, ebx⟩ : ∃ n, v27.heap.size = n := ⟨_, rfl⟩
            have hmx : sm ≤ bx := by rw [← ebx]; exact hmx0
            clear hmx0
            obtain ⟨sx, esx⟩ : ∃ n, v28.heap.size = n := ⟨_, rfl⟩
            have hx1 : w.heap.size + 1 < bx := by rw [← ebx]; exact hS.o.lt
            rw [ebx] at op
            rw [ebx, esx] at sp
            have hx2 : sx ≤ v28.heap.size := by rw [esx]; exact Nat.le_refl _
            have rB2 : gb < bx ∨ sx ≤ gb := .inl (by rw [← ebx]; exact hBl)
            have hS2 := hS.on b
            show K _ _
            refine hK _ _ hS2 ?_
            clear hK K hS b ebx esx
            unfold msgV
            try simp only [Act.put, List.getElem_toArray, List.getElem_cons_succ, List.getElem_cons_zero, List.setIfInBounds_toArray, List.set_cons_succ, List.set_cons_zero]
            rename Qx2 w _ _ _ => hS
            refine wpAnyH_one (i := 5) (by kernel_rfl) rfl (by rfl) (fun K hK => ?_)
            go_simp
            have b := (Below.refl v28.heap.size v28).alloc (Nat.le_refl _) (.cells #[.string ⟨#[]⟩, .bool false, .int .i64 0, .int .i64 0, .int .i64 0, .slice none 0 0, .slice none 0 0] 25)
            have kA := Blk.new v28 #[.string ⟨#[]⟩, .bool false, .int .i64 0, .int .i64 0, .int .i64 0, .slice none 0 0, .slice none 0 0] 25
            obtain ⟨ga, ega⟩ : ∃ n, v28.heap.size = n := ⟨_, rfl⟩
            have hga : w.heap.size + 1 < ga := by rw [← ega]; exact hS.o.lt
            have rA1 : ga < bm ∨ sm ≤ ga := .inr (by rw [← ega]; exact hm2)
            have rA2 : ga < bx ∨ sx ≤ ga := .inr (by rw [← ega]; exact hx2)
            replace oq := oq.on b
            replace sq := sq.shp (shp_below b)
            replace hm2 : sm ≤ (v28.alloc (.cells #[.string ⟨#[]⟩, .bool false, .int .i64 0, .int .i64 0, .int .i64 0, .slice none 0 0, .slice none 0 0] 25)).heap.size := Nat.le_trans hm2 b.size
            replace op := op.keep (.of_below b)
            replace sp := sp.shp (shp_below b).p
            replace hx2 : sx ≤ (v28.alloc (.cells #[.string ⟨#[]⟩, .bool false, .int .i64 0, .int .i64 0, .int .i64 0, .slice none 0 0, .slice none 0 0] 25)).heap.size := Nat.le_trans hx2 b.size
            replace kB := kB.on b
            have hS2 := hS.on b
            show K _ _
            refine hK _ _ hS2 ?_
            rw [ega] at kA ⊢
            clear hK K hS b ega
            generalize v28.alloc (.cells #[.string ⟨#[]⟩, .bool false, .int .i64 0, .int .i64 0, .int .i64 0, .slice none 0 0, .slice none 0 0] 25) = v29 at *
            try simp only [Act.put, List.getElem_toArray, List.getElem_cons_succ, List.getElem_cons_zero, List.setIfInBounds_toArray, List.set_cons_succ, List.set_cons_zero]
            rename Qx2 w _ _ _ => hS
            refine wpAnyH_one (i := 7) (by kernel_rfl) rfl (by rfl) (fun K hK => ?_)
            refine wp_store_row 25 (.tmp 5) (.tmp 44) rfl ga _ rfl rfl 25 _ kA.h (by kernel_rfl) rfl (by simp [Value.oneCell']) ?_
            have HM := kp_made hS kA kB oq op sq sp ⟨rA1, rA2⟩ ⟨rB1, rB2⟩ ⟨hm1, hx1, hga, hgb⟩ ⟨hm2, hx2⟩ hmx #[tx q.name, .bool q.dur, .int .i64 q.depth, .int .i64 q.seq, .int .i64 q.tag, .slice a1 ni c1, .slice a2 nh c2] #[tx o.m.topic, tx o.m.body, .slice pb np pd, .bool o.m.dur, .int .i64 o.m.til]
            refine hK _ _ HM.1 ?_
            clear hK K hS kA kB oq op sq sp hm1 hx1 hm2 hx2 rA1 rA2 rB1 rB2 hga hgb hmx
            obtain ⟨_, HB, HZ, HK⟩ := HM
            generalize v29.setRow ga #[tx q.name, .bool q.dur, .int .i64 q.depth, .int .i64 q.seq, .int .i64 q.tag, .slice a1 ni c1, .slice a2 nh c2] = vL at *
            try simp only [Act.put, List.getElem_toArray, List.getElem_cons_succ, List.getElem_cons_zero, List.setIfInBounds_toArray, List.set_cons_succ, List.set_cons_zero]
            refine wpAnyH_one (i := 8) (by kernel_rfl) rfl (by rfl) (fun K hK => ?_)
            refine wp_store_row 28 (.tmp 6) (.tmp 47) rfl gb _ rfl rfl 28 _ HB.h (by kernel_rfl) rfl (by simp [Value.oneCell']) ?_
            refine hK _ _ HZ ?_
            clear hK K HB HZ
            generalize vL.setRow gb #[tx o.m.topic, tx o.m.body, .slice pb np pd, .bool o.m.dur, .int .i64 o.m.til] = vM at *
            try simp only [Act.put, List.getElem_toArray, List.getElem_cons_succ, List.getElem_cons_zero, List.setIfInBounds_toArray, List.set_cons_succ, List.set_cons_zero]
            refine wpAnyH_done (by kernel_rfl) ?_ _
            go_wp2_with fail
            go_meet
            exact ⟨ga, gb, bm, sm, bx, sx, a1, c1, a2, c2, pb, pd, rfl, rfl, HK⟩
          · go_simp
            have b := (Below.refl v27.heap.size v27).alloc (Nat.le_refl _) (.cells #[.string ⟨#[]⟩, .bool false, .int .i64 0, .int .i64 0, .int .i64 0, .slice none 0 0, .slice none 0 0] 25)
            have kA := Blk.new v27 #[.string ⟨#[]⟩, .bool false, .int .i64 0, .int .i64 0, .int .i64 0, .slice none 0 0, .slice none 0 0] 25
            obtain ⟨ga, ega⟩ : ∃ n, v27.heap.size = n := ⟨_, rfl⟩
            have hga : w.heap.size + 1 < ga := by rw [← ega]; exact hS.o.lt
            have rA1 : ga < bm ∨ sm ≤ ga := .inr (by rw [← ega]; exact hm2)
            replace oq := oq.on b
            replace sq := sq.shp (shp_below b)
            replace hm2 : sm ≤ (v27.alloc (.cells #[.string ⟨#[]⟩, .bool false, .int .i64 0, .int .i64 0, .int .i64 0, .slice none 0 0, .slice none 0 0] 25)).heap.size := Nat.le_trans hm2 b.size
            replace kB := kB.on b
            have hS2 := hS.on b
            show K _ _
            refine hK _ _ hS2 ?_
            rw [ega] at kA ⊢
            clear hK K hS b ega
            generalize v27.alloc (.cells #[.string ⟨#[]⟩, .bool false, .int .i64 0, .int .i64 0, .int .i64 0, .slice none 0 0, .slice none 0 0] 25) = v30 at *
            try simp only [Act.put, List.getElem_toArray, List.getElem_cons_succ, List.getElem_cons_zero, List.setIfInBounds_toArray, List.set_cons_succ, List.set_cons_zero]
            rename Qx2 w _ _ _ => hS
            refine wpAnyH_one (i := 4) (by kernel_rfl) rfl (by rfl) (fun K hK => ?_)
            go_simp
            refine (rcopyMsg_any v30 o.m (.slice pa np pc) (HP.out.1.on hS.l) hpn).mono ?_
            rintro e v31 ⟨pp, rfl, op, b⟩
            have sp := op.pvOk (S := v31.heap.size) (Nat.le_refl _) hpn
            obtain ⟨pb, pd, h3⟩ := op.shape
            rw [NP.out] at h3
            subst h3
            replace oq := oq.on b
            replace sq := sq.shp (shp_below b)
            have hmx0 := hm2
            replace hm2 : sm ≤ v31.heap.size := Nat.le_trans hm2 b.size
            have hAl := kA.lt
            replace kA := kA.on b
            have hBl := kB.lt
            replace kB := kB.on b
            obtain ⟨bx, ebx⟩ : ∃ n, v30.heap.size = n := ⟨_, rfl⟩
            have hmx : sm ≤ bx := by rw [← ebx]; exact hmx0
            clear hmx0
            obtain ⟨sx, esx⟩ : ∃ n, v31.heap.size = n := ⟨_, rfl⟩
            have hx1 : w.heap.size + 1 < bx := by rw [← ebx]; exact hS.o.lt
            rw [ebx] at op
            rw [ebx, esx] at sp
            have hx2 : sx ≤ v31.heap.size := by rw [esx]; exact Nat.le_refl _
            have rA2 : ga < bx ∨ sx ≤ ga := .inl (by rw [← ebx]; exact hAl)
            have rB2 : gb < bx ∨ sx ≤ gb := .inl (by rw [← ebx]; exact hBl)
            have hS2 := hS.on b
            show K _ _
            refine hK _ _ hS2 ?_
            clear hK K hS b ebx esx
            unfold msgV
            try simp only [Act.put, List.getElem_toArray, List.getElem_cons_succ, List.getElem_cons_zero, List.setIfInBounds_toArray, List.set_cons_succ, List.set_cons_zero]
            rename Qx2 w _ _ _ => hS
            refine wpAnyH_one (i := 7) (by kernel_rfl) rfl (by rfl) (fun K hK => ?_)
            refine wp_store_row 25 (.tmp 5) (.tmp 44) rfl ga _ rfl rfl 25 _ kA.h (by kernel_rfl) rfl (by simp [Value.oneCell']) ?_
            have HM := kp_made hS kA kB oq op sq sp ⟨rA1, rA2⟩ ⟨rB1, rB2⟩ ⟨hm1, hx1, hga, hgb⟩ ⟨hm2, hx2⟩ hmx #[tx q.name, .bool q.dur, .int .i64 q.depth, .int .i64 q.seq, .int .i64 q.tag, .slice a1 ni c1, .slice a2 nh c2] #[tx o.m.topic, tx o.m.body, .slice pb np pd, .bool o.m.dur, .int .i64 o.m.til]
            refine hK _ _ HM.1 ?_
            clear hK K hS kA kB oq op sq sp hm1 hx1 hm2 hx2 rA1 rA2 rB1 rB2 hga hgb hmx
            obtain ⟨_, HB, HZ, HK⟩ := HM
            generalize v31.setRow ga #[tx q.name, .bool q.dur, .int .i64 q.depth, .int .i64 q.seq, .int .i64 q.tag, .slice a1 ni c1, .slice a2 nh c2] = vL at *
            try simp only [Act.put, List.getElem_toArray, List.getElem_cons_succ, List.getElem_cons_zero, List.setIfInBounds_toArray, List.set_cons_succ, List.set_cons_zero]
            refine wpAnyH_one (i := 8) (by kernel_rfl) rfl (by rfl) (fun K hK => ?_)
            refine wp_store_row 28 (.tmp 6) (.tmp 47) rfl gb _ rfl rfl 28 _ HB.h (by kernel_rfl) rfl (by simp [Value.oneCell']) ?_
            refine hK _ _ HZ ?_
            clear hK K HB HZ
            generalize vL.setRow gb #[tx o.m.topic, tx o.m.body, .slice pb np pd, .bool o.m.dur, .int .i64 o.m.til] = vM at *
            try simp only [Act.put, List.getElem_toArray, List.getElem_cons_succ, List.getElem_cons_zero, List.setIfInBounds_toArray, List.set_cons_succ, List.set_cons_zero]
            refine wpAnyH_done (by kernel_rfl) ?_ _
            go_wp2_with fail
            go_meet
            exact ⟨ga, gb, bm, sm, bx, sx, a1, c1, a2, c2, pb, pd, rfl, rfl, HK⟩
        · go_simp
          have b := (Below.refl v26.heap.size v26).alloc (Nat.le_refl _) (.cells #[.string ⟨#[]⟩, .bool false, .int .i64 0, .int .i64 0, .int .i64 0, .slice none 0 0, .slice none 0 0] 25)
          have kA := Blk.new v26 #[.string ⟨#[]⟩, .bool false, .int .i64 0, .int .i64 0, .int .i64 0, .slice none 0 0, .slice none 0 0] 25
          obtain ⟨ga, ega⟩ : ∃ n, v26.heap.size = n := ⟨_, rfl⟩
          have hga : w.heap.size + 1 < ga := by rw [← ega]; exact hS.o.lt
          replace kB := kB.on b
          have hS2 := hS.on b
          show K _ _
          refine hK _ _ hS2 ?_
          rw [ega] at kA ⊢
          clear hK K hS b ega
          generalize v26.alloc (.cells #[.string ⟨#[]⟩, .bool false, .int .i64 0, .int .i64 0, .int .i64 0, .slice none 0 0, .slice none 0 0] 25) = v32 at *
          try simp only [Act.put, List.getElem_toArray, List.getElem_cons_succ, List.getElem_cons_zero, List.setIfInBounds_toArray, List.set_cons_succ, List.set_cons_zero]
          rename Qx2 w _ _ _ => hS
          refine wpAnyH_one (i := 1) (by kernel_rfl) rfl (by rfl) (fun K hK => ?_)
          go_simp
          refine (rcopy_any v32 _ q (RQ.out.on hS.l) hsq).mono ?_
          rintro e v33 ⟨vv, rfl, oq, b⟩
          have sq := oq.spq (Nat.le_refl _) hsq
          obtain ⟨iv2, hv2, e2, oi2, oh2⟩ := oq
          obtain ⟨a1, c1, h1⟩ := oi2.rd.len
          obtain ⟨a2, c2, h2⟩ := oh2.rd.len
          rw [NQ.out.1] at h1
          rw [NQ.out.2] at h2
          subst h1 h2 e2
          have oq : OwnQ v33 v32.heap.size (queV q (.slice a1 ni c1) (.slice a2 nh c2)) q := ⟨_, _, rfl, oi2, oh2⟩
          clear oi2 oh2
          have hAl := kA.lt
          replace kA := kA.on b
          have hBl := kB.lt
          replace kB := kB.on b
          obtain ⟨bm, ebm⟩ : ∃ n, v32.heap.size = n := ⟨_, rfl⟩
          obtain ⟨sm, esm⟩ : ∃ n, v33.heap.size = n := ⟨_, rfl⟩
          have hm1 : w.heap.size + 1 < bm := by rw [← ebm]; exact hS.o.lt
          rw [ebm] at oq
          rw [ebm, esm] at sq
          have hm2 : sm ≤ v33.heap.size := by rw [esm]; exact Nat.le_refl _
          have rA1 : ga < bm ∨ sm ≤ ga := .inl (by rw [← ebm]; exact hAl)
          have rB1 : gb < bm ∨ sm ≤ gb := .inl (by rw [← ebm]; exact hBl)
          have hS2 := hS.on b
          show K _ _
          refine hK _ _ hS2 ?_
          clear hK K hS b ebm esm
          unfold queV
          try simp only [Act.put, List.getElem_toArray, List.getElem_cons_succ, List.getElem_cons_zero, List.setIfInBounds_toArray, List.set_cons_succ, List.set_cons_zero]
          rename Qx2 w _ _ _ => hS
          refine wpAnyH_one (i := 4) (by kernel_rfl) rfl (by rfl) (fun K hK => ?_)
          go_simp
          refine (rcopyMsg_any v33 o.m (.slice pa np pc) (HP.out.1.on hS.l) hpn).mono ?_
          rintro e v34 ⟨pp, rfl, op, b⟩
          have sp := op.pvOk (S := v34.heap.size) (Nat.le_refl _) hpn
          obtain ⟨pb, pd, h3⟩ := op.shape
          rw [NP.out] at h3
          subst h3
          replace oq := oq.on b
          replace sq := sq.shp (shp_below b)
          have hmx0 := hm2
          replace hm2 : sm ≤ v34.heap.size := Nat.le_trans hm2 b.size
          have hAl := kA.lt
          replace kA := kA.on b
          have hBl := kB.lt
          replace kB := kB.on b
          obtain ⟨bx, ebx⟩ : ∃ n, v33.heap.size = n := ⟨_, rfl⟩
          have hmx : sm ≤ bx := by rw [← ebx]; exact hmx0
          clear hmx0
          obtain ⟨sx, esx⟩ : ∃ n, v34.heap.size = n := ⟨_, rfl⟩
          have hx1 : w.heap.size + 1 < bx := by rw [← ebx]; exact hS.o.lt
          rw [ebx] at op
          rw [ebx, esx] at sp
          have hx2 : sx ≤ v34.heap.size := by rw [esx]; exact Nat.le_refl _
          have rA2 : ga < bx ∨ sx ≤ ga := .inl (by rw [← ebx]; exact hAl)
          have rB2 : gb < bx ∨ sx ≤ gb := .inl (by rw [← ebx]; exact hBl)
          have hS2 := hS.on b
          show K _ _
          refine hK _ _ hS2 ?_
          clear hK K hS b ebx esx
          unfold msgV
          try simp only [Act.put, List.getElem_toArray, List.getElem_cons_succ, List.getElem_cons_zero, List.setIfInBounds_toArray, List.set_cons_succ, List.set_cons_zero]
          rename Qx2 w _ _ _ => hS
          refine wpAnyH_one (i := 7) (by kernel_rfl) rfl (by rfl) (fun K hK => ?_)
          refine wp_store_row 25 (.tmp 5) (.tmp 44) rfl ga _ rfl rfl 25 _ kA.h (by kernel_rfl) rfl (by simp [Value.oneCell']) ?_
          have HM := kp_made hS kA kB oq op sq sp ⟨rA1, rA2⟩ ⟨rB1, rB2⟩ ⟨hm1, hx1, hga, hgb⟩ ⟨hm2, hx2⟩ hmx #[tx q.name, .bool q.dur, .int .i64 q.depth, .int .i64 q.seq, .int .i64 q.tag, .slice a1 ni c1, .slice a2 nh c2] #[tx o.m.topic, tx o.m.body, .slice pb np pd, .bool o.m.dur, .int .i64 o.m.til]
          refine hK _ _ HM.1 ?_
          clear hK K hS kA kB oq op sq sp hm1 hx1 hm2 hx2 rA1 rA2 rB1 rB2 hga hgb hmx
          obtain ⟨_, HB, HZ, HK⟩ := HM
          generalize v34.setRow ga #[tx q.name, .bool q.dur, .int .i64 q.depth, .int .i64 q.seq, .int .i64 q.tag, .slice a1 ni c1, .slice a2 nh c2] = vL at *
          try simp only [Act.put, List.getElem_toArray, List.getElem_cons_succ, List.getElem_cons_zero, List.setIfInBounds_toArray, List.set_cons_succ, List.set_cons_zero]
          refine wpAnyH_one (i := 8) (by kernel_rfl) rfl (by rfl) (fun K hK => ?_)
          refine wp_store_row 28 (.tmp 6) (.tmp 47) rfl gb _ rfl rfl 28 _ HB.h (by kernel_rfl) rfl (by simp [Value.oneCell']) ?_
          refine hK _ _ HZ ?_
          clear hK K HB HZ
          generalize vL.setRow gb #[tx o.m.topic, tx o.m.body, .slice pb np pd, .bool o.m.dur, .int .i64 o.m.til] = vM at *
          try simp only [Act.put, List.getElem_toArray, List.getElem_cons_succ, List.getElem_cons_zero, List.setIfInBounds_toArray, List.set_cons_succ, List.set_cons_zero]
          refine wpAnyH_done (by kernel_rfl) ?_ _
          go_wp2_with fail
          go_meet
          exact ⟨ga, gb, bm, sm, bx, sx, a1, c1, a2, c2, pb, pd, rfl, rfl, HK⟩
    case rest =>
      obtain ⟨ga, gb, bm, sm, bx, sx, a1, c1, a2, c2, pb, pd, rfl, rfl, HA⟩ := hcut
      clear S3
      have HNI : Hid (Qx2 w wc #[tx q.name, .bool q.dur, .int .i64 q.depth, .int .i64 q.seq, .int .i64 q.tag, .slice ai ni ci, .slice ah nh ch] #[.int .i64 o.kind, .int .i64 o.conn, .int .i64 o.n, .bool o.flag, tx o.m.topic, tx o.m.body, .slice pa np pc, .bool o.m.dur, .int .i64 o.m.til]) := HA.out.z
      go_wp2_with (first | (refine load30 rfl (.tmp 3) rfl _ _ rfl HNI.out.o rfl ?_) | (refine wpl_fresh rfl (.tmp 7) (.tmp 48) rfl _ _ rfl rfl (by kernel_rfl) rfl (by simp [Value.oneCell']) ?_))
      intro w4 k4 b4 s4
      have A4 : Hid (KpA w w4 q o.m.props #[tx q.name, .bool q.dur, .int .i64 q.depth, .int .i64 q.seq, .int .i64 q.tag, .slice ai ni ci, .slice ah nh ch] #[.int .i64 o.kind, .int .i64 o.conn, .int .i64 o.n, .bool o.flag, tx o.m.topic, tx o.m.body, .slice pa np pc, .bool o.m.dur, .int .i64 o.m.til] #[tx q.name, .bool q.dur, .int .i64 q.depth, .int .i64 q.seq, .int .i64 q.tag, .slice a1 ni c1, .slice a2 nh c2] #[tx o.m.topic, tx o.m.body, .slice pb np pd, .bool o.m.dur, .int .i64 o.m.til] ga gb bm sm bx sx (queV q (.slice a1 ni c1) (.slice a2 nh c2)) (.slice pb np pd)) := HA.out.on b4
      obtain ⟨gk, egk⟩ : ∃ n, wc.heap.size = n := ⟨_, rfl⟩
      have hgk : sm ≤ gk ∧ sx ≤ gk ∧ ga < gk ∧ gb < gk ∧ w.heap.size + 1 < gk := by rw [← egk]; exact ⟨HA.out.tp.1, HA.out.tp.2, HA.out.a.lt, HA.out.b.lt, HA.out.z.o.lt⟩
      rw [egk] at k4 ⊢
      clear HA HNI b4 s4 egk
      have kM := A4.out.b
      go_wp2_with (first | (refine wpl_load28 rfl (.tmp 6) rfl _ _ rfl kM rfl ?_) | (refine wpl_putAt rfl (.tmp 50) (.tmp 49) rfl gk 4 _ rfl rfl k4 (by kernel_rfl) (by simp) (by simp [Value.oneCell']) ?_))
      intro w5 k5 g5 s5
      have k5' : Blk w5 gk #[.int .i64 o.kind, .int .i64 o.conn, .int .i64 o.n, .bool o.flag, tx o.m.topic, tx o.m.body, .slice pb np pd, .bool o.m.dur, .int .i64 o.m.til] 30 := k5
      have A5 : Hid (KpA w w5 q o.m.props #[tx q.name, .bool q.dur, .int .i64 q.depth, .int .i64 q.seq, .int .i64 q.tag, .slice ai ni ci, .slice ah nh ch] #[.int .i64 o.kind, .int .i64 o.conn, .int .i64 o.n, .bool o.flag, tx o.m.topic, tx o.m.body, .slice pa np pc, .bool o.m.dur, .int .i64 o.m.til] #[tx q.name, .bool q.dur, .int .i64 q.depth, .int .i64 q.seq, .int .i64 q.tag, .slice a1 ni c1, .slice a2 nh c2] #[tx o.m.topic, tx o.m.body, .slice pb np pd, .bool o.m.dur, .int .i64 o.m.til] ga gb bm sm bx sx (queV q (.slice a1 ni c1) (.slice a2 nh c2)) (.slice pb np pd)) := A4.out.but k4 (by decide) g5 (.inr hgk.1) (.inr hgk.2.1) (by omega) (by omega) hgk.2.2.2.2
      clear A4 kM k4 k5 g5 s5
      have hsm := small_does hsq o
      have him := itm_does hsq o
      have HD : ∀ W, Below w.heap.size w W → OwnQ W bm (queV q (.slice a1 ni c1) (.slice a2 nh c2)) q → OwnP W bx (.slice pb np pd) o.m.props → _ := fun W b h1 h2 => does_ap W (hva.below b) _ q h1.rd o HK04.out.1 HK04.out.2 _ h2.rd (by omega)
      have HS : ∀ W, Below w.heap.size w W → _ := fun W b => says_own W _ q (RQ.out.on b) HF.out.1 o HK04.out.1 HK04.out.2 _ (HP.out.1.on b) HP.out.2 (by omega)
      have HO04 : Hid (0 ≤ o.kind ∧ o.kind ≤ 4) := HK04.out
      unfold opV at HD HS
      generalize doesQ q o = dq at *
      generalize doesC q o = dc at *
      generalize doesT q o = dt at *
      generalize doesI q o = di at *
      have HIM : Hid (∀ l, l = di.msg.props → l.length ≤ 2513169434916) := fun l e => by rw [e]; exact him
      clear hbl hl200 him
      have H5 := HD w5 A5.out.z.l A5.out.oq A5.out.op
      unfold queV at H5
      have kQ := A5.out.a
      go_wp2_with (first | (refine wpl_load25 rfl (.tmp 5) rfl _ _ rfl kQ rfl ?_) | (refine load30 rfl (.tmp 7) rfl _ _ rfl k5' rfl ?_))
      refine H5.mono ?_
      rintro e w6 ⟨v6, pv6, rfl, sp, oq6, op6, hps6, hsp6, b6⟩
      obtain ⟨B1, eB1⟩ : ∃ n, w5.heap.size = n := ⟨_, rfl⟩
      obtain ⟨S1, eS1⟩ : ∃ n, w6.heap.size = n := ⟨_, rfl⟩
      have A6 : Hid (KpA w w6 q o.m.props #[tx q.name, .bool q.dur, .int .i64 q.depth, .int .i64 q.seq, .int .i64 q.tag, .slice ai ni ci, .slice ah nh ch] #[.int .i64 o.kind, .int .i64 o.conn, .int .i64 o.n, .bool o.flag, tx o.m.topic, tx o.m.body, .slice pa np pc, .bool o.m.dur, .int .i64 o.m.til] #[tx q.name, .bool q.dur, .int .i64 q.depth, .int .i64 q.seq, .int .i64 q.tag, .slice a1 ni c1, .slice a2 nh c2] #[tx o.m.topic, tx o.m.body, .slice pb np pd, .bool o.m.dur, .int .i64 o.m.til] ga gb bm sm bx sx (queV q (.slice a1 ni c1) (.slice a2 nh c2)) (.slice pb np pd)) := A5.out.on b6
      have k6 := k5'.on b6
      have hB1 : sm ≤ B1 ∧ sx ≤ B1 ∧ ga < B1 ∧ gb < B1 ∧ gk < B1 ∧ w.heap.size + 1 < B1 := by rw [← eB1]; exact ⟨A5.out.tp.1, A5.out.tp.2, A5.out.a.lt, A5.out.b.lt, k5'.lt, A5.out.z.o.lt⟩
      have hBS : B1 ≤ S1 := by rw [← eB1, ← eS1]; exact b6.size
      rw [eB1] at oq6 op6 hsp6
      have SQ6 : Hid (SpQ w6 B1 S1 v6 dq) := (oq6.own hsp6).spq (by rw [eS1]; exact Nat.le_refl _) hsm
      have PX6 : Hid (PvOk w6 B1 (min sp S1) pv6) := by
        have h1 := op6.pvOk (S := S1) (by rw [eS1]; exact Nat.le_refl _) (HIM.out _ rfl)
        obtain ⟨a, n, c, e, hn, h⟩ := h1
        refine ⟨a, n, c, e, hn, ?_⟩
        rcases h with h | ⟨g, cs, h1, h2, h3, h4⟩
        · exact .inl h
        · refine .inr ⟨g, cs, h1, h2, ?_, h4⟩
          have := hps6 g (by rw [e, h1]; rfl)
          omega
      obtain ⟨iv6, hv6, rfl, oi6, oh6⟩ := oq6
      obtain ⟨ai6, ci6, rfl⟩ := oi6.len
      obtain ⟨ah6, ch6, rfl⟩ := oh6.len
      obtain ⟨pa6, pc6, rfl⟩ := op6.shape
      have OQ6 : Hid (OQs w6 B1 sp (queV dq (.slice ai6 dq.items.length ci6) (.slice ah6 dq.held.length ch6)) dq) := ⟨_, _, rfl, oi6, oh6⟩
      obtain ⟨n1, en1⟩ : ∃ n, dq.items.length = n := ⟨_, rfl⟩
      obtain ⟨n2, en2⟩ : ∃ n, dq.held.length = n := ⟨_, rfl⟩
      obtain ⟨n3, en3⟩ : ∃ n, di.msg.props.length = n := ⟨_, rfl⟩
      have NN : Hid (dq.items.length = n1 ∧ dq.held.length = n2 ∧ di.msg.props.length = n3) := ⟨en1, en2, en3⟩
      rw [en1, en2] at OQ6 SQ6 ⊢
      rw [en3] at PX6 ⊢
      have ES1 : Hid (w6.heap.size = S1) := eS1
      clear H5 A5 k5' oi6 oh6 op6 hps6 b6 eB1 en1 en2 en3 kQ eS1
      unfold queV itmV
      have Tw7 := Two.start w6
      go_wp2_with (refine wpl_put rfl (.tmp 8) (.tmp 55) rfl _ _ rfl rfl Tw7.a (by kernel_rfl) rfl (by simp [Value.oneCell']) ?_)
      intro w7 kw7 gw7 sw7
      have iw7 := Tw7.b.grown gw7 (fun e => by injection e with e; omega)
      have bw7 := Tw7.l.grown gw7 Tw7.l.size (fun k hk => by injection hk with hk; omega)
      clear Tw7 gw7 sw7
      go_wp2_with (refine wpl_put rfl (.tmp 10) (.tmp 57) rfl _ _ rfl rfl iw7 (by kernel_rfl) rfl (by simp [Value.oneCell']) ?_)
      intro w8 kw8 gw8 sw8
      have jw8 := kw7.grown gw8 (fun e => by injection e with e; omega)
      have bw8 := bw7.grown gw8 bw7.size (fun k hk => by injection hk with hk; omega)
      clear kw7 iw7 bw7 gw8 sw8
      obtain ⟨g1, eg1⟩ : ∃ n, w6.heap.size = n := ⟨_, rfl⟩
      have C8 : Hid (KpC w8 B1 S1 sp g1 dq (queV dq (.slice ai6 n1 ci6) (.slice ah6 n2 ch6)) (.slice pa6 n3 pc6) #[tx dq.name, .bool dq.dur, .int .i64 dq.depth, .int .i64 dq.seq, .int .i64 dq.tag, .slice ai6 n1 ci6, .slice ah6 n2 ch6] #[.int .i64 di.seq, .bool di.again, tx di.msg.topic, tx di.msg.body, .slice pa6 n3 pc6, .bool di.msg.dur, .int .i64 di.msg.til]) := by
        rw [eg1] at jw8 kw8
        refine ⟨jw8, kw8, ?_, PX6.out.shp (shp_below bw8).p, SQ6.out.shp (shp_below bw8), hsp6, by rw [← eg1, ES1.out]; exact Nat.le_refl _, hBS⟩
        obtain ⟨iv, hv, e, o1, o2⟩ := OQ6.out
        exact ⟨iv, hv, e, o1.keep (.of_below bw8) (.of_below bw8), o2.keep (.of_below bw8) (.of_below bw8)⟩
      have A8 : Hid (KpA w w8 q o.m.props #[tx q.name, .bool q.dur, .int .i64 q.depth, .int .i64 q.seq, .int .i64 q.tag, .slice ai ni ci, .slice ah nh ch] #[.int .i64 o.kind, .int .i64 o.conn, .int .i64 o.n, .bool o.flag, tx o.m.topic, tx o.m.body, .slice pa np pc, .bool o.m.dur, .int .i64 o.m.til] #[tx q.name, .bool q.dur, .int .i64 q.depth, .int .i64 q.seq, .int .i64 q.tag, .slice a1 ni c1, .slice a2 nh c2] #[tx o.m.topic, tx o.m.body, .slice pb np pd, .bool o.m.dur, .int .i64 o.m.til] ga gb bm sm bx sx (queV q (.slice a1 ni c1) (.slice a2 nh c2)) (.slice pb np pd)) := A6.out.on bw8
      have k8 := k6.on bw8
      rw [eg1] at kw8
      have hg1 : S1 ≤ g1 ∧ g1 + 1 < w8.heap.size := ⟨by rw [← eg1, ES1.out]; exact Nat.le_refl _, kw8.lt⟩
      rw [eg1]
      clear A6 k6 OQ6 SQ6 PX6 bw8 jw8 kw8 eg1 ES1
      have H8 := HD w8 A8.out.z.l A8.out.oq A8.out.op
      unfold queV at H8
      have kQ := A8.out.a
      go_wp2_with (first | (refine wpl_load25 rfl (.tmp 5) rfl _ _ rfl kQ rfl ?_) | (refine load30 rfl (.tmp 7) rfl _ _ rfl k8 rfl ?_))
      refine H8.mono ?_
      rintro e w9 ⟨v9, pv9, rfl, sp2, oq9, op9, _, hsp9, b9⟩
      obtain ⟨B2, eB2⟩ : ∃ n, w8.heap.size = n := ⟨_, rfl⟩
      have hB2 : g1 + 1 < B2 := by rw [← eB2]; exact hg1.2
      rw [eB2] at oq9 op9 hsp9
      have OQ9 := oq9.own hsp9
      have A9 : Hid (KpA w w9 q o.m.props #[tx q.name, .bool q.dur, .int .i64 q.depth, .int .i64 q.seq, .int .i64 q.tag, .slice ai ni ci, .slice ah nh ch] #[.int .i64 o.kind, .int .i64 o.conn, .int .i64 o.n, .bool o.flag, tx o.m.topic, tx o.m.body, .slice pa np pc, .bool o.m.dur, .int .i64 o.m.til] #[tx q.name, .bool q.dur, .int .i64 q.depth, .int .i64 q.seq, .int .i64 q.tag, .slice a1 ni c1, .slice a2 nh c2] #[tx o.m.topic, tx o.m.body, .slice pb np pd, .bool o.m.dur, .int .i64 o.m.til] ga gb bm sm bx sx (queV q (.slice a1 ni c1) (.slice a2 nh c2)) (.slice pb np pd)) := A8.out.on b9
      have C9 : Hid (KpC w9 B1 S1 sp g1 dq (queV dq (.slice ai6 n1 ci6) (.slice ah6 n2 ch6)) (.slice pa6 n3 pc6) #[tx dq.name, .bool dq.dur, .int .i64 dq.depth, .int .i64 dq.seq, .int .i64 dq.tag, .slice ai6 n1 ci6, .slice ah6 n2 ch6] #[.int .i64 di.seq, .bool di.again, tx di.msg.topic, tx di.msg.body, .slice pa6 n3 pc6, .bool di.msg.dur, .int .i64 di.msg.til]) := C8.out.on b9
      obtain ⟨iv9, hv9, rfl, oi9, oh9⟩ := OQ9
      obtain ⟨ai9, ci9, h1⟩ := oi9.rd.len
      obtain ⟨ah9, ch9, h2⟩ := oh9.rd.len
      obtain ⟨pa9, pc9, h3⟩ := op9.shape
      rw [NN.out.1] at h1
      rw [NN.out.2.1] at h2
      rw [NN.out.2.2] at h3
      subst h1 h2 h3
      have OQ9 : Hid (OwnQ w9 B2 (queV dq (.slice ai9 n1 ci9) (.slice ah9 n2 ch9)) dq ∧ OwnP w9 B2 (.slice pa9 n3 pc9) di.msg.props ∧ B2 ≤ w9.heap.size) := ⟨⟨_, _, rfl, oi9, oh9⟩, op9, by rw [← eB2]; exact b9.size⟩
      clear H8 A8 C8 k8 oi9 oh9 op9 oq9 hsp9 b9 kQ HD eB2
      unfold queV itmV
      have Tw10 := Two.start w9
      go_wp2_with (refine wpl_put rfl (.tmp 12) (.tmp 63) rfl _ _ rfl rfl Tw10.a (by kernel_rfl) rfl (by simp [Value.oneCell']) ?_)
      intro w10 kw10 gw10 sw10
      have iw10 := Tw10.b.grown gw10 (fun e => by injection e with e; omega)
      have bw10 := Tw10.l.grown gw10 Tw10.l.size (fun k hk => by injection hk with hk; omega)
      clear Tw10 gw10 sw10
      go_wp2_with (refine wpl_put rfl (.tmp 14) (.tmp 65) rfl _ _ rfl rfl iw10 (by kernel_rfl) rfl (by simp [Value.oneCell']) ?_)
      intro w11 kw11 gw11 sw11
      have jw11 := kw10.grown gw11 (fun e => by injection e with e; omega)
      have bw11 := bw10.grown gw11 bw10.size (fun k hk => by injection hk with hk; omega)
      clear kw10 iw10 bw10 gw11 sw11
      obtain ⟨g2, eg2⟩ : ∃ n, w9.heap.size = n := ⟨_, rfl⟩
      rw [eg2] at jw11 kw11
      have D11 : Hid (KpB w11 B2 g2 dq di (queV dq (.slice ai9 n1 ci9) (.slice ah9 n2 ch9)) (.slice pa9 n3 pc9) #[tx dq.name, .bool dq.dur, .int .i64 dq.depth, .int .i64 dq.seq, .int .i64 dq.tag, .slice ai9 n1 ci9, .slice ah9 n2 ch9] #[.int .i64 di.seq, .bool di.again, tx di.msg.topic, tx di.msg.body, .slice pa9 n3 pc9, .bool di.msg.dur, .int .i64 di.msg.til]) := ⟨jw11, kw11, OQ9.out.1.on bw11, OQ9.out.2.1.keep (.of_below bw11), by rw [← eg2]; exact OQ9.out.2.2⟩
      have A11 : Hid (KpA w w11 q o.m.props #[tx q.name, .bool q.dur, .int .i64 q.depth, .int .i64 q.seq, .int .i64 q.tag, .slice ai ni ci, .slice ah nh ch] #[.int .i64 o.kind, .int .i64 o.conn, .int .i64 o.n, .bool o.flag, tx o.m.topic, tx o.m.body, .slice pa np pc, .bool o.m.dur, .int .i64 o.m.til] #[tx q.name, .bool q.dur, .int .i64 q.depth, .int .i64 q.seq, .int .i64 q.tag, .slice a1 ni c1, .slice a2 nh c2] #[tx o.m.topic, tx o.m.body, .slice pb np pd, .bool o.m.dur, .int .i64 o.m.til] ga gb bm sm bx sx (queV q (.slice a1 ni c1) (.slice a2 nh c2)) (.slice pb np pd)) := A9.out.on bw11
      have C11 : Hid (KpC w11 B1 S1 sp g1 dq (queV dq (.slice ai6 n1 ci6) (.slice ah6 n2 ch6)) (.slice pa6 n3 pc6) #[tx dq.name, .bool dq.dur, .int .i64 dq.depth, .int .i64 dq.seq, .int .i64 dq.tag, .slice ai6 n1 ci6, .slice ah6 n2 ch6] #[.int .i64 di.seq, .bool di.again, tx di.msg.topic, tx di.msg.body, .slice pa6 n3 pc6, .bool di.msg.dur, .int .i64 di.msg.til]) := C9.out.on bw11
      rw [eg2]
      have hg2 : B2 ≤ g2 := D11.out.lt
      clear A9 C9 OQ9 bw11 jw11 kw11 eg2
      have HSM := same_same w11 _ _ q A11.out.oq.rd (RQ.out.on A11.out.z.l) hsq
      unfold queV at HSM
      have kQ := A11.out.a
      have kq := A11.out.z.q
      go_wp2_with (first | (refine wpl_load25 rfl (.tmp 5) rfl _ _ rfl kQ rfl ?_) | (refine wpl_load25 rfl (.tmp 2) rfl _ _ rfl kq rfl ?_))
      refine HSM.mono ?_
      rintro e w12 ⟨rfl, b12⟩
      have A12 : Hid (KpA w w12 q o.m.props #[tx q.name, .bool q.dur, .int .i64 q.depth, .int .i64 q.seq, .int .i64 q.tag, .slice ai ni ci, .slice ah nh ch] #[.int .i64 o.kind, .int .i64 o.conn, .int .i64 o.n, .bool o.flag, tx o.m.topic, tx o.m.body, .slice pa np pc, .bool o.m.dur, .int .i64 o.m.til] #[tx q.name, .bool q.dur, .int .i64 q.depth, .int .i64 q.seq, .int .i64 q.tag, .slice a1 ni c1, .slice a2 nh c2] #[tx o.m.topic, tx o.m.body, .slice pb np pd, .bool o.m.dur, .int .i64 o.m.til] ga gb bm sm bx sx (queV q (.slice a1 ni c1) (.slice a2 nh c2)) (.slice pb np pd)) := A11.out.on b12
      have C12 : Hid (KpC w12 B1 S1 sp g1 dq (queV dq (.slice ai6 n1 ci6) (.slice ah6 n2 ch6)) (.slice pa6 n3 pc6) #[tx dq.name, .bool dq.dur, .int .i64 dq.depth, .int .i64 dq.seq, .int .i64 dq.tag, .slice ai6 n1 ci6, .slice ah6 n2 ch6] #[.int .i64 di.seq, .bool di.again, tx di.msg.topic, tx di.msg.body, .slice pa6 n3 pc6, .bool di.msg.dur, .int .i64 di.msg.til]) := C11.out.on b12
      have D12 : Hid (KpB w12 B2 g2 dq di (queV dq (.slice ai9 n1 ci9) (.slice ah9 n2 ch9)) (.slice pa9 n3 pc9) #[tx dq.name, .bool dq.dur, .int .i64 dq.depth, .int .i64 dq.seq, .int .i64 dq.tag, .slice ai9 n1 ci9, .slice ah9 n2 ch9] #[.int .i64 di.seq, .bool di.again, tx di.msg.topic, tx di.msg.body, .slice pa9 n3 pc9, .bool di.msg.dur, .int .i64 di.msg.til]) := D11.out.on b12
      clear HSM A11 C11 D11 b12 kQ kq
      have HMM := sameMsg_same w12 o.m _ _ A12.out.op.rd (HP.out.1.on A12.out.z.l) (by have := HPN.out _ rfl; omega)
      unfold msgV at HMM
      obtain ⟨m0, m1, m2, m3, m4⟩ := A12.out.b.c5
      have o4 : w12.cell? ⟨w.heap.size + 1, 4, none⟩ = some (tx o.m.topic) := A12.out.z.o.cell 4
      have o5 : w12.cell? ⟨w.heap.size + 1, 5, none⟩ = some (tx o.m.body) := A12.out.z.o.cell 5
      have o6 : w12.cell? ⟨w.heap.size + 1, 6, none⟩ = some (.slice pa np pc) := A12.out.z.o.cell 6
      have o7 : w12.cell? ⟨w.heap.size + 1, 7, none⟩ = some (.bool o.m.dur) := A12.out.z.o.cell 7
      have o8 : w12.cell? ⟨w.heap.size + 1, 8, none⟩ = some (.int .i64 o.m.til) := A12.out.z.o.cell 8
      go_wp2_with fail
      refine HMM.mono ?_
      rintro e w13 ⟨rfl, b13⟩
      have E13 : Hid (KpE w w13 q #[tx q.name, .bool q.dur, .int .i64 q.depth, .int .i64 q.seq, .int .i64 q.tag, .slice ai ni ci, .slice ah nh ch] #[.int .i64 o.kind, .int .i64 o.conn, .int .i64 o.n, .bool o.flag, tx o.m.topic, tx o.m.body, .slice pa np pc, .bool o.m.dur, .int .i64 o.m.til] #[tx q.name, .bool q.dur, .int .i64 q.depth, .int .i64 q.seq, .int .i64 q.tag, .slice a1 ni c1, .slice a2 nh c2] #[tx o.m.topic, tx o.m.body, .slice pb np pd, .bool o.m.dur, .int .i64 o.m.til] ga gb bm sm bx sx (queV q (.slice a1 ni c1) (.slice a2 nh c2)) (.slice pb np pd)) := (show KpE w w12 q #[tx q.name, .bool q.dur, .int .i64 q.depth, .int .i64 q.seq, .int .i64 q.tag, .slice ai ni ci, .slice ah nh ch] #[.int .i64 o.kind, .int .i64 o.conn, .int .i64 o.n, .bool o.flag, tx o.m.topic, tx o.m.body, .slice pa np pc, .bool o.m.dur, .int .i64 o.m.til] #[tx q.name, .bool q.dur, .int .i64 q.depth, .int .i64 q.seq, .int .i64 q.tag, .slice a1 ni c1, .slice a2 nh c2] #[tx o.m.topic, tx o.m.body, .slice pb np pd, .bool o.m.dur, .int .i64 o.m.til] ga gb bm sm bx sx (queV q (.slice a1 ni c1) (.slice a2 nh c2)) (.slice pb np pd) from ⟨A12.out.z, A12.out.a, A12.out.b, A12.out.sq, A12.out.sp⟩).on b13
      have F13 : Hid ((ga < bm ∨ sm ≤ ga) ∧ (ga < bx ∨ sx ≤ ga) ∧ (gb < bm ∨ sm ≤ gb) ∧ (gb < bx ∨ sx ≤ gb) ∧ w.heap.size + 1 < bm ∧ w.heap.size + 1 < bx ∧ w.heap.size + 1 < ga ∧ w.heap.size + 1 < gb ∧ sm ≤ bx) := ⟨A12.out.ra.1, A12.out.ra.2, A12.out.rb.1, A12.out.rb.2, A12.out.bl.1, A12.out.bl.2.1, A12.out.bl.2.2.1, A12.out.bl.2.2.2, A12.out.mx⟩
      have C13 : Hid (KpC w13 B1 S1 sp g1 dq (queV dq (.slice ai6 n1 ci6) (.slice ah6 n2 ch6)) (.slice pa6 n3 pc6) #[tx dq.name, .bool dq.dur, .int .i64 dq.depth, .int .i64 dq.seq, .int .i64 dq.tag, .slice ai6 n1 ci6, .slice ah6 n2 ch6] #[.int .i64 di.seq, .bool di.again, tx di.msg.topic, tx di.msg.body, .slice pa6 n3 pc6, .bool di.msg.dur, .int .i64 di.msg.til]) := C12.out.on b13
      have D13 : Hid (KpB w13 B2 g2 dq di (queV dq (.slice ai9 n1 ci9) (.slice ah9 n2 ch9)) (.slice pa9 n3 pc9) #[tx dq.name, .bool dq.dur, .int .i64 dq.depth, .int .i64 dq.seq, .int .i64 dq.tag, .slice ai9 n1 ci9, .slice ah9 n2 ch9] #[.int .i64 di.seq, .bool di.again, tx di.msg.topic, tx di.msg.body, .slice pa9 n3 pc9, .bool di.msg.dur, .int .i64 di.msg.til]) := D12.out.on b13
      clear HMM A12 C12 D12 b13 m0 m1 m2 m3 m4 o4 o5 o6 o7 o8
      have x4 : w13.cell? ⟨g1 + 1, 4, none⟩ = some (.slice pa6 n3 pc6) := C13.out.kx.cell 4
      obtain ⟨px, pn', pcx, epx, hpnx, _⟩ := C13.out.px.shape
      injection epx with e1 e2 e3
      subst e1 e2 e3
      go_wp2_with fail
      clear x4
      go_loopg [82] n3 (fun gg s82 wr => ∃ j : Nat, j ≤ n3 ∧ n3 - j ≤ gg ∧ s82 = .int .i64 j ∧ Hid (KpX B1 (min sp S1) w13 wr))
      case atStart => exact ⟨0, Nat.zero_le _, by omega, rfl, .refl _ _ _⟩
      case round =>
        obtain ⟨j, hj, hg0, rfl, HX⟩ := hrel
        obtain ⟨wu, hwu⟩ : ∃ W, W = wr := ⟨_, rfl⟩
        subst hwu
        have CU : Hid (KpC wu B1 S1 sp g1 dq (queV dq (.slice ai6 n1 ci6) (.slice ah6 n2 ch6)) (.slice pa6 n3 pc6) #[tx dq.name, .bool dq.dur, .int .i64 dq.depth, .int .i64 dq.seq, .int .i64 dq.tag, .slice ai6 n1 ci6, .slice ah6 n2 ch6] #[.int .i64 di.seq, .bool di.again, tx di.msg.topic, tx di.msg.body, .slice pa6 n3 pc6, .bool di.msg.dur, .int .i64 di.msg.til]) := C13.out.wrote HX.out
        by_cases hjl : j < n3
        · have hjz : (j : Int) < (n3 : Int) := by omega
          obtain ⟨ax, nx, cx, epx, _, hblk⟩ := CU.out.px.shape
          injection epx with e1 e2 e3
          subst e1 e2 e3
          obtain ⟨gp, cs, hap, hB3, hS3, kp, hps⟩ := hblk (by omega)
          subst hap
          have hfit : j * 5 + 5 ≤ cs.size := by omega
          have x4 : wu.cell? ⟨g1 + 1, 4, none⟩ = some (.slice (some ⟨gp, 0, none⟩) n3 pc6) := CU.out.kx.cell 4
          clear hblk CU
          go_wp2_with (refine wpl_putAt rfl (.tmp 90) (.tmp 89) rfl gp (j * 5) _ rfl rfl kp (by kernel_rfl) (by simpa using hfit) (by simp [Value.oneCell']) ?_)
          intro w8 k8 g8 s8
          have X8 : KpX B1 (min sp S1) w13 w8 := HX.out.step kp k8 (by simp; omega) g8 hB3 hS3
          clear HX x4 kp k8 g8 s8
          go_wp2_with fail
          go_roundg (n3 - (j + 1))
          case measure => omega
          case rel => exact ⟨j + 1, by omega, by omega, by go_num, X8⟩
        · have hjz : ¬ (j : Int) < (n3 : Int) := by omega
          have EU : Hid (KpE w wu q #[tx q.name, .bool q.dur, .int .i64 q.depth, .int .i64 q.seq, .int .i64 q.tag, .slice ai ni ci, .slice ah nh ch] #[.int .i64 o.kind, .int .i64 o.conn, .int .i64 o.n, .bool o.flag, tx o.m.topic, tx o.m.body, .slice pa np pc, .bool o.m.dur, .int .i64 o.m.til] #[tx q.name, .bool q.dur, .int .i64 q.depth, .int .i64 q.seq, .int .i64 q.tag, .slice a1 ni c1, .slice a2 nh c2] #[tx o.m.topic, tx o.m.body, .slice pb np pd, .bool o.m.dur, .int .i64 o.m.til] ga gb bm sm bx sx (queV q (.slice a1 ni c1) (.slice a2 nh c2)) (.slice pb np pd)) := E13.out.rng HX.out.r hB1.1 hB1.2.1 hB1.2.2.1 hB1.2.2.2.1 hB1.2.2.2.2.2
          have DU : Hid (KpB wu B2 g2 dq di (queV dq (.slice ai9 n1 ci9) (.slice ah9 n2 ch9)) (.slice pa9 n3 pc9) #[tx dq.name, .bool dq.dur, .int .i64 dq.depth, .int .i64 dq.seq, .int .i64 dq.tag, .slice ai9 n1 ci9, .slice ah9 n2 ch9] #[.int .i64 di.seq, .bool di.again, tx di.msg.topic, tx di.msg.body, .slice pa9 n3 pc9, .bool di.msg.dur, .int .i64 di.msg.til]) := D13.out.rng HX.out.r (by have := Nat.min_le_right sp S1; omega)
          clear HX E13 C13 D13
          have HSY := HS wu EU.out.z.l
          have kq := EU.out.z.q
          have ko := EU.out.z.o
          go_wp2_with (first | (refine wpl_load25 rfl (.tmp 2) rfl _ _ rfl kq rfl ?_) | (refine load30 rfl (.tmp 3) rfl _ _ rfl ko rfl ?_))
          refine HSY.mono ?_
          rintro e w14 ⟨v14, pv14, rfl, OQW, op14, b14⟩
          obtain ⟨B3, eB3⟩ : ∃ n, wu.heap.size = n := ⟨_, rfl⟩
          rw [eB3] at OQW
          have hB3 : g2 + 1 < B3 := by rw [← eB3]; exact DU.out.kx.lt
          rw [eB3] at op14
          have E14 : Hid (KpE w w14 q #[tx q.name, .bool q.dur, .int .i64 q.depth, .int .i64 q.seq, .int .i64 q.tag, .slice ai ni ci, .slice ah nh ch] #[.int .i64 o.kind, .int .i64 o.conn, .int .i64 o.n, .bool o.flag, tx o.m.topic, tx o.m.body, .slice pa np pc, .bool o.m.dur, .int .i64 o.m.til] #[tx q.name, .bool q.dur, .int .i64 q.depth, .int .i64 q.seq, .int .i64 q.tag, .slice a1 ni c1, .slice a2 nh c2] #[tx o.m.topic, tx o.m.body, .slice pb np pd, .bool o.m.dur, .int .i64 o.m.til] ga gb bm sm bx sx (queV q (.slice a1 ni c1) (.slice a2 nh c2)) (.slice pb np pd)) := EU.out.on b14
          have C14 : Hid (KpC w14 B1 S1 sp g1 dq (queV dq (.slice ai6 n1 ci6) (.slice ah6 n2 ch6)) (.slice pa6 n3 pc6) #[tx dq.name, .bool dq.dur, .int .i64 dq.depth, .int .i64 dq.seq, .int .i64 dq.tag, .slice ai6 n1 ci6, .slice ah6 n2 ch6] #[.int .i64 di.seq, .bool di.again, tx di.msg.topic, tx di.msg.body, .slice pa6 n3 pc6, .bool di.msg.dur, .int .i64 di.msg.til]) := CU.out.on b14
          have D14 : Hid (KpB w14 B2 g2 dq di (queV dq (.slice ai9 n1 ci9) (.slice ah9 n2 ch9)) (.slice pa9 n3 pc9) #[tx dq.name, .bool dq.dur, .int .i64 dq.depth, .int .i64 dq.seq, .int .i64 dq.tag, .slice ai9 n1 ci9, .slice ah9 n2 ch9] #[.int .i64 di.seq, .bool di.again, tx di.msg.topic, tx di.msg.body, .slice pa9 n3 pc9, .bool di.msg.dur, .int .i64 di.msg.til]) := DU.out.on b14
          obtain ⟨ivw, hvw, rfl, oiw, ohw⟩ := OQW
          obtain ⟨aiw, ciw, h1⟩ := oiw.rd.len
          obtain ⟨ahw, chw, h2⟩ := ohw.rd.len
          obtain ⟨paw, pcw, h3⟩ := op14.shape
          rw [NN.out.1] at h1
          rw [NN.out.2.1] at h2
          rw [NN.out.2.2] at h3
          subst h1 h2 h3
          have OQ14 : Hid (OwnQ w14 B3 (queV dq (.slice aiw n1 ciw) (.slice ahw n2 chw)) dq ∧ OwnP w14 B3 (.slice paw n3 pcw) di.msg.props ∧ B3 ≤ w14.heap.size) := ⟨⟨_, _, rfl, oiw, ohw⟩, op14, by rw [← eB3]; exact b14.size⟩
          clear HSY HS EU CU DU oiw ohw op14 b14 kq ko eB3
          unfold queV itmV
          have Tw15 := Two.start w14
          go_wp2_with (refine wpl_put rfl (.tmp 17) (.tmp 96) rfl _ _ rfl rfl Tw15.a (by kernel_rfl) rfl (by simp [Value.oneCell']) ?_)
          intro w15 kw15 gw15 sw15
          have iw15 := Tw15.b.grown gw15 (fun e => by injection e with e; omega)
          have bw15 := Tw15.l.grown gw15 Tw15.l.size (fun k hk => by injection hk with hk; omega)
          clear Tw15 gw15 sw15
          go_wp2_with (refine wpl_put rfl (.tmp 19) (.tmp 98) rfl _ _ rfl rfl iw15 (by kernel_rfl) rfl (by simp [Value.oneCell']) ?_)
          intro w16 kw16 gw16 sw16
          have jw16 := kw15.grown gw16 (fun e => by injection e with e; omega)
          have bw16 := bw15.grown gw16 bw15.size (fun k hk => by injection hk with hk; omega)
          clear kw15 iw15 bw15 gw16 sw16
          obtain ⟨g3, eg3⟩ : ∃ n, w14.heap.size = n := ⟨_, rfl⟩
          rw [eg3] at jw16 kw16
          have G16 : Hid (KpB w16 B3 g3 dq di (queV dq (.slice aiw n1 ciw) (.slice ahw n2 chw)) (.slice paw n3 pcw) #[tx dq.name, .bool dq.dur, .int .i64 dq.depth, .int .i64 dq.seq, .int .i64 dq.tag, .slice aiw n1 ciw, .slice ahw n2 chw] #[.int .i64 di.seq, .bool di.again, tx di.msg.topic, tx di.msg.body, .slice paw n3 pcw, .bool di.msg.dur, .int .i64 di.msg.til]) := ⟨jw16, kw16, OQ14.out.1.on bw16, OQ14.out.2.1.keep (.of_below bw16), by rw [← eg3]; exact OQ14.out.2.2⟩
          have E16 : Hid (KpE w w16 q #[tx q.name, .bool q.dur, .int .i64 q.depth, .int .i64 q.seq, .int .i64 q.tag, .slice ai ni ci, .slice ah nh ch] #[.int .i64 o.kind, .int .i64 o.conn, .int .i64 o.n, .bool o.flag, tx o.m.topic, tx o.m.body, .slice pa np pc, .bool o.m.dur, .int .i64 o.m.til] #[tx q.name, .bool q.dur, .int .i64 q.depth, .int .i64 q.seq, .int .i64 q.tag, .slice a1 ni c1, .slice a2 nh c2] #[tx o.m.topic, tx o.m.body, .slice pb np pd, .bool o.m.dur, .int .i64 o.m.til] ga gb bm sm bx sx (queV q (.slice a1 ni c1) (.slice a2 nh c2)) (.slice pb np pd)) := E14.out.on bw16
          have C16 : Hid (KpC w16 B1 S1 sp g1 dq (queV dq (.slice ai6 n1 ci6) (.slice ah6 n2 ch6)) (.slice pa6 n3 pc6) #[tx dq.name, .bool dq.dur, .int .i64 dq.depth, .int .i64 dq.seq, .int .i64 dq.tag, .slice ai6 n1 ci6, .slice ah6 n2 ch6] #[.int .i64 di.seq, .bool di.again, tx di.msg.topic, tx di.msg.body, .slice pa6 n3 pc6, .bool di.msg.dur, .int .i64 di.msg.til]) := C14.out.on bw16
          have D16 : Hid (KpB w16 B2 g2 dq di (queV dq (.slice ai9 n1 ci9) (.slice ah9 n2 ch9)) (.slice pa9 n3 pc9) #[tx dq.name, .bool dq.dur, .int .i64 dq.depth, .int .i64 dq.seq, .int .i64 dq.tag, .slice ai9 n1 ci9, .slice ah9 n2 ch9] #[.int .i64 di.seq, .bool di.again, tx di.msg.topic, tx di.msg.body, .slice pa9 n3 pc9, .bool di.msg.dur, .int .i64 di.msg.til]) := D14.out.on bw16
          rw [eg3]
          have hg3 : B3 ≤ g3 := G16.out.lt
          clear E14 C14 D14 OQ14 bw16 jw16 kw16 eg3
          have HSA := same_same w16 _ _ dq (C16.out.oq.own C16.out.lt.1).rd G16.out.oq.rd hsm
          unfold queV at HSA
          have kA := C16.out.ka
          have kW := G16.out.ka
          go_wp2_with (first | (refine wpl_load25 rfl (.tmp 8) rfl _ _ rfl kA rfl ?_) | (refine wpl_load25 rfl (.tmp 17) rfl _ _ rfl kW rfl ?_))
          refine HSA.mono ?_
          rintro e w17 ⟨rfl, b17⟩
          have E17 : Hid (KpE w w17 q #[tx q.name, .bool q.dur, .int .i64 q.depth, .int .i64 q.seq, .int .i64 q.tag, .slice ai ni ci, .slice ah nh ch] #[.int .i64 o.kind, .int .i64 o.conn, .int .i64 o.n, .bool o.flag, tx o.m.topic, tx o.m.body, .slice pa np pc, .bool o.m.dur, .int .i64 o.m.til] #[tx q.name, .bool q.dur, .int .i64 q.depth, .int .i64 q.seq, .int .i64 q.tag, .slice a1 ni c1, .slice a2 nh c2] #[tx o.m.topic, tx o.m.body, .slice pb np pd, .bool o.m.dur, .int .i64 o.m.til] ga gb bm sm bx sx (queV q (.slice a1 ni c1) (.slice a2 nh c2)) (.slice pb np pd)) := E16.out.on b17
          have C17 : Hid (KpC w17 B1 S1 sp g1 dq (queV dq (.slice ai6 n1 ci6) (.slice ah6 n2 ch6)) (.slice pa6 n3 pc6) #[tx dq.name, .bool dq.dur, .int .i64 dq.depth, .int .i64 dq.seq, .int .i64 dq.tag, .slice ai6 n1 ci6, .slice ah6 n2 ch6] #[.int .i64 di.seq, .bool di.again, tx di.msg.topic, tx di.msg.body, .slice pa6 n3 pc6, .bool di.msg.dur, .int .i64 di.msg.til]) := C16.out.on b17
          have D17 : Hid (KpB w17 B2 g2 dq di (queV dq (.slice ai9 n1 ci9) (.slice ah9 n2 ch9)) (.slice pa9 n3 pc9) #[tx dq.name, .bool dq.dur, .int .i64 dq.depth, .int .i64 dq.seq, .int .i64 dq.tag, .slice ai9 n1 ci9, .slice ah9 n2 ch9] #[.int .i64 di.seq, .bool di.again, tx di.msg.topic, tx di.msg.body, .slice pa9 n3 pc9, .bool di.msg.dur, .int .i64 di.msg.til]) := D16.out.on b17
          have G17 : Hid (KpB w17 B3 g3 dq di (queV dq (.slice aiw n1 ciw) (.slice ahw n2 chw)) (.slice paw n3 pcw) #[tx dq.name, .bool dq.dur, .int .i64 dq.depth, .int .i64 dq.seq, .int .i64 dq.tag, .slice aiw n1 ciw, .slice ahw n2 chw] #[.int .i64 di.seq, .bool di.again, tx di.msg.topic, tx di.msg.body, .slice paw n3 pcw, .bool di.msg.dur, .int .i64 di.msg.til]) := G16.out.on b17
          clear HSA E16 C16 D16 G16 b17 kA kW
          have HP1 := spoil_any w17 B1 S1 (by have := C17.out.lt; have := C17.out.ka.lt; omega) _ dq C17.out.sq
          unfold queV at HP1
          have kA := C17.out.ka
          go_wp2_with (refine wpl_load25 rfl (.tmp 8) rfl _ _ rfl kA rfl ?_)
          refine HP1.mono ?_
          rintro e w18 ⟨⟨r18, rfl⟩, r18'⟩
          have E18 : Hid (KpE w w18 q #[tx q.name, .bool q.dur, .int .i64 q.depth, .int .i64 q.seq, .int .i64 q.tag, .slice ai ni ci, .slice ah nh ch] #[.int .i64 o.kind, .int .i64 o.conn, .int .i64 o.n, .bool o.flag, tx o.m.topic, tx o.m.body, .slice pa np pc, .bool o.m.dur, .int .i64 o.m.til] #[tx q.name, .bool q.dur, .int .i64 q.depth, .int .i64 q.seq, .int .i64 q.tag, .slice a1 ni c1, .slice a2 nh c2] #[tx o.m.topic, tx o.m.body, .slice pb np pd, .bool o.m.dur, .int .i64 o.m.til] ga gb bm sm bx sx (queV q (.slice a1 ni c1) (.slice a2 nh c2)) (.slice pb np pd)) := E17.out.rng r18' hB1.1 hB1.2.1 hB1.2.2.1 hB1.2.2.2.1 hB1.2.2.2.2.2
          have D18 : Hid (KpB w18 B2 g2 dq di (queV dq (.slice ai9 n1 ci9) (.slice ah9 n2 ch9)) (.slice pa9 n3 pc9) #[tx dq.name, .bool dq.dur, .int .i64 dq.depth, .int .i64 dq.seq, .int .i64 dq.tag, .slice ai9 n1 ci9, .slice ah9 n2 ch9] #[.int .i64 di.seq, .bool di.again, tx di.msg.topic, tx di.msg.body, .slice pa9 n3 pc9, .bool di.msg.dur, .int .i64 di.msg.til]) := D17.out.rng r18' (by omega)
          have G18 : Hid (KpB w18 B3 g3 dq di (queV dq (.slice aiw n1 ciw) (.slice ahw n2 chw)) (.slice paw n3 pcw) #[tx dq.name, .bool dq.dur, .int .i64 dq.depth, .int .i64 dq.seq, .int .i64 dq.tag, .slice aiw n1 ciw, .slice ahw n2 chw] #[.int .i64 di.seq, .bool di.again, tx di.msg.topic, tx di.msg.body, .slice paw n3 pcw, .bool di.msg.dur, .int .i64 di.msg.til]) := G17.out.rng r18' (by omega)
          clear HP1 E17 C17 D17 G17 r18' kA
          have HP2 := spoil_any w18 bm sm (by have := hB1.1; have := D18.out.ka.lt; omega) _ q E18.out.sq
          unfold queV at HP2
          have kQ := E18.out.a
          go_wp2_with (refine wpl_load25 rfl (.tmp 5) rfl _ _ rfl kQ rfl ?_)
          refine HP2.mono ?_
          rintro e w19 ⟨⟨r19, rfl⟩, r19'⟩
          have D19 : Hid (KpB w19 B2 g2 dq di (queV dq (.slice ai9 n1 ci9) (.slice ah9 n2 ch9)) (.slice pa9 n3 pc9) #[tx dq.name, .bool dq.dur, .int .i64 dq.depth, .int .i64 dq.seq, .int .i64 dq.tag, .slice ai9 n1 ci9, .slice ah9 n2 ch9] #[.int .i64 di.seq, .bool di.again, tx di.msg.topic, tx di.msg.body, .slice pa9 n3 pc9, .bool di.msg.dur, .int .i64 di.msg.til]) := D18.out.rng r19' (by have := hB1.1; omega)
          have G19 : Hid (KpB w19 B3 g3 dq di (queV dq (.slice aiw n1 ciw) (.slice ahw n2 chw)) (.slice paw n3 pcw) #[tx dq.name, .bool dq.dur, .int .i64 dq.depth, .int .i64 dq.seq, .int .i64 dq.tag, .slice aiw n1 ciw, .slice ahw n2 chw] #[.int .i64 di.seq, .bool di.again, tx di.msg.topic, tx di.msg.body, .slice paw n3 pcw, .bool di.msg.dur, .int .i64 di.msg.til]) := G18.out.rng r19' (by have := hB1.1; omega)
          have kX := r19'.blk E18.out.b F13.out.2.2.1
          have pX : PvOk w19 bx sx (.slice pb np pd) := E18.out.sp.shp (shp_rng r19' (.inr F13.out.2.2.2.2.2.2.2.2)).p
          have L19 : Hid (Below w.heap.size w w19) := r19'.below E18.out.z.l (by have := F13.out.2.2.2.2.1; omega) E18.out.z.l.size
          clear HP2 E18 D18 G18 r19' kQ
          have PX19 : Hid (PvOk w19 bx sx (.slice pb np pd) ∧ Blk w19 gb #[tx o.m.topic, tx o.m.body, .slice pb np pd, .bool o.m.dur, .int .i64 o.m.til] 28) := ⟨pX, kX⟩
          have x2 : w19.cell? ⟨gb, 2, none⟩ = some (.slice pb np pd) := kX.cell 2
          clear pX kX
          go_wp2_with fail
          clear x2
          go_loopg [111] np (fun gg s111 wr => ∃ j : Nat, j ≤ np ∧ np - j ≤ gg ∧ s111 = .int .i64 j ∧ Hid (KpX bx sx w19 wr))
          case atStart => exact ⟨0, Nat.zero_le _, by omega, rfl, .refl _ _ _⟩
          case round =>
            obtain ⟨j, hj, hg0, rfl, HX⟩ := hrel
            obtain ⟨wv, hwv⟩ : ∃ W, W = wr := ⟨_, rfl⟩
            subst hwv
            by_cases hjl : j < np
            · have hjz : (j : Int) < (np : Int) := by omega
              have PV : PvOk wv bx sx (.slice pb np pd) := PX19.out.1.shp (fun g cs _ _ kb => HX.out.p g cs kb)
              have kX := PX19.out.2.kt (HX.out.t 28 (by decide))
              obtain ⟨ax, nx, cx, epx, _, hblk⟩ := PV.shape
              injection epx with e1 e2 e3
              subst e1 e2 e3
              obtain ⟨gp, cs, hap, hB4, hS4, kp, hps⟩ := hblk (by omega)
              subst hap
              have hfit : j * 5 + 5 ≤ cs.size := by omega
              have x2 : wv.cell? ⟨gb, 2, none⟩ = some (.slice (some ⟨gp, 0, none⟩) np pd) := kX.cell 2
              clear hblk PV kX
              go_wp2_with (refine wpl_putAt rfl (.tmp 118) (.tmp 117) rfl gp (j * 5) _ rfl rfl kp (by kernel_rfl) (by simpa using hfit) (by simp [Value.oneCell']) ?_)
              intro w8 k8 g8 s8
              have X8 : KpX bx sx w19 w8 := HX.out.step kp k8 (by simp; omega) g8 hB4 hS4
              clear HX x2 kp k8 g8 s8
              go_wp2_with fail
              go_roundg (np - (j + 1))
              case measure => omega
              case rel => exact ⟨j + 1, by omega, by omega, by go_num, X8⟩
            · have hjz : ¬ (j : Int) < (np : Int) := by omega
              have D20 : Hid (KpB wv B2 g2 dq di (queV dq (.slice ai9 n1 ci9) (.slice ah9 n2 ch9)) (.slice pa9 n3 pc9) #[tx dq.name, .bool dq.dur, .int .i64 dq.depth, .int .i64 dq.seq, .int .i64 dq.tag, .slice ai9 n1 ci9, .slice ah9 n2 ch9] #[.int .i64 di.seq, .bool di.again, tx di.msg.topic, tx di.msg.body, .slice pa9 n3 pc9, .bool di.msg.dur, .int .i64 di.msg.til]) := D19.out.rng HX.out.r (by have := hB1.2.1; omega)
              have G20 : Hid (KpB wv B3 g3 dq di (queV dq (.slice aiw n1 ciw) (.slice ahw n2 chw)) (.slice paw n3 pcw) #[tx dq.name, .bool dq.dur, .int .i64 dq.depth, .int .i64 dq.seq, .int .i64 dq.tag, .slice aiw n1 ciw, .slice ahw n2 chw] #[.int .i64 di.seq, .bool di.again, tx di.msg.topic, tx di.msg.body, .slice paw n3 pcw, .bool di.msg.dur, .int .i64 di.msg.til]) := G19.out.rng HX.out.r (by have := hB1.2.1; omega)
              have L20 : Hid (Below w.heap.size w wv) := HX.out.r.below L19.out (by have := F13.out.2.2.2.2.2.1; omega) L19.out.size
              clear HX PX19 D19 G19 L19
              have HSB := same_same wv _ _ dq D20.out.oq.rd G20.out.oq.rd hsm
              unfold queV at HSB
              have kB := D20.out.ka
              have kW := G20.out.ka
              go_wp2_with (first | (refine wpl_load25 rfl (.tmp 12) rfl _ _ rfl kB rfl ?_) | (refine wpl_load25 rfl (.tmp 17) rfl _ _ rfl kW rfl ?_))
              refine HSB.mono ?_
              rintro e w21 ⟨rfl, b21⟩
              have HIT := sameItem_same w21 di _ _ (D20.out.op.rd.on b21) (G20.out.op.rd.on b21) (by have := HIM.out _ rfl; omega)
              unfold itmV at HIT
              obtain ⟨y0, y1, y2, y3, y4, y5, y6⟩ := (D20.out.kx.on b21).c7
              obtain ⟨z0, z1, z2, z3, z4, z5, z6⟩ := (G20.out.kx.on b21).c7
              have L21 : Hid (Below w.heap.size w w21) := nxt L20.out b21
              clear HSB D20 G20 L20 b21 kB kW
              go_wp2_with fail
              refine HIT.mono ?_
              rintro e w22 ⟨rfl, b22⟩
              go_wp2_with fail
              go_ret
              exact ⟨rfl, nxt L21.out b22⟩
end Go.Proofs.YtlbcefocmdnlgaaGreatDoor
