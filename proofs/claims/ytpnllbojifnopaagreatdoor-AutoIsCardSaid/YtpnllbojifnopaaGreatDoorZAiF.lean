/- AutoIs, walked. -/
import Derived.Test.YtpnllbojifnopaaGreatDoorZAiE
import Derived.Test.YtpnllbojifnopaaGreatDoorZAcW
import Derived.Test.YtpnllbojifnopaaGreatDoorZDX
namespace Go.Proofs.YtpnllbojifnopaaGreatDoor
open Go Go.RowKit Go.Maps Pk Rl
set_option maxRecDepth 20000
theorem acc_congr {hv : Hv} {H : Nat → Nat → Bool} {N a b : Nat} {P P' : List VQ} {E E' : List EV} (h : ∀ e, e ∈ E ↔ e ∈ E') (i j : Nat) : Acc hv H N (a, b, P, E) i j ↔ Acc hv H N (a, b, P', E') i j := by
  constructor
  · rintro ⟨p, q, m, h1, h2, h3, h4, h5⟩; exact ⟨p, q, m, h1, h2, h3, h4.mono fun e he => (h e).1 he, h5⟩
  · rintro ⟨p, q, m, h1, h2, h3, h4, h5⟩; exact ⟨p, q, m, h1, h2, h3, h4.mono fun e he => (h e).2 he, h5⟩
theorem mapq_getD (Ps : List Qu) (p : Nat) : (Ps.map vq).getD p vqz = vq (Ps.getD p qz) := by
  rw [List.getD_eq_getElem?_getD, List.getD_eq_getElem?_getD, List.getElem?_map]
  cases Ps[p]? <;> rfl
theorem rel_acc {D : List Nd} {win : Int} (h0 : mp D win = 0) (R : List Lg) {Ps : List Qu} {Es : List Ed} (hP : Ps.map vq = (au 33 D 0).2.2.1) (hE : Es.map ve = wed 33 D (cnt 33 D)) (i j : Nat) :
    rel (hq R) R.length 33 D i j = true ↔ Acc (hvR R) (HR R Ps) R.length (sR (au 33 D 0).1 (au 33 D 0).2.1 Ps Es) i j := by
  have T := mp_top h0
  have hcn := T.cn
  rw [acc_rel (hq R) (hvR R) (hq_hv R) R.length 33 D T.fm T.fr 0 (by omega) (HR R Ps) (fun p hp i => ?_) i j]
  · refine acc_congr (P := (au 33 D 0).2.2.1) (E := (au 33 D 0).2.2.2) (fun e => ?_) i j
    rw [hE, wed_mem, we_au 33 D T.fm T.fr 0 (by omega)]
    refine ⟨fun h => ⟨?_, ?_, h⟩, fun h => h.2.2⟩
    all_goals
      have := (au_ok 33 D T.fm T.fr 0).er e ((we_au 33 D T.fm T.fr 0 (by omega) e).2 h)
      rw [(au_cn 33 D T.fm T.fr).p 0] at this
      omega
  · rw [Nat.zero_add, ← wq_au 33 D T.fm T.fr 0, ← hP, mapq_getD]
    rfl
structure AF (D : List Nd) (win : Int) (kp : Nat) (Ps : List Qu) (Es : List Ed) : Prop where
  a : (au 33 D 0).1 < 4294967296
  b : (au 33 D 0).2.1 < 4294967296
  k : kp ≤ 32
  e : ∀ d ∈ Es, d.f < kp ∧ d.t < kp
  f : ∀ q, (au 33 D 0).1.testBit q = true → q < kp
  l : ∀ q, (au 33 D 0).2.1.testBit q = true → q < kp
theorem af_of {D : List Nd} {win : Int} (h0 : mp D win = 0) {kp : Nat} {Ps : List Qu} {Es : List Ed} (hl : Ps.length = kp) (hP : Ps.map vq = (au 33 D 0).2.2.1) (hE : Es.map ve = wed 33 D (cnt 33 D)) : AF D win kp Ps Es := by
  have T := mp_top h0
  have hcn := T.cn
  have ok := au_ok 33 D T.fm T.fr 0
  have hk : kp = cnt 33 D := by
    have := congrArg List.length hP
    rw [List.length_map, (au_cn 33 D T.fm T.fr).p 0] at this
    omega
  have hf : ∀ q, (au 33 D 0).1.testBit q = true → q < kp := fun q h => by have := ok.fr q h; rw [(au_cn 33 D T.fm T.fr).p 0] at this; omega
  have hla : ∀ q, (au 33 D 0).2.1.testBit q = true → q < kp := fun q h => by have := ok.lr q h; rw [(au_cn 33 D T.fm T.fr).p 0] at this; omega
  have hp : 2 ^ kp ≤ 4294967296 := by
    have : 2 ^ kp ≤ 2 ^ 32 := Nat.pow_le_pow_right (by omega) (by omega)
    exact this
  refine ⟨Nat.lt_of_lt_of_le (lt_pow_of hf) hp, Nat.lt_of_lt_of_le (lt_pow_of hla) hp, by omega, fun d hd => ?_, hf, hla⟩
  have h1 : ve d ∈ wed 33 D (cnt 33 D) := by rw [← hE]; exact List.mem_map.2 ⟨d, hd, rfl⟩
  have h2 := wed_mem.1 h1
  have h3 : d.f < cnt 33 D := h2.1
  have h4 : d.t < cnt 33 D := h2.2.1
  omega
theorem cov_no {D : List Nd} {win : Int} (h : mp D win ≠ 0) : (cov D win).m = mp D win := by unfold cov; rw [if_pos h]
theorem cov_big {D : List Nd} {win : Int} (h : mp D win = 0) (h2 : 64 < (wed 33 D (cnt 33 D)).length) : (cov D win).m = 12 := by unfold cov; rw [if_neg (by omega), if_pos h2]
theorem cov_yes {D : List Nd} {win : Int} (h : mp D win = 0) (h2 : ¬ 64 < (wed 33 D (cnt 33 D)).length) : cov D win = ⟨0, (au 33 D 0).1, (au 33 D 0).2.1, (au 33 D 0).2.2.1, wed 33 D (cnt 33 D)⟩ := by unfold cov; rw [if_neg (by omega), if_neg h2]
structure IX (w W : World) (g1 : Nat) (A : Option Addr) (k c' : Nat) (win : Int) (D : List Nd) (rA : Option Addr) (R : List Lg) : Prop where
  p : PtB W g1 A k c' win
  pt : Pt W A k c' D
  lr : Lr W rA R
  tab : Tab W
  tab5 : Tab5 W
  bel : Below w.heap.size w W
theorem IX.next {w W W' : World} {g1 : Nat} {A : Option Addr} {k c' : Nat} {win : Int} {D : List Nd} {rA : Option Addr} {R : List Lg} (h : IX w W g1 A k c' win D rA R) (hb : Below W.heap.size W W') : IX w W' g1 A k c' win D rA R :=
  ⟨h.p.next hb, h.pt.below hb, h.lr.ck (Ck.of_below hb), h.tab.below hb, h.tab5.below hb, below_go h.bel hb⟩
set_option maxHeartbeats 16000000 in
theorem ais_walk (a : Option Addr) (n c : Nat) (L : List Nd) (win : Int) (hA : Option Addr) (hN hC : Nat) (H : List Hp) (w : World) (hn : L.length = n) (hm : n ≤ maxLen) (hv : RN w a L) (hs : ∀ v ∈ L, Sm v) (hw0 : 0 ≤ win) (hT : Tab w) (hT5 : Tab5 w)
    (hH : Hps w hA H) (hHn : H.length = hN) (hHm : hN ≤ maxLen) :
    Calls Tryz.prog 4 #[ptv a n c win, .slice hA hN hC] w fun e w' => e = .returned (.bool true) ∧ Below w.heap.size w w' := by
  have B0 := Lib.hid (below_alloc w (xpobj a n c win))
  have PA := Lib.hid (pattern_any a n c L win (w.alloc (xpobj a n c win)) hn hm (hv.below B0.out))
  have EA : Hid (∀ W, Below w.heap.size w W → Calls Tryz.prog 18 #[.slice hA hN hC, .int .i64 14] W fun e w' => (∃ A c R, e = .returned (.slice A R.length c) ∧ R.length ≤ 14 ∧ OwnLg w' W.heap.size (.slice A R.length c) R) ∧ Below W.heap.size W w') := Lib.hid (fun W hb => events_any hA hN hC H 14 W (hH.below hb) hHn (by omega) hHm)
  have T0 := Lib.hid hT
  have T5 := Lib.hid hT5
  have HS := Lib.hid hs
  have FX := Lib.hid afixed_any
  have HW := Lib.hid hw0
  clear hn hm hv hs hT hT5 hH hHn hHm hw0
  go_enter Tryz.func4, Tryz.ntmps4
  go_wp2_with fail
  refine PA.out.mono ?_
  rintro e w2 ⟨A, k, c', D, rfl, hDk, hDc, hDo, hb⟩
  have k40 : k ≤ 40 := by have h1 := congrArg List.length hDc; simp at h1; omega
  have pt2 := hDo.pt hDk (by omega)
  have B2 := Lib.hid (below_go B0.out hb)
  have SD := Lib.hid (csm_of hDc HS.out (fun v hv => by have := pt2.ok v hv; exact ⟨by rw [this.p.len]; exact this.p.few, by rw [this.g.len]; exact this.g.few⟩))
  have P2 := Lib.hid pt2
  have K40 := Lib.hid k40
  clear PA hDc hDo hb pt2 HS hDk B0
  go_wp2_with fail
  refine (EA.out _ B2.out).mono ?_
  rintro e w3 ⟨⟨rA, rc, R, rfl, hR14, hRo⟩, hb⟩
  obtain ⟨A1, c1, e1, hA1, hc1, hLr⟩ := hRo.form
  injection e1 with e2 e3 e4
  subst e2 e4
  have SZ : Hid (Szs R) := Lib.hid (fun x hx => (hRo.ev x hx).sz)
  have B3 := Lib.hid (below_go B2.out hb)
  have X0 : Hid (IX w (w3.alloc (ptobj A k c' win)) w3.heap.size A k c' win D rA R) := Lib.hid (by
    have b1 := below_alloc w3 (ptobj A k c' win)
    exact ⟨PtB.alloc _ _ _ _ _, (P2.out.below hb).below b1, hLr.ck (Ck.of_below b1), (T0.out.below B3.out).below b1, (T5.out.below B3.out).below b1, below_go B3.out b1⟩)
  clear hRo hLr e3 hb EA B2 P2 hc1 hA1
  obtain ⟨g1, hg1⟩ : ∃ g, w3.heap.size = g := ⟨_, rfl⟩
  rw [hg1] at X0
  have G1 := Lib.hid (fun W (h : IX w W g1 A k c' win D rA R) => rtgreat_any A k c' D win W h.pt SD.out (by have := K40.out; omega))
  have G2 := Lib.hid (fun W (h : IX w W g1 A k c' win D rA R) => lgreat_any rA R.length rc R W h.lr SZ.out rfl (by omega))
  have G3 := Lib.hid (fun W (h : IX w W g1 A k c' win D rA R) => rlmay_any rA R.length rc R W h.lr rfl (by omega))
  have F1 := Lib.hid (fun W (h : IX w W g1 A k c' win D rA R) => FX.out W h.tab h.tab5)
  have C1 := Lib.hid (fun W (h : IX w W g1 A k c' win D rA R) => cv_any A k c' D win W h.pt h.tab h.tab5)
  have M1 := Lib.hid (fun W (h : IX w W g1 A k c' win D rA R) => rtmay_any A k c' D win W h.pt HW.out)
  have TR := Lib.hid (fun W (h : IX w W g1 A k c' win D rA R) (hk : k < 33) => rtree_any 33 A k c' D W hk h.pt)
  obtain ⟨gt, hgt⟩ : ∃ z, D.any gr = z := ⟨_, rfl⟩
  obtain ⟨gl, hgl⟩ : ∃ z, lgr R = z := ⟨_, rfl⟩
  obtain ⟨gm', hgm⟩ : ∃ z, dm 0 R = z := ⟨_, rfl⟩
  rw [hgt] at G1
  rw [hgl] at G2
  rw [hgm] at G3
  clear hgt hgl hgm SD SZ FX T0 T5 B3
  have END : Hid (∀ W (_ : IX w W g1 A k c' win D rA R), True) := Lib.hid (fun _ _ => trivial)
  have q0 := X0.out.p.c0
  have q1 := X0.out.p.c1
  go_wp2_with fail
  refine (G1.out _ X0.out).mono ?_
  rintro e w4 ⟨rfl, hb⟩
  have X4 := Lib.hid (X0.out.next hb)
  clear hb X0 G1 q0 q1
  have q0 := X4.out.p.c0
  have q1 := X4.out.p.c1
  cases gt
  case true =>
    go_wp2_with fail
    refine (F1.out _ X4.out).mono ?_
    rintro e w6 ⟨rfl, hb⟩
    have BB := Lib.hid (below_go X4.out.bel hb)
    clear hb
    go_wp2_with fail
    go_ret
    exact ⟨rfl, BB.out⟩
  go_wp2_with fail
  refine (G2.out _ X4.out).mono ?_
  rintro e w5 ⟨rfl, hb⟩
  have X5 := Lib.hid (X4.out.next hb)
  clear hb X4 G2 q0 q1
  have q0 := X5.out.p.c0
  have q1 := X5.out.p.c1
  cases gl
  case true =>
    go_wp2_with fail
    refine (F1.out _ X5.out).mono ?_
    rintro e w6 ⟨rfl, hb⟩
    have BB := Lib.hid (below_go X5.out.bel hb)
    clear hb
    go_wp2_with fail
    go_ret
    exact ⟨rfl, BB.out⟩
  go_wp2_with fail
  refine (G3.out _ X5.out).mono ?_
  rintro e w6 ⟨rfl, hb⟩
  have X6 := Lib.hid (X5.out.next hb)
  clear hb X5 G3 q0 q1
  have q0 := X6.out.p.c0
  have q1 := X6.out.p.c1
  cases gm'
  case false =>
    go_wp2_with fail
    refine (F1.out _ X6.out).mono ?_
    rintro e w6 ⟨rfl, hb⟩
    have BB := Lib.hid (below_go X6.out.bel hb)
    clear hb
    go_wp2_with fail
    go_ret
    exact ⟨rfl, BB.out⟩
  go_wp2_with fail
  refine (C1.out _ X6.out).mono ?_
  rintro e w7 ⟨Ap, kp, cp, Ae, ke, ce, Ps, Es, B, rfl, HZ, hb⟩
  by_cases h0 : mp D win = 0
  case neg =>
    have hvm := cov_no h0
    obtain ⟨⟨vm, va, vb, vP, vE⟩, hV⟩ : ∃ V, cov D win = V := ⟨_, rfl⟩
    rw [hV] at hvm HZ ⊢
    simp only at hvm HZ ⊢
    rw [← hvm] at M1 h0
    have n1 : (vm != 0) = true := by simp [h0]
    clear hV h0 hvm
    have X8 := Lib.hid (X6.out.next (below_go hb (below_alloc w7 (.cells #[.slice Ap kp cp, .int .u32 (va : Int), .int .u32 (vb : Int), .slice Ae ke ce] 36))))
    clear hb HZ C1 X6 TR q0 q1
    go_wp2_with fail
    refine (F1.out _ X8.out).mono ?_
    rintro e w9 ⟨rfl, hb⟩
    have X9 := Lib.hid (X8.out.next hb)
    clear hb X8
    have q0 := X9.out.p.c0
    have q1 := X9.out.p.c1
    go_wp2_with fail
    refine (M1.out _ X9.out).mono ?_
    rintro e w10 ⟨rfl, hb⟩
    have BB := Lib.hid (below_go X9.out.bel hb)
    clear hb X9
    go_wp2_with fail
    go_ret
    exact ⟨rfl, BB.out⟩
  by_cases h64 : 64 < (wed 33 D (cnt 33 D)).length
  · have hvm := cov_big h0 h64
    obtain ⟨⟨vm, va, vb, vP, vE⟩, hV⟩ : ∃ V, cov D win = V := ⟨_, rfl⟩
    rw [hV] at hvm HZ ⊢
    simp only at hvm HZ ⊢
    rw [h0] at M1
    subst hvm
    clear hV h0 h64
    have X8 := Lib.hid (X6.out.next (below_go hb (below_alloc w7 (.cells #[.slice Ap kp cp, .int .u32 (va : Int), .int .u32 (vb : Int), .slice Ae ke ce] 36))))
    clear hb HZ C1 X6 TR q0 q1
    go_wp2_with fail
    refine (F1.out _ X8.out).mono ?_
    rintro e w9 ⟨rfl, hb⟩
    have X9 := Lib.hid (X8.out.next hb)
    clear hb X8
    have q0 := X9.out.p.c0
    have q1 := X9.out.p.c1
    go_wp2_with fail
    refine (M1.out _ X9.out).mono ?_
    rintro e w10 ⟨rfl, hb⟩
    have BB := Lib.hid (below_go X9.out.bel hb)
    clear hb X9
    go_wp2_with fail
    go_ret
    exact ⟨rfl, BB.out⟩
  · have hV := cov_yes h0 h64
    rw [hV] at HZ ⊢
    simp only at HZ ⊢
    obtain ⟨hz, hP, hE, hB⟩ := HZ.out
    have AFF := Lib.hid (af_of h0 hz.lp hP hE)
    have k32 := AFF.out.k
    have k64 : ke ≤ 64 := by
      have h1 := congrArg List.length hE
      rw [List.length_map, hz.le] at h1
      omega
    have RAC := Lib.hid (fun i j => rel_acc h0 R hP hE i j)
    obtain ⟨l33, hbl, hfm⟩ := mp_facts h0
    have L33 := Lib.hid l33
    have BL := Lib.hid hbl
    have FM := Lib.hid hfm
    have n8 := below_alloc w7 (.cells #[.slice Ap kp cp, .int .u32 ((au 33 D 0).1 : Int), .int .u32 ((au 33 D 0).2.1 : Int), .slice Ae ke ce] 36)
    have X8 := Lib.hid (X6.out.next (below_go hb n8))
    have CR8 := Lib.hid (hz.read.below n8)
    obtain ⟨sa, hsa⟩ : ∃ z, (au 33 D 0).1 = z := ⟨_, rfl⟩
    obtain ⟨sb, hsb⟩ : ∃ z, (au 33 D 0).2.1 = z := ⟨_, rfl⟩
    have AE := Lib.hid (And.intro AFF.out.a (And.intro AFF.out.b (And.intro AFF.out.f (And.intro AFF.out.l AFF.out.e))))
    rw [hsa, hsb] at AE RAC n8 CR8 X8 ⊢
    have A8 : Hid (AB (w7.alloc (.cells #[.slice Ap kp cp, .int .u32 (sa : Int), .int .u32 (sb : Int), .slice Ae ke ce] 36)) w7.heap.size Ap kp cp (sa : Int) (sb : Int) Ae ke ce) := Lib.hid (heap_alloc_new w7 _)
    have DL := Lib.hid (X8.out.pt.len)
    clear hb HZ hz hP hE hB hV C1 M1 X6 q0 q1 AFF hsa hsb n8 l33 hbl hfm h64 h0
    go_upto_region 5 with fail
    generalize w7.alloc (.cells #[.slice Ap kp cp, .int .u32 (sa : Int), .int .u32 (sb : Int), .slice Ae ke ce] 36) = w8 at X8 A8 CR8 ⊢
    generalize w7.heap.size = g7 at A8 ⊢
    have q0 := X8.out.p.c0
    have q1 := X8.out.p.c1
    have TR8 := Lib.hid (TR.out _ X8.out (by rw [← DL.out]; exact L33.out))
    clear TR
    go_wp2_with fail
    refine TR8.out.mono ?_
    rintro e w9 ⟨nd, At, mm, Ct, rfl, hbt, hb⟩
    obtain ⟨hnd, hmm, htr⟩ := hbt BL.out
    have n10 := below_alloc w9 (tobjT nd At mm Ct)
    have X10 := Lib.hid (X8.out.next (below_go hb n10))
    have A10 := Lib.hid ((A8.out.below hb A8.out.lt).below n10 (Nat.lt_of_lt_of_le A8.out.lt hb.size))
    have CR10 := Lib.hid (CR8.out.below (below_go hb n10))
    have T10 := Lib.hid (Trb.start w9 nd At mm Ct)
    have GOF : Hid (Calls Tryz.prog 23 #[tOfT nd At mm Ct, .slice rA R.length rc] (w9.alloc (tobjT nd At mm Ct)) fun e w' => (∃ A' c', e = .returned (.slice A' R.length c') ∧ Mt2 w' (w9.alloc (tobjT nd At mm Ct)).heap.size (.slice A' R.length c') R.length (rel (hq R) R.length (33 + 1) D)) ∧ Below (w9.alloc (tobjT nd At mm Ct)).heap.size (w9.alloc (tobjT nd At mm Ct)) w') := Lib.hid (by
      subst hmm
      have h33 := L33.out
      exact rof_any rA R.length rc R rfl (by omega) 33 nd At Ct D _ (w9.alloc (tobjT nd At (pts D).length Ct)) (by omega) hnd (fun v hv => X10.out.pt.ok v hv) (htr.below n10 (fun b hb => hb.2)) (fun b hb => by rw [World.size_alloc]; exact Nat.lt_succ_of_lt hb.2) FM.out X10.out.lr X10.out.tab)
    rw [rel_up (hq R) R.length 33 D L33.out 1] at GOF
    generalize rel (hq R) R.length 33 D = rr at GOF RAC
    clear hb hnd hmm htr n10 TR8 X8 A8 CR8 q0 q1 hbt FM
    obtain ⟨nk, ⟨px, pt, pa, pn, pc, pL⟩, ny, ⟨gx, gt, ga, gn, gc, gL⟩, nlo, nhi, ns⟩ := nd
    go_upto_region 8 with fail
    generalize w9.alloc (tobjT ⟨nk, ⟨px, pt, pa, pn, pc, pL⟩, ny, ⟨gx, gt, ga, gn, gc, gL⟩, nlo, nhi, ns⟩ At mm Ct) = w10 at X10 A10 CR10 T10 GOF ⊢
    generalize w9.heap.size = g9 at T10 ⊢
    obtain ⟨⟨t0, t1, t2, t3, t4, t5, t6, t7, t8, t9, t10⟩, t11⟩ := T10.out.cells
    go_wp2_with fail
    refine GOF.out.mono ?_
    rintro e w11 ⟨⟨Ar, cr', rfl, hM⟩, hb⟩
    obtain ⟨Ar', cr2, er, hMx⟩ := hM.form
    injection er with er1 er2 er3
    subst er1 er3
    have X11 := Lib.hid (X10.out.next hb)
    have A11 := Lib.hid (A10.out.below hb A10.out.lt)
    have CR11 := Lib.hid (CR10.out.below hb)
    have M11 := Lib.hid hMx
    obtain ⟨N, hN⟩ : ∃ N, R.length = N := ⟨_, rfl⟩
    have HN := Lib.hid hN
    clear hb hM hMx GOF X10 A10 CR10 T10 t0 t1 t2 t3 t4 t5 t6 t7 t8 t9 t10 t11 er2
    rw [hN] at hR14 M11 ⊢
    clear hN
    go_wp2_with fail
    go_loopw [59] (fun v W => ∃ (i : Nat), v = .int .i64 (i : Int) ∧ i ≤ N ∧ Hid (IX w W g1 A k c' win D rA R ∧ AB W g7 Ap kp cp (sa : Int) (sb : Int) Ae ke ce ∧ Cr W Ap kp Ae ke Ps Es ∧ Mtx W Ar N N rr)) (fun v _ => N - (intOf v).toNat)
    case atStart => exact ⟨0, rfl, by omega, Lib.hid ⟨X11.out, A11.out, CR11.out, M11.out⟩⟩
    case round =>
      obtain ⟨i, rfl, hi, I⟩ := hrel
      clear X11 A11 CR11 M11
      have X1 := Lib.hid I.out.1
      have A1 := Lib.hid I.out.2.1
      have R1 := Lib.hid I.out.2.2.1
      have M1 := Lib.hid I.out.2.2.2
      clear I
      by_cases ci : i < N
      · have WK := Lib.hid (walks_any Ap kp cp sa sb Ae ke ce Ps Es rA N rc R i wr ci HN.out (by omega) R1.out X1.out.lr X1.out.tab AE.out.1 AE.out.2.1 k32 k64 AE.out.2.2.2.2 AE.out.2.2.1 AE.out.2.2.2.1)
        obtain ⟨a0, a1, a2, a3, _⟩ := A1.out.cells
        go_wp2_with fail
        refine WK.out.mono ?_
        rintro e w12 ⟨g, o, rfl, ho, HO, hb⟩
        have X2 := Lib.hid (X1.out.next hb)
        have A2 := Lib.hid (A1.out.below hb A1.out.lt)
        have R2 := Lib.hid (R1.out.below hb)
        have M2 := Lib.hid (M1.out.below hb)
        have OC := Lib.hid ho
        have EQ : Hid (∀ j, i ≤ j → j < N → o j = rr i j) := Lib.hid (fun j h1 h2 => by rw [Bool.eq_iff_iff, HO.out j h1 h2, RAC.out i j])
        clear hb ho HO WK X1 A1 R1 M1 a0 a1 a2 a3
        go_wp2_with fail
        go_loopw [14] (fun v W => ∃ (j : Nat), v = .int .i64 (j : Int) ∧ i ≤ j ∧ j ≤ N ∧ Hid (Below w12.heap.size w12 W)) (fun v _ => N - (intOf v).toNat)
        case atStart => exact ⟨i, rfl, by omega, by omega, Lib.hid (Below.refl _ _)⟩
        case round =>
          obtain ⟨j, rfl, hij, hjN, J⟩ := hrel
          by_cases cj : j < N
          · have c0 := OC.out j cj
            have c1 := (J.out.cell (p := ⟨g, j, none⟩) (World.block_lt_of_cell? _ _ c0)).trans c0
            clear c0
            obtain ⟨b, rb, cap, rfl, m1, m2⟩ := (M2.out.below J.out).row i ci
            have m3 := m2 j cj
            clear m2
            have eq := EQ.out j hij cj
            generalize o j = u at c1 eq
            generalize rr i j = v at m3 eq
            subst eq
            have JD := Lib.hid (fun m => J.out.trans ((below_drewN wr.heap.size wr m).mono J.out.size))
            clear J
            cases u
            · go_wp2_with fail
              go_quiet (fail)
              go_wp2_with fail
              exact ⟨⟨j + 1, by go_num, by omega, by omega, Lib.hid (JD.out _)⟩, by simp [intOf]; omega⟩
            · go_wp2_with fail
              go_quiet (fail)
              go_wp2_with fail
              exact ⟨⟨j + 1, by go_num, by omega, by omega, Lib.hid (JD.out _)⟩, by simp [intOf]; omega⟩
          · obtain rfl : j = N := by omega
            have I2 : Hid (IX w wr g1 A k c' win D rA R ∧ AB wr g7 Ap kp cp (sa : Int) (sb : Int) Ae ke ce ∧ Cr wr Ap kp Ae ke Ps Es ∧ Mtx wr Ar j j rr) := Lib.hid ⟨X2.out.next J.out, A2.out.below J.out A2.out.lt, R2.out.below J.out, M2.out.below J.out⟩
            clear J X2 A2 R2 M2 OC EQ
            go_wp2_with fail
            exact ⟨⟨i + 1, by go_num, by omega, I2⟩, by simp [intOf]; omega⟩
      · obtain rfl : i = N := by omega
        go_wp2_with fail
        refine (F1.out _ X1.out).mono ?_
        rintro e w13 ⟨rfl, hb⟩
        have BB := Lib.hid (below_go X1.out.bel hb)
        clear hb
        go_wp2_with fail
        go_ret
        exact ⟨rfl, BB.out⟩
end Go.Proofs.YtpnllbojifnopaaGreatDoor
