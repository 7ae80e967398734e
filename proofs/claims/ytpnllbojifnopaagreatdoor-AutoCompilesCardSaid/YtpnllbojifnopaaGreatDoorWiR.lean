/- The document's Compile. -/
import Derived.Test.YtpnllbojifnopaaGreatDoorWiQ
namespace Go.Proofs.YtpnllbojifnopaaGreatDoor
open Go Go.RowKit Pk Rl
set_option maxRecDepth 20000

theorem ecl_cells {w : World} {g f t : Nat} {y x : Bool} {u : Int} {A : Option Addr} {n c : Nat} {L : List TT} (h0 : w.cell? ⟨g, 0, none⟩ = some (.int .u8 (f : Int))) (h1 : w.cell? ⟨g, 1, none⟩ = some (.int .u8 (t : Int))) (h2 : w.cell? ⟨g, 2, none⟩ = some (.bool y)) (h3 : w.cell? ⟨g, 3, none⟩ = some (.bool x)) (h4 : w.cell? ⟨g, 4, none⟩ = some (.int .u8 u)) (h5 : w.cell? ⟨g, 5, none⟩ = some (.slice A n c)) :
    ∀ j v, (ecl ⟨f, t, y, ⟨x, u, A, n, c, L⟩⟩)[j]? = some v → w.cell? ⟨g, j, none⟩ = some v := by
  intro j v hv
  rcases j with _ | _ | _ | _ | _ | _ | j
  · rw [h0]; simpa [ecl] using hv
  · rw [h1]; simpa [ecl] using hv
  · rw [h2]; simpa [ecl] using hv
  · rw [h3]; simpa [ecl] using hv
  · rw [h4]; simpa [ecl] using hv
  · rw [h5]; simpa [ecl] using hv
  · simp [ecl] at hv
theorem pow_bit (i : Nat) (h : i < 32) : 2 ^ i % 4294967296 = 2 ^ i := Nat.mod_eq_of_lt (Nat.lt_of_lt_of_le (Nat.pow_lt_pow_right (by omega) h) (by decide))
theorem pow_next (i : Nat) : (2 ^ i % 4294967296) * 2 % 4294967296 = 2 ^ (i + 1) % 4294967296 := by
  rw [Nat.pow_succ, Nat.mod_mul_mod]
theorem sbt_step (b : Nat → Bool) (i : Nat) : sbt b (i + 1) = sbt b i + if b i = true then 2 ^ i else 0 := rfl
theorem sbt_lt32 (b : Nat → Bool) (i : Nat) (h : i ≤ 32) : sbt b i < 4294967296 := Nat.lt_of_lt_of_le (sbt_lt b i) (Nat.pow_le_pow_right (by omega) h)
set_option maxHeartbeats 8000000 in
theorem rcomp_no (A : Option Addr) (n c : Nat) (L : List Nd) (win : Int) (w : World) (hP : Pt w A n c L) (hw0 : 0 ≤ win) (hm : mp L win ≠ 0) :
    Calls Tryz.prog 15 #[ptv A n c win] w fun e w' => CoN (mp L win) w e w' := by
  obtain ⟨w1, hw1⟩ : ∃ X, (w.alloc (ptobj A n c win)).alloc (.cells #[.slice none 0 0, .int .u32 0, .int .u32 0, .slice none 0 0] 36) = X := ⟨_, rfl⟩
  have b1 : Below w.heap.size w w1 := hw1 ▸ below_go (below_alloc w _) (below_alloc _ _)
  have P0 : PtB w1 w.heap.size A n c win := hw1 ▸ (PtB.alloc w A n c win).next (below_alloc _ _)
  have A0 : AB w1 (w.heap.size + 1) none 0 0 0 0 none 0 0 := by rw [← hw1, ← World.size_alloc w (ptobj A n c win)]; exact heap_alloc_new _ _
  have TM := Lib.hid (rtmay_any A n c L win w1 (hP.below b1) hw0)
  obtain ⟨m, hme⟩ : ∃ z, mp L win = z := ⟨_, rfl⟩
  rw [hme] at TM hm ⊢
  have h1 : (m != 0) = true := by simp [hm]
  have B1 := Lib.hid b1
  have AA := Lib.hid A0
  have k0 := P0.c0
  have k1 := P0.c1
  have zA := A0.lt
  clear hP b1 P0 A0 hme
  go_enter Tryz.func15, Tryz.ntmps15
  go_upto_region 1 with fail
  clear hw1
  go_wp2_with fail
  refine TM.out.mono ?_
  rintro e w2 ⟨rfl, hb⟩
  have A2 := Lib.hid (AA.out.below hb zA)
  have B2 := Lib.hid (below_go B1.out hb)
  obtain ⟨a0, a1, a2, a3, af⟩ := A2.out.cells
  have f0 := af 0
  have f1 := af 1
  have f2 := af 2
  have f3 := af 3
  have z2 := A2.out.lt
  have BF := Lib.hid ((((B2.out.setCell (p := ⟨w.heap.size + 1, 0, none⟩) (Nat.le_succ _) (.slice none 0 0)).setCell (p := ⟨w.heap.size + 1, 1, none⟩) (Nat.le_succ _) (.int .u32 0)).setCell (p := ⟨w.heap.size + 1, 2, none⟩) (Nat.le_succ _) (.int .u32 0)).setCell (p := ⟨w.heap.size + 1, 3, none⟩) (Nat.le_succ _) (.slice none 0 0))
  clear hb af TM k0 k1 A2 B2 AA
  go_wp2_with fail
  refine bodyPost_ret (v := .tuple #[autv none 0 0 0 0 none 0 0, .int .i64 m]) (by simp [results, Tryz.results15, go_sem, *]) rfl ⟨rfl, BF.out⟩
structure Ix (w W : World) (L : List Nd) (nd : Nd) (pl g7 g9 : Nat) (A : Option Addr) (M C : Nat) (Ap : Option Addr) (kp cp m i t bt a b : Nat) (Ae : Option Addr) (ke ce : Nat) (Es : List Ed) : Prop where
  x : Qx w W 32 L nd pl g7 g9 A M C Ap kp cp a b Ae ke ce Es
  bt : bt = 2 ^ i % 4294967296
  a : a = sbt (wf 33 L 0) i
  b : b = sbt (wl 33 L 0) i
  e : Es.map ve = wedp 33 L m i t
  g : ∀ d ∈ Es, Qok w d.g
set_option maxHeartbeats 16000000 in
theorem rcomp_yes (A : Option Addr) (n c : Nat) (L : List Nd) (win : Int) (w : World) (hP : Pt w A n c L) (hw0 : 0 ≤ win) (hm : mp L win = 0) :
    Calls Tryz.prog 15 #[ptv A n c win] w fun e w' => DcX L (cnt 33 L) w e w' := by
  obtain ⟨w1, hw1⟩ : ∃ X, (w.alloc (ptobj A n c win)).alloc (.cells #[.slice none 0 0, .int .u32 0, .int .u32 0, .slice none 0 0] 36) = X := ⟨_, rfl⟩
  have b1 : Below w.heap.size w w1 := hw1 ▸ below_go (below_alloc w _) (below_alloc _ _)
  have P0 : PtB w1 w.heap.size A n c win := hw1 ▸ (PtB.alloc w A n c win).next (below_alloc _ _)
  have A0 : AB w1 (w.heap.size + 1) none 0 0 0 0 none 0 0 := by rw [← hw1, ← World.size_alloc w (ptobj A n c win)]; exact heap_alloc_new _ _
  have TM := Lib.hid (rtmay_any A n c L win w1 (hP.below b1) hw0)
  rw [hm] at TM
  have TP := mp_top hm
  have l32 := TP.len
  have hn := hP.len
  have TT := Lib.hid TP
  have WT : Wt 32 L := ⟨TP.fm, TP.fr, by omega⟩
  have HB : Hib L := fun v hv => ⟨(hP.ok v hv).h0, (hP.ok v hv).h1⟩
  have HL : Lob L := fun v hv => ⟨(hP.ok v hv).l0, (hP.ok v hv).l1⟩
  have hfm := TP.fm
  have hfd := TP.fm
  rw [fmd_eq, Bool.and_eq_true] at hfd
  have TR := Lib.hid (fun W (hW : Below w.heap.size w W) => rtree_any 33 A n c L W (by omega) (hP.below hW))
  have BL := Lib.hid hfd.1
  have HS : ∀ p ∈ pts L, fmd 32 p = true := by
    have hf := hfm
    unfold fmd at hf
    rw [Bool.and_eq_true] at hf
    obtain ⟨x, q, ps, _, _, h3, h4⟩ := ofp_spl hf.1
    exact fun p hp => List.all_eq_true.1 h4 p (by rw [← h3]; exact hp)
  have hcn := TP.cn
  have QL := wqq_len WT
  obtain ⟨m, hme⟩ : ∃ m, cnt 33 L = m := ⟨_, rfl⟩
  obtain ⟨nd, hnd⟩ : ∃ nd, L.headD nz = nd := ⟨_, rfl⟩
  obtain ⟨pl, hpl⟩ : ∃ pl, wpl (L, 0) = pl := ⟨_, rfl⟩
  obtain ⟨M, hM⟩ : ∃ M, (wch 32 (L, 0)).length = M := ⟨_, rfl⟩
  have WN : Hid (∀ (A2 : Option Addr) (C2 : Nat) (F : Nat → Prop) (W : World), Trs 33 W F A2 (pts L) → (∀ b, F b → b < W.heap.size) → Calls Tryz.prog 47 #[tOfT nd A2 (pts L).length C2, .int .i64 0] W fun e w' => ∃ A C, e = .returned (.tuple #[wOfT nd pl A M C, .int .i64 (m : Int)]) ∧ Wds 32 w' (fun b => W.heap.size ≤ b ∧ b < w'.heap.size) A (wch 32 (L, 0)) ∧ Below W.heap.size W w') := Lib.hid (fun A2 C2 F W hT hF => by
    have h := widen_any 32 A2 C2 L F W WT HB (hT.less HS) hF 0 (by rw [Nat.zero_add]; exact hcn)
    rw [← hnd, ← hpl, ← hM, ← hme]
    refine Calls.mono h fun e w' hh => ?_
    obtain ⟨A, C, h1, h2, h3⟩ := hh
    exact ⟨A, C, by rw [h1, Nat.zero_add], h2, h3⟩)
  have PR : Hid (∀ (A2 : Option Addr) (C2 : Nat) (F : Nat → Prop) (W : World), Wds 32 W F A2 (wch 32 (L, 0)) → (∀ b, F b → b < W.heap.size) → Calls Tryz.prog 48 #[wOfT nd pl A2 M C2] W fun e w' => PrX (wqq 33 L) W e w') := Lib.hid (fun A2 C2 F W hT hF => by
    have h := rpreds_any 32 A2 C2 L 0 F W d0 WT hcn hT hF
    rw [← hnd, ← hpl, ← hM]
    exact h)
  have FI : Hid (∀ (A2 : Option Addr) (C2 x : Nat) (F : Nat → Prop) (W : World), Wds 32 W F A2 (wch 32 (L, 0)) → (∀ b, F b → b < W.heap.size) → Calls Tryz.prog 49 #[wOfT nd pl A2 M C2, .int .i64 (x : Int)] W fun e w' => e = .returned (.bool (wf 33 L 0 x)) ∧ Below W.heap.size W w') := Lib.hid (fun A2 C2 x F W hT hF => by
    have h := rfirst_any 32 A2 C2 L 0 x F W d0 WT hT hF
    rw [← hnd, ← hpl, ← hM]
    exact h)
  have LA : Hid (∀ (A2 : Option Addr) (C2 x : Nat) (F : Nat → Prop) (W : World), Wds 32 W F A2 (wch 32 (L, 0)) → (∀ b, F b → b < W.heap.size) → Calls Tryz.prog 50 #[wOfT nd pl A2 M C2, .int .i64 (x : Int)] W fun e w' => e = .returned (.bool (wl 33 L 0 x)) ∧ Below W.heap.size W w') := Lib.hid (fun A2 C2 x F W hT hF => by
    have h := rlast_any 32 A2 C2 L 0 x F W d0 WT HL hT hF
    rw [← hnd, ← hpl, ← hM]
    exact h)
  have ED : Hid (∀ (A2 : Option Addr) (C2 x y : Nat) (F : Nat → Prop) (W : World), Wds 32 W F A2 (wch 32 (L, 0)) → (∀ b, F b → b < W.heap.size) → Calls Tryz.prog 51 #[wOfT nd pl A2 M C2, .int .i64 (x : Int), .int .i64 (y : Int)] W fun e w' => e = .returned (.tuple #[nOf ((we 33 L 0 x y).getD nz), .bool (we 33 L 0 x y).isSome]) ∧ Below W.heap.size W w') := Lib.hid (fun A2 C2 x y F W hT hF => by
    have h := redge_any 32 A2 C2 L 0 x y F W d0 WT HL hT hF
    rw [← hnd, ← hpl, ← hM]
    exact h)
  have GQ := Lib.hid (fun i t x (h : we 33 L 0 i t = some x) => (hP.ok x (we_in 33 L hfm 0 i t x h)).g)
  rw [hme] at hcn QL ⊢
  have HND := Lib.hid hnd
  have B1 := Lib.hid b1
  have AA := Lib.hid A0
  have k0 := P0.c0
  have k1 := P0.c1
  have zA := A0.lt
  have QL' := Lib.hid QL
  clear hP b1 P0 A0 hme hm TP WT HB HL hfm hfd HS QL hnd hpl hM
  go_enter Tryz.func15, Tryz.ntmps15
  go_upto_region 1 with fail
  clear hw1
  go_wp2_with fail
  refine TM.out.mono ?_
  rintro e w2 ⟨rfl, hb⟩
  have A2 := Lib.hid (AA.out.below hb zA)
  have B2 := Lib.hid (below_go B1.out hb)
  have k0 := (hb.cell (p := ⟨w.heap.size, 0, none⟩) (World.block_lt_of_cell? _ _ k0)).trans k0
  have TR2 := Lib.hid (TR.out w2 B2.out)
  clear hb TM k1 AA TR B1 zA
  go_wp2_with fail
  refine TR2.out.mono ?_
  rintro e w3 ⟨nd3, A3, m3, C3, rfl, hbt, hb⟩
  obtain ⟨hnd, hmm, htr⟩ := hbt BL.out
  have B3 := Lib.hid (below_go B2.out hb)
  have A3' := Lib.hid (A2.out.below hb A2.out.lt)
  have n4 := below_alloc w3 (tobjT nd A3 m3 C3)
  have T4 := Lib.hid (Trb.start w3 nd A3 m3 C3)
  have WN4 := Lib.hid (WN.out A3 C3 (fun b => b < w3.heap.size) (w3.alloc (tobjT nd A3 m3 C3)) (htr.same (fun b hb => n4.block b hb.2) (fun b hb => hb.2)) (fun b hb => by rw [World.size_alloc]; omega))
  rw [← hmm] at WN4
  have A4 := Lib.hid (A3'.out.below n4 A3'.out.lt)
  have B4 := Lib.hid (below_go B3.out n4)
  have Z4 : Hid (w.heap.size + 1 < w3.heap.size) := Lib.hid A3'.out.lt
  rw [HND.out] at hnd
  subst hnd
  clear hb hmm htr n4 TR2 k0 A2 B2 B3 A3' WN hbt HND
  obtain ⟨nk, ⟨px, pt, pa, pn, pc, pL⟩, ny, ⟨gx, gt, ga, gn, gc, gL⟩, nlo, nhi, ns⟩ := nd3
  go_upto_region 5 with fail
  generalize w3.alloc (tobjT ⟨nk, ⟨px, pt, pa, pn, pc, pL⟩, ny, ⟨gx, gt, ga, gn, gc, gL⟩, nlo, nhi, ns⟩ A3 m3 C3) = w4 at WN4 A4 B4 T4 ⊢
  generalize w3.heap.size = g5 at Z4 T4 ⊢
  obtain ⟨k0, k11⟩ : (w4.cell? ⟨g5, 11, none⟩ = some (.slice A3 m3 C3) ∧ True) := ⟨T4.out.cells.2, trivial⟩
  obtain ⟨⟨t0, t1, t2, t3, t4, t5, t6, t7, t8, t9, t10⟩, t11⟩ := T4.out.cells
  go_wp2_with fail
  refine WN4.out.mono ?_
  rintro e w5 ⟨A5, C5, rfl, hW5, hb⟩
  have n6 := below_alloc w5 (wobjT ⟨nk, ⟨px, pt, pa, pn, pc, pL⟩, ny, ⟨gx, gt, ga, gn, gc, gL⟩, nlo, nhi, ns⟩ pl A5 M C5)
  have A6 := Lib.hid ((A4.out.below hb A4.out.lt).below n6 (Nat.lt_of_lt_of_le A4.out.lt hb.size))
  have B6 := Lib.hid (below_go (below_go B4.out hb) n6)
  have W6 := Lib.hid (Wdb.start w5 ⟨nk, ⟨px, pt, pa, pn, pc, pL⟩, ny, ⟨gx, gt, ga, gn, gc, gL⟩, nlo, nhi, ns⟩ pl A5 M C5)
  have D6 := Lib.hid (hW5.same (F := _) (G := fun b => b < w5.heap.size) (fun b hb => n6.block b hb.2) (fun b hb => hb.2))
  have PR6 := Lib.hid (PR.out A5 C5 (fun b => b < w5.heap.size) _ D6.out (fun b hb => by rw [World.size_alloc]; omega))
  have Z6 : Hid (w.heap.size + 1 < w5.heap.size) := Lib.hid (Nat.lt_of_lt_of_le A4.out.lt hb.size)
  clear hb n6 hW5 WN4 A4 B4 T4 Z4 PR k0 k11 t0 t1 t2 t3 t4 t5 t6 t7 t8 t9 t10 t11
  go_upto_region 6 with fail
  have S6 : Hid ((w5.alloc (wobjT ⟨nk, ⟨px, pt, pa, pn, pc, pL⟩, ny, ⟨gx, gt, ga, gn, gc, gL⟩, nlo, nhi, ns⟩ pl A5 M C5)).heap.size = w5.heap.size + 1) := Lib.hid (by simp)
  generalize w5.alloc (wobjT ⟨nk, ⟨px, pt, pa, pn, pc, pL⟩, ny, ⟨gx, gt, ga, gn, gc, gL⟩, nlo, nhi, ns⟩ pl A5 M C5) = w6 at A6 B6 W6 D6 PR6 S6 ⊢
  generalize w5.heap.size = g7 at W6 D6 Z6 S6 ⊢
  obtain ⟨⟨t0, t1, t2, t3, t4, t5, t6, t7, t8, t9, t10⟩, t11, t12⟩ := W6.out.cells
  go_wp2_with fail
  refine PR6.out.mono ?_
  rintro e w7 ⟨Ap, kp, cp, rfl, hkp, hO7, hb⟩
  have n8 := below_alloc w7 (.cells #[.slice Ap kp cp, .int .u32 0, .int .u32 0, .slice none 0 0] 36)
  have Q8 : Hid (Qx w (w7.alloc (.cells #[.slice Ap kp cp, .int .u32 0, .int .u32 0, .slice none 0 0] 36)) 32 L ⟨nk, ⟨px, pt, pa, pn, pc, pL⟩, ny, ⟨gx, gt, ga, gn, gc, gL⟩, nlo, nhi, ns⟩ pl g7 w7.heap.size A5 M C5 Ap kp cp 0 0 none 0 0 []) := Lib.hid (by
    have z7 : g7 < w7.heap.size := by have := S6.out; have := hb.size; omega
    have z6 := B6.out.size
    refine ⟨(W6.out.below hb W6.out.lt).below n8 z7, D6.out.same (fun b hf => ?_) (fun b hf => Nat.lt_of_lt_of_le hf (Nat.le_of_lt z7)), heap_alloc_new w7 _, World.ownsRow_nil _ _ 47 6, rfl, ?_, ?_, (A6.out.below hb A6.out.lt).below n8 (Nat.lt_of_lt_of_le A6.out.lt hb.size), below_go (below_go B6.out hb) n8, Z6.out, z7, by rw [World.size_alloc]; omega⟩
    · rw [n8.block b (by omega), hb.block b (by have := S6.out; omega)]
    · exact OwnQ'.below (OwnQ'.low hO7 z6) n8
    · exact fun g hg => (World.ownsRow.lt hO7 g hg).2)
  have KP := Lib.hid hkp
  clear hb n8 hO7 hkp A6 B6 W6 D6 Z6 S6 PR6 t0 t1 t2 t3 t4 t5 t6 t7 t8 t9 t10 t11 t12
  go_upto_region 7 with fail
  generalize w7.alloc (.cells #[.slice Ap kp cp, .int .u32 0, .int .u32 0, .slice none 0 0] 36) = w8 at Q8 ⊢
  generalize w7.heap.size = g9 at Q8 ⊢
  have FIR := Lib.hid (fun x W a b Ae ke ce Es (h : Qx w W 32 L ⟨nk, ⟨px, pt, pa, pn, pc, pL⟩, ny, ⟨gx, gt, ga, gn, gc, gL⟩, nlo, nhi, ns⟩ pl g7 g9 A5 M C5 Ap kp cp a b Ae ke ce Es) => FI.out A5 C5 x (fun b => b < g9) W h.tr (fun b hb => Nat.lt_trans hb h.big))
  have LAR := Lib.hid (fun x W a b Ae ke ce Es (h : Qx w W 32 L ⟨nk, ⟨px, pt, pa, pn, pc, pL⟩, ny, ⟨gx, gt, ga, gn, gc, gL⟩, nlo, nhi, ns⟩ pl g7 g9 A5 M C5 Ap kp cp a b Ae ke ce Es) => LA.out A5 C5 x (fun b => b < g9) W h.tr (fun b hb => Nat.lt_trans hb h.big))
  have EDR := Lib.hid (fun x y W a b Ae ke ce Es (h : Qx w W 32 L ⟨nk, ⟨px, pt, pa, pn, pc, pL⟩, ny, ⟨gx, gt, ga, gn, gc, gL⟩, nlo, nhi, ns⟩ pl g7 g9 A5 M C5 Ap kp cp a b Ae ke ce Es) => ED.out A5 C5 x y (fun b => b < g9) W h.tr (fun b hb => Nat.lt_trans hb h.big))
  have I0 : Hid (Ix w w8 L ⟨nk, ⟨px, pt, pa, pn, pc, pL⟩, ny, ⟨gx, gt, ga, gn, gc, gL⟩, nlo, nhi, ns⟩ pl g7 g9 A5 M C5 Ap kp cp m 0 0 1 0 0 none 0 0 []) := Lib.hid ⟨Q8.out, rfl, rfl, rfl, by simp [wedp], by simp⟩
  clear Q8 FI LA ED
  go_wp2_with fail
  go_loopw [10, 11] (fun v10 v11 W => ∃ (i bt a b : Nat) (Ae : Option Addr) (ke ce : Nat) (Es : List Ed), v10 = .int .u32 (bt : Int) ∧ v11 = .int .i64 (i : Int) ∧ i ≤ m ∧ Hid (Ix w W L ⟨nk, ⟨px, pt, pa, pn, pc, pL⟩, ny, ⟨gx, gt, ga, gn, gc, gL⟩, nlo, nhi, ns⟩ pl g7 g9 A5 M C5 Ap kp cp m i 0 bt a b Ae ke ce Es)) (fun _ v11 _ => m - (intOf v11).toNat)
  case atStart => exact ⟨0, 1, 0, 0, none, 0, 0, [], rfl, rfl, by omega, I0⟩
  case round =>
    obtain ⟨i, bt, a, b, Ae, ke, ce, Es, rfl, rfl, hi, I⟩ := hrel
    clear I0
    obtain ⟨⟨⟨t0, t1, t2, t3, t4, t5, t6, t7, t8, t9, t10⟩, t11, t12⟩, zg7⟩ := And.intro I.out.x.wb.cells I.out.x.wb.lt
    by_cases ci : i < m
    · have F1 := Lib.hid (FIR.out i wr _ _ _ _ _ _ I.out.x)
      have hbt : bt = 2 ^ i := by rw [I.out.bt, pow_bit i (by omega)]
      have ha : a + bt < 4294967296 := by
        have h1 := sbt_lt32 (wf 33 L 0) (i + 1) (by omega)
        have h2 := sbt_lt (wf 33 L 0) i
        have h3 : 2 ^ (i + 1) ≤ 2 ^ 32 := Nat.pow_le_pow_right (by omega) (by omega)
        rw [I.out.a, hbt]
        rw [Nat.pow_succ] at h3
        omega
      have hb : b + bt < 4294967296 := by
        have h2 := sbt_lt (wl 33 L 0) i
        have h3 : 2 ^ (i + 1) ≤ 2 ^ 32 := Nat.pow_le_pow_right (by omega) (by omega)
        rw [I.out.b, hbt]
        rw [Nat.pow_succ] at h3
        omega
      have HBT := Lib.hid hbt
      clear hbt
      obtain ⟨r1, hr1⟩ : ∃ r, wf 33 L 0 i = r := ⟨_, rfl⟩
      obtain ⟨r2, hr2⟩ : ∃ r, wl 33 L 0 i = r := ⟨_, rfl⟩
      have HR1 := Lib.hid hr1
      have HR2 := Lib.hid hr2
      rw [hr1] at F1
      clear hr1 hr2
      go_wp2_with fail
      refine F1.out.mono ?_
      rintro e w1 ⟨rfl, hb1⟩
      have X1 := Lib.hid (I.out.x.next hb1)
      have IA := Lib.hid (And.intro (And.intro I.out.a I.out.b) (And.intro I.out.e I.out.g))
      clear hb1 F1 I t0 t1 t2 t3 t4 t5 t6 t7 t8 t9 t10 t11 t12 zg7
      go_upto_if 42 with fail
      go_cut [] from 43 to 47 (fun W => Hid (Qx w W 32 L ⟨nk, ⟨px, pt, pa, pn, pc, pL⟩, ny, ⟨gx, gt, ga, gn, gc, gL⟩, nlo, nhi, ns⟩ pl g7 g9 A5 M C5 Ap kp cp (a + if r1 = true then bt else 0) b Ae ke ce Es))
      case first =>
        obtain ⟨c0, c1, c2, c3, cf⟩ := X1.out.ab.cells
        have f1 := cf 1
        have z9 := X1.out.big
        have hw : IntKind.u32.wrap ((a : Int) + (bt : Int)) = ((a + bt : Nat) : Int) := by rw [IntKind.wrap_u32]; omega
        cases r1
        · go_wp2_with fail
          go_meet
          exact X1
        · have X2 := Lib.hid (X1.out.set1 (a + bt))
          go_wp2_with fail
          go_meet
          exact X2
      case rest =>
      obtain ⟨a1, ha1⟩ : ∃ a1, (a + if r1 = true then bt else 0) = a1 := ⟨_, rfl⟩
      rw [ha1] at hcut
      have HA1 := Lib.hid ha1
      clear ha1 X1
      obtain ⟨⟨⟨t0, t1, t2, t3, t4, t5, t6, t7, t8, t9, t10⟩, t11, t12⟩, zg7⟩ := And.intro hcut.out.wb.cells hcut.out.wb.lt
      have F2 := Lib.hid (LAR.out i wc _ _ _ _ _ _ hcut.out)
      rw [HR2.out] at F2
      go_wp2_with fail
      refine F2.out.mono ?_
      rintro e w3 ⟨rfl, hb1⟩
      have X3 := Lib.hid (hcut.out.next hb1)
      clear hb1 F2 hcut t0 t1 t2 t3 t4 t5 t6 t7 t8 t9 t10 t11 t12 zg7
      go_upto_if 50 with fail
      go_cut [] from 51 to 55 (fun W => Hid (Qx w W 32 L ⟨nk, ⟨px, pt, pa, pn, pc, pL⟩, ny, ⟨gx, gt, ga, gn, gc, gL⟩, nlo, nhi, ns⟩ pl g7 g9 A5 M C5 Ap kp cp a1 (b + if r2 = true then bt else 0) Ae ke ce Es))
      case first =>
        obtain ⟨c0, c1, c2, c3, cf⟩ := X3.out.ab.cells
        have f1 := cf 2
        have z9 := X3.out.big
        have hw : IntKind.u32.wrap ((b : Int) + (bt : Int)) = ((b + bt : Nat) : Int) := by rw [IntKind.wrap_u32]; omega
        cases r2
        · go_wp2_with fail
          go_meet
          exact X3
        · have X2 := Lib.hid (X3.out.set2 (b + bt))
          go_wp2_with fail
          go_meet
          exact X2
      case rest =>
      obtain ⟨b1, hb1⟩ : ∃ b1, (b + if r2 = true then bt else 0) = b1 := ⟨_, rfl⟩
      rw [hb1] at hcut
      obtain ⟨bt2, hbt2⟩ : ∃ z, bt * 2 % 4294967296 = z := ⟨_, rfl⟩
      have hw2 : IntKind.u32.wrap ((bt : Int) * 2) = (bt2 : Int) := by rw [IntKind.wrap_u32, ← hbt2]; omega
      have J0 : Hid (Ix w wc L ⟨nk, ⟨px, pt, pa, pn, pc, pL⟩, ny, ⟨gx, gt, ga, gn, gc, gL⟩, nlo, nhi, ns⟩ pl g7 g9 A5 M C5 Ap kp cp m i 0 (2 ^ i % 4294967296) (sbt (wf 33 L 0) i) (sbt (wl 33 L 0) i) Ae ke ce Es → True) := Lib.hid (fun _ => trivial)
      have S1 := Lib.hid (show a1 = sbt (wf 33 L 0) (i + 1) by rw [sbt_step, ← IA.out.1.1, HR1.out, ← HA1.out, HBT.out])
      have S2 := Lib.hid (show b1 = sbt (wl 33 L 0) (i + 1) by rw [sbt_step, ← IA.out.1.2, HR2.out, ← hb1, HBT.out])
      have S3 := Lib.hid (show bt2 = 2 ^ (i + 1) % 4294967296 by rw [← hbt2, ← pow_next, pow_bit i (by omega), HBT.out])
      have IE : Hid (Qx w wc 32 L ⟨nk, ⟨px, pt, pa, pn, pc, pL⟩, ny, ⟨gx, gt, ga, gn, gc, gL⟩, nlo, nhi, ns⟩ pl g7 g9 A5 M C5 Ap kp cp a1 b1 Ae ke ce Es ∧ Es.map ve = wedp 33 L m i 0 ∧ ∀ d ∈ Es, Qok w d.g) := Lib.hid ⟨hcut.out, IA.out.2.1, IA.out.2.2⟩
      clear hb1 hbt2 J0 hcut X3 HA1 HBT HR1 HR2 IA ha hb
      go_wp2_with fail
      go_loopw [12] (fun v12 W => ∃ (t : Nat) (Ae : Option Addr) (ke ce : Nat) (Es : List Ed), v12 = .int .i64 (t : Int) ∧ t ≤ m ∧ Hid (Qx w W 32 L ⟨nk, ⟨px, pt, pa, pn, pc, pL⟩, ny, ⟨gx, gt, ga, gn, gc, gL⟩, nlo, nhi, ns⟩ pl g7 g9 A5 M C5 Ap kp cp a1 b1 Ae ke ce Es ∧ Es.map ve = wedp 33 L m i t ∧ ∀ d ∈ Es, Qok w d.g)) (fun v12 _ => m - (intOf v12).toNat)
      case atStart => exact ⟨0, _, _, _, _, rfl, by omega, IE⟩
      case round =>
        obtain ⟨t, Ae, ke, ce, Es, rfl, ht, J⟩ := hrel
        clear IE
        by_cases ct : t < m
        · have E1 := Lib.hid (EDR.out i t wr _ _ _ _ _ _ J.out.1)
          obtain ⟨⟨⟨t0, t1, t2, t3, t4, t5, t6, t7, t8, t9, t10⟩, t11, t12⟩, zg7⟩ := And.intro J.out.1.wb.cells J.out.1.wb.lt
          obtain ⟨r, hr⟩ : ∃ r, we 33 L 0 i t = r := ⟨_, rfl⟩
          have HR := Lib.hid hr
          rw [hr] at E1
          clear hr
          rcases r with _ | x
          · obtain ⟨vz, hvz⟩ : ∃ vz : Nd, nz = vz := ⟨_, rfl⟩
            have E2 : Hid (Calls Tryz.prog 51 #[wOfT ⟨nk, ⟨px, pt, pa, pn, pc, pL⟩, ny, ⟨gx, gt, ga, gn, gc, gL⟩, nlo, nhi, ns⟩ pl A5 M C5, .int .i64 (i : Int), .int .i64 (t : Int)] wr fun e w' => e = .returned (.tuple #[nOf vz, .bool false]) ∧ Below wr.heap.size wr w') := Lib.hid (hvz ▸ E1.out)
            clear E1 hvz
            go_wp2_with fail
            refine E2.out.mono ?_
            rintro e w3 ⟨rfl, hb1⟩
            have J2 := Lib.hid (And.intro (J.out.1.next (below_go hb1 (below_alloc _ (nobj vz)))) (And.intro (J.out.2.1.trans (wedp_no HR.out).symm) J.out.2.2))
            clear hb1 E2 J t0 t1 t2 t3 t4 t5 t6 t7 t8 t9 t10 t11 t12 zg7
            go_wp2_with fail
            go_roundw
            case rel => exact ⟨t + 1, _, _, _, _, by go_num, by omega, J2⟩
            case measure => simp [intOf]; omega
          · have E2 : Hid (Calls Tryz.prog 51 #[wOfT ⟨nk, ⟨px, pt, pa, pn, pc, pL⟩, ny, ⟨gx, gt, ga, gn, gc, gL⟩, nlo, nhi, ns⟩ pl A5 M C5, .int .i64 (i : Int), .int .i64 (t : Int)] wr fun e w' => e = .returned (.tuple #[nOf x, .bool true]) ∧ Below wr.heap.size wr w') := Lib.hid E1.out
            have GX := Lib.hid (GQ.out i t x HR.out)
            have WL := Lib.hid (show Es.length + 1 ≤ 2000 by
              have h1 := congrArg List.length J.out.2.1
              rw [List.length_map] at h1
              have h2 := wedp_len 33 L m i t
              have h3 : i * m ≤ 32 * 32 := Nat.mul_le_mul (by omega) (by omega)
              omega)
            have hke := J.out.1.le
            have EV := Lib.hid (show ∀ (f' t' : Nat) (g : Qu), f' = i → t' = t → g = x.g → (Es ++ [(⟨f', t', x.y, g⟩ : Ed)]).map ve = wedp 33 L m i (t + 1) by
              rintro _ _ _ rfl rfl rfl
              rw [List.map_append, J.out.2.1, wedp_yes HR.out]; rfl)
            obtain ⟨mk, ⟨qx, qt, qa, qn, qc, qL⟩, my, ⟨hx, ht', ha, hn', hc, hL⟩, mlo, mhi, ms⟩ := x
            clear E1
            go_wp2_with fail
            refine E2.out.mono ?_
            rintro e w3 ⟨rfl, hb1⟩
            have X3 := Lib.hid (J.out.1.next hb1)
            have JG := Lib.hid J.out.2.2
            clear hb1 E2 J t0 t1 t2 t3 t4 t5 t6 t7 t8 t9 t10 t11 t12 zg7
            obtain ⟨c0, c1, c2, c3, cf⟩ := X3.out.ab.cells
            have z9 := X3.out.big
            have hwi : IntKind.u8.wrap (i : Int) = (i : Int) := by rw [IntKind.wrap_u8]; omega
            have hwt : IntKind.u8.wrap (t : Int) = (t : Int) := by rw [IntKind.wrap_u8]; omega
            have X5 := Lib.hid (fun (o1 o2 : Obj) => X3.out.next (below_go (below_alloc w3 o1) (below_alloc _ o2)))
            have HKE := Lib.hid hke
            clear hke cf
            go_wp2_with (at_builtin; refine wp_appe (.tmp 72) (.tmp 82) _ (by rfl) (by rfl) (g9 + 1) _ Es (by rfl) (X5.out _ _).re _ 1 ⟨i, t, my, ⟨hx, ht', ha, hn', hc, hL⟩⟩ (by rfl) (ecl_cells (by simp [go_sem]) (by simp [go_sem]) (by simp [go_sem]) (by simp [go_sem]) (by simp [go_sem]) (by simp [go_sem])) (ke + 1) (by rw [HKE.out]) (by have := WL.out; have := HKE.out; omega) (by have := (X5.out (nobj ⟨mk, ⟨qx, qt, qa, qn, qc, qL⟩, my, ⟨hx, ht', ha, hn', hc, hL⟩, mlo, mhi, ms⟩) (.cells #[] 0)).big; simp at this ⊢; omega) ?_; intro A7 c7 w7 hO7 hb7; have K7 := Lib.hid ((X5.out _ _).keep hb7 hO7 (by rw [List.length_append, HKE.out]; rfl)); have fz := ((X5.out _ _).ab.below hb7 (Nat.lt_succ_self _)).cells.2.2.2.2 3; have z7 := ((X5.out _ _).ab.below hb7 (Nat.lt_succ_self _)).lt; have cc7 := ((X5.out _ _).ab.below hb7 (Nat.lt_succ_self _)).cells.2.2.2.1)
            have J2 := Lib.hid (And.intro K7.out (And.intro (EV.out i t ⟨hx, ht', ha, hn', hc, hL⟩ rfl rfl rfl) (show ∀ d ∈ Es ++ [(⟨i, t, my, ⟨hx, ht', ha, hn', hc, hL⟩⟩ : Ed)], Qok w d.g from fun d hd => by
              rcases List.mem_append.1 hd with hd | hd
              · exact JG.out d hd
              · rw [List.mem_singleton] at hd; rw [hd]; exact GX.out)))
            go_roundw
            case rel => exact ⟨t + 1, A7, ke + 1, c7, _, by go_num, by omega, J2⟩
            case measure => simp [intOf]; omega
        · obtain rfl : t = m := by omega
          have J2 : Hid (Ix w wr L ⟨nk, ⟨px, pt, pa, pn, pc, pL⟩, ny, ⟨gx, gt, ga, gn, gc, gL⟩, nlo, nhi, ns⟩ pl g7 g9 A5 M C5 Ap kp cp t (i + 1) 0 bt2 a1 b1 Ae ke ce Es) := Lib.hid ⟨J.out.1, S3.out, S1.out, S2.out, J.out.2.1.trans (wedp_turn 33 L t i), J.out.2.2⟩
          clear J
          go_wp2_with fail
          exact ⟨⟨i + 1, bt2, a1, b1, Ae, ke, ce, Es, rfl, by go_num, by omega, J2⟩, by simp [intOf]; omega⟩
    · obtain rfl : i = m := by omega
      have hke := I.out.x.le
      have WE := I.out.e
      rw [wedp_end] at WE
      have hlen : (wed 33 L i).length = ke := by rw [← WE, List.length_map]; exact hke
      have X := Lib.hid I.out.x
      have GE := Lib.hid I.out.g
      have W1 := Lib.hid WE
      have LE := Lib.hid hlen
      have EA := Lib.hid (And.intro I.out.a I.out.b)
      have HKE := Lib.hid hke
      clear I hke WE hlen t0 t1 t2 t3 t4 t5 t6 t7 t8 t9 t10 t11 t12 zg7
      obtain ⟨c0, c1, c2, c3, cf⟩ := X.out.ab.cells
      obtain ⟨a0, a1, a2, a3, af⟩ := X.out.res.cells
      have f0 := af 0
      have f1 := af 1
      have f2 := af 2
      have f3 := af 3
      have zr := X.out.res.lt
      have z9 := X.out.big
      have h79 : w.heap.size + 1 < g9 := by have := X.out.o7; have := X.out.o9; omega
      clear af cf
      by_cases hbig : 64 < ke
      · have hb1 : decide ((64 : Int) < (ke : Int)) = true := by simp; omega
        have hb2 : (64 : Int) < (ke : Int) := by omega
        have BF := Lib.hid ((((X.out.bel.setCell (p := ⟨w.heap.size + 1, 0, none⟩) (Nat.le_succ _) (.slice none 0 0)).setCell (p := ⟨w.heap.size + 1, 1, none⟩) (Nat.le_succ _) (.int .u32 0)).setCell (p := ⟨w.heap.size + 1, 2, none⟩) (Nat.le_succ _) (.int .u32 0)).setCell (p := ⟨w.heap.size + 1, 3, none⟩) (Nat.le_succ _) (.slice none 0 0))
        go_wp2_with fail
        refine bodyPost_ret (v := .tuple #[autv none 0 0 0 0 none 0 0, .int .i64 12]) (by simp [results, Tryz.results15, go_sem, *]) rfl (.inl ⟨by rw [LE.out]; exact hbig, rfl, BF.out⟩)
      · have hb1 : decide ((64 : Int) < (ke : Int)) = false := by simp; omega
        have hb2 : ¬ (64 : Int) < (ke : Int) := by omega
        have BF := Lib.hid ((((X.out.bel.setCell (p := ⟨w.heap.size + 1, 0, none⟩) (Nat.le_succ _) (.slice Ap kp cp)).setCell (p := ⟨w.heap.size + 1, 1, none⟩) (Nat.le_succ _) (.int .u32 (a : Int))).setCell (p := ⟨w.heap.size + 1, 2, none⟩) (Nat.le_succ _) (.int .u32 (b : Int))).setCell (p := ⟨w.heap.size + 1, 3, none⟩) (Nat.le_succ _) (.slice Ae ke ce))
        have hold : ∀ (o : Nat) (v0 v1 v2 v3 : Value), o ≠ w.heap.size + 1 → ((((wr.setCell ⟨w.heap.size + 1, 0, none⟩ v0).setCell ⟨w.heap.size + 1, 1, none⟩ v1).setCell ⟨w.heap.size + 1, 2, none⟩ v2).setCell ⟨w.heap.size + 1, 3, none⟩ v3).heap[o]? = wr.heap[o]? := fun o v0 v1 v2 v3 ho => by
          rw [heap_setCell_other _ ⟨w.heap.size + 1, 3, none⟩ o _ ho, heap_setCell_other _ ⟨w.heap.size + 1, 2, none⟩ o _ ho, heap_setCell_other _ ⟨w.heap.size + 1, 1, none⟩ o _ ho, heap_setCell_other _ ⟨w.heap.size + 1, 0, none⟩ o _ ho]
        have HO := Lib.hid hold
        clear hold
        go_wp2_with fail
        refine bodyPost_ret (v := .tuple #[autv Ap kp cp a b Ae ke ce, .int .i64 0]) (by simp [results, Tryz.results15, go_sem, *]) rfl (.inr ⟨by rw [LE.out]; omega, Ap, kp, cp, Ae, ke, ce, Es, by rw [EA.out.1, EA.out.2], ?_, KP.out, ?_, HKE.out, W1.out, GE.out, BF.out⟩)
        · exact row_same X.out.pq (fun g cur hg hh => by
            rw [HO.out g _ _ _ _ (fun e => ?_)]
            · exact hh
            · have hr := X.out.res
              unfold AB at hr
              rw [← e, hh] at hr
              injection hr with hr
              injection hr with _ hr _
              revert hr
              decide)
        · refine row_same (w := wr) ⟨X.out.re.1, ?_⟩ (fun g cur hg hh => by
            rw [HO.out g _ _ _ _ (fun e => ?_)]
            · exact hh
            · have hr := X.out.res
              unfold AB at hr
              rw [← e, hh] at hr
              injection hr with hr
              injection hr with _ hr _
              revert hr
              decide)
          rcases X.out.re.2 with h0 | ⟨g, cap, cur, hv, hg, r⟩
          · exact .inl h0
          · exact .inr ⟨g, cap, cur, hv, by omega, r⟩
end Go.Proofs.YtpnllbojifnopaaGreatDoor
