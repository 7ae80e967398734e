/- TreeMay, walked. -/
import Derived.Test.YtnjndlbhnkhlhaaDoorTrT
namespace Go.Proofs.YtnjndlbhnkhlhaaDoor
open Go Go.RowKit Pk Rl
set_option maxRecDepth 20000

theorem sm_of {L D : List Nd} {m : Nat} (h : D.map (cn 10) = (L.take m).map (cn 10)) (hs : ∀ v ∈ L, Sm v) (hl : ∀ v ∈ D, v.p.L.length ≤ 10 ∧ v.g.L.length ≤ 10) : ∀ v ∈ D, Sm v := by
  intro v hv
  have : cn 10 v ∈ (L.take m).map (cn 10) := by rw [← h]; exact List.mem_map.2 ⟨v, hv, rfl⟩
  obtain ⟨u, hu, e⟩ := List.mem_map.1 this
  have hs := hs u (List.mem_of_mem_take hu)
  unfold cn cq at e
  simp only [Prod.mk.injEq] at e
  obtain ⟨_, ⟨_, _, e1⟩, _, ⟨_, _, e2⟩, _⟩ := e
  have hl := hl v hv
  rw [List.take_of_length_le hl.1] at e1
  rw [List.take_of_length_le hl.2] at e2
  refine ⟨fun t ht => hs.1 t ?_, fun t ht => hs.2 t ?_⟩
  · rw [← e1] at ht; exact List.mem_of_mem_take ht
  · rw [← e2] at ht; exact List.mem_of_mem_take ht
structure MX (w W : World) (g1 g2 : Nat) (A : Option Addr) (k c : Nat) (win : Int) (D : List Nd) (nd : Nd) (At : Option Addr) (m Ct : Nat) (F : Nat → Prop) : Prop where
  p : PtB W g1 A k c win
  t : Trb W g2 nd At m Ct
  pt : Pt W A k c D
  tr : Trs 33 W F At (pts D)
  fb : ∀ b, F b → b < W.heap.size
  tab : Tab W
  bel : Below w.heap.size w W
theorem MX.next {w W W' : World} {g1 g2 : Nat} {A : Option Addr} {k c : Nat} {win : Int} {D : List Nd} {nd : Nd} {At : Option Addr} {m Ct : Nat} {F : Nat → Prop} (h : MX w W g1 g2 A k c win D nd At m Ct F) (hb : Below W.heap.size W W') : MX w W' g1 g2 A k c win D nd At m Ct F :=
  ⟨h.p.next hb, h.t.below hb h.t.lt, h.pt.below hb, h.tr.below hb h.fb, fun b hf => Nat.lt_of_lt_of_le (h.fb b hf) hb.size, h.tab.below hb, below_go h.bel hb⟩
structure PX (w W : World) (g1 : Nat) (A : Option Addr) (k c : Nat) (win : Int) (D : List Nd) : Prop where
  p : PtB W g1 A k c win
  pt : Pt W A k c D
  tab : Tab W
  bel : Below w.heap.size w W
theorem PX.next {w W W' : World} {g1 : Nat} {A : Option Addr} {k c : Nat} {win : Int} {D : List Nd} (h : PX w W g1 A k c win D) (hb : Below W.heap.size W W') : PX w W' g1 A k c win D :=
  ⟨h.p.next hb, h.pt.below hb, h.tab.below hb, below_go h.bel hb⟩
abbrev Kmw (w W : World) (g1 g2 : Nat) (A : Option Addr) (k c : Nat) (win : Int) (D : List Nd) (nd : Nd) (At : Option Addr) (m Ct : Nat) (F : Nat → Prop) : Prop :=
  W.cell? ⟨g1, 0, none⟩ = some (.slice A k c) ∧ W.cell? ⟨g1, 1, none⟩ = some (.int .u64 win) ∧
  W.cell? ⟨g2, 0, none⟩ = some (.int .u8 nd.k) ∧ W.cell? ⟨g2, 1, none⟩ = some (.bool nd.p.x) ∧ W.cell? ⟨g2, 2, none⟩ = some (.int .u8 nd.p.t) ∧ W.cell? ⟨g2, 3, none⟩ = some (.slice nd.p.a nd.p.n nd.p.c) ∧
  W.cell? ⟨g2, 4, none⟩ = some (.bool nd.y) ∧ W.cell? ⟨g2, 5, none⟩ = some (.bool nd.g.x) ∧ W.cell? ⟨g2, 6, none⟩ = some (.int .u8 nd.g.t) ∧ W.cell? ⟨g2, 7, none⟩ = some (.slice nd.g.a nd.g.n nd.g.c) ∧
  W.cell? ⟨g2, 8, none⟩ = some (.int .u8 nd.lo) ∧ W.cell? ⟨g2, 9, none⟩ = some (.int .u8 nd.hi) ∧ W.cell? ⟨g2, 10, none⟩ = some (.int .i64 nd.s) ∧ W.cell? ⟨g2, 11, none⟩ = some (.slice At m Ct) ∧
  Hid (MX w W g1 g2 A k c win D nd At m Ct F)
theorem kmw_of {w W : World} {g1 g2 : Nat} {A : Option Addr} {k c : Nat} {win : Int} {D : List Nd} {nd : Nd} {At : Option Addr} {m Ct : Nat} {F : Nat → Prop} (h : MX w W g1 g2 A k c win D nd At m Ct F) : Kmw w W g1 g2 A k c win D nd At m Ct F := by
  obtain ⟨⟨e0, e1, e2, e3, e4, e5, e6, e7, e8, e9, e10⟩, e11⟩ := h.t.cells
  exact ⟨h.p.c0, h.p.c1, e0, e1, e2, e3, e4, e5, e6, e7, e8, e9, e10, e11, Lib.hid h⟩
theorem kmw_next {w W W' : World} {g1 g2 : Nat} {A : Option Addr} {k c : Nat} {win : Int} {D : List Nd} {nd : Nd} {At : Option Addr} {m Ct : Nat} {F : Nat → Prop} (hb : Below W.heap.size W W') (h : Kmw w W g1 g2 A k c win D nd At m Ct F) : Kmw w W' g1 g2 A k c win D nd At m Ct F := by
  obtain ⟨_, _, _, _, _, _, _, _, _, _, _, _, _, _, h⟩ := h
  exact kmw_of (h.out.next hb)
theorem mp_whole {D : List Nd} {win : Int} {k : Nat} (hk : D.length = k) (h0 : 0 ≤ win) (h : mp D win = 0) : (bld 33 D && decide ((frn D).length = k)) = true ∧ fmT 33 D = true := by
  rw [mp_two D win k hk h0] at h
  by_cases c1 : 32 < k
  · rw [if_pos c1] at h; omega
  · rw [if_neg c1] at h
    by_cases c2 : (bld 33 D && decide ((frn D).length = k)) = false ∨ fmT 33 D = false
    · rw [if_pos c2] at h; omega
    · rw [not_or] at c2
      exact ⟨by simpa using c2.1, by simpa using c2.2⟩
set_option maxHeartbeats 8000000 in
theorem tmay_walk (a : Option Addr) (n c : Nat) (L : List Nd) (win : Int) (w : World) (hn : L.length = n) (hm : n ≤ maxLen) (hv : RN w a L) (hs : ∀ v ∈ L, Sm v) (hw0 : 0 ≤ win) (hT : Tab w) :
    Calls Tryd.prog 3 #[ptv a n c win] w fun e w' => e = .returned (.bool true) ∧ Below w.heap.size w w' := by
  have B0 := Lib.hid (below_alloc w (xpobj a n c win))
  have PA := Lib.hid (pattern_any a n c L win (w.alloc (xpobj a n c win)) hn hm (hv.below B0.out))
  have T0 := Lib.hid (hT.below B0.out)
  have HS := Lib.hid hs
  have HW := Lib.hid hw0
  have FX := Lib.hid tfixed_any
  clear hn hm hv hs hT
  go_enter Tryd.func3, Tryd.ntmps3
  go_wp2_with fail
  refine PA.out.mono ?_
  rintro e w2 ⟨A, k, c', D, rfl, hDk, hDc, hDo, hb⟩
  have k40 : k ≤ 40 := by have h1 := congrArg List.length hDc; simp at h1; omega
  have pt2 := hDo.pt hDk (by omega)
  have X0 : Hid (PX w (w2.alloc (ptobj A k c' win)) w2.heap.size A k c' win D) := Lib.hid ⟨PtB.alloc _ _ _ _ _, pt2.below (below_alloc _ _), (T0.out.below hb).below (below_alloc _ _), below_go (below_go B0.out hb) (below_alloc _ _)⟩
  have SD := Lib.hid (sm_of hDc HS.out (fun v hv => by have := pt2.ok v hv; exact ⟨by rw [this.p.len]; exact this.p.few, by rw [this.g.len]; exact this.g.few⟩))
  have K40 := Lib.hid k40
  have HK := Lib.hid hDk
  clear PA hDc hDo hb pt2 B0 T0 HS k40 hDk
  have G1 := Lib.hid (fun W (h : PX w W w2.heap.size A k c' win D) => rtgreat_any A k c' D win W h.pt SD.out (by have := K40.out; omega))
  have M1 := Lib.hid (fun W (h : PX w W w2.heap.size A k c' win D) => rtmay_any A k c' D win W h.pt HW.out)
  have M2 := Lib.hid (fun W (h : PX w W w2.heap.size A k c' win D) => tmay_any A k c' D win W h.pt h.tab)
  have P1 := Lib.hid (fun W (h : PX w W w2.heap.size A k c' win D) => eplaces_any A k c' D win W h.pt h.tab)
  have D1 := Lib.hid (fun W (h : PX w W w2.heap.size A k c' win D) => edepth_any A k c' D win W h.pt h.tab)
  have TX := Lib.hid (fun (h0 : mp D win = 0) W (h : PX w W w2.heap.size A k c' win D) => rtree_any 33 A k c' D W (by have := (mp_zero h0).1; rw [HK.out] at this; exact this) h.pt)
  obtain ⟨gt, hgt⟩ : ∃ z, D.any gr = z := ⟨_, rfl⟩
  rw [hgt] at G1
  obtain ⟨e0, he0⟩ : ∃ z, mp D win = z := ⟨_, rfl⟩
  rw [he0] at M1 M2 P1 D1
  have E0 := Lib.hid he0
  clear hgt he0
  go_wp2_with fail
  refine (G1.out _ X0.out).mono ?_
  rintro e w3 ⟨rfl, hb⟩
  have X3 := Lib.hid (X0.out.next hb)
  have q0 := X3.out.p.c0
  have q1 := X3.out.p.c1
  clear hb X0 G1
  cases gt
  · go_wp2_with fail
    refine (M1.out _ X3.out).mono ?_
    rintro e w4 ⟨rfl, hb⟩
    have X4 := Lib.hid (X3.out.next hb)
    clear hb X3 M1 q0 q1
    have q0 := X4.out.p.c0
    have q1 := X4.out.p.c1
    go_wp2_with fail
    refine (M2.out _ X4.out).mono ?_
    rintro e w5 ⟨rfl, hb⟩
    have X5 := Lib.hid (X4.out.next hb)
    clear hb X4 M2 q0 q1
    have q0 := X5.out.p.c0
    have q1 := X5.out.p.c1
    by_cases h0 : e0 = 0
    · subst h0
      rw [if_pos rfl] at P1 D1
      go_wp2_with fail
      refine (TX.out E0.out _ X5.out).mono ?_
      rintro e w6 ⟨nd, At, m, Ct, rfl, hbt, hb⟩
      obtain ⟨ok1, ok2⟩ := mp_whole HK.out HW.out E0.out
      have hb33 : bld 33 D = true := by rw [Bool.and_eq_true] at ok1; exact ok1.1
      obtain ⟨hnd, hmm, htr⟩ := hbt hb33
      have hk33 : D.length < 33 := (mp_zero E0.out).1
      have X6 := Lib.hid (X5.out.next hb)
      have hszB : w5.heap.size ≤ w6.heap.size := hb.size
      have MX6 : Hid (MX w (w6.alloc (tobjT nd At m Ct)) w2.heap.size w6.heap.size A k c' win D nd At m Ct (fun b => w5.heap.size ≤ b ∧ b < w6.heap.size)) := Lib.hid ⟨X6.out.p.next (below_alloc _ _), Trb.start _ _ _ _ _, X6.out.pt.below (below_alloc _ _), htr.below (below_alloc _ _) (fun b hb => hb.2), fun b hb => by rw [World.size_alloc]; have := hb.2; omega, X6.out.tab.below (below_alloc _ _), below_go X6.out.bel (below_alloc _ _)⟩
      have TP : Hid (∀ W, MX w W w2.heap.size w6.heap.size A k c' win D nd At m Ct (fun b => w5.heap.size ≤ b ∧ b < w6.heap.size) → Calls Tryd.prog 13 #[tOfT nd At m Ct] W fun e w' => e = .returned (.int .i64 (plc 33 D)) ∧ Below W.heap.size W w') := Lib.hid fun W h => by
        have := rplaces_any 33 nd At Ct D _ W (by omega) hnd (fun v hv => ⟨(h.pt.ok v hv).h0, (h.pt.ok v hv).h1⟩) h.tr h.fb
        rw [GP, plT_fuel 33 D hk33, plT_eq 33 D ok2, ← hmm] at this
        exact this
      have TD : Hid (∀ W, MX w W w2.heap.size w6.heap.size A k c' win D nd At m Ct (fun b => w5.heap.size ≤ b ∧ b < w6.heap.size) → Calls Tryd.prog 14 #[tOfT nd At m Ct] W fun e w' => e = .returned (.int .i64 (dpt 33 D)) ∧ Below W.heap.size W w') := Lib.hid fun W h => by
        have := rdepth_any 33 (by omega) nd At Ct D _ W (by omega) h.tr h.fb
        rw [GD, dpt_fuel 33 D hk33, ← hmm] at this
        exact this
      rw [ok1]
      generalize plc 33 D = pl at P1 TP
      generalize dpt 33 D = dp at D1 TD
      obtain ⟨xk, ⟨xx, xt, xa, xn, xc, xL⟩, xy, ⟨yx, yt, ya, yn, yc, yL⟩, xlo, xhi, xs⟩ := nd
      have P1' := Lib.hid (fun W (h : Kmw w W w2.heap.size w6.heap.size A k c' win D ⟨xk, ⟨xx, xt, xa, xn, xc, xL⟩, xy, ⟨yx, yt, ya, yn, yc, yL⟩, xlo, xhi, xs⟩ At m Ct (fun b => w5.heap.size ≤ b ∧ b < w6.heap.size)) => P1.out W (by obtain ⟨_, _, _, _, _, _, _, _, _, _, _, _, _, _, h⟩ := h; exact ⟨h.out.p, h.out.pt, h.out.tab, h.out.bel⟩))
      have D1' := Lib.hid (fun W (h : Kmw w W w2.heap.size w6.heap.size A k c' win D ⟨xk, ⟨xx, xt, xa, xn, xc, xL⟩, xy, ⟨yx, yt, ya, yn, yc, yL⟩, xlo, xhi, xs⟩ At m Ct (fun b => w5.heap.size ≤ b ∧ b < w6.heap.size)) => D1.out W (by obtain ⟨_, _, _, _, _, _, _, _, _, _, _, _, _, _, h⟩ := h; exact ⟨h.out.p, h.out.pt, h.out.tab, h.out.bel⟩))
      have TP' := Lib.hid (fun W (h : Kmw w W w2.heap.size w6.heap.size A k c' win D ⟨xk, ⟨xx, xt, xa, xn, xc, xL⟩, xy, ⟨yx, yt, ya, yn, yc, yL⟩, xlo, xhi, xs⟩ At m Ct (fun b => w5.heap.size ≤ b ∧ b < w6.heap.size)) => TP.out W (by obtain ⟨_, _, _, _, _, _, _, _, _, _, _, _, _, _, h⟩ := h; exact h.out))
      have TD' := Lib.hid (fun W (h : Kmw w W w2.heap.size w6.heap.size A k c' win D ⟨xk, ⟨xx, xt, xa, xn, xc, xL⟩, xy, ⟨yx, yt, ya, yn, yc, yL⟩, xlo, xhi, xs⟩ At m Ct (fun b => w5.heap.size ≤ b ∧ b < w6.heap.size)) => TD.out W (by obtain ⟨_, _, _, _, _, _, _, _, _, _, _, _, _, _, h⟩ := h; exact h.out))
      have FX' := Lib.hid (fun W (h : Kmw w W w2.heap.size w6.heap.size A k c' win D ⟨xk, ⟨xx, xt, xa, xn, xc, xL⟩, xy, ⟨yx, yt, ya, yn, yc, yL⟩, xlo, xhi, xs⟩ At m Ct (fun b => w5.heap.size ≤ b ∧ b < w6.heap.size)) => FX.out W (by obtain ⟨_, _, _, _, _, _, _, _, _, _, _, _, _, _, h⟩ := h; exact h.out.tab))
      have KD := Lib.hid (kmw_next (Below.refl _ _).drew (kmw_of MX6.out))
      have i1 : (pl == pl) = true := by simp
      have i2 : (dp == dp) = true := by simp
      clear TX P1 D1 TP TD FX MX6 X6 X5 hb hbt ok1 ok2 hb33 hnd hmm htr hk33 hszB q0 q1 E0 SD K40 HK HW
      go_wp2_with fail
      go_region_held3 (fun W => W.cell? ⟨w2.heap.size, 0, none⟩ = some (.slice A k c') ∧ W.cell? ⟨w2.heap.size, 1, none⟩ = some (.int .u64 win) ∧ W.cell? ⟨w6.heap.size, 0, none⟩ = some (.int .u8 xk) ∧ W.cell? ⟨w6.heap.size, 1, none⟩ = some (.bool xx) ∧ W.cell? ⟨w6.heap.size, 2, none⟩ = some (.int .u8 xt) ∧ W.cell? ⟨w6.heap.size, 3, none⟩ = some (.slice xa xn xc) ∧ W.cell? ⟨w6.heap.size, 4, none⟩ = some (.bool xy) ∧ W.cell? ⟨w6.heap.size, 5, none⟩ = some (.bool yx) ∧ W.cell? ⟨w6.heap.size, 6, none⟩ = some (.int .u8 yt) ∧ W.cell? ⟨w6.heap.size, 7, none⟩ = some (.slice ya yn yc) ∧ W.cell? ⟨w6.heap.size, 8, none⟩ = some (.int .u8 xlo) ∧ W.cell? ⟨w6.heap.size, 9, none⟩ = some (.int .u8 xhi) ∧ W.cell? ⟨w6.heap.size, 10, none⟩ = some (.int .i64 xs) ∧ W.cell? ⟨w6.heap.size, 11, none⟩ = some (.slice At m Ct) ∧ Hid (MX w W w2.heap.size w6.heap.size A k c' win D ⟨xk, ⟨xx, xt, xa, xn, xc, xL⟩, xy, ⟨yx, yt, ya, yn, yc, yL⟩, xlo, xhi, xs⟩ At m Ct (fun b => w5.heap.size ≤ b ∧ b < w6.heap.size)))
        (first | (with_reducible assumption) | (with_reducible exact KD.out) | (with_reducible exact kmw_next (nd := ⟨xk, ⟨xx, xt, xa, xn, xc, xL⟩, xy, ⟨yx, yt, ya, yn, yc, yL⟩, xlo, xhi, xs⟩) b1 (by assumption)))
        (first
          | (go_at_call 7; (with_reducible refine Calls.mono (FX'.out _ ?_) ?_); (with_reducible assumption); rintro e w' ⟨rfl, b1⟩)
          | (go_at_call 10; (with_reducible refine Calls.mono (P1'.out _ ?_) ?_); (with_reducible assumption); rintro e w' ⟨rfl, b1⟩)
          | (go_at_call 11; (with_reducible refine Calls.mono (D1'.out _ ?_) ?_); (with_reducible assumption); rintro e w' ⟨rfl, b1⟩)
          | (go_at_call 13; (with_reducible refine Calls.mono (TP'.out _ ?_) ?_); (with_reducible assumption); rintro e w' ⟨rfl, b1⟩)
          | (go_at_call 14; (with_reducible refine Calls.mono (TD'.out _ ?_) ?_); (with_reducible assumption); rintro e w' ⟨rfl, b1⟩))
      all_goals (rename_i hHeld; have HB2 := Lib.hid hHeld.2.2.2.2.2.2.2.2.2.2.2.2.2.2.out.bel; clear hHeld; go_wp2_with fail; go_ret; exact ⟨rfl, HB2.out⟩)
    · rw [if_neg h0] at P1 D1
      have h1 : (e0 != 0) = true := by simp [h0]
      clear TX h0
      go_wp2_with fail
      refine (FX.out _ X5.out.tab).mono ?_
      rintro e w6 ⟨rfl, hb⟩
      have X6 := Lib.hid (X5.out.next hb)
      clear hb X5 q0 q1
      have q0 := X6.out.p.c0
      have q1 := X6.out.p.c1
      go_wp2_with fail
      refine (P1.out _ X6.out).mono ?_
      rintro e w7 ⟨rfl, hb⟩
      have X7 := Lib.hid (X6.out.next hb)
      clear hb X6 q0 q1
      have q0 := X7.out.p.c0
      have q1 := X7.out.p.c1
      go_wp2_with fail
      refine (D1.out _ X7.out).mono ?_
      rintro e w8 ⟨rfl, hb⟩
      have X8 := Lib.hid (X7.out.next hb)
      clear hb X7 q0 q1
      go_wp2_with fail
      go_ret
      exact ⟨rfl, X8.out.bel⟩
  · go_wp2_with fail
    refine (FX.out _ X3.out.tab).mono ?_
    rintro e w4 ⟨rfl, hb⟩
    have B4 := Lib.hid (below_go X3.out.bel hb)
    clear hb X3
    go_wp2_with fail
    go_ret
    exact ⟨rfl, B4.out⟩
end Go.Proofs.YtnjndlbhnkhlhaaDoor
