/- A pattern of a node, and of parts. -/
import Derived.Test.YtccjflioaajgiaaGreatDoorDnW
import Derived.Test.YtccjflioaajgiaaGreatDoorMU
import Derived.Test.YtccjflioaajgiaaGreatDoorDnAn
namespace Go.Proofs.YtccjflioaajgiaaGreatDoor
open Go Go.RowKit Go.Maps Pk Rl
set_option maxRecDepth 20000

structure Pp where
  a : Option Addr
  n : Nat
  c : Nat
  win : Nat
  D : List Nd
abbrev pz : Pp := ⟨none, 0, 0, 0, []⟩
structure PpR (w : World) (A : Option Addr) (P : List Pp) : Prop where
  row : ∀ i, i < P.length → ∃ b off, A = some ⟨b, off, none⟩ ∧ w.cell? ⟨b, off + i * 2, none⟩ = some (.slice (P.getD i pz).a (P.getD i pz).n (P.getD i pz).c) ∧ w.cell? ⟨b, off + i * 2 + 1, none⟩ = some (.int .u64 ((P.getD i pz).win : Int))
  ok : ∀ x ∈ P, Pt w x.a x.n x.c x.D ∧ (x.a = none → x.c = 0)
theorem PpR.below {w w' : World} {A : Option Addr} {P : List Pp} (h : PpR w A P) (hb : Below w.heap.size w w') : PpR w' A P := ⟨fun i hi => by
  obtain ⟨b, off, e, h0, h1⟩ := h.row i hi
  exact ⟨b, off, e, Ck.of_below hb _ _ _ h0, Ck.of_below hb _ _ _ h1⟩, fun x hx => ⟨(h.ok x hx).1.below hb, (h.ok x hx).2⟩⟩
def flt (P : List Pp) : List Nd := P.flatMap fun x => x.D
theorem ppgetD_mem (P : List Pp) (k : Nat) (h : k < P.length) : P.getD k pz ∈ P := by
  rw [List.getD_eq_getElem?_getD, List.getElem?_eq_getElem h]; exact List.getElem_mem _
theorem flt_next (P : List Pp) (k : Nat) (h : k < P.length) : flt (P.take (k + 1)) = flt (P.take k) ++ (P.getD k pz).D := by
  rw [List.take_succ_eq_append_getElem h, List.getD_eq_getElem?_getD, List.getElem?_eq_getElem h]
  unfold flt
  rw [List.flatMap_append]; simp
structure Wo (w1 W : World) (g : Nat) (A : Option Addr) (n c : Nat) (win : Int) (D : List Nd) : Prop where
  box : PtB W g A n c win
  own : RowN W w1.heap.size (.slice A n c) D
  bel : Below w1.heap.size w1 W
  big : w1.heap.size ≤ g
theorem Wo.one1 (w1 : World) (o : Nd) (W0 : Int) : Wo w1 ((w1.alloc (nobj o)).alloc (ptobj (some ⟨w1.heap.size, 0, none⟩) 1 1 W0)).drew (w1.heap.size + 1) (some ⟨w1.heap.size, 0, none⟩) 1 1 W0 [o] := by
  refine ⟨?_, rowN_below (RowN.one w1 w1.heap.size (Nat.le_refl _) o) (bal _ _).drew, (below_go (bal w1 _) (bal _ _)).drew, by omega⟩
  have := PtB.alloc (w1.alloc (nobj o)) (some ⟨w1.heap.size, 0, none⟩) 1 1 W0
  rw [World.size_alloc] at this
  exact this
theorem Wo.one2 (w1 : World) (o : Nd) (W0 : Int) : Wo w1 ((w1.alloc (ptobj (some ⟨w1.heap.size + 1, 0, none⟩) 1 1 W0)).alloc (nobj o)).drew w1.heap.size (some ⟨w1.heap.size + 1, 0, none⟩) 1 1 W0 [o] := by
  refine ⟨(PtB.alloc w1 _ 1 1 W0).next (bal _ _).drew, ?_, (below_go (bal w1 _) (bal _ _)).drew, by omega⟩
  have := RowN.one (w1.alloc (ptobj (some ⟨w1.heap.size + 1, 0, none⟩) 1 1 W0)) w1.heap.size (by rw [World.size_alloc]; omega) o
  rw [World.size_alloc] at this
  exact this
theorem RowN.setP {w : World} {B : Nat} {v : Value} {D : List Nd} (h : RowN w B v D) {g : Nat} {a : Option Addr} {n c : Nat} {win : Int} (hp : PtB w g a n c win) (j : Nat) (x : Value) : RowN (w.setCell ⟨g, j, none⟩ x) B v D := by
  refine ⟨h.1, ?_⟩
  rcases h.2 with h0 | ⟨r, cap, cur, hv, hr, hh, t⟩
  · exact .inl h0
  · refine .inr ⟨r, cap, cur, hv, hr, ?_, t⟩
    rw [heap_setCell_other w ⟨g, j, none⟩ r x (fun e => ?_)]
    · exact hh
    · have e : r = g := e
      unfold PtB at hp
      rw [e, hp] at hh
      injection hh with hh
      injection hh with _ hh _
      exact absurd hh (by decide)
theorem Nds.setO {w : World} {r : Nat} {D : List Nd} (h : Nds w (some ⟨r, 0, none⟩) D) (g j : Nat) (x : Value) (hne : r ≠ g) : Nds (w.setCell ⟨g, j, none⟩ x) (some ⟨r, 0, none⟩) D := fun i hi => by
  obtain ⟨b, off, e, h0, h1, h2, h3, h4, h5, h6, h7, h8, h9, h10⟩ := h i hi
  injection e with e
  injection e with e1 e2 _
  subst e1 e2
  refine ⟨r, 0, rfl, ?_⟩
  refine ⟨?_, ?_, ?_, ?_, ?_, ?_, ?_, ?_, ?_, ?_, ?_⟩ <;> (rw [cell_set_ne _ _ _ _ _ _ hne]; assumption)
set_option maxHeartbeats 4000000 in
theorem whole_any (x : Nd) (pA : Option Addr) (P : List Pp) (pN pc : Nat) (w : World) (hP : PpR w pA P) (hN : P.length = pN) (h0 : 0 < pN) (h9 : pN ≤ 5) (hf : (flt P).length ≤ 500) (hx : Nok w x) :
    Calls Tryz.prog 20 #[nOf x, .slice pA pN pc] w fun e w' => (∃ A c, e = .returned (ptv A ((flt P).length + 1) c ((P.getD 0 pz).win : Int)) ∧ Pt w' A ((flt P).length + 1) c (⟨x.k, x.p, x.y, x.g, x.lo, x.hi, ((flt P).length : Int)⟩ :: flt P)) ∧ Below w.heap.size w w' := by
  obtain ⟨b, off, rfl, f0, f1⟩ := hP.row 0 (by omega)
  rw [Nat.zero_mul, Nat.add_zero] at f0 f1
  obtain ⟨W0, hW0⟩ : ∃ z, (P.getD 0 pz).win = z := ⟨_, rfl⟩
  rw [hW0] at f1 ⊢
  have HN := Lib.hid hN
  have HF := Lib.hid hf
  obtain ⟨k, ⟨px, pt, pa, pn, pc', pL⟩, y, ⟨gx, gt, ga, gn, gc, gL⟩, lo, hi, s⟩ := x
  obtain ⟨w1, hw1⟩ : ∃ X, (w.alloc (nobj ⟨k, ⟨px, pt, pa, pn, pc', pL⟩, y, ⟨gx, gt, ga, gn, gc, gL⟩, lo, hi, s⟩)).alloc (ptobj none 0 0 0) = X := ⟨_, rfl⟩
  have B1 : Hid (Below w.heap.size w w1) := Lib.hid (hw1 ▸ below_go (bal w _) (bal _ _))
  have HP := Lib.hid (hP.below B1.out)
  have HX := Lib.hid hx
  have HPw := Lib.hid hP
  have f2 := Ck.of_below B1.out _ _ _ f1
  have x0 : Atn w1 w.heap.size 0 ⟨k, ⟨px, pt, pa, pn, pc', pL⟩, y, ⟨gx, gt, ga, gn, gc, gL⟩, lo, hi, s⟩ := hw1 ▸ (Atn.alloc w _).below (bal _ _) (by simp)
  have x1 : PtB w1 (w.heap.size + 1) none 0 0 0 := by rw [← hw1]; have := PtB.alloc (w.alloc (nobj ⟨k, ⟨px, pt, pa, pn, pc', pL⟩, y, ⟨gx, gt, ga, gn, gc, gL⟩, lo, hi, s⟩)) none 0 0 0; rwa [World.size_alloc] at this
  have X1 := Lib.hid x1
  have SZ : Hid (w1.heap.size = w.heap.size + 1 + 1) := Lib.hid (by rw [← hw1]; simp)
  clear hP hN hf hx f0 f1 hW0 x1
  obtain ⟨q0, q1, q2, q3, q4, q5, q6, q7, q8, q9, q10⟩ := x0
  simp only [Nat.zero_add] at q0 q1 q2 q3 q4 q5 q6 q7 q8 q9 q10
  have z0 : w.heap.size < w1.heap.size := by rw [SZ.out]; omega
  have z1 : b < w1.heap.size := World.block_lt_of_cell? _ _ f2
  go_enter Tryz.func20, Tryz.ntmps20
  go_upto_region 1 with fail
  go_cut [5] from 8 to 14 (fun v5 wx => ∃ g A, v5 = .pointer (some ⟨g, 0, none⟩) ∧ Hid (Wo w1 wx g A 1 1 W0 [⟨k, ⟨px, pt, pa, pn, pc', pL⟩, y, ⟨gx, gt, ga, gn, gc, gL⟩, lo, hi, s⟩]))
  case first =>
    have ZZ : Hid (w1.heap.size ≤ w1.heap.size) := Lib.hid (Nat.le_refl _)
    have kS0 := mkS (Below.refl w1.heap.size w1).drew (Nat.le_refl w1.heap.size)
    go_region_held3 (fun W => (∀ a j, a < w1.heap.size → W.cell? ⟨a, j, none⟩ = w1.cell? ⟨a, j, none⟩) ∧ Hid (Below w1.heap.size w1 W ∧ w1.heap.size ≤ W.heap.size))
      (first
        | (with_reducible assumption)
        | (with_reducible apply sCall; assumption; assumption)
        | (refine mkS ?_ ?_ <;> repeat' (first
            | (with_reducible apply sB; assumption)
            | (with_reducible apply sZ; assumption)
            | (with_reducible refine Below.alloc ?_ ?_ _)
            | (with_reducible refine Below.setCell ?_ ?_ _)
            | (with_reducible refine Below.drew ?_)
            | (rw [World.size_alloc])
            | (rw [World.size_setCell])
            | (rw [World.size_drew])
            | (with_reducible exact Below.refl _ _)
            | (with_reducible exact ZZ.out)
            | (with_reducible refine Nat.le_add_right_of_le ?_)
            | (dsimp only))))
      (first | fail)
    all_goals (rename_i hHeld; go_wp2_with fail; go_meet)
    · exact ⟨_, _, rfl, Lib.hid (Wo.one1 w1 ⟨k, ⟨px, pt, pa, pn, pc', pL⟩, y, ⟨gx, gt, ga, gn, gc, gL⟩, lo, hi, s⟩ W0)⟩
    · exact ⟨_, _, rfl, Lib.hid (Wo.one2 w1 ⟨k, ⟨px, pt, pa, pn, pc', pL⟩, y, ⟨gx, gt, ga, gn, gc, gL⟩, lo, hi, s⟩ W0)⟩
  case rest =>
    obtain ⟨g, A0, rfl, HC⟩ := hcut
    have X2 := Lib.hid (X1.out.below HC.out.bel (by rw [SZ.out]; omega))
    clear q0 q1 q2 q3 q4 q5 q6 q7 q8 q9 q10 f2
    go_wp2_with fail
    go_loopw [17] (fun t W => ∃ (i : Nat) (A : Option Addr) (n c : Nat), i ≤ pN ∧ t = .int .i64 (i : Int) ∧ Hid (Wo w1 W g A n c W0 (⟨k, ⟨px, pt, pa, pn, pc', pL⟩, y, ⟨gx, gt, ga, gn, gc, gL⟩, lo, hi, s⟩ :: flt (P.take i)) ∧ n = (flt (P.take i)).length + 1)) (fun t _ => pN - (intOf t).toNat)
    case atStart => exact ⟨0, A0, 1, 1, Nat.zero_le _, rfl, Lib.hid ⟨HC.out, rfl⟩⟩
    case round =>
      obtain ⟨i, A, n, c, hi', rfl, I⟩ := hrel
      by_cases hlt : i < pN
      · obtain ⟨b', off', e, f0, f1⟩ := HP.out.row i (by rw [HN.out]; exact hlt)
        injection e with e
        injection e with e1 e2 _
        subst e1 e2
        have OKP := Lib.hid (HP.out.ok _ (ppgetD_mem P i (by rw [HN.out]; exact hlt)))
        have FN := Lib.hid (flt_next P i (by rw [HN.out]; exact hlt))
        have FL : Hid ((flt (P.take (i + 1))).length ≤ 500) := Lib.hid (by
          have h1 := HF.out
          have e : flt P = flt (P.take (i + 1)) ++ flt (P.drop (i + 1)) := by unfold flt; rw [← List.flatMap_append, List.take_append_drop]
          rw [e, List.length_append] at h1
          omega)
        have g0 := Ck.of_below (w' := wr) (Below.trans (Below.refl _ _) I.out.1.bel) _ _ _ f0
        have g1 := Ck.of_below (w' := wr) (Below.trans (Below.refl _ _) I.out.1.bel) _ _ _ f1
        generalize P.getD i pz = q at g0 g1 OKP FN
        have c0 := I.out.1.box.c0
        have zg := I.out.1.box.lt
        have zb : b < wr.heap.size := World.block_lt_of_cell? _ _ g1
        have BW : Hid (∀ o, Below w1.heap.size w1 (wr.alloc o)) := Lib.hid (fun o => I.out.1.bel.trans ((bal wr o).mono I.out.1.bel.size))
        have LL : Hid (((⟨k, ⟨px, pt, pa, pn, pc', pL⟩, y, ⟨gx, gt, ga, gn, gc, gL⟩, lo, hi, s⟩ :: flt (P.take i) : List Nd) ++ q.D) = ⟨k, ⟨px, pt, pa, pn, pc', pL⟩, y, ⟨gx, gt, ga, gn, gc, gL⟩, lo, hi, s⟩ :: flt (P.take (i + 1))) := Lib.hid (by rw [FN.out]; rfl)
        clear FN f0 f1
        go_wp2_with ((with_reducible show wpList _ _ _ (Oper.mk (some 25) _ _ _ _ _ :: _) _ _); refine wp_appns2 (.tmp 22) (.tmp 24) _ rfl rfl w1.heap.size _ _ rfl (rowN_below I.out.1.own (bal _ _)) q.a q.n q.c q.D rfl OKP.out.1.len (OKP.out.1.row.below (BW.out _)) OKP.out.2 ((flt (P.take (i + 1))).length + 1) (by rw [LL.out]; rfl) (by have := FL.out; omega) (BW.out _).size ?_; intro A8 c8 w8 hO hb8 hp8; have hp9 := hp8 _ _ _ _ _ (I.out.1.box.next (bal _ _)); have c0' := hp9.c0; have fr' := hp9.free 0; have M8 : Hid (Wo w1 (w8.setCell ⟨g, 0, none⟩ (.slice A8 ((flt (P.take (i + 1))).length + 1) c8)) g A8 ((flt (P.take (i + 1))).length + 1) c8 W0 (⟨k, ⟨px, pt, pa, pn, pc', pL⟩, y, ⟨gx, gt, ga, gn, gc, gL⟩, lo, hi, s⟩ :: flt (P.take (i + 1)))) := Lib.hid ⟨hp9.set _ _ _, (by rw [LL.out] at hO; exact hO.setP hp9 0 _), ((BW.out _).trans hb8).setCell I.out.1.big _, I.out.1.big⟩; clear hO hb8 hp8 hp9)
        exact ⟨⟨i + 1, A8, _, c8, by omega, by go_num, Lib.hid ⟨M8.out, rfl⟩⟩, by simp [intOf]; omega⟩
      · obtain rfl : i = pN := by omega
        obtain ⟨hW, hn⟩ := I.out
        rw [List.take_of_length_le (by rw [HN.out]; exact Nat.le_refl _)] at hW hn
        have X3 := X1.out.below hW.bel (by rw [SZ.out]; omega)
        have d0 := X3.c0
        have d1 := X3.c1
        have d2 := X3.free 0
        have d3 := X3.free 1
        have c0 := hW.box.c0
        have c1 := hW.box.c1
        obtain ⟨r, rfl, hBr, hrl, hfr, hnn, hnc, hnds, hs6, cur, hcur⟩ := hW.own.free
        have fr := hfr 10
        have s6 : wr.cell? ⟨r, 10, none⟩ = some (.int .i64 s) := hs6
        have n4 : r ≠ g := fun e => by
          have hp := hW.box
          unfold PtB at hp
          rw [e, hp] at hcur
          injection hcur with hh
          injection hh with _ hh _
          exact absurd hh (by decide)
        have n5 : g ≠ r := fun e => n4 e.symm
        have hbig := hW.big
        have z2 : w.heap.size + 1 < r := by have := SZ.out; omega
        have z3 : w.heap.size + 1 < g := by have := SZ.out; omega
        have hfl := HF.out
        have hsub : (n : Int) - 1 = ((flt P).length : Int) := by rw [hn]; omega
        have HW2 := Lib.hid hW
        have ND := Lib.hid hnds
        have NC := Lib.hid hnc
        have N1 := Lib.hid hn
        have hn501 : n ≤ 501 := by omega
        have hn1 : 1 ≤ n := by omega
        clear I hW hnds hfr hs6 hcur X3 hnn hn hnc hlt hi'
        go_wp2_with fail
        have B9 := Lib.hid ((((B1.out.trans (HW2.out.bel.mono B1.out.size)).setCell (p := ⟨r, 10, none⟩) (by show w.heap.size ≤ r; omega) (.int .i64 ((flt P).length : Int))).setCell (p := ⟨w.heap.size + 1, 0, none⟩) (by show w.heap.size ≤ w.heap.size + 1; omega) (.slice (some ⟨r, 0, none⟩) n c)).setCell (p := ⟨w.heap.size + 1, 1, none⟩) (by show w.heap.size ≤ w.heap.size + 1; omega) (.int .u64 (W0 : Int)))
        have N9 := Lib.hid (((ND.out.size ((flt P).length : Int)).setO (w.heap.size + 1) 0 (.slice (some ⟨r, 0, none⟩) n c) (by omega)).setO (w.heap.size + 1) 1 (.int .u64 (W0 : Int)) (by omega))
        have ck9 := Ck.of_below B9.out
        have PT := Pt.mk (by rw [List.length_cons]) (show (flt P).length + 1 ≤ 1000 by omega) (show (flt P).length + 1 ≤ c by have := NC.out; have := N1.out; omega) N9.out (fun v hv => by
          rcases List.mem_cons.1 hv with rfl | hv
          · have hx := HX.out
            exact ⟨hx.p.ck ck9, hx.g.ck ck9, hx.k0, hx.k1, hx.l0, hx.l1, hx.h0, hx.h1, by show _ ≤ ((flt P).length : Int); omega, by show ((flt P).length : Int) ≤ _; omega⟩
          · obtain ⟨q, hq, hv⟩ := List.mem_flatMap.1 hv
            exact ((HPw.out.ok q hq).1.ok v hv).ck ck9)
        obtain rfl := N1.out
        exact bodyPost_ret (v := ptv (some ⟨r, 0, none⟩) ((flt P).length + 1) c (W0 : Int)) (by simp [results, Tryz.results20, go_sem, *]) rfl ⟨⟨_, _, rfl, PT⟩, B9.out⟩
end Go.Proofs.YtccjflioaajgiaaGreatDoor
