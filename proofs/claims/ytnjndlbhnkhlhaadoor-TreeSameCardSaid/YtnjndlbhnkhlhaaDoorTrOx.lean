/- Own, walked. -/
import Derived.Test.YtnjndlbhnkhlhaaDoorTrOw
namespace Go.Proofs.YtnjndlbhnkhlhaaDoor
open Go Go.RowKit Pk Rl
set_option maxRecDepth 20000

structure OwI (w W : World) (A : Option Addr) (a : Option Addr) (n c : Nat) (win : Int) (D Dm : List Nd) (i : Nat) : Prop where
  b1 : PtB W w.heap.size a n c win
  b2 : PtB W (w.heap.size + 1) none 0 0 0
  bel : Below w.heap.size w W
  big : w.heap.size + 2 ≤ W.heap.size
  len : Dm.length = n
  er : ∀ j, j < n → er (Dm.getD j nz) = er (D.getD j nz)
  rest : ∀ j, i ≤ j → j < n → Dm.getD j nz = D.getD j nz
  own : 0 < n → ∃ g, A = some ⟨g, 0, none⟩ ∧ OwB W (w.heap.size + 2) g Dm i
def OwR (w : World) (n : Nat) (D : List Nd) (win : Int) (e : Ending) (w' : World) : Prop :=
  ∃ A c' D', e = .returned (ptv A n c' win) ∧ D'.length = n ∧ (∀ i, i < n → er (D'.getD i nz) = er (D.getD i nz)) ∧ Pt w' A n c' D' ∧ (0 < n → ∃ g, A = some ⟨g, 0, none⟩ ∧ OwB w' w.heap.size g D' n) ∧ Below w.heap.size w w'
theorem OwI.done {w W : World} {A a : Option Addr} {n c c' : Nat} {win : Int} {D Dm : List Nd} (h : OwI w W A a n c win D Dm n) (hP : Pt w a n c D) (hc : n ≤ c') :
    OwR w n D win (.returned (ptv A n c' win)) ((W.setCell ⟨w.heap.size + 1, 0, none⟩ (.slice A n c')).setCell ⟨w.heap.size + 1, 1, none⟩ (.int .u64 win)) := by
  have hO : 0 < n → ∃ g, A = some ⟨g, 0, none⟩ ∧ OwB ((W.setCell ⟨w.heap.size + 1, 0, none⟩ (.slice A n c')).setCell ⟨w.heap.size + 1, 1, none⟩ (.int .u64 win)) (w.heap.size + 2) g Dm n := fun h0 => by
    obtain ⟨g, e, o⟩ := h.own h0
    exact ⟨g, e, (o.low _ 0 (by omega) _).low _ 1 (by omega) _⟩
  refine ⟨A, c', Dm, rfl, h.len, h.er, ⟨h.len, hP.few, hc, fun i hi => ?_, fun v hv => ?_⟩, fun h0 => ?_, (h.bel.setCell (by show w.heap.size ≤ w.heap.size + 1; omega) _).setCell (by show w.heap.size ≤ w.heap.size + 1; omega) _⟩
  · obtain ⟨g, rfl, o⟩ := hO (by have := h.len; omega)
    exact o.row i hi
  · obtain ⟨i, hi, rfl⟩ := List.getElem_of_mem hv
    obtain ⟨g, _, o⟩ := hO (by have := h.len; omega)
    have hin : i < n := by have := h.len; omega
    have e : Dm[i] = Dm.getD i nz := by rw [List.getD_eq_getElem?_getD, List.getElem?_eq_getElem hi]; rfl
    rw [e]
    exact er_nok (h.er i hin) (hP.ok _ (ngetD_mem D i (by rw [hP.len]; exact hin))) (o.own i hin).1.own.vals (o.own i hin).2.own.vals
  · obtain ⟨g, e, o⟩ := hO h0
    exact ⟨g, e, o.mono (by omega)⟩
theorem OwI.next {w W W' : World} {A a : Option Addr} {n c : Nat} {win : Int} {D Dm : List Nd} {i : Nat} (h : OwI w W A a n c win D Dm i) (hb : Below W.heap.size W W') : OwI w W' A a n c win D Dm i :=
  ⟨h.b1.next hb, h.b2.next hb, below_go h.bel hb, Nat.le_trans h.big hb.size, h.len, h.er, h.rest, fun h0 => by obtain ⟨g, e, o⟩ := h.own h0; exact ⟨g, e, o.below hb⟩⟩
theorem OwI.step {w W W5 : World} {g : Nat} {a : Option Addr} {n c : Nat} {win : Int} {D Dm : List Nd} {i : Nat} {x : Nd} {A1 A2 : Option Addr} {c1 c2 : Nat}
    (h : OwI w W (some ⟨g, 0, none⟩) a n c win D Dm i) (hi : i < n) (hx : D.getD i nz = x) (hP : OwnT W (w.heap.size + 2) (.slice A1 x.p.n c1) x.p.L) (hPd : ∀ z, (Value.slice A1 x.p.n c1).ownBlock = some z → z ≠ g)
    (hb : Below (W.setCell ⟨g, i * 11 + 3, none⟩ (.slice A1 x.p.n c1)).heap.size (W.setCell ⟨g, i * 11 + 3, none⟩ (.slice A1 x.p.n c1)) W5) (hG : OwnT W5 (w.heap.size + 2) (.slice A2 x.g.n c2) x.g.L) (hGd : ∀ z, (Value.slice A2 x.g.n c2).ownBlock = some z → z ≠ g) :
    OwI w (W5.setCell ⟨g, i * 11 + 7, none⟩ (.slice A2 x.g.n c2)) (some ⟨g, 0, none⟩) a n c win D ((Dm.set i (setp x A1 c1)).set i (setg (setp x A1 c1) A2 c2)) (i + 1) := by
  obtain ⟨g', e, o⟩ := h.own (by omega)
  injection e with e
  injection e with e1
  subst e1
  have hge := o.ge
  have hil : i < Dm.length := by rw [h.len]; exact hi
  have hdx : Dm.getD i nz = x := by rw [h.rest i (Nat.le_refl _) hi]; exact hx
  have o1 := o.setp hil A1 c1
  rw [hdx] at o1
  have o2 := o1.below hb
  have g1 : (Dm.set i (setp x A1 c1)).getD i nz = setp x A1 c1 := by rw [nset_getD Dm i _ i hil, if_pos rfl]
  have hil2 : i < (Dm.set i (setp x A1 c1)).length := by rw [List.length_set]; exact hil
  have o3 := o2.setg hil2 A2 c2
  rw [g1] at o3
  have gg : ∀ j, ((Dm.set i (setp x A1 c1)).set i (setg (setp x A1 c1) A2 c2)).getD j nz = if j = i then setg (setp x A1 c1) A2 c2 else Dm.getD j nz := fun j => by
    rw [nset_getD _ i _ j hil2]
    by_cases e : j = i
    · rw [if_pos e, if_pos e]
    · rw [if_neg e, if_neg e, nset_getD Dm i _ j hil, if_neg e]
  have qp : QW (W5.setCell ⟨g, i * 11 + 7, none⟩ (.slice A2 x.g.n c2)) (w.heap.size + 2) g (setp x A1 c1).p := by
    have := ((⟨hP, hPd⟩ : QW W (w.heap.size + 2) g (setp x A1 c1).p).set (i * 11 + 3) (.slice A1 x.p.n c1)).below hb
    exact this.set _ _
  have qg : QW (W5.setCell ⟨g, i * 11 + 7, none⟩ (.slice A2 x.g.n c2)) (w.heap.size + 2) g (setg (setp x A1 c1) A2 c2).g :=
    (⟨hG, hGd⟩ : QW W5 (w.heap.size + 2) g (setg (setp x A1 c1) A2 c2).g).set _ _
  refine ⟨((h.b1.other _ _ _ (by omega)).next hb).other _ _ _ (by omega), ((h.b2.other _ _ _ (by omega)).next hb).other _ _ _ (by omega), (below_go (h.bel.setCell (by show w.heap.size ≤ g; omega) _) hb).setCell (by show w.heap.size ≤ g; omega) _, ?_, ?_, fun j hj => ?_, fun j h1 h2 => ?_, fun _ => ⟨g, rfl, o3.succ ?_ ?_⟩⟩
  · rw [World.size_setCell]; have := hb.size; rw [World.size_setCell] at this; exact Nat.le_trans h.big this
  · rw [List.length_set, List.length_set]; exact h.len
  · rw [gg]
    by_cases e : j = i
    · subst e; rw [if_pos rfl, hx]; rfl
    · rw [if_neg e]; exact h.er j hj
  · rw [gg, if_neg (by omega)]; exact h.rest j (by omega) h2
  · rw [gg, if_pos rfl]; exact qp
  · rw [gg, if_pos rfl]; exact qg
set_option maxHeartbeats 4000000 in
theorem town_any (a : Option Addr) (n c : Nat) (D : List Nd) (win : Int) (w : World) (hP : Pt w a n c D) : Calls Tryd.prog 15 #[ptv a n c win] w (OwR w n D win) := by
  have HP := Lib.hid hP
  have B0 := Lib.hid (below2 w (ptobj a n c win) (ptobj none 0 0 0))
  have X1 := Lib.hid ((PtB.alloc w a n c win).next (below_alloc _ (ptobj none 0 0 0)))
  have X2 : Hid (PtB ((w.alloc (ptobj a n c win)).alloc (ptobj none 0 0 0)) (w.heap.size + 1) none 0 0 0) := Lib.hid (by have := PtB.alloc (w.alloc (ptobj a n c win)) none 0 0 0; rw [World.size_alloc] at this; exact this)
  have hfew := hP.few
  have NC := Lib.hid (nclone_any a n c D _ hP.len hP.few (hP.row.below B0.out))
  clear hP
  go_enter Tryd.func15, Tryd.ntmps15
  go_wp2_with fail
  refine NC.out.mono ?_
  rintro e w2 ⟨A, c', rfl, hR, hb⟩
  have HC := Lib.hid (show n ≤ c' by obtain ⟨A', cc, e, _, h⟩ := hR.form; injection e with e1 e2 e3; omega)
  have I0 : Hid (OwI w w2 A a n c win D D 0) := Lib.hid ⟨X1.out.next hb, X2.out.next hb, below_go B0.out hb, by have := hb.size; simp at this; omega, HP.out.len, fun _ _ => rfl, fun _ _ _ => rfl, fun h0 => by
    obtain ⟨g, cc, e, _, o⟩ := hR.owb (by intro e; have := HP.out.len; rw [e] at this; simp at this; omega)
    injection e with e1 e2 e3
    exact ⟨g, e1, o.mono (by simp)⟩⟩
  clear hR hb X1 X2 NC
  go_wp2_with fail
  go_loopw [11] (fun v W => ∃ (i : Nat), v = .int .i64 (i : Int) ∧ i ≤ n ∧ Hid (∃ Dm, OwI w W A a n c win D Dm i)) (fun v _ => n - (intOf v).toNat)
  case atStart => exact ⟨0, rfl, by omega, Lib.hid ⟨D, I0.out⟩⟩
  case round =>
    obtain ⟨i, rfl, hi, H⟩ := hrel
    obtain ⟨Dm, hI⟩ := H.out
    have I1 := Lib.hid hI
    clear H hI I0
    by_cases ci : i < n
    · obtain ⟨g, rfl, hO⟩ := I1.out.own (by omega)
      have hat := hO.at_ i (by rw [I1.out.len]; exact ci)
      rw [I1.out.rest i (Nat.le_refl _) ci] at hat
      have NK := Lib.hid (HP.out.ok (D.getD i nz) (ngetD_mem D i (by have := HP.out.len; omega)))
      obtain ⟨x, hx⟩ : ∃ x, D.getD i nz = x := ⟨_, rfl⟩
      rw [hx] at hat NK
      have HX := Lib.hid hx
      clear hx
      have C1 := Lib.hid (fun W (hW : Below w.heap.size w W) => tclone_any x.p.a x.p.n x.p.c x.p.L W NK.out.p.len (by have := NK.out.p.few; omega) (NK.out.p.row.below hW))
      have C2 := Lib.hid (fun W (hW : Below w.heap.size w W) => tclone_any x.g.a x.g.n x.g.c x.g.L W NK.out.g.len (by have := NK.out.g.few; omega) (NK.out.g.row.below hW))
      have I2 := Lib.hid (I1.out.next (below_alloc wr (nobj x)))
      have O2 := Lib.hid (hO.below (below_alloc wr (nobj x)))
      have XB := Lib.hid (Atn.alloc wr x)
      have glt := hO.lt
      have GE := Lib.hid hO.ge
      clear hO NK I1
      obtain ⟨xk, ⟨xx, xt, xa, xn, xc, xL⟩, xy, ⟨yx, yt, ya, yn, yc, yL⟩, xlo, xhi, xs⟩ := x
      obtain ⟨e0, e1, e2, e3, e4, e5, e6, e7, e8, e9, e10⟩ := hat
      simp only at e0 e1 e2 e3 e4 e5 e6 e7 e8 e9 e10 C1 C2
      go_wp2_with fail
      refine (C1.out _ I2.out.bel).mono ?_
      rintro e w3 ⟨A1, c1, rfl, ho, hb⟩
      have I3 := Lib.hid (I2.out.next hb)
      have O3 := Lib.hid (O2.out.below hb)
      have hP1 := Lib.hid (ho.mono I2.out.big)
      have hPd : Hid (∀ z, (Value.slice A1 xn c1).ownBlock = some z → z ≠ g) := Lib.hid fun z hz => by have := (World.ownsRow.lt ho z hz).1; have := O2.out.lt; omega
      have X3 := Lib.hid (XB.out.below hb (by simp))
      have hat3 := O3.out.at_ i (by rw [I3.out.len]; exact ci)
      rw [I3.out.rest i (Nat.le_refl _) ci, HX.out] at hat3
      obtain ⟨_, _, _, s3, _, _, _, s7, _, _, _⟩ := hat3
      have f3 := O3.out.fr (i * 11 + 3)
      have glt3 := O3.out.lt
      obtain ⟨_, _, _, _, _, x5, x6, x7, _, _, _⟩ := X3.out
      simp only at x5 x6 x7 s3 s7
      have hne : ¬ wr.heap.size = g := by omega
      have BW : Hid (Below w.heap.size w (w3.setCell ⟨g, i * 11 + 3, none⟩ (.slice A1 xn c1))) := Lib.hid (I3.out.bel.setCell (by show w.heap.size ≤ g; have := GE.out; omega) _)
      clear I2 O2 ho hb XB e0 e1 e2 e3 e4 e5 e6 e7 e8 e9 e10 C1
      go_wp2_with fail
      refine (C2.out _ BW.out).mono ?_
      rintro e w5 ⟨A2, c2, rfl, ho, hb⟩
      have hil : i < (Dm).length := by rw [I3.out.len]; exact ci
      have o4 := O3.out.setp hil A1 c1
      rw [I3.out.rest i (Nat.le_refl _) ci, HX.out] at o4
      have O5 := Lib.hid (o4.below hb)
      have hat5 := O5.out.at_ i (by rw [List.length_set]; exact hil)
      rw [nset_getD Dm i _ i hil, if_pos rfl] at hat5
      obtain ⟨_, _, _, _, _, _, _, t7, _, _, _⟩ := hat5
      simp only [setp] at t7
      have f5 := O5.out.fr (i * 11 + 7)
      have FIN := Lib.hid (I3.out.step (x := (⟨xk, ⟨xx, xt, xa, xn, xc, xL⟩, xy, ⟨yx, yt, ya, yn, yc, yL⟩, xlo, xhi, xs⟩ : Nd)) ci HX.out hP1.out hPd.out hb (ho.mono (by rw [World.size_setCell]; exact I3.out.big)) (fun z hz => by have := (World.ownsRow.lt ho z hz).1; rw [World.size_setCell] at this; omega))
      clear o4 O5 O3 I3 hil ho hb C2 BW X3 hP1 hPd x5 x6 x7 s3 s7 HP
      go_wp2_with fail
      go_roundw
      case rel => exact ⟨i + 1, by go_num, by omega, Lib.hid ⟨_, FIN.out⟩⟩
      case measure => simp [intOf]; omega
    · obtain rfl : i = n := by omega
      have FIN := Lib.hid (I1.out.done HP.out HC.out)
      have r0 := I1.out.b2.c0
      have r1 := I1.out.b2.c1
      have q1 := I1.out.b1.c1
      have f0 := I1.out.b2.free 0
      have f1 := I1.out.b2.free 1
      have zz : w.heap.size + 1 < wr.heap.size := by have := I1.out.big; omega
      clear I1 HP
      go_wp2_with fail
      exact bodyPost_ret (v := ptv A i c' win) (by simp [results, Tryd.results15, go_sem, *]) rfl FIN.out
end Go.Proofs.YtnjndlbhnkhlhaaDoor
