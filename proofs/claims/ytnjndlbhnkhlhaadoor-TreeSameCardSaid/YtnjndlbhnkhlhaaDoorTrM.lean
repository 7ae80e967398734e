/- The document's Depth, Places and formed of trees. -/
import Derived.Test.YtnjndlbhnkhlhaaDoorTrL
import Derived.Deep.DeepCutAuto
namespace Go.Proofs.YtnjndlbhnkhlhaaDoor
open Go Go.RowKit Pk Rl
set_option maxRecDepth 20000

/- a row of trees of which a function tells f -/
def KD (G : World → Nd → Option Addr → Nat → Nat → List Nd → Prop) (w : World) (A : Option Addr) (ps : List (List Nd)) : Prop :=
  ∀ i, i < ps.length → ∃ b off n A' m' C', A = some ⟨b, off, none⟩ ∧ b < w.heap.size ∧ Atn w b (off + i * 12) n ∧ w.cell? ⟨b, off + i * 12 + 11, none⟩ = some (.slice A' m' C') ∧ ∀ W, Below w.heap.size w W → G W n A' m' C' (ps.getD i [])
theorem Trb.load {w : World} {g : Nat} {n : Nd} {A : Option Addr} {m C : Nat} (h : Trb w g n A m C) : w.cell? ⟨g, 0 + 11, none⟩ = some (.slice A m C) := h.cells.2
theorem lpgetD_mem (R : List (List Nd)) (i : Nat) (h : i < R.length) : R.getD i [] ∈ R := by
  rw [List.getD_eq_getElem?_getD, List.getElem?_eq_getElem h]; exact List.getElem_mem _
abbrev GD (f : List Nd → Int) (W : World) (n : Nd) (A : Option Addr) (m C : Nat) (p : List Nd) : Prop :=
  Calls Tryd.prog 14 #[tOfT n A m C] W fun e w' => e = .returned (.int .i64 (f p)) ∧ Below W.heap.size W w'
set_option maxHeartbeats 2000000 in
theorem rdepth1_any (f : List Nd → Int) (hf : ∀ p, 0 ≤ f p ∧ f p ≤ 2001) (nd : Nd) (A : Option Addr) (C : Nat) (R : List (List Nd)) (w : World) (hq : R.length ≤ 1000) (hK : KD (GD f) w A R) :
    GD (fun _ => R.foldl (fun m p => max m (1 + f p)) 0) w nd A R.length C [] := by
  unfold GD
  have HB := Lib.hid hf
  have HK := Lib.hid hK
  clear hf hK
  obtain ⟨q, hq2⟩ : ∃ q, R.length = q := ⟨_, rfl⟩
  obtain ⟨r, hr⟩ : ∃ r, R.foldl (fun m p => max m (1 + f p)) 0 = r := ⟨_, rfl⟩
  rw [hr]
  rw [hq2] at hq ⊢
  have HQ := Lib.hid hq2
  have HR := Lib.hid hr
  have B0 := Lib.hid (below_alloc w (tobjT nd A q C))
  have T0 := Lib.hid (Trb.start w nd A q C)
  clear hq2 hr
  go_enter Tryd.func14, Tryd.ntmps14
  go_wp2_with fail
  go_loopw [3, 8] (fun v3 v8 W => ∃ (m : Int) (i : Nat), v3 = .int .i64 m ∧ v8 = .int .i64 (i : Int) ∧ i ≤ q ∧ Hid (m = (R.take i).foldl (fun m p => max m (1 + f p)) 0 ∧ Below w.heap.size w W ∧ Trb W w.heap.size nd A q C)) (fun _ v8 _ => q - (intOf v8).toNat)
  case atStart => exact ⟨0, 0, rfl, rfl, by omega, Lib.hid ⟨rfl, B0.out, T0.out⟩⟩
  case round =>
    obtain ⟨m, i, rfl, rfl, hi, H⟩ := hrel
    have HM := Lib.hid H.out.1
    have B1 := Lib.hid H.out.2.1
    have T1 := Lib.hid H.out.2.2
    have hcT := T1.out.cells.2
    clear H B0 T0
    by_cases ci : i < q
    · obtain ⟨b, off, ⟨nk, ⟨px, pt, pa, pn, pc, pL⟩, ny, ⟨gx, gt, ga, gn, gc, gL⟩, nlo, nhi, ns⟩, A', m', C', rfl, hb0, hat, hcell, hG⟩ := HK.out i (by have := HQ.out; omega)
      have TS := Lib.hid (ptake_snoc R i (by have := HQ.out; omega))
      have hat1 := hat.below B1.out hb0
      obtain ⟨k0, k1, k2, k3, k4, k5, k6, k7, k8, k9, k10⟩ := hat1
      have k11 : wr.cell? ⟨b, off + i * 12 + 11, none⟩ = some (.slice A' m' C') := (B1.out.cell (p := ⟨b, off + i * 12 + 11, none⟩) hb0).trans hcell
      have I := Lib.hid (hG wr B1.out)
      obtain ⟨p, hp⟩ : ∃ p, R.getD i [] = p := ⟨_, rfl⟩
      rw [hp] at I TS
      obtain ⟨x, hx⟩ : ∃ x, f p = x := ⟨_, rfl⟩
      have HX := Lib.hid (HB.out p)
      have TX := Lib.hid (show (R.take (i + 1)).foldl (fun m p => max m (1 + f p)) 0 = max m (1 + x) by rw [TS.out, List.foldl_append, List.foldl_cons, List.foldl_nil, ← HM.out, hx])
      rw [hx] at HX
      have I2 : Hid (Calls Tryd.prog 14 #[tOfT ⟨nk, ⟨px, pt, pa, pn, pc, pL⟩, ny, ⟨gx, gt, ga, gn, gc, gL⟩, nlo, nhi, ns⟩ A' m' C'] wr fun e w' => e = .returned (.int .i64 x) ∧ Below wr.heap.size wr w') := Lib.hid (by have := I.out; unfold GD at this; rw [hx] at this; exact this)
      clear hx hp TS HM I hG hat hcell
      have x0 : 0 ≤ x := HX.out.1
      have x1 : x ≤ 2001 := HX.out.2
      go_wp2_with fail
      refine I2.out.mono ?_
      rintro e w3 ⟨rfl, hb⟩
      have B3 := Lib.hid (below_go B1.out hb)
      have T3 := Lib.hid (T1.out.below hb T1.out.lt)
      clear hb I2 B1 T1 hcT k0 k1 k2 k3 k4 k5 k6 k7 k8 k9 k10 k11
      go_wp2_with fail
      go_roundw
      case rel => exact ⟨_, i + 1, rfl, by go_num, by omega, Lib.hid ⟨TX.out.symm, B3.out, T3.out⟩⟩
      case measure => simp [intOf]; omega
    · obtain rfl : i = q := by omega
      have EM := Lib.hid (show m = r by rw [HM.out, ← HR.out, List.take_of_length_le (by have := HQ.out; omega)])
      have em := EM.out
      subst em
      go_wp2_with fail
      go_ret
      exact ⟨rfl, B1.out⟩
theorem rdepth_any (k : Nat) (hk : k ≤ 2000) : ∀ (nd : Nd) (A : Option Addr) (C : Nat) (l : List Nd) (F : Nat → Prop) (w : World), l.length ≤ 1000 → Trs k w F A (pts l) → (∀ b, F b → b < w.heap.size) → GD (dpt (k + 1)) w nd A (pts l).length C l := by
  induction k with
  | zero =>
    intro nd A C l F w hl hT hF
    have h0 : pts l = [] := hT
    have := rdepth1_any (fun _ => 0) (fun _ => by omega) nd A C (pts l) w (by rw [h0]; simp) (fun i hi => by rw [h0] at hi; simp at hi)
    rw [h0] at this ⊢
    refine Calls.mono this ?_
    rintro e w' ⟨rfl, hb⟩
    refine ⟨?_, hb⟩
    show _ = Ending.returned (.int .i64 ((pts l).foldl (fun m p => max m (1 + dpt 0 p)) 0))
    rw [h0]; rfl
  | succ k ih =>
    intro nd A C l F w hl hT hF
    have := pts_len l
    refine Calls.mono (rdepth1_any (dpt (k + 1)) (fun p => by have := dpt_pos (k + 1) p; omega) nd A C (pts l) w (by omega) (fun i hi => ?_)) ?_
    · obtain ⟨b, off, A', C', ha, hFb, hat, hc, hk2⟩ := hT i hi
      have hp := pts_mem _ (lpgetD_mem (pts l) i hi)
      refine ⟨b, off, _, A', _, C', ha, hF b hFb, hat, hc, fun W hW => ?_⟩
      exact ih (by omega) _ A' C' _ F W (by omega) (hk2.below hW hF) (fun b hb => Nat.lt_of_lt_of_le (hF b hb) hW.size)
    · rintro e w' ⟨rfl, hb⟩
      exact ⟨rfl, hb⟩
/- whether a question has nothing -/
theorem rnone_any (x : Bool) (t : Int) (a : Option Addr) (n c : Nat) (w : World) :
    Calls Tryd.prog 36 #[pv x t a n c] w fun e w' => e = .returned (.bool (!x && decide (t = 0) && decide (n = 0))) ∧ w' = w.alloc (pcells x t a n c) := by
  go_enter Tryd.func36, Tryd.ntmps36
  cases x
  · by_cases h : t = 0
    · subst h
      go_wp2_with fail
      go_ret
      refine ⟨ret_bool ?_, rfl⟩
      rw [Bool.eq_iff_iff]; simp <;> omega
    · have h' : (t == 0) = false := by simp [h]
      go_wp2_with fail
      go_ret
      refine ⟨ret_bool ?_, rfl⟩
      simp [h]
  · go_wp2_with fail
    go_ret
    exact ⟨rfl, rfl⟩
theorem kd_two (nd : Nd) (q : Nat) : kd nd q = ((if nd.k = 1 then decide (q = 0) && decide (nd.lo = 0) && decide (nd.hi = 0) && !nd.y
    else if nd.k = 2 then decide (2 ≤ q) && decide (nd.lo = 0) && decide (nd.hi = 0) && (!nd.p.x && decide (nd.p.t = 0) && decide (nd.p.n = 0))
    else if nd.k = 3 then decide (2 ≤ q) && decide (nd.lo = 0) && decide (nd.hi = 0) && (!nd.p.x && decide (nd.p.t = 0) && decide (nd.p.n = 0)) && !nd.y
    else if nd.k = 4 then decide (q = 1) && decide (0 < nd.lo) && decide (nd.lo ≤ nd.hi) && decide (nd.hi < 9) && (!nd.p.x && decide (nd.p.t = 0) && decide (nd.p.n = 0)) else false) && (nd.y || (!nd.g.x && decide (nd.g.t = 0) && decide (nd.g.n = 0)))) := by
  unfold kd qno
  obtain ⟨nk, ⟨px, pt, pa, pn, pc, pL⟩, ny, ⟨gx, gt, ga, gn, gc, gL⟩, nlo, nhi, ns⟩ := nd
  simp only
  generalize (!px && decide (pt = 0) && decide (pn = 0)) = P
  generalize (!gx && decide (gt = 0) && decide (gn = 0)) = G
  by_cases k1 : nk = 1
  · simp only [if_pos k1]; cases ny <;> cases G <;> simp
  · simp only [if_neg k1]
    by_cases k2 : nk = 2
    · simp only [if_pos k2]; cases ny <;> cases G <;> cases P <;> simp
    · simp only [if_neg k2]
      by_cases k3 : nk = 3
      · simp only [if_pos k3]; cases ny <;> cases G <;> cases P <;> simp
      · simp only [if_neg k3]
        by_cases k4 : nk = 4
        · simp only [if_pos k4]; cases ny <;> cases G <;> cases P <;> simp; all_goals (rw [Bool.eq_iff_iff]; simp; omega)
        · simp only [if_neg k4]; rfl
abbrev GF (f : List Nd → Bool) (W : World) (n : Nd) (A : Option Addr) (m C : Nat) (p : List Nd) : Prop :=
  Calls Tryd.prog 21 #[tOfT n A m C] W fun e w' => e = .returned (.bool (f p)) ∧ Below W.heap.size W w'
set_option maxHeartbeats 4000000 in
theorem rformed1_any (f : List Nd → Bool) (nd : Nd) (A : Option Addr) (C : Nat) (R : List (List Nd)) (w : World) (hq : R.length ≤ 1000) (hK : KD (GF f) w A R) :
    GF (fun _ => kd nd R.length && R.all f) w nd A R.length C [] := by
  unfold GF
  have HK := Lib.hid hK
  clear hK
  obtain ⟨q, hq2⟩ : ∃ q, R.length = q := ⟨_, rfl⟩
  obtain ⟨r, hr⟩ : ∃ r, (kd nd q && R.all f) = r := ⟨_, rfl⟩
  rw [hq2] at hq ⊢
  rw [hr]
  have HQ := Lib.hid hq2
  have HR := Lib.hid hr
  have B0 := Lib.hid (below_alloc w (tobjT nd A q C))
  have T0 := Lib.hid (Trb.start w nd A q C)
  have RP := Lib.hid (rnone_any nd.p.x nd.p.t nd.p.a nd.p.n nd.p.c)
  have RG := Lib.hid (rnone_any nd.g.x nd.g.t nd.g.a nd.g.n nd.g.c)
  have KE := Lib.hid (show kd nd q = ((if nd.k = 1 then decide (q = 0) && decide (nd.lo = 0) && decide (nd.hi = 0) && !nd.y
    else if nd.k = 2 then decide (2 ≤ q) && decide (nd.lo = 0) && decide (nd.hi = 0) && (!nd.p.x && decide (nd.p.t = 0) && decide (nd.p.n = 0))
    else if nd.k = 3 then decide (2 ≤ q) && decide (nd.lo = 0) && decide (nd.hi = 0) && (!nd.p.x && decide (nd.p.t = 0) && decide (nd.p.n = 0)) && !nd.y
    else if nd.k = 4 then decide (q = 1) && decide (0 < nd.lo) && decide (nd.lo ≤ nd.hi) && decide (nd.hi < 9) && (!nd.p.x && decide (nd.p.t = 0) && decide (nd.p.n = 0)) else false) && (nd.y || (!nd.g.x && decide (nd.g.t = 0) && decide (nd.g.n = 0)))) from kd_two nd q)
  clear hq2 hr
  generalize kd nd q = z at HR KE
  generalize (!nd.p.x && decide (nd.p.t = 0) && decide (nd.p.n = 0)) = PP at RP KE
  generalize (!nd.g.x && decide (nd.g.t = 0) && decide (nd.g.n = 0)) = GG at RG KE
  obtain ⟨nk, ⟨px, pt, pa, pn, pc, pL⟩, ny, ⟨gx, gt, ga, gn, gc, gL⟩, nlo, nhi, ns⟩ := nd
  simp only at RP RG KE
  obtain ⟨z1, hz1⟩ : ∃ z1, (if nk = 1 then decide (q = 0) && decide (nlo = 0) && decide (nhi = 0) && !ny
    else if nk = 2 then decide (2 ≤ q) && decide (nlo = 0) && decide (nhi = 0) && PP
    else if nk = 3 then decide (2 ≤ q) && decide (nlo = 0) && decide (nhi = 0) && PP && !ny
    else if nk = 4 then decide (q = 1) && decide (0 < nlo) && decide (nlo ≤ nhi) && decide (nhi < 9) && PP else false) = z1 := ⟨_, rfl⟩
  rw [hz1] at KE
  have HZ := Lib.hid hz1
  clear hz1
  go_enter Tryd.func21, Tryd.ntmps21
  go_upto_region 3 with fail
  iterate 8 (first | go_values | go_skip | go_guarded | go_step | go_upon | go_back)
  go_cut [0, 4, 5] from 6 to 101 (fun v0 v4 v5 W => v5 = .bool z1 ∧ Hid (Below w.heap.size w W ∧ Trb W w.heap.size ⟨nk, ⟨px, pt, pa, pn, pc, pL⟩, ny, ⟨gx, gt, ga, gn, gc, gL⟩, nlo, nhi, ns⟩ A q C ∧ Atn W (w.heap.size + 1) 0 ⟨nk, ⟨px, pt, pa, pn, pc, pL⟩, ny, ⟨gx, gt, ga, gn, gc, gL⟩, nlo, nhi, ns⟩))
  case first =>
    have EW := Lib.hid (fun W (hb : Below (w.heap.size + 2) ((w.alloc (tobjT ⟨nk, ⟨px, pt, pa, pn, pc, pL⟩, ny, ⟨gx, gt, ga, gn, gc, gL⟩, nlo, nhi, ns⟩ A q C)).alloc (nobj ⟨nk, ⟨px, pt, pa, pn, pc, pL⟩, ny, ⟨gx, gt, ga, gn, gc, gL⟩, nlo, nhi, ns⟩)) W) => (⟨B0.out.trans ((below_alloc _ _).trans (hb.mono (by simp)) |>.mono (by simp)), (T0.out.below (below_alloc _ (nobj ⟨nk, ⟨px, pt, pa, pn, pc, pL⟩, ny, ⟨gx, gt, ga, gn, gc, gL⟩, nlo, nhi, ns⟩)) (by simp)).below hb (by omega), by have := (Atn.alloc (w.alloc (tobjT ⟨nk, ⟨px, pt, pa, pn, pc, pL⟩, ny, ⟨gx, gt, ga, gn, gc, gL⟩, nlo, nhi, ns⟩ A q C)) ⟨nk, ⟨px, pt, pa, pn, pc, pL⟩, ny, ⟨gx, gt, ga, gn, gc, gL⟩, nlo, nhi, ns⟩).below hb (by rw [World.size_alloc]; omega); rw [World.size_alloc] at this; exact this⟩ : Below w.heap.size w W ∧ Trb W w.heap.size ⟨nk, ⟨px, pt, pa, pn, pc, pL⟩, ny, ⟨gx, gt, ga, gn, gc, gL⟩, nlo, nhi, ns⟩ A q C ∧ Atn W (w.heap.size + 1) 0 ⟨nk, ⟨px, pt, pa, pn, pc, pL⟩, ny, ⟨gx, gt, ga, gn, gc, gL⟩, nlo, nhi, ns⟩))
    clear B0 T0 HK HQ HR KE
    by_cases k1 : nk = 1
    · have EY := Lib.hid ((if_pos k1).symm.trans HZ.out)
      subst k1
      clear HZ
      cases PP <;> cases ny <;> (go_wp2_with (go_at_call 36; refine (RP.out _).mono ?_; rintro e w2 ⟨rfl, rfl⟩))
      all_goals ((try subst_vars); go_meet; refine ⟨?_, Lib.hid (EW.out _ (by repeat (first | exact Below.refl _ _ | refine Below.alloc ?_ (by simp) _)))⟩; clear EW RP RG; (first | rfl | (refine congrArg Value.bool (Bool.eq_iff_iff.2 ?_); simp; omega) | (refine congrArg Value.bool (Bool.eq_iff_iff.2 ?_); simp; intros; omega) | (refine congrArg Value.bool (Bool.eq_iff_iff.2 ?_); simp)))
    by_cases k2 : nk = 2
    · have EY := Lib.hid (((if_neg k1).trans (if_pos k2)).symm.trans HZ.out)
      subst k2
      clear HZ
      cases PP <;> cases ny <;> (go_wp2_with (go_at_call 36; refine (RP.out _).mono ?_; rintro e w2 ⟨rfl, rfl⟩))
      all_goals ((try subst_vars); go_meet; refine ⟨?_, Lib.hid (EW.out _ (by repeat (first | exact Below.refl _ _ | refine Below.alloc ?_ (by simp) _)))⟩; clear EW RP RG; (first | rfl | (refine congrArg Value.bool (Bool.eq_iff_iff.2 ?_); simp; omega) | (refine congrArg Value.bool (Bool.eq_iff_iff.2 ?_); simp; intros; omega) | (refine congrArg Value.bool (Bool.eq_iff_iff.2 ?_); simp)))
    by_cases k3 : nk = 3
    · have EY := Lib.hid ((((if_neg k1).trans (if_neg k2)).trans (if_pos k3)).symm.trans HZ.out)
      subst k3
      clear HZ
      cases PP <;> cases ny <;> (go_wp2_with (go_at_call 36; refine (RP.out _).mono ?_; rintro e w2 ⟨rfl, rfl⟩))
      all_goals ((try subst_vars); go_meet; refine ⟨?_, Lib.hid (EW.out _ (by repeat (first | exact Below.refl _ _ | refine Below.alloc ?_ (by simp) _)))⟩; clear EW RP RG; (first | rfl | (refine congrArg Value.bool (Bool.eq_iff_iff.2 ?_); simp; omega) | (refine congrArg Value.bool (Bool.eq_iff_iff.2 ?_); simp; intros; omega) | (refine congrArg Value.bool (Bool.eq_iff_iff.2 ?_); simp)))
    by_cases k4 : nk = 4
    · have EY := Lib.hid (((((if_neg k1).trans (if_neg k2)).trans (if_neg k3)).trans (if_pos k4)).symm.trans HZ.out)
      subst k4
      clear HZ
      cases PP <;> cases ny <;> (go_wp2_with (go_at_call 36; refine (RP.out _).mono ?_; rintro e w2 ⟨rfl, rfl⟩))
      all_goals ((try subst_vars); go_meet; refine ⟨?_, Lib.hid (EW.out _ (by repeat (first | exact Below.refl _ _ | refine Below.alloc ?_ (by simp) _)))⟩; clear EW RP RG; (first | rfl | (refine congrArg Value.bool (Bool.eq_iff_iff.2 ?_); simp; omega) | (refine congrArg Value.bool (Bool.eq_iff_iff.2 ?_); simp; intros; omega) | (refine congrArg Value.bool (Bool.eq_iff_iff.2 ?_); simp)))
    have EY := Lib.hid (((((if_neg k1).trans (if_neg k2)).trans (if_neg k3)).trans (if_neg k4)).symm.trans HZ.out)
    clear HZ
    have j1 : (nk == 1) = false := by simp [k1]
    have j2 : (nk == 2) = false := by simp [k2]
    have j3 : (nk == 3) = false := by simp [k3]
    have j4 : (nk == 4) = false := by simp [k4]
    go_wp2_with fail
    all_goals ((try subst_vars); go_meet; refine ⟨?_, Lib.hid (EW.out _ (by repeat (first | exact Below.refl _ _ | refine Below.alloc ?_ (by simp) _)))⟩; clear EW RP RG; (first | rfl | (refine congrArg Value.bool (Bool.eq_iff_iff.2 ?_); simp; omega) | (refine congrArg Value.bool (Bool.eq_iff_iff.2 ?_); simp; intros; omega) | (refine congrArg Value.bool (Bool.eq_iff_iff.2 ?_); simp)))
  case rest =>
    obtain ⟨rfl, HC⟩ := hcut
    obtain ⟨bw, tw, aw⟩ := HC.out
    obtain ⟨WW, hWW⟩ : ∃ W, W = wc := ⟨_, rfl⟩
    subst hWW
    have HB1 := Lib.hid bw
    have HT1 := Lib.hid tw
    obtain ⟨k0, k1, k2, k3, k4, k5, k6, k7, k8, k9, k10⟩ := aw
    clear HC bw tw RP HZ B0 T0
    obtain ⟨bb, hbb⟩ : ∃ bb, (!ny && !GG) = bb := ⟨_, rfl⟩
    have HBB := Lib.hid hbb
    have EZ : Hid ((if bb = true then false else z1) = z) := Lib.hid (by rw [KE.out, ← hbb]; cases ny <;> cases GG <;> simp)
    clear hbb KE
    go_upto_region 13 with fail
    go_cut [110] from 102 to 110 (fun v W => v = .bool bb ∧ Hid (Below w.heap.size w W ∧ Trb W w.heap.size ⟨nk, ⟨px, pt, pa, pn, pc, pL⟩, ny, ⟨gx, gt, ga, gn, gc, gL⟩, nlo, nhi, ns⟩ A q C))
    case first =>
      have GO := Lib.hid (fun W (hb : Below WW.heap.size WW W) => (⟨below_go HB1.out hb, HT1.out.below hb HT1.out.lt⟩ : Below w.heap.size w W ∧ Trb W w.heap.size ⟨nk, ⟨px, pt, pa, pn, pc, pL⟩, ny, ⟨gx, gt, ga, gn, gc, gL⟩, nlo, nhi, ns⟩ A q C))
      clear HB1 HT1 HK HQ HR EZ
      cases ny
      · go_wp2_with (go_at_call 36; refine (RG.out _).mono ?_; rintro e w2 ⟨rfl, rfl⟩)
        go_meet
        exact ⟨by rw [← HBB.out]; rfl, Lib.hid (GO.out _ (below_alloc _ _))⟩
      · go_wp2_with fail
        go_meet
        exact ⟨by rw [← HBB.out]; rfl, Lib.hid (GO.out _ (Below.refl _ _))⟩
    case rest =>
      clear HB1 HT1 k0 k1 k2 k3 k4 k5 k6 k7 k8 k9 k10 RG
      obtain ⟨rfl, HC⟩ := hcut
      obtain ⟨W2, hW2⟩ : ∃ W, W = wc := ⟨_, rfl⟩
      subst hW2
      have B0 := Lib.hid HC.out.1
      have T0 := Lib.hid HC.out.2
      have hc0 := T0.out.cells.2
      clear HC
      cases bb
      all_goals
        go_wp2_with fail
        go_loopw [5, 114] (fun v5 v8 W => ∃ (b : Bool) (i : Nat), v5 = .bool b ∧ v8 = .int .i64 (i : Int) ∧ i ≤ q ∧ Hid (b = (z && (R.take i).all f) ∧ Below w.heap.size w W ∧ Trb W w.heap.size ⟨nk, ⟨px, pt, pa, pn, pc, pL⟩, ny, ⟨gx, gt, ga, gn, gc, gL⟩, nlo, nhi, ns⟩ A q C)) (fun _ v8 _ => q - (intOf v8).toNat)
        case atStart => exact ⟨_, 0, rfl, rfl, by omega, Lib.hid ⟨by rw [← EZ.out]; simp, B0.out, T0.out⟩⟩
        case round =>
          obtain ⟨m, i, rfl, rfl, hi, H⟩ := hrel
          have HM := Lib.hid H.out.1
          have B1 := Lib.hid H.out.2.1
          have T1 := Lib.hid H.out.2.2
          have hcT := T1.out.cells.2
          clear H B0 T0 hc0
          by_cases ci : i < q
          · obtain ⟨b, off, ⟨nk', ⟨px', pt', pa', pn', pc', pL'⟩, ny', ⟨gx', gt', ga', gn', gc', gL'⟩, nlo', nhi', ns'⟩, A', m', C', rfl, hb0, hat, hcell, hG⟩ := HK.out i (by have := HQ.out; omega)
            have TS := Lib.hid (ptake_snoc R i (by have := HQ.out; omega))
            obtain ⟨q0, q1, q2, q3, q4, q5, q6, q7, q8, q9, q10⟩ := hat.below B1.out hb0
            have q11 : wr.cell? ⟨b, off + i * 12 + 11, none⟩ = some (.slice A' m' C') := (B1.out.cell (p := ⟨b, off + i * 12 + 11, none⟩) hb0).trans hcell
            have I := Lib.hid (hG wr B1.out)
            obtain ⟨p, hp⟩ : ∃ p, R.getD i [] = p := ⟨_, rfl⟩
            rw [hp] at I TS
            obtain ⟨x, hx⟩ : ∃ x, f p = x := ⟨_, rfl⟩
            have TX := Lib.hid (show (m && x) = (z && (R.take (i + 1)).all f) by rw [TS.out, List.all_append, List.all_cons, List.all_nil, HM.out, hx]; simp [Bool.and_assoc])
            have I2 : Hid (Calls Tryd.prog 21 #[tOfT ⟨nk', ⟨px', pt', pa', pn', pc', pL'⟩, ny', ⟨gx', gt', ga', gn', gc', gL'⟩, nlo', nhi', ns'⟩ A' m' C'] wr fun e w' => e = .returned (.bool x) ∧ Below wr.heap.size wr w') := Lib.hid (by have := I.out; unfold GF at this; rw [hx] at this; exact this)
            clear hx hp TS HM I hG hat hcell EZ
            cases m
            · go_wp2_with fail
              go_roundw
              case rel => exact ⟨_, i + 1, rfl, by go_num, by omega, Lib.hid ⟨TX.out, B1.out, T1.out⟩⟩
              case measure => simp [intOf]; omega
            · go_wp2_with fail
              refine I2.out.mono ?_
              rintro e w3 ⟨rfl, hb⟩
              have B3 := Lib.hid (below_go B1.out hb)
              have T3 := Lib.hid (T1.out.below hb T1.out.lt)
              clear hb I2 B1 T1 hcT q0 q1 q2 q3 q4 q5 q6 q7 q8 q9 q10 q11
              go_wp2_with fail
              go_roundw
              case rel => exact ⟨_, i + 1, rfl, by go_num, by omega, Lib.hid ⟨TX.out, B3.out, T3.out⟩⟩
              case measure => simp [intOf]; omega
          · obtain rfl : i = q := by omega
            have EM := Lib.hid (show m = r by rw [HM.out, ← HR.out, List.take_of_length_le (by have := HQ.out; omega)])
            have em := EM.out
            subst em
            go_wp2_with fail
            go_ret
            exact ⟨rfl, B1.out⟩
theorem rformed_any (k : Nat) : ∀ (nd : Nd) (A : Option Addr) (C : Nat) (l : List Nd) (F : Nat → Prop) (w : World), l.length ≤ 1000 → nd = l.headD nz → Trs k w F A (pts l) → (∀ b, F b → b < w.heap.size) → l.length ≤ k → GF (fmT (k + 1)) w nd A (pts l).length C l := by
  induction k with
  | zero =>
    intro nd A C l F w hl hn hT hF hk
    have h0 : pts l = [] := hT
    refine Calls.mono (rformed1_any (fun _ => true) nd A C (pts l) w (by rw [h0]; simp) (fun i hi => by rw [h0] at hi; simp at hi)) ?_
    rintro e w' ⟨rfl, hb⟩
    refine ⟨?_, hb⟩
    rw [fmT, ← hn, h0]; rfl
  | succ k ih =>
    intro nd A C l F w hl hn hT hF hk
    have := pts_len l
    refine Calls.mono (rformed1_any (fmT (k + 1)) nd A C (pts l) w (by omega) (fun i hi => ?_)) ?_
    · obtain ⟨b, off, A', C', ha, hFb, hat, hc, hk2⟩ := hT i hi
      have hp := pts_mem _ (lpgetD_mem (pts l) i hi)
      refine ⟨b, off, _, A', _, C', ha, hF b hFb, hat, hc, fun W hW => ?_⟩
      exact ih _ A' C' _ F W (by omega) rfl (hk2.below hW hF) (fun b hb => Nat.lt_of_lt_of_le (hF b hb) hW.size) (by omega)
    · rintro e w' ⟨rfl, hb⟩
      exact ⟨by rw [hn]; rfl, hb⟩
end Go.Proofs.YtnjndlbhnkhlhaaDoor
