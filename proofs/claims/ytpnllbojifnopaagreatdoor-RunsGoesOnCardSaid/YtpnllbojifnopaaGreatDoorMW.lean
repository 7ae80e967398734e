/- Contracts, joined: TrM, TrN, TrO. -/
import Derived.Test.YtpnllbojifnopaaGreatDoorMR
import Derived.Deep.DeepCutAuto
/- The document's Depth, Places and formed of trees. -/
namespace Go.Proofs.YtpnllbojifnopaaGreatDoor
open Go Go.RowKit Pk Rl
set_option maxRecDepth 20000

/- a row of trees of which a function tells f -/
def KD (G : World → Nd → Option Addr → Nat → Nat → List Nd → Prop) (w : World) (A : Option Addr) (ps : List (List Nd)) : Prop :=
  ∀ i, i < ps.length → ∃ b off n A' m' C', A = some ⟨b, off, none⟩ ∧ b < w.heap.size ∧ Atn w b (off + i * 12) n ∧ w.cell? ⟨b, off + i * 12 + 11, none⟩ = some (.slice A' m' C') ∧ ∀ W, Below w.heap.size w W → G W n A' m' C' (ps.getD i [])
theorem Trb.load {w : World} {g : Nat} {n : Nd} {A : Option Addr} {m C : Nat} (h : Trb w g n A m C) : w.cell? ⟨g, 0 + 11, none⟩ = some (.slice A m C) := h.cells.2
theorem lpgetD_mem (R : List (List Nd)) (i : Nat) (h : i < R.length) : R.getD i [] ∈ R := by
  rw [List.getD_eq_getElem?_getD, List.getElem?_eq_getElem h]; exact List.getElem_mem _
abbrev GD (f : List Nd → Int) (W : World) (n : Nd) (A : Option Addr) (m C : Nat) (p : List Nd) : Prop :=
  Calls Tryz.prog 59 #[tOfT n A m C] W fun e w' => e = .returned (.int .i64 (f p)) ∧ Below W.heap.size W w'
set_option maxHeartbeats 2000000 in
theorem rdepth1_any (f : List Nd → Int) (hf : ∀ p, 0 ≤ f p ∧ f p ≤ 2001) (nd : Nd) (A : Option Addr) (C : Nat) (R : List (List Nd)) (w : World) (hq : R.length ≤ 1000) (hK : KD (GD f) w A R) :
    GD (fun _ => R.foldl (fun m p => max m (1 + f p)) 0) w nd A R.length C [] := by
  unfold GD
  have HB := Lib.hid hf
  have HK := Lib.hid hK
  clear hf hK
  obtain ⟨q, hq2⟩ : ∃ q, R.length = q := ⟨_, rfl⟩
  obtain ⟨r, hr⟩ : ∃ r, R.foldl (fun m p => max m (1 + f p)) 0 = r := ⟨_, rfl⟩
  rw [hr]
  rw [hq2] at hq ⊢
  have HQ := Lib.hid hq2
  have HR := Lib.hid hr
  have B0 := Lib.hid (below_alloc w (tobjT nd A q C))
  have T0 := Lib.hid (Trb.start w nd A q C)
  clear hq2 hr
  go_enter Tryz.func59, Tryz.ntmps59
  go_wp2_with fail
  go_loopw [3, 8] (fun v3 v8 W => ∃ (m : Int) (i : Nat), v3 = .int .i64 m ∧ v8 = .int .i64 (i : Int) ∧ i ≤ q ∧ Hid (m = (R.take i).foldl (fun m p => max m (1 + f p)) 0 ∧ Below w.heap.size w W ∧ Trb W w.heap.size nd A q C)) (fun _ v8 _ => q - (intOf v8).toNat)
  case atStart => exact ⟨0, 0, rfl, rfl, by omega, Lib.hid ⟨rfl, B0.out, T0.out⟩⟩
  case round =>
    obtain ⟨m, i, rfl, rfl, hi, H⟩ := hrel
    have HM := Lib.hid H.out.1
    have B1 := Lib.hid H.out.2.1
    have T1 := Lib.hid H.out.2.2
    have hcT := T1.out.cells.2
    clear H B0 T0
    by_cases ci : i < q
    · obtain ⟨b, off, ⟨nk, ⟨px, pt, pa, pn, pc, pL⟩, ny, ⟨gx, gt, ga, gn, gc, gL⟩, nlo, nhi, ns⟩, A', m', C', rfl, hb0, hat, hcell, hG⟩ := HK.out i (by have := HQ.out; omega)
      have TS := Lib.hid (ptake_snoc R i (by have := HQ.out; omega))
      have hat1 := hat.below B1.out hb0
      obtain ⟨k0, k1, k2, k3, k4, k5, k6, k7, k8, k9, k10⟩ := hat1
      have k11 : wr.cell? ⟨b, off + i * 12 + 11, none⟩ = some (.slice A' m' C') := (B1.out.cell (p := ⟨b, off + i * 12 + 11, none⟩) hb0).trans hcell
      have I := Lib.hid (hG wr B1.out)
      obtain ⟨p, hp⟩ : ∃ p, R.getD i [] = p := ⟨_, rfl⟩
      rw [hp] at I TS
      obtain ⟨x, hx⟩ : ∃ x, f p = x := ⟨_, rfl⟩
      have HX := Lib.hid (HB.out p)
      have TX := Lib.hid (show (R.take (i + 1)).foldl (fun m p => max m (1 + f p)) 0 = max m (1 + x) by rw [TS.out, List.foldl_append, List.foldl_cons, List.foldl_nil, ← HM.out, hx])
      rw [hx] at HX
      have I2 : Hid (Calls Tryz.prog 59 #[tOfT ⟨nk, ⟨px, pt, pa, pn, pc, pL⟩, ny, ⟨gx, gt, ga, gn, gc, gL⟩, nlo, nhi, ns⟩ A' m' C'] wr fun e w' => e = .returned (.int .i64 x) ∧ Below wr.heap.size wr w') := Lib.hid (by have := I.out; unfold GD at this; rw [hx] at this; exact this)
      clear hx hp TS HM I hG hat hcell
      have x0 : 0 ≤ x := HX.out.1
      have x1 : x ≤ 2001 := HX.out.2
      go_wp2_with fail
      refine I2.out.mono ?_
      rintro e w3 ⟨rfl, hb⟩
      have B3 := Lib.hid (below_go B1.out hb)
      have T3 := Lib.hid (T1.out.below hb T1.out.lt)
      clear hb I2 B1 T1 hcT k0 k1 k2 k3 k4 k5 k6 k7 k8 k9 k10 k11
      go_wp2_with fail
      go_roundw
      case rel => exact ⟨_, i + 1, rfl, by go_num, by omega, Lib.hid ⟨TX.out.symm, B3.out, T3.out⟩⟩
      case measure => simp [intOf]; omega
    · obtain rfl : i = q := by omega
      have EM := Lib.hid (show m = r by rw [HM.out, ← HR.out, List.take_of_length_le (by have := HQ.out; omega)])
      have em := EM.out
      subst em
      go_wp2_with fail
      go_ret
      exact ⟨rfl, B1.out⟩
theorem rdepth_any (k : Nat) (hk : k ≤ 2000) : ∀ (nd : Nd) (A : Option Addr) (C : Nat) (l : List Nd) (F : Nat → Prop) (w : World), l.length ≤ 1000 → Trs k w F A (pts l) → (∀ b, F b → b < w.heap.size) → GD (dpt (k + 1)) w nd A (pts l).length C l := by
  induction k with
  | zero =>
    intro nd A C l F w hl hT hF
    have h0 : pts l = [] := hT
    have := rdepth1_any (fun _ => 0) (fun _ => by omega) nd A C (pts l) w (by rw [h0]; simp) (fun i hi => by rw [h0] at hi; simp at hi)
    rw [h0] at this ⊢
    refine Calls.mono this ?_
    rintro e w' ⟨rfl, hb⟩
    refine ⟨?_, hb⟩
    show _ = Ending.returned (.int .i64 ((pts l).foldl (fun m p => max m (1 + dpt 0 p)) 0))
    rw [h0]; rfl
  | succ k ih =>
    intro nd A C l F w hl hT hF
    have := pts_len l
    refine Calls.mono (rdepth1_any (dpt (k + 1)) (fun p => by have := dpt_pos (k + 1) p; omega) nd A C (pts l) w (by omega) (fun i hi => ?_)) ?_
    · obtain ⟨b, off, A', C', ha, hFb, hat, hc, hk2⟩ := hT i hi
      have hp := pts_mem _ (lpgetD_mem (pts l) i hi)
      refine ⟨b, off, _, A', _, C', ha, hF b hFb, hat, hc, fun W hW => ?_⟩
      exact ih (by omega) _ A' C' _ F W (by omega) (hk2.below hW hF) (fun b hb => Nat.lt_of_lt_of_le (hF b hb) hW.size)
    · rintro e w' ⟨rfl, hb⟩
      exact ⟨rfl, hb⟩
/- whether a question has nothing -/
theorem rnone_any (x : Bool) (t : Int) (a : Option Addr) (n c : Nat) (w : World) :
    Calls Tryz.prog 93 #[pv x t a n c] w fun e w' => e = .returned (.bool (!x && decide (t = 0) && decide (n = 0))) ∧ w' = w.alloc (pcells x t a n c) := by
  go_enter Tryz.func93, Tryz.ntmps93
  cases x
  · by_cases h : t = 0
    · subst h
      go_wp2_with fail
      go_ret
      refine ⟨ret_bool ?_, rfl⟩
      rw [Bool.eq_iff_iff]; simp <;> omega
    · have h' : (t == 0) = false := by simp [h]
      go_wp2_with fail
      go_ret
      refine ⟨ret_bool ?_, rfl⟩
      simp [h]
  · go_wp2_with fail
    go_ret
    exact ⟨rfl, rfl⟩
theorem kd_two (nd : Nd) (q : Nat) : kd nd q = ((if nd.k = 1 then decide (q = 0) && decide (nd.lo = 0) && decide (nd.hi = 0) && !nd.y
    else if nd.k = 2 then decide (2 ≤ q) && decide (nd.lo = 0) && decide (nd.hi = 0) && (!nd.p.x && decide (nd.p.t = 0) && decide (nd.p.n = 0))
    else if nd.k = 3 then decide (2 ≤ q) && decide (nd.lo = 0) && decide (nd.hi = 0) && (!nd.p.x && decide (nd.p.t = 0) && decide (nd.p.n = 0)) && !nd.y
    else if nd.k = 4 then decide (q = 1) && decide (0 < nd.lo) && decide (nd.lo ≤ nd.hi) && decide (nd.hi < 9) && (!nd.p.x && decide (nd.p.t = 0) && decide (nd.p.n = 0)) else false) && (nd.y || (!nd.g.x && decide (nd.g.t = 0) && decide (nd.g.n = 0)))) := by
  unfold kd qno
  obtain ⟨nk, ⟨px, pt, pa, pn, pc, pL⟩, ny, ⟨gx, gt, ga, gn, gc, gL⟩, nlo, nhi, ns⟩ := nd
  simp only
  generalize (!px && decide (pt = 0) && decide (pn = 0)) = P
  generalize (!gx && decide (gt = 0) && decide (gn = 0)) = G
  by_cases k1 : nk = 1
  · simp only [if_pos k1]; cases ny <;> cases G <;> simp
  · simp only [if_neg k1]
    by_cases k2 : nk = 2
    · simp only [if_pos k2]; cases ny <;> cases G <;> cases P <;> simp
    · simp only [if_neg k2]
      by_cases k3 : nk = 3
      · simp only [if_pos k3]; cases ny <;> cases G <;> cases P <;> simp
      · simp only [if_neg k3]
        by_cases k4 : nk = 4
        · simp only [if_pos k4]; cases ny <;> cases G <;> cases P <;> simp; all_goals (rw [Bool.eq_iff_iff]; simp; omega)
        · simp only [if_neg k4]; rfl
abbrev GF (f : List Nd → Bool) (W : World) (n : Nd) (A : Option Addr) (m C : Nat) (p : List Nd) : Prop :=
  Calls Tryz.prog 57 #[tOfT n A m C] W fun e w' => e = .returned (.bool (f p)) ∧ Below W.heap.size W w'
set_option maxHeartbeats 4000000 in
theorem rformed1_any (f : List Nd → Bool) (nd : Nd) (A : Option Addr) (C : Nat) (R : List (List Nd)) (w : World) (hq : R.length ≤ 1000) (hK : KD (GF f) w A R) :
    GF (fun _ => kd nd R.length && R.all f) w nd A R.length C [] := by
  unfold GF
  have HK := Lib.hid hK
  clear hK
  obtain ⟨q, hq2⟩ : ∃ q, R.length = q := ⟨_, rfl⟩
  obtain ⟨r, hr⟩ : ∃ r, (kd nd q && R.all f) = r := ⟨_, rfl⟩
  rw [hq2] at hq ⊢
  rw [hr]
  have HQ := Lib.hid hq2
  have HR := Lib.hid hr
  have B0 := Lib.hid (below_alloc w (tobjT nd A q C))
  have T0 := Lib.hid (Trb.start w nd A q C)
  have RP := Lib.hid (rnone_any nd.p.x nd.p.t nd.p.a nd.p.n nd.p.c)
  have RG := Lib.hid (rnone_any nd.g.x nd.g.t nd.g.a nd.g.n nd.g.c)
  have KE := Lib.hid (show kd nd q = ((if nd.k = 1 then decide (q = 0) && decide (nd.lo = 0) && decide (nd.hi = 0) && !nd.y
    else if nd.k = 2 then decide (2 ≤ q) && decide (nd.lo = 0) && decide (nd.hi = 0) && (!nd.p.x && decide (nd.p.t = 0) && decide (nd.p.n = 0))
    else if nd.k = 3 then decide (2 ≤ q) && decide (nd.lo = 0) && decide (nd.hi = 0) && (!nd.p.x && decide (nd.p.t = 0) && decide (nd.p.n = 0)) && !nd.y
    else if nd.k = 4 then decide (q = 1) && decide (0 < nd.lo) && decide (nd.lo ≤ nd.hi) && decide (nd.hi < 9) && (!nd.p.x && decide (nd.p.t = 0) && decide (nd.p.n = 0)) else false) && (nd.y || (!nd.g.x && decide (nd.g.t = 0) && decide (nd.g.n = 0)))) from kd_two nd q)
  clear hq2 hr
  generalize kd nd q = z at HR KE
  generalize (!nd.p.x && decide (nd.p.t = 0) && decide (nd.p.n = 0)) = PP at RP KE
  generalize (!nd.g.x && decide (nd.g.t = 0) && decide (nd.g.n = 0)) = GG at RG KE
  obtain ⟨nk, ⟨px, pt, pa, pn, pc, pL⟩, ny, ⟨gx, gt, ga, gn, gc, gL⟩, nlo, nhi, ns⟩ := nd
  simp only at RP RG KE
  obtain ⟨z1, hz1⟩ : ∃ z1, (if nk = 1 then decide (q = 0) && decide (nlo = 0) && decide (nhi = 0) && !ny
    else if nk = 2 then decide (2 ≤ q) && decide (nlo = 0) && decide (nhi = 0) && PP
    else if nk = 3 then decide (2 ≤ q) && decide (nlo = 0) && decide (nhi = 0) && PP && !ny
    else if nk = 4 then decide (q = 1) && decide (0 < nlo) && decide (nlo ≤ nhi) && decide (nhi < 9) && PP else false) = z1 := ⟨_, rfl⟩
  rw [hz1] at KE
  have HZ := Lib.hid hz1
  clear hz1
  go_enter Tryz.func57, Tryz.ntmps57
  go_upto_region 3 with fail
  iterate 8 (first | go_values | go_skip | go_guarded | go_step | go_upon | go_back)
  go_cut [0, 4, 5] from 6 to 101 (fun v0 v4 v5 W => v5 = .bool z1 ∧ Hid (Below w.heap.size w W ∧ Trb W w.heap.size ⟨nk, ⟨px, pt, pa, pn, pc, pL⟩, ny, ⟨gx, gt, ga, gn, gc, gL⟩, nlo, nhi, ns⟩ A q C ∧ Atn W (w.heap.size + 1) 0 ⟨nk, ⟨px, pt, pa, pn, pc, pL⟩, ny, ⟨gx, gt, ga, gn, gc, gL⟩, nlo, nhi, ns⟩))
  case first =>
    have EW := Lib.hid (fun W (hb : Below (w.heap.size + 2) ((w.alloc (tobjT ⟨nk, ⟨px, pt, pa, pn, pc, pL⟩, ny, ⟨gx, gt, ga, gn, gc, gL⟩, nlo, nhi, ns⟩ A q C)).alloc (nobj ⟨nk, ⟨px, pt, pa, pn, pc, pL⟩, ny, ⟨gx, gt, ga, gn, gc, gL⟩, nlo, nhi, ns⟩)) W) => (⟨B0.out.trans ((below_alloc _ _).trans (hb.mono (by simp)) |>.mono (by simp)), (T0.out.below (below_alloc _ (nobj ⟨nk, ⟨px, pt, pa, pn, pc, pL⟩, ny, ⟨gx, gt, ga, gn, gc, gL⟩, nlo, nhi, ns⟩)) (by simp)).below hb (by omega), by have := (Atn.alloc (w.alloc (tobjT ⟨nk, ⟨px, pt, pa, pn, pc, pL⟩, ny, ⟨gx, gt, ga, gn, gc, gL⟩, nlo, nhi, ns⟩ A q C)) ⟨nk, ⟨px, pt, pa, pn, pc, pL⟩, ny, ⟨gx, gt, ga, gn, gc, gL⟩, nlo, nhi, ns⟩).below hb (by rw [World.size_alloc]; omega); rw [World.size_alloc] at this; exact this⟩ : Below w.heap.size w W ∧ Trb W w.heap.size ⟨nk, ⟨px, pt, pa, pn, pc, pL⟩, ny, ⟨gx, gt, ga, gn, gc, gL⟩, nlo, nhi, ns⟩ A q C ∧ Atn W (w.heap.size + 1) 0 ⟨nk, ⟨px, pt, pa, pn, pc, pL⟩, ny, ⟨gx, gt, ga, gn, gc, gL⟩, nlo, nhi, ns⟩))
    clear B0 T0 HK HQ HR KE
    by_cases k1 : nk = 1
    · have EY := Lib.hid ((if_pos k1).symm.trans HZ.out)
      subst k1
      clear HZ
      cases PP <;> cases ny <;> (go_wp2_with (go_at_call 93; refine (RP.out _).mono ?_; rintro e w2 ⟨rfl, rfl⟩))
      all_goals ((try subst_vars); go_meet; refine ⟨?_, Lib.hid (EW.out _ (by repeat (first | exact Below.refl _ _ | refine Below.alloc ?_ (by simp) _)))⟩; clear EW RP RG; (first | rfl | (refine congrArg Value.bool (Bool.eq_iff_iff.2 ?_); simp; omega) | (refine congrArg Value.bool (Bool.eq_iff_iff.2 ?_); simp; intros; omega) | (refine congrArg Value.bool (Bool.eq_iff_iff.2 ?_); simp)))
    by_cases k2 : nk = 2
    · have EY := Lib.hid (((if_neg k1).trans (if_pos k2)).symm.trans HZ.out)
      subst k2
      clear HZ
      cases PP <;> cases ny <;> (go_wp2_with (go_at_call 93; refine (RP.out _).mono ?_; rintro e w2 ⟨rfl, rfl⟩))
      all_goals ((try subst_vars); go_meet; refine ⟨?_, Lib.hid (EW.out _ (by repeat (first | exact Below.refl _ _ | refine Below.alloc ?_ (by simp) _)))⟩; clear EW RP RG; (first | rfl | (refine congrArg Value.bool (Bool.eq_iff_iff.2 ?_); simp; omega) | (refine congrArg Value.bool (Bool.eq_iff_iff.2 ?_); simp; intros; omega) | (refine congrArg Value.bool (Bool.eq_iff_iff.2 ?_); simp)))
    by_cases k3 : nk = 3
    · have EY := Lib.hid ((((if_neg k1).trans (if_neg k2)).trans (if_pos k3)).symm.trans HZ.out)
      subst k3
      clear HZ
      cases PP <;> cases ny <;> (go_wp2_with (go_at_call 93; refine (RP.out _).mono ?_; rintro e w2 ⟨rfl, rfl⟩))
      all_goals ((try subst_vars); go_meet; refine ⟨?_, Lib.hid (EW.out _ (by repeat (first | exact Below.refl _ _ | refine Below.alloc ?_ (by simp) _)))⟩; clear EW RP RG; (first | rfl | (refine congrArg Value.bool (Bool.eq_iff_iff.2 ?_); simp; omega) | (refine congrArg Value.bool (Bool.eq_iff_iff.2 ?_); simp; intros; omega) | (refine congrArg Value.bool (Bool.eq_iff_iff.2 ?_); simp)))
    by_cases k4 : nk = 4
    · have EY := Lib.hid (((((if_neg k1).trans (if_neg k2)).trans (if_neg k3)).trans (if_pos k4)).symm.trans HZ.out)
      subst k4
      clear HZ
      cases PP <;> cases ny <;> (go_wp2_with (go_at_call 93; refine (RP.out _).mono ?_; rintro e w2 ⟨rfl, rfl⟩))
      all_goals ((try subst_vars); go_meet; refine ⟨?_, Lib.hid (EW.out _ (by repeat (first | exact Below.refl _ _ | refine Below.alloc ?_ (by simp) _)))⟩; clear EW RP RG; (first | rfl | (refine congrArg Value.bool (Bool.eq_iff_iff.2 ?_); simp; omega) | (refine congrArg Value.bool (Bool.eq_iff_iff.2 ?_); simp; intros; omega) | (refine congrArg Value.bool (Bool.eq_iff_iff.2 ?_); simp)))
    have EY := Lib.hid (((((if_neg k1).trans (if_neg k2)).trans (if_neg k3)).trans (if_neg k4)).symm.trans HZ.out)
    clear HZ
    have j1 : (nk == 1) = false := by simp [k1]
    have j2 : (nk == 2) = false := by simp [k2]
    have j3 : (nk == 3) = false := by simp [k3]
    have j4 : (nk == 4) = false := by simp [k4]
    go_wp2_with fail
    all_goals ((try subst_vars); go_meet; refine ⟨?_, Lib.hid (EW.out _ (by repeat (first | exact Below.refl _ _ | refine Below.alloc ?_ (by simp) _)))⟩; clear EW RP RG; (first | rfl | (refine congrArg Value.bool (Bool.eq_iff_iff.2 ?_); simp; omega) | (refine congrArg Value.bool (Bool.eq_iff_iff.2 ?_); simp; intros; omega) | (refine congrArg Value.bool (Bool.eq_iff_iff.2 ?_); simp)))
  case rest =>
    obtain ⟨rfl, HC⟩ := hcut
    obtain ⟨bw, tw, aw⟩ := HC.out
    obtain ⟨WW, hWW⟩ : ∃ W, W = wc := ⟨_, rfl⟩
    subst hWW
    have HB1 := Lib.hid bw
    have HT1 := Lib.hid tw
    obtain ⟨k0, k1, k2, k3, k4, k5, k6, k7, k8, k9, k10⟩ := aw
    clear HC bw tw RP HZ B0 T0
    obtain ⟨bb, hbb⟩ : ∃ bb, (!ny && !GG) = bb := ⟨_, rfl⟩
    have HBB := Lib.hid hbb
    have EZ : Hid ((if bb = true then false else z1) = z) := Lib.hid (by rw [KE.out, ← hbb]; cases ny <;> cases GG <;> simp)
    clear hbb KE
    go_upto_region 13 with fail
    go_cut [110] from 102 to 110 (fun v W => v = .bool bb ∧ Hid (Below w.heap.size w W ∧ Trb W w.heap.size ⟨nk, ⟨px, pt, pa, pn, pc, pL⟩, ny, ⟨gx, gt, ga, gn, gc, gL⟩, nlo, nhi, ns⟩ A q C))
    case first =>
      have GO := Lib.hid (fun W (hb : Below WW.heap.size WW W) => (⟨below_go HB1.out hb, HT1.out.below hb HT1.out.lt⟩ : Below w.heap.size w W ∧ Trb W w.heap.size ⟨nk, ⟨px, pt, pa, pn, pc, pL⟩, ny, ⟨gx, gt, ga, gn, gc, gL⟩, nlo, nhi, ns⟩ A q C))
      clear HB1 HT1 HK HQ HR EZ
      cases ny
      · go_wp2_with (go_at_call 93; refine (RG.out _).mono ?_; rintro e w2 ⟨rfl, rfl⟩)
        go_meet
        exact ⟨by rw [← HBB.out]; rfl, Lib.hid (GO.out _ (below_alloc _ _))⟩
      · go_wp2_with fail
        go_meet
        exact ⟨by rw [← HBB.out]; rfl, Lib.hid (GO.out _ (Below.refl _ _))⟩
    case rest =>
      clear HB1 HT1 k0 k1 k2 k3 k4 k5 k6 k7 k8 k9 k10 RG
      obtain ⟨rfl, HC⟩ := hcut
      obtain ⟨W2, hW2⟩ : ∃ W, W = wc := ⟨_, rfl⟩
      subst hW2
      have B0 := Lib.hid HC.out.1
      have T0 := Lib.hid HC.out.2
      have hc0 := T0.out.cells.2
      clear HC
      cases bb
      all_goals
        go_wp2_with fail
        go_loopw [5, 114] (fun v5 v8 W => ∃ (b : Bool) (i : Nat), v5 = .bool b ∧ v8 = .int .i64 (i : Int) ∧ i ≤ q ∧ Hid (b = (z && (R.take i).all f) ∧ Below w.heap.size w W ∧ Trb W w.heap.size ⟨nk, ⟨px, pt, pa, pn, pc, pL⟩, ny, ⟨gx, gt, ga, gn, gc, gL⟩, nlo, nhi, ns⟩ A q C)) (fun _ v8 _ => q - (intOf v8).toNat)
        case atStart => exact ⟨_, 0, rfl, rfl, by omega, Lib.hid ⟨by rw [← EZ.out]; simp, B0.out, T0.out⟩⟩
        case round =>
          obtain ⟨m, i, rfl, rfl, hi, H⟩ := hrel
          have HM := Lib.hid H.out.1
          have B1 := Lib.hid H.out.2.1
          have T1 := Lib.hid H.out.2.2
          have hcT := T1.out.cells.2
          clear H B0 T0 hc0
          by_cases ci : i < q
          · obtain ⟨b, off, ⟨nk', ⟨px', pt', pa', pn', pc', pL'⟩, ny', ⟨gx', gt', ga', gn', gc', gL'⟩, nlo', nhi', ns'⟩, A', m', C', rfl, hb0, hat, hcell, hG⟩ := HK.out i (by have := HQ.out; omega)
            have TS := Lib.hid (ptake_snoc R i (by have := HQ.out; omega))
            obtain ⟨q0, q1, q2, q3, q4, q5, q6, q7, q8, q9, q10⟩ := hat.below B1.out hb0
            have q11 : wr.cell? ⟨b, off + i * 12 + 11, none⟩ = some (.slice A' m' C') := (B1.out.cell (p := ⟨b, off + i * 12 + 11, none⟩) hb0).trans hcell
            have I := Lib.hid (hG wr B1.out)
            obtain ⟨p, hp⟩ : ∃ p, R.getD i [] = p := ⟨_, rfl⟩
            rw [hp] at I TS
            obtain ⟨x, hx⟩ : ∃ x, f p = x := ⟨_, rfl⟩
            have TX := Lib.hid (show (m && x) = (z && (R.take (i + 1)).all f) by rw [TS.out, List.all_append, List.all_cons, List.all_nil, HM.out, hx]; simp [Bool.and_assoc])
            have I2 : Hid (Calls Tryz.prog 57 #[tOfT ⟨nk', ⟨px', pt', pa', pn', pc', pL'⟩, ny', ⟨gx', gt', ga', gn', gc', gL'⟩, nlo', nhi', ns'⟩ A' m' C'] wr fun e w' => e = .returned (.bool x) ∧ Below wr.heap.size wr w') := Lib.hid (by have := I.out; unfold GF at this; rw [hx] at this; exact this)
            clear hx hp TS HM I hG hat hcell EZ
            cases m
            · go_wp2_with fail
              go_roundw
              case rel => exact ⟨_, i + 1, rfl, by go_num, by omega, Lib.hid ⟨TX.out, B1.out, T1.out⟩⟩
              case measure => simp [intOf]; omega
            · go_wp2_with fail
              refine I2.out.mono ?_
              rintro e w3 ⟨rfl, hb⟩
              have B3 := Lib.hid (below_go B1.out hb)
              have T3 := Lib.hid (T1.out.below hb T1.out.lt)
              clear hb I2 B1 T1 hcT q0 q1 q2 q3 q4 q5 q6 q7 q8 q9 q10 q11
              go_wp2_with fail
              go_roundw
              case rel => exact ⟨_, i + 1, rfl, by go_num, by omega, Lib.hid ⟨TX.out, B3.out, T3.out⟩⟩
              case measure => simp [intOf]; omega
          · obtain rfl : i = q := by omega
            have EM := Lib.hid (show m = r by rw [HM.out, ← HR.out, List.take_of_length_le (by have := HQ.out; omega)])
            have em := EM.out
            subst em
            go_wp2_with fail
            go_ret
            exact ⟨rfl, B1.out⟩
theorem rformed_any (k : Nat) : ∀ (nd : Nd) (A : Option Addr) (C : Nat) (l : List Nd) (F : Nat → Prop) (w : World), l.length ≤ 1000 → nd = l.headD nz → Trs k w F A (pts l) → (∀ b, F b → b < w.heap.size) → l.length ≤ k → GF (fmT (k + 1)) w nd A (pts l).length C l := by
  induction k with
  | zero =>
    intro nd A C l F w hl hn hT hF hk
    have h0 : pts l = [] := hT
    refine Calls.mono (rformed1_any (fun _ => true) nd A C (pts l) w (by rw [h0]; simp) (fun i hi => by rw [h0] at hi; simp at hi)) ?_
    rintro e w' ⟨rfl, hb⟩
    refine ⟨?_, hb⟩
    rw [fmT, ← hn, h0]; rfl
  | succ k ih =>
    intro nd A C l F w hl hn hT hF hk
    have := pts_len l
    refine Calls.mono (rformed1_any (fmT (k + 1)) nd A C (pts l) w (by omega) (fun i hi => ?_)) ?_
    · obtain ⟨b, off, A', C', ha, hFb, hat, hc, hk2⟩ := hT i hi
      have hp := pts_mem _ (lpgetD_mem (pts l) i hi)
      refine ⟨b, off, _, A', _, C', ha, hF b hFb, hat, hc, fun W hW => ?_⟩
      exact ih _ A' C' _ F W (by omega) rfl (hk2.below hW hF) (fun b hb => Nat.lt_of_lt_of_le (hF b hb) hW.size) (by omega)
    · rintro e w' ⟨rfl, hb⟩
      exact ⟨by rw [hn]; rfl, hb⟩
end Go.Proofs.YtpnllbojifnopaaGreatDoor

/- The document's Places of trees. -/
namespace Go.Proofs.YtpnllbojifnopaaGreatDoor
open Go Go.RowKit Pk Rl
set_option maxRecDepth 20000

abbrev GP (f : List Nd → Int) (W : World) (n : Nd) (A : Option Addr) (m C : Nat) (p : List Nd) : Prop :=
  Calls Tryz.prog 60 #[tOfT n A m C] W fun e w' => e = .returned (.int .i64 (f p)) ∧ Below W.heap.size W w'
set_option maxHeartbeats 2000000 in
theorem rplaces1_any (f : List Nd → Int) (nd : Nd) (A : Option Addr) (C : Nat) (R : List (List Nd)) (w : World) (hq : R.length ≤ 1000) (hK : KD (GP f) w A R) (hh0 : 0 ≤ nd.hi) (hh1 : nd.hi < 256) :
    GP (fun _ => if R.length = 0 then 1 else if nd.k = 4 then wrap64 (R.foldl (fun m p => wrap64 (m + f p)) 0 * nd.hi) else R.foldl (fun m p => wrap64 (m + f p)) 0) w nd A R.length C [] := by
  unfold GP
  have HK := Lib.hid hK
  clear hK
  obtain ⟨q, hq2⟩ : ∃ q, R.length = q := ⟨_, rfl⟩
  rw [hq2] at hq ⊢
  have HQ := Lib.hid hq2
  have B0 := Lib.hid (below_alloc w (tobjT nd A q C))
  have T0 := Lib.hid (Trb.start w nd A q C)
  clear hq2
  obtain ⟨r, hr⟩ : ∃ r, R.foldl (fun m p => wrap64 (m + f p)) 0 = r := ⟨_, rfl⟩
  rw [hr]
  have HR := Lib.hid hr
  clear hr
  obtain ⟨nk, ⟨px, pt, pa, pn, pc, pL⟩, ny, ⟨gx, gt, ga, gn, gc, gL⟩, nlo, nhi, ns⟩ := nd
  simp only at hh0 hh1
  by_cases q0 : q = 0
  · subst q0
    clear HK HR HQ
    go_enter Tryz.func60, Tryz.ntmps60
    go_wp2_with fail
    go_ret
    exact ⟨rfl, B0.out⟩
  have q0' : ((q : Int) == 0) = false := by simp; omega
  obtain ⟨z, hz⟩ : ∃ z, (nk == 4) = z := ⟨_, rfl⟩
  have EE : Hid ((if q = 0 then (1 : Int) else if nk = 4 then wrap64 (r * nhi) else r) = if z = true then wrap64 (r * nhi) else r) := Lib.hid (by
    rw [if_neg q0]
    by_cases k4 : nk = 4
    · rw [if_pos k4, if_pos (by rw [← hz]; simp [k4])]
    · rw [if_neg k4, if_neg (by rw [← hz]; simp [k4])])
  simp only at EE ⊢
  rw [EE.out]
  clear EE
  go_enter Tryz.func60, Tryz.ntmps60
  go_wp2_with fail
  go_loopw [3, 12] (fun v3 v8 W => ∃ (m : Int) (i : Nat), v3 = .int .i64 m ∧ v8 = .int .i64 (i : Int) ∧ i ≤ q ∧ Hid (m = (R.take i).foldl (fun m p => wrap64 (m + f p)) 0 ∧ Below w.heap.size w W ∧ Trb W w.heap.size ⟨nk, ⟨px, pt, pa, pn, pc, pL⟩, ny, ⟨gx, gt, ga, gn, gc, gL⟩, nlo, nhi, ns⟩ A q C)) (fun _ v8 _ => q - (intOf v8).toNat)
  case atStart => exact ⟨0, 0, rfl, rfl, by omega, Lib.hid ⟨rfl, B0.out, T0.out⟩⟩
  case round =>
    obtain ⟨m, i, rfl, rfl, hi, H⟩ := hrel
    have HM := Lib.hid H.out.1
    have B1 := Lib.hid H.out.2.1
    have T1 := Lib.hid H.out.2.2
    have hcT := T1.out.cells.2
    clear H B0 T0
    by_cases ci : i < q
    · obtain ⟨b, off, ⟨nk', ⟨px', pt', pa', pn', pc', pL'⟩, ny', ⟨gx', gt', ga', gn', gc', gL'⟩, nlo', nhi', ns'⟩, A', m', C', rfl, hb0, hat, hcell, hG⟩ := HK.out i (by have := HQ.out; omega)
      have TS := Lib.hid (ptake_snoc R i (by have := HQ.out; omega))
      obtain ⟨k0, k1, k2, k3, k4, k5, k6, k7, k8, k9, k10⟩ := hat.below B1.out hb0
      have k11 : wr.cell? ⟨b, off + i * 12 + 11, none⟩ = some (.slice A' m' C') := (B1.out.cell (p := ⟨b, off + i * 12 + 11, none⟩) hb0).trans hcell
      have I := Lib.hid (hG wr B1.out)
      obtain ⟨p, hp⟩ : ∃ p, R.getD i [] = p := ⟨_, rfl⟩
      rw [hp] at I TS
      obtain ⟨x, hx⟩ : ∃ x, f p = x := ⟨_, rfl⟩
      have TX := Lib.hid (show (R.take (i + 1)).foldl (fun m p => wrap64 (m + f p)) 0 = wrap64 (m + x) by rw [TS.out, List.foldl_append, List.foldl_cons, List.foldl_nil, ← HM.out, hx])
      have I2 : Hid (Calls Tryz.prog 60 #[tOfT ⟨nk', ⟨px', pt', pa', pn', pc', pL'⟩, ny', ⟨gx', gt', ga', gn', gc', gL'⟩, nlo', nhi', ns'⟩ A' m' C'] wr fun e w' => e = .returned (.int .i64 x) ∧ Below wr.heap.size wr w') := Lib.hid (by have := I.out; unfold GP at this; rw [hx] at this; exact this)
      clear hx hp TS HM I hG hat hcell
      go_wp2_with fail
      refine I2.out.mono ?_
      rintro e w3 ⟨rfl, hb⟩
      have B3 := Lib.hid (below_go B1.out hb)
      have T3 := Lib.hid (T1.out.below hb T1.out.lt)
      clear hb I2 B1 T1 hcT k0 k1 k2 k3 k4 k5 k6 k7 k8 k9 k10 k11
      go_wp2_with fail
      go_roundw
      case rel => exact ⟨_, i + 1, rfl, by go_num, by omega, Lib.hid ⟨TX.out.symm, B3.out, T3.out⟩⟩
      case measure => simp [intOf]; omega
    · obtain rfl : i = q := by omega
      have EM := Lib.hid (show m = r by rw [HM.out, ← HR.out, List.take_of_length_le (by have := HQ.out; omega)])
      have em := EM.out
      subst em
      obtain ⟨e0, e1, e2, e3, e4, e5, e6, e7, e8, e9, e10⟩ := T1.out.cells.1
      simp only at e0 e9
      clear EM HM HR e1 e2 e3 e4 e5 e6 e7 e8 e10
      cases z
      · go_wp2_with fail
        go_ret
        exact ⟨rfl, B1.out⟩
      · go_wp2_with fail
        go_ret
        exact ⟨rfl, B1.out⟩
theorem hd_mem {l : List Nd} {P : Nd → Prop} (h : ∀ v ∈ l, P v) (hz : P nz) : P (l.headD nz) := by
  rcases l with _ | ⟨a, r⟩
  · exact hz
  · exact h a (by simp)
theorem rplaces_any (k : Nat) : ∀ (nd : Nd) (A : Option Addr) (C : Nat) (l : List Nd) (F : Nat → Prop) (w : World), l.length ≤ 1000 → nd = l.headD nz → (∀ v ∈ l, 0 ≤ v.hi ∧ v.hi < 256) → Trs k w F A (pts l) → (∀ b, F b → b < w.heap.size) → GP (plT (k + 1)) w nd A (pts l).length C l := by
  induction k with
  | zero =>
    intro nd A C l F w hl hn hv hT hF
    have h0 : pts l = [] := hT
    have hd := hd_mem hv (by simp)
    rw [← hn] at hd
    refine Calls.mono (rplaces1_any (fun _ => 0) nd A C (pts l) w (by rw [h0]; simp) (fun i hi => by rw [h0] at hi; simp at hi) hd.1 hd.2) ?_
    rintro e w' ⟨rfl, hb⟩
    refine ⟨?_, hb⟩
    rw [plT, h0]; rfl
  | succ k ih =>
    intro nd A C l F w hl hn hv hT hF
    have hd := hd_mem hv (by simp)
    rw [← hn] at hd
    have := pts_len l
    refine Calls.mono (rplaces1_any (plT (k + 1)) nd A C (pts l) w (by omega) (fun i hi => ?_) hd.1 hd.2) ?_
    · obtain ⟨b, off, A', C', ha, hFb, hat, hc, hk2⟩ := hT i hi
      have hp := pts_mem _ (lpgetD_mem (pts l) i hi)
      refine ⟨b, off, _, A', _, C', ha, hF b hFb, hat, hc, fun W hW => ?_⟩
      exact ih _ A' C' _ F W (by omega) rfl (fun v hv2 => hv v (hp.2.2.2 v hv2)) (hk2.below hW hF) (fun b hb => Nat.lt_of_lt_of_le (hF b hb) hW.size)
    · rintro e w' ⟨rfl, hb⟩
      exact ⟨by rw [hn]; rfl, hb⟩
end Go.Proofs.YtpnllbojifnopaaGreatDoor

/- The document's May of a pattern. -/
namespace Go.Proofs.YtpnllbojifnopaaGreatDoor
open Go Go.RowKit Pk Rl
set_option maxRecDepth 20000

theorem mp_two (L : List Nd) (win : Int) (n : Nat) (hn : L.length = n) (h0 : 0 ≤ win) :
    mp L win = if 32 < n then 12 else if (bld 33 L && decide ((frn L).length = n)) = false ∨ fmT 33 L = false then 2 else if L.any bad = true then 1 else if 8 < dpt 33 L then 16 else if win = 0 ∨ 1048576 < win then 5 else if 32 < plT 33 L then 4 else 0 := by
  have hq := frn_len L
  unfold mp
  rw [hn] at hq ⊢
  by_cases c1 : 32 < n
  · rw [if_pos c1, if_pos c1]
  rw [if_neg c1, if_neg c1, fmd_eq]
  by_cases c2 : (frn L).length = n
  · by_cases c3 : bld 33 L = true
    · by_cases c4 : fmT 33 L = true
      · rw [if_neg (show ¬((frn L).length < n ∨ (bld 33 L && fmT 33 L) = false) by rw [c2, c3, c4]; simp), if_neg (show ¬((bld 33 L && decide ((frn L).length = n)) = false ∨ fmT 33 L = false) by rw [c2, c3, c4]; simp), plT_eq 33 L c4]
        have e : (win < 1 ∨ 1048576 < win) ↔ (win = 0 ∨ 1048576 < win) := by omega
        simp only [e]
      · have c4' : fmT 33 L = false := by simpa using c4
        rw [if_pos (by rw [c4']; simp), if_pos (by rw [c4']; simp)]
    · have c3' : bld 33 L = false := by simpa using c3
      rw [if_pos (by rw [c3']; simp), if_pos (by rw [c3']; simp)]
  · rw [if_pos (.inl (by omega)), if_pos (.inl (by simp [c2]))]
set_option maxHeartbeats 8000000 in
theorem rtmay_any (a : Option Addr) (n c : Nat) (L : List Nd) (win : Int) (w : World) (hP : Pt w a n c L) (hw0 : 0 ≤ win) :
    Calls Tryz.prog 21 #[ptv a n c win] w fun e w' => e = .returned (.int .i64 (mp L win)) ∧ Below w.heap.size w w' := by
  have K0 := Lib.hid (Pbx.start w a n c win)
  have HN := Lib.hid hP.len
  have HP := Lib.hid hP
  have hll := hP.len
  have LL : Hid (L.length ≤ 1000) := Lib.hid (by rw [hP.len]; exact hP.few)
  have C1 := Lib.hid (fun W (hW : Below w.heap.size w W) (h : n < 33) => rtree_any 33 a n c L W h (hP.below hW))
  have HV := Lib.hid (show ∀ v ∈ L, 0 ≤ v.hi ∧ v.hi < 256 from fun v hv => ⟨(hP.ok v hv).h0, (hP.ok v hv).h1⟩)
  have D1 := Lib.hid (fun (h : n < 33) => dpt_fuel 33 L (by rw [hll]; exact h))
  have D2 := Lib.hid (fun (h : n < 33) => plT_fuel 33 L (by rw [hll]; exact h))
  have D3 := Lib.hid (fun (h : n < 33) => fmT_fuel 33 L (by rw [hll]; exact h))
  obtain ⟨r, hr⟩ : ∃ r, mp L win = r := ⟨_, rfl⟩
  rw [hr]
  rw [mp_two L win n hP.len hw0] at hr
  obtain ⟨ok, hok⟩ : ∃ ok, (bld 33 L && decide ((frn L).length = n)) = ok := ⟨_, rfl⟩
  rw [hok] at hr
  have HOK := Lib.hid hok
  have HR := Lib.hid hr
  clear hr hok hll hP
  by_cases c1 : 32 < n
  · have HR1 := HR.out
    rw [if_pos c1] at HR1
    subst HR1
    have c1' : (32 : Int) < (n : Int) := by omega
    clear C1 HR HP HV D1 D2 D3
    go_enter Tryz.func21, Tryz.ntmps21
    go_wp2_with fail
    go_ret
    exact ⟨rfl, K0.out.bel⟩
  rw [if_neg c1] at HR
  have c1' : ¬ (32 : Int) < (n : Int) := by omega
  have n33 : Hid (n < 33) := Lib.hid (by omega)
  have D1' := Lib.hid (D1.out n33.out)
  have D2' := Lib.hid (D2.out n33.out)
  have D3' := Lib.hid (D3.out n33.out)
  clear D1 D2 D3
  go_enter Tryz.func21, Tryz.ntmps21
  go_wp2_with fail
  refine (C1.out _ K0.out.bel n33.out).mono ?_
  rintro e w2 ⟨nd, A, m, C, rfl, hbt, hb⟩
  have HT := Lib.hid hbt
  rw [HOK.out]
  have K2 := Lib.hid (K0.out.next hb)
  have K3 := Lib.hid (K2.out.next (below_alloc w2 (tobjT nd A m C)))
  have T3 := Lib.hid (Trb.start w2 nd A m C)
  have B3 := Lib.hid (below_alloc w2 (tobjT nd A m C))
  have hsz : Hid (w.heap.size + 1 ≤ w2.heap.size) := Lib.hid (by have := hb.size; rw [World.size_alloc] at this; exact this)
  clear hb hbt C1 K0 K2
  cases ok
  · have HR1 := HR.out
    rw [if_pos (.inl rfl)] at HR1
    subst HR1
    go_wp2_with fail
    go_ret
    exact ⟨rfl, K3.out.bel⟩
  have hb33 : bld 33 L = true := by have := HOK.out; simp at this; exact this.1
  obtain ⟨hnd, hm, htr⟩ := HT.out hb33
  have HND := Lib.hid hnd
  have HTR := Lib.hid (htr.below B3.out (fun b hb => hb.2))
  have HM := Lib.hid hm
  clear hnd hm htr hb33 HT HOK
  obtain ⟨fT, hfT⟩ : ∃ fT, fmT 33 L = fT := ⟨_, rfl⟩
  obtain ⟨d, hd⟩ : ∃ d, dpt 33 L = d := ⟨_, rfl⟩
  obtain ⟨pl, hpl⟩ : ∃ pl, plT 33 L = pl := ⟨_, rfl⟩
  have SZ := Lib.hid (show ∀ W, Below w2.heap.size (w2.alloc (tobjT nd A m C)) W → ∀ b, (w.heap.size + 1 ≤ b ∧ b < w2.heap.size) → b < W.heap.size from fun W hW b hb => by have := hW.size; have := hb.2; rw [World.size_alloc] at *; omega)
  have TS := Lib.hid (fun W (hW : Below w2.heap.size (w2.alloc (tobjT nd A m C)) W) => HTR.out.same (F := _) (G := fun b => w.heap.size + 1 ≤ b ∧ b < w2.heap.size) (fun b hb => hW.block b hb.2) (fun b hb => by have := hb.1; rw [World.size_alloc] at this; exact ⟨this, hb.2⟩))
  have I1 : Hid (∀ W, Below w2.heap.size (w2.alloc (tobjT nd A m C)) W → Calls Tryz.prog 57 #[tOfT nd A m C] W fun e w' => e = .returned (.bool fT) ∧ Below W.heap.size W w') := Lib.hid (fun W hW => by
    have := rformed_any 33 nd A C L _ W LL.out HND.out (TS.out W hW) (SZ.out W hW) (by have := HN.out; have := n33.out; omega)
    rw [GF, D3'.out, hfT, ← HM.out] at this
    exact this)
  have I2 : Hid (∀ W, Below w2.heap.size (w2.alloc (tobjT nd A m C)) W → Calls Tryz.prog 59 #[tOfT nd A m C] W fun e w' => e = .returned (.int .i64 d) ∧ Below W.heap.size W w') := Lib.hid (fun W hW => by
    have := rdepth_any 33 (by omega) nd A C L _ W LL.out (TS.out W hW) (SZ.out W hW)
    rw [GD, D1'.out, hd, ← HM.out] at this
    exact this)
  have I3 : Hid (∀ W, Below w2.heap.size (w2.alloc (tobjT nd A m C)) W → Calls Tryz.prog 60 #[tOfT nd A m C] W fun e w' => e = .returned (.int .i64 pl) ∧ Below W.heap.size W w') := Lib.hid (fun W hW => by
    have := rplaces_any 33 nd A C L _ W LL.out HND.out HV.out (TS.out W hW) (SZ.out W hW)
    rw [GP, D2'.out, hpl, ← HM.out] at this
    exact this)
  rw [hfT, hd, hpl] at HR
  clear hfT hd hpl TS SZ HTR D1' D2' D3' HV HND LL HM
  obtain ⟨nk, ⟨px, pt, pa, pn, pc, pL⟩, ny, ⟨gx, gt, ga, gn, gc, gL⟩, nlo, nhi, ns⟩ := nd
  go_wp2_with fail
  refine (I1.out _ (Below.refl _ _)).mono ?_
  rintro e w4 ⟨rfl, hb⟩
  have B4 := Lib.hid (hb.mono (by simp) : Below w2.heap.size _ w4)
  have K4 := Lib.hid (K3.out.next hb)
  have T4 := Lib.hid (T3.out.below hb (by simp))
  clear hb I1 K3 T3 B3
  cases fT
  · have HR1 := HR.out
    rw [if_pos (.inr rfl)] at HR1
    subst HR1
    go_wp2_with fail
    go_ret
    exact ⟨rfl, K4.out.bel⟩
  rw [if_neg (by simp)] at HR
  have p0 := K4.out.c0
  go_wp2_with fail
  clear p0
  go_loopw [26] (fun v26 W => ∃ (i : Nat), v26 = .int .i64 (i : Int) ∧ i ≤ n ∧ Hid (Pbx w W w.heap.size a n c win ∧ Below w2.heap.size (w2.alloc (tobjT ⟨nk, ⟨px, pt, pa, pn, pc, pL⟩, ny, ⟨gx, gt, ga, gn, gc, gL⟩, nlo, nhi, ns⟩ A m C)) W ∧ Trb W w2.heap.size ⟨nk, ⟨px, pt, pa, pn, pc, pL⟩, ny, ⟨gx, gt, ga, gn, gc, gL⟩, nlo, nhi, ns⟩ A m C ∧ (L.take i).any bad = false)) (fun v26 _ => n - (intOf v26).toNat)
  case atStart => exact ⟨0, rfl, by omega, Lib.hid ⟨K4.out, B4.out, T4.out, rfl⟩⟩
  case round =>
    obtain ⟨i, rfl, hi, H⟩ := hrel
    have K1 := Lib.hid H.out.1
    have B1 := Lib.hid H.out.2.1
    have T1 := Lib.hid H.out.2.2.1
    have HD := Lib.hid H.out.2.2.2
    clear H K4 B4 T4
    have p0 := K1.out.c0
    by_cases ci : i < n
    · obtain ⟨b, off, rfl, hat⟩ := (HP.out.row.below K1.out.bel) i (by have := HN.out; omega)
      have ME := Lib.hid (ngetD_mem L i (by have := HN.out; omega))
      have TS := Lib.hid (show L.take (i + 1) = L.take i ++ [L.getD i nz] by
        rw [List.take_succ_eq_append_getElem (by have := HN.out; omega), List.getD_eq_getElem?_getD, List.getElem?_eq_getElem (by have := HN.out; omega)]; rfl)
      obtain ⟨x, hx⟩ : ∃ x, L.getD i nz = x := ⟨_, rfl⟩
      rw [hx] at hat TS ME
      have NK := HP.out.ok x ME.out
      have M1 := Lib.hid (fun W (hW : Below w.heap.size w W) => rpmay_any x.p.x x.p.t x.p.a x.p.n x.p.c x.p.L W NK.p.len (by have := NK.p.few; omega) (NK.p.row.below hW) NK.p.ok)
      have M2 := Lib.hid (fun W (hW : Below w.heap.size w W) => rpmay_any x.g.x x.g.t x.g.a x.g.n x.g.c x.g.L W NK.g.len (by have := NK.g.few; omega) (NK.g.row.below hW) NK.g.ok)
      obtain ⟨z1, hz1⟩ : ∃ z, pmay x.p.x x.p.t x.p.L = z := ⟨_, rfl⟩
      obtain ⟨z2, hz2⟩ : ∃ z, pmay x.g.x x.g.t x.g.L = z := ⟨_, rfl⟩
      rw [hz1] at M1
      rw [hz2] at M2
      have HZ := Lib.hid (show bad x = (!z1 || !z2) by unfold bad; rw [hz1, hz2])
      have TA := Lib.hid (show (!z1 || !z2) = false → (L.take (i + 1)).any bad = false from fun h => by rw [TS.out, List.any_append, HD.out, List.any_cons, HZ.out, h]; rfl)
      have TB := Lib.hid (show (!z1 || !z2) = true → L.any bad = true from fun h => List.any_eq_true.2 ⟨x, ME.out, by rw [HZ.out, h]⟩)
      clear hx hz1 hz2 NK ME TS HZ HD
      obtain ⟨xk, ⟨xx, xt, xa, xn, xc, xL⟩, xy, ⟨yx, yt, ya, yn, yc, yL⟩, xlo, xhi, xs⟩ := x
      have X1 := Lib.hid hat
      obtain ⟨e0, e1, e2, e3, e4, e5, e6, e7, e8, e9, e10⟩ := hat
      simp only at e0 e1 e2 e3 e4 e5 e6 e7 e8 e9 e10 M1 M2
      go_wp2_with fail
      refine (M1.out _ K1.out.bel).mono ?_
      rintro e w5 ⟨rfl, hb⟩
      have K5 := Lib.hid (K1.out.next hb)
      have B5 := Lib.hid (B1.out.trans (hb.mono (by have := B1.out.size; rw [World.size_alloc] at this; omega)))
      have T5 := Lib.hid (T1.out.below hb T1.out.lt)
      have X5 := Lib.hid (X1.out.below hb X1.out.lt)
      clear hb K1 B1 T1 X1 M1 p0 e0 e1 e2 e3 e4 e5 e6 e7 e8 e9 e10
      have p0 := K5.out.c0
      obtain ⟨e0, e1, e2, e3, e4, e5, e6, e7, e8, e9, e10⟩ := X5.out
      simp only at e0 e1 e2 e3 e4 e5 e6 e7 e8 e9 e10
      cases z1
      · have HR1 := HR.out
        rw [if_pos (TB.out (by first | rfl | trivial))] at HR1
        subst HR1
        clear TA TB
        go_wp2_with fail
        go_ret
        exact ⟨rfl, K5.out.bel⟩
      · go_wp2_with fail
        refine (M2.out _ K5.out.bel).mono ?_
        rintro e w6 ⟨rfl, hb⟩
        have K6 := Lib.hid (K5.out.next hb)
        have B6 := Lib.hid (B5.out.trans (hb.mono (by have := B5.out.size; rw [World.size_alloc] at this; omega)))
        have T6 := Lib.hid (T5.out.below hb T5.out.lt)
        clear hb K5 B5 T5 X5 M2 p0 e0 e1 e2 e3 e4 e5 e6 e7 e8 e9 e10
        cases z2
        · have HR1 := HR.out
          rw [if_pos (TB.out (by first | rfl | trivial))] at HR1
          subst HR1
          clear TA TB
          go_wp2_with fail
          go_ret
          exact ⟨rfl, K6.out.bel⟩
        · have TA2 := Lib.hid (TA.out (by first | rfl | trivial))
          clear TA TB
          go_wp2_with fail
          go_roundw
          case rel => exact ⟨i + 1, by go_num, by omega, Lib.hid ⟨K6.out, B6.out, T6.out, TA2.out⟩⟩
          case measure => simp [intOf]; omega
    · obtain rfl : i = n := by omega
      have E : L.any bad = false := by have := HD.out; rwa [List.take_of_length_le (by have := HN.out; omega)] at this
      rw [if_neg (by rw [E]; simp)] at HR
      clear E HD HN HP p0
      obtain ⟨⟨e0, e1, e2, e3, e4, e5, e6, e7, e8, e9, e10⟩, e11⟩ := T1.out.cells
      simp only at e0 e1 e2 e3 e4 e5 e6 e7 e8 e9 e10
      go_wp2_with fail
      refine (I2.out _ B1.out).mono ?_
      rintro e w5 ⟨rfl, hb⟩
      have K5 := Lib.hid (K1.out.next hb)
      have B5 := Lib.hid (B1.out.trans (hb.mono (by have := B1.out.size; rw [World.size_alloc] at this; omega)))
      have T5 := Lib.hid (T1.out.below hb T1.out.lt)
      clear hb K1 B1 T1 e0 e1 e2 e3 e4 e5 e6 e7 e8 e9 e10 e11 I2
      by_cases c4 : 8 < d
      · have HR1 := HR.out
        rw [if_pos c4] at HR1
        subst HR1
        go_wp2_with fail
        go_ret
        exact ⟨rfl, K5.out.bel⟩
      · rw [if_neg c4] at HR
        have g1 := K5.out.c1
        by_cases c5 : win = 0
        · have HR1 := HR.out
          rw [if_pos (.inl c5)] at HR1
          subst HR1
          subst c5
          go_wp2_with fail
          go_ret
          exact ⟨rfl, K5.out.bel⟩
        · have c5b : (win == 0) = false := by simp [c5]
          by_cases c6 : 1048576 < win
          · have HR1 := HR.out
            rw [if_pos (.inr c6)] at HR1
            subst HR1
            go_wp2_with fail
            go_ret
            exact ⟨rfl, K5.out.bel⟩
          · rw [if_neg (by omega)] at HR
            obtain ⟨⟨e0, e1, e2, e3, e4, e5, e6, e7, e8, e9, e10⟩, e11⟩ := T5.out.cells
            simp only at e0 e1 e2 e3 e4 e5 e6 e7 e8 e9 e10
            go_wp2_with fail
            refine (I3.out _ B5.out).mono ?_
            rintro e w6 ⟨rfl, hb⟩
            have K6 := Lib.hid (K5.out.next hb)
            clear hb K5 B5 T5 e0 e1 e2 e3 e4 e5 e6 e7 e8 e9 e10 e11 I3
            by_cases c7 : 32 < pl
            · have HR1 := HR.out
              rw [if_pos c7] at HR1
              subst HR1
              go_wp2_with fail
              go_ret
              exact ⟨rfl, K6.out.bel⟩
            · have HR1 := HR.out
              rw [if_neg c7] at HR1
              subst HR1
              go_wp2_with fail
              go_ret
              exact ⟨rfl, K6.out.bel⟩
end Go.Proofs.YtpnllbojifnopaaGreatDoor
