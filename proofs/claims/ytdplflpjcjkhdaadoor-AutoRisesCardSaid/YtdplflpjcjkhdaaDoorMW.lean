/- Contracts, joined: TrM, TrN, TrO. -/
import Derived.Test.YtdplflpjcjkhdaaDoorMR
import Derived.Deep.DeepCutAuto
/- The document's Depth, Places and formed of trees. -/
namespace Go.Proofs.YtdplflpjcjkhdaaDoor
open Go Go.RowKit Pk Rl
set_option maxRecDepth 20000

/- a row of trees of which a function tells f -/
def KD (G : World → Nd → Option Addr → Nat → Nat → List Nd → Prop) (w : World) (A : Option Addr) (ps : List (List Nd)) : Prop :=
  ∀ i, i < ps.length → ∃ b off n A' m' C', A = some ⟨b, off, none⟩ ∧ b < w.heap.size ∧ Atn w b (off + i * 12) n ∧ w.cell? ⟨b, off + i * 12 + 11, none⟩ = some (.slice A' m' C') ∧ ∀ W, Below w.heap.size w W → G W n A' m' C' (ps.getD i [])
theorem Trb.load {w : World} {g : Nat} {n : Nd} {A : Option Addr} {m C : Nat} (h : Trb w g n A m C) : w.cell? ⟨g, 0 + 11, none⟩ = some (.slice A m C) := h.cells.2
theorem lpgetD_mem (R : List (List Nd)) (i : Nat) (h : i < R.length) : R.getD i [] ∈ R := by
  rw [List.getD_eq_getElem?_getD, List.getElem?_eq_getElem h]; exact List.getElem_mem _
abbrev GD (f : List Nd → Int) (W : World) (n : Nd) (A : Option Addr) (m C : Nat) (p : List Nd) : Prop :=
  Calls Tryd.prog 96 #[tOfT n A m C] W fun e w' => e = .returned (.int .i64 (f p)) ∧ Below W.heap.size W w'
theorem kd_two (nd : Nd) (q : Nat) : kd nd q = ((if nd.k = 1 then decide (q = 0) && decide (nd.lo = 0) && decide (nd.hi = 0) && !nd.y
    else if nd.k = 2 then decide (2 ≤ q) && decide (nd.lo = 0) && decide (nd.hi = 0) && (!nd.p.x && decide (nd.p.t = 0) && decide (nd.p.n = 0))
    else if nd.k = 3 then decide (2 ≤ q) && decide (nd.lo = 0) && decide (nd.hi = 0) && (!nd.p.x && decide (nd.p.t = 0) && decide (nd.p.n = 0)) && !nd.y
    else if nd.k = 4 then decide (q = 1) && decide (0 < nd.lo) && decide (nd.lo ≤ nd.hi) && decide (nd.hi < 9) && (!nd.p.x && decide (nd.p.t = 0) && decide (nd.p.n = 0)) else false) && (nd.y || (!nd.g.x && decide (nd.g.t = 0) && decide (nd.g.n = 0)))) := by
  unfold kd qno
  obtain ⟨nk, ⟨px, pt, pa, pn, pc, pL⟩, ny, ⟨gx, gt, ga, gn, gc, gL⟩, nlo, nhi, ns⟩ := nd
  simp only
  generalize (!px && decide (pt = 0) && decide (pn = 0)) = P
  generalize (!gx && decide (gt = 0) && decide (gn = 0)) = G
  by_cases k1 : nk = 1
  · simp only [if_pos k1]; cases ny <;> cases G <;> simp
  · simp only [if_neg k1]
    by_cases k2 : nk = 2
    · simp only [if_pos k2]; cases ny <;> cases G <;> cases P <;> simp
    · simp only [if_neg k2]
      by_cases k3 : nk = 3
      · simp only [if_pos k3]; cases ny <;> cases G <;> cases P <;> simp
      · simp only [if_neg k3]
        by_cases k4 : nk = 4
        · simp only [if_pos k4]; cases ny <;> cases G <;> cases P <;> simp; all_goals (rw [Bool.eq_iff_iff]; simp; omega)
        · simp only [if_neg k4]; rfl
end Go.Proofs.YtdplflpjcjkhdaaDoor

/- The document's Places of trees. -/
namespace Go.Proofs.YtdplflpjcjkhdaaDoor
open Go Go.RowKit Pk Rl
set_option maxRecDepth 20000

abbrev GP (f : List Nd → Int) (W : World) (n : Nd) (A : Option Addr) (m C : Nat) (p : List Nd) : Prop :=
  Calls Tryd.prog 9 #[tOfT n A m C] W fun e w' => e = .returned (.int .i64 (f p)) ∧ Below W.heap.size W w'
set_option maxHeartbeats 2000000 in
theorem rplaces1_any (f : List Nd → Int) (nd : Nd) (A : Option Addr) (C : Nat) (R : List (List Nd)) (w : World) (hq : R.length ≤ 1000) (hK : KD (GP f) w A R) (hh0 : 0 ≤ nd.hi) (hh1 : nd.hi < 256) :
    GP (fun _ => if R.length = 0 then 1 else if nd.k = 4 then wrap64 (R.foldl (fun m p => wrap64 (m + f p)) 0 * nd.hi) else R.foldl (fun m p => wrap64 (m + f p)) 0) w nd A R.length C [] := by
  unfold GP
  have HK := Lib.hid hK
  clear hK
  obtain ⟨q, hq2⟩ : ∃ q, R.length = q := ⟨_, rfl⟩
  rw [hq2] at hq ⊢
  have HQ := Lib.hid hq2
  have B0 := Lib.hid (below_alloc w (tobjT nd A q C))
  have T0 := Lib.hid (Trb.start w nd A q C)
  clear hq2
  obtain ⟨r, hr⟩ : ∃ r, R.foldl (fun m p => wrap64 (m + f p)) 0 = r := ⟨_, rfl⟩
  rw [hr]
  have HR := Lib.hid hr
  clear hr
  obtain ⟨nk, ⟨px, pt, pa, pn, pc, pL⟩, ny, ⟨gx, gt, ga, gn, gc, gL⟩, nlo, nhi, ns⟩ := nd
  simp only at hh0 hh1
  by_cases q0 : q = 0
  · subst q0
    clear HK HR HQ
    go_enter Tryd.func9, Tryd.ntmps9
    go_wp2_with fail
    go_ret
    exact ⟨rfl, B0.out⟩
  have q0' : ((q : Int) == 0) = false := by simp; omega
  obtain ⟨z, hz⟩ : ∃ z, (nk == 4) = z := ⟨_, rfl⟩
  have EE : Hid ((if q = 0 then (1 : Int) else if nk = 4 then wrap64 (r * nhi) else r) = if z = true then wrap64 (r * nhi) else r) := Lib.hid (by
    rw [if_neg q0]
    by_cases k4 : nk = 4
    · rw [if_pos k4, if_pos (by rw [← hz]; simp [k4])]
    · rw [if_neg k4, if_neg (by rw [← hz]; simp [k4])])
  simp only at EE ⊢
  rw [EE.out]
  clear EE
  go_enter Tryd.func9, Tryd.ntmps9
  go_wp2_with fail
  go_loopw [3, 12] (fun v3 v8 W => ∃ (m : Int) (i : Nat), v3 = .int .i64 m ∧ v8 = .int .i64 (i : Int) ∧ i ≤ q ∧ Hid (m = (R.take i).foldl (fun m p => wrap64 (m + f p)) 0 ∧ Below w.heap.size w W ∧ Trb W w.heap.size ⟨nk, ⟨px, pt, pa, pn, pc, pL⟩, ny, ⟨gx, gt, ga, gn, gc, gL⟩, nlo, nhi, ns⟩ A q C)) (fun _ v8 _ => q - (intOf v8).toNat)
  case atStart => exact ⟨0, 0, rfl, rfl, by omega, Lib.hid ⟨rfl, B0.out, T0.out⟩⟩
  case round =>
    obtain ⟨m, i, rfl, rfl, hi, H⟩ := hrel
    have HM := Lib.hid H.out.1
    have B1 := Lib.hid H.out.2.1
    have T1 := Lib.hid H.out.2.2
    have hcT := T1.out.cells.2
    clear H B0 T0
    by_cases ci : i < q
    · obtain ⟨b, off, ⟨nk', ⟨px', pt', pa', pn', pc', pL'⟩, ny', ⟨gx', gt', ga', gn', gc', gL'⟩, nlo', nhi', ns'⟩, A', m', C', rfl, hb0, hat, hcell, hG⟩ := HK.out i (by have := HQ.out; omega)
      have TS := Lib.hid (ptake_snoc R i (by have := HQ.out; omega))
      obtain ⟨k0, k1, k2, k3, k4, k5, k6, k7, k8, k9, k10⟩ := hat.below B1.out hb0
      have k11 : wr.cell? ⟨b, off + i * 12 + 11, none⟩ = some (.slice A' m' C') := (B1.out.cell (p := ⟨b, off + i * 12 + 11, none⟩) hb0).trans hcell
      have I := Lib.hid (hG wr B1.out)
      obtain ⟨p, hp⟩ : ∃ p, R.getD i [] = p := ⟨_, rfl⟩
      rw [hp] at I TS
      obtain ⟨x, hx⟩ : ∃ x, f p = x := ⟨_, rfl⟩
      have TX := Lib.hid (show (R.take (i + 1)).foldl (fun m p => wrap64 (m + f p)) 0 = wrap64 (m + x) by rw [TS.out, List.foldl_append, List.foldl_cons, List.foldl_nil, ← HM.out, hx])
      have I2 : Hid (Calls Tryd.prog 9 #[tOfT ⟨nk', ⟨px', pt', pa', pn', pc', pL'⟩, ny', ⟨gx', gt', ga', gn', gc', gL'⟩, nlo', nhi', ns'⟩ A' m' C'] wr fun e w' => e = .returned (.int .i64 x) ∧ Below wr.heap.size wr w') := Lib.hid (by have := I.out; unfold GP at this; rw [hx] at this; exact this)
      clear hx hp TS HM I hG hat hcell
      go_wp2_with fail
      refine I2.out.mono ?_
      rintro e w3 ⟨rfl, hb⟩
      have B3 := Lib.hid (below_go B1.out hb)
      have T3 := Lib.hid (T1.out.below hb T1.out.lt)
      clear hb I2 B1 T1 hcT k0 k1 k2 k3 k4 k5 k6 k7 k8 k9 k10 k11
      go_wp2_with fail
      go_roundw
      case rel => exact ⟨_, i + 1, rfl, by go_num, by omega, Lib.hid ⟨TX.out.symm, B3.out, T3.out⟩⟩
      case measure => simp [intOf]; omega
    · obtain rfl : i = q := by omega
      have EM := Lib.hid (show m = r by rw [HM.out, ← HR.out, List.take_of_length_le (by have := HQ.out; omega)])
      have em := EM.out
      subst em
      obtain ⟨e0, e1, e2, e3, e4, e5, e6, e7, e8, e9, e10⟩ := T1.out.cells.1
      simp only at e0 e9
      clear EM HM HR e1 e2 e3 e4 e5 e6 e7 e8 e10
      cases z
      · go_wp2_with fail
        go_ret
        exact ⟨rfl, B1.out⟩
      · go_wp2_with fail
        go_ret
        exact ⟨rfl, B1.out⟩
theorem hd_mem {l : List Nd} {P : Nd → Prop} (h : ∀ v ∈ l, P v) (hz : P nz) : P (l.headD nz) := by
  rcases l with _ | ⟨a, r⟩
  · exact hz
  · exact h a (by simp)
theorem rplaces_any (k : Nat) : ∀ (nd : Nd) (A : Option Addr) (C : Nat) (l : List Nd) (F : Nat → Prop) (w : World), l.length ≤ 1000 → nd = l.headD nz → (∀ v ∈ l, 0 ≤ v.hi ∧ v.hi < 256) → Trs k w F A (pts l) → (∀ b, F b → b < w.heap.size) → GP (plT (k + 1)) w nd A (pts l).length C l := by
  induction k with
  | zero =>
    intro nd A C l F w hl hn hv hT hF
    have h0 : pts l = [] := hT
    have hd := hd_mem hv (by simp)
    rw [← hn] at hd
    refine Calls.mono (rplaces1_any (fun _ => 0) nd A C (pts l) w (by rw [h0]; simp) (fun i hi => by rw [h0] at hi; simp at hi) hd.1 hd.2) ?_
    rintro e w' ⟨rfl, hb⟩
    refine ⟨?_, hb⟩
    rw [plT, h0]; rfl
  | succ k ih =>
    intro nd A C l F w hl hn hv hT hF
    have hd := hd_mem hv (by simp)
    rw [← hn] at hd
    have := pts_len l
    refine Calls.mono (rplaces1_any (plT (k + 1)) nd A C (pts l) w (by omega) (fun i hi => ?_) hd.1 hd.2) ?_
    · obtain ⟨b, off, A', C', ha, hFb, hat, hc, hk2⟩ := hT i hi
      have hp := pts_mem _ (lpgetD_mem (pts l) i hi)
      refine ⟨b, off, _, A', _, C', ha, hF b hFb, hat, hc, fun W hW => ?_⟩
      exact ih _ A' C' _ F W (by omega) rfl (fun v hv2 => hv v (hp.2.2.2 v hv2)) (hk2.below hW hF) (fun b hb => Nat.lt_of_lt_of_le (hF b hb) hW.size)
    · rintro e w' ⟨rfl, hb⟩
      exact ⟨by rw [hn]; rfl, hb⟩
end Go.Proofs.YtdplflpjcjkhdaaDoor

/- The document's May of a pattern. -/
namespace Go.Proofs.YtdplflpjcjkhdaaDoor
open Go Go.RowKit Pk Rl
set_option maxRecDepth 20000

theorem mp_two (L : List Nd) (win : Int) (n : Nat) (hn : L.length = n) (h0 : 0 ≤ win) :
    mp L win = if 32 < n then 12 else if (bld 33 L && decide ((frn L).length = n)) = false ∨ fmT 33 L = false then 2 else if L.any bad = true then 1 else if 8 < dpt 33 L then 16 else if win = 0 ∨ 1048576 < win then 5 else if 32 < plT 33 L then 4 else 0 := by
  have hq := frn_len L
  unfold mp
  rw [hn] at hq ⊢
  by_cases c1 : 32 < n
  · rw [if_pos c1, if_pos c1]
  rw [if_neg c1, if_neg c1, fmd_eq]
  by_cases c2 : (frn L).length = n
  · by_cases c3 : bld 33 L = true
    · by_cases c4 : fmT 33 L = true
      · rw [if_neg (show ¬((frn L).length < n ∨ (bld 33 L && fmT 33 L) = false) by rw [c2, c3, c4]; simp), if_neg (show ¬((bld 33 L && decide ((frn L).length = n)) = false ∨ fmT 33 L = false) by rw [c2, c3, c4]; simp), plT_eq 33 L c4]
        have e : (win < 1 ∨ 1048576 < win) ↔ (win = 0 ∨ 1048576 < win) := by omega
        simp only [e]
      · have c4' : fmT 33 L = false := by simpa using c4
        rw [if_pos (by rw [c4']; simp), if_pos (by rw [c4']; simp)]
    · have c3' : bld 33 L = false := by simpa using c3
      rw [if_pos (by rw [c3']; simp), if_pos (by rw [c3']; simp)]
  · rw [if_pos (.inl (by omega)), if_pos (.inl (by simp [c2]))]
end Go.Proofs.YtdplflpjcjkhdaaDoor
