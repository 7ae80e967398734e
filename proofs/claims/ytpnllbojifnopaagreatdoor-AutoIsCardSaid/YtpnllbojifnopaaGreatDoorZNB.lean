/- Contracts, joined: DmN, DmO1, DmO2, DmO3, DmO4, DmO. -/
import Derived.Test.YtpnllbojifnopaaGreatDoorZNA
import Derived.Test.YtpnllbojifnopaaGreatDoorZMW
import Derived.Deep.RegionLaw
import Derived.Deep.RegionHeld3
namespace Go.Proofs.YtpnllbojifnopaaGreatDoor
open Go Go.RowKit Go.Maps Pk Rl
set_option maxRecDepth 20000
structure OB (w W : World) (nd : Nd) (A : Option Addr) (q C : Nat) (rA : Option Addr) (R : List Lg) : Prop where
  t : Trb W w.heap.size nd A q C
  x : Atn W (w.heap.size + 1) 0 nd
  lr : Lr W rA R
  tab : Tab W
  nok : Nok W nd
  bel : Below w.heap.size w W
theorem OB.next {w W W' : World} {nd : Nd} {A : Option Addr} {q C : Nat} {rA : Option Addr} {R : List Lg} (h : OB w W nd A q C rA R) (hb : Below W.heap.size W W') : OB w W' nd A q C rA R :=
  ⟨h.t.below hb h.t.lt, h.x.below hb h.x.lt, h.lr.ck (Ck.of_below hb), h.tab.ck (Ck.of_below hb), h.nok.ck (Ck.of_below hb), below_go h.bel hb⟩
theorem OB.start (w : World) (nd : Nd) (A : Option Addr) (q C : Nat) (rA : Option Addr) (R : List Lg) (hR : Lr w rA R) (hT : Tab w) (hN : Nok w nd) : OB w ((w.alloc (tobjT nd A q C)).alloc (nobj nd)) nd A q C rA R := by
  have b1 := bal w (tobjT nd A q C)
  have b2 := bal (w.alloc (tobjT nd A q C)) (nobj nd)
  have ck := (Ck.of_below b1).trans (Ck.of_below b2)
  have hx := Atn.alloc (w.alloc (tobjT nd A q C)) nd
  rw [World.size_alloc] at hx
  exact ⟨(Trb.start w nd A q C).below b2 (by simp), hx, hR.ck ck, hT.ck ck, hN.ck ck, below_go b1 b2⟩
theorem MtP.put {w : World} {B g c n N : Nat} {f : Rl2} (h : MtP w B (.slice (some ⟨g, 0, none⟩) n c) n N f) (i : Nat) (hi : i < n) {rb cap : Nat} (hc : w.cell? ⟨g, i, none⟩ = some (.slice (some ⟨rb, 0, none⟩) N cap)) (j : Nat) (hj : j < N) (x : Bool) :
    MtP (w.setCell ⟨rb, j, none⟩ (.bool x)) B (.slice (some ⟨g, 0, none⟩) n c) n N (fun a b => if a = i ∧ b = j then x else f a b) := by
  obtain ⟨g', rb', cap', e1, r1, _, _, _, _, _, r7⟩ := h.at i hi
  injection e1 with e1
  injection e1 with e1 _ _
  subst e1
  rw [hc] at r1
  injection r1 with r1
  injection r1 with r1 _ _
  injection r1 with r1
  injection r1 with r1 _ _
  subst r1
  exact r7 j x hj
theorem mtx_of {w : World} {B : Nat} {A : Option Addr} {c n N : Nat} {f : Rl2} (h : MtP w B (.slice A n c) n N f) : Mtx w A n N f := by
  obtain ⟨A', c', e, hm⟩ := h.form
  injection e with e _ _
  rw [e]; exact hm
abbrev GO (rA : Option Addr) (N rC : Nat) (f : List Nd → Rl2) (W : World) (n : Nd) (A : Option Addr) (m C : Nat) (p : List Nd) : Prop :=
  Calls Tryz.prog 23 #[tOfT n A m C, .slice rA N rC] W fun e w' => (∃ A' c', e = .returned (.slice A' N c') ∧ Mt2 w' W.heap.size (.slice A' N c') N (f p)) ∧ Below W.heap.size W w'
def dg (r : Nat → Bool) (n : Nat) : Rl2 := fun i j => decide (i = j) && decide (i < n) && r i
theorem dg_start (r : Nat → Bool) : dg r 0 = fun _ _ => false := by
  funext x y; unfold dg; rw [decide_eq_false (p := x < 0) (by omega)]; simp
theorem dg_set (r : Nat → Bool) (i : Nat) : ∀ x y, (if x = i ∧ y = i then r i else dg r i x y) = dg r (i + 1) x y := by
  intro x y
  unfold dg
  by_cases c : x = i ∧ y = i
  · rw [if_pos c, c.1, c.2]; simp
  · rw [if_neg c]
    by_cases d : x = y
    · subst d
      have : x ≠ i := fun e => c ⟨e, e⟩
      congr 2
      rw [decide_eq_decide]; omega
    · rw [decide_eq_false d]; rfl
abbrev Kx (wr W : World) (h rb ro a g rb2 c2 N : Nat) (x2 : Bool) (t2 : Int) (a2 : Option Addr) (n2 d2 : Nat) (et : Int) (ea : Option Addr) (en ec : Nat) (v : Value) : Prop :=
  W.cell? ⟨g, a, none⟩ = some (.slice (some ⟨rb2, 0, none⟩) N c2) ∧ W.cell? ⟨h, 1, none⟩ = some (.bool x2) ∧ W.cell? ⟨h, 2, none⟩ = some (.int .u8 t2) ∧ W.cell? ⟨h, 3, none⟩ = some (.slice a2 n2 d2) ∧
  W.cell? ⟨rb, ro + a * 5 + 3, none⟩ = some (.int .u8 et) ∧ W.cell? ⟨rb, ro + a * 5 + 4, none⟩ = some (.slice ea en ec) ∧ W.cell? ⟨rb2, a, none⟩ = some v ∧ W.frozen? ⟨rb2, a, none⟩ = false ∧ Hid (Below wr.heap.size wr W)
theorem kx_next {wr W W' : World} {h rb ro a g rb2 c2 N : Nat} {x2 : Bool} {t2 : Int} {a2 : Option Addr} {n2 d2 : Nat} {et : Int} {ea : Option Addr} {en ec : Nat} {v : Value} (hb : Below W.heap.size W W') (K : Kx wr W h rb ro a g rb2 c2 N x2 t2 a2 n2 d2 et ea en ec v) : Kx wr W' h rb ro a g rb2 c2 N x2 t2 a2 n2 d2 et ea en ec v := by
  have k := Ck.of_below hb
  obtain ⟨h1, h2, h3, h4, h6, h7, h8, h9, h10⟩ := K
  exact ⟨k _ _ _ h1, k _ _ _ h2, k _ _ _ h3, k _ _ _ h4, k _ _ _ h6, k _ _ _ h7, k _ _ _ h8, by rw [hb.frozen (p := ⟨rb2, a, none⟩) (World.block_lt_of_cell? _ _ h8)]; exact h9, Lib.hid (h10.out.trans (hb.mono h10.out.size))⟩
abbrev Kp (wr W : World) (h b o : Nat) (q C : Nat) (off : Nat) (nk : Int) (px : Bool) (pt : Int) (pa : Option Addr) (pn pc : Nat) (ny gx : Bool) (gt : Int) (ga : Option Addr) (gn gc : Nat) (lo hi s : Int) (A' : Option Addr) (m' C' : Nat) : Prop :=
  W.cell? ⟨h, 11, none⟩ = some (.slice (some ⟨b, off, none⟩) q C) ∧ W.cell? ⟨b, o, none⟩ = some (.int .u8 nk) ∧ W.cell? ⟨b, o + 1, none⟩ = some (.bool px) ∧ W.cell? ⟨b, o + 2, none⟩ = some (.int .u8 pt) ∧ W.cell? ⟨b, o + 3, none⟩ = some (.slice pa pn pc) ∧
  W.cell? ⟨b, o + 4, none⟩ = some (.bool ny) ∧ W.cell? ⟨b, o + 5, none⟩ = some (.bool gx) ∧ W.cell? ⟨b, o + 6, none⟩ = some (.int .u8 gt) ∧ W.cell? ⟨b, o + 7, none⟩ = some (.slice ga gn gc) ∧
  W.cell? ⟨b, o + 8, none⟩ = some (.int .u8 lo) ∧ W.cell? ⟨b, o + 9, none⟩ = some (.int .u8 hi) ∧ W.cell? ⟨b, o + 10, none⟩ = some (.int .i64 s) ∧ W.cell? ⟨b, o + 11, none⟩ = some (.slice A' m' C') ∧ Hid (Below wr.heap.size wr W)
theorem kp_next {wr W W' : World} {h b o q C off : Nat} {nk : Int} {px : Bool} {pt : Int} {pa : Option Addr} {pn pc : Nat} {ny gx : Bool} {gt : Int} {ga : Option Addr} {gn gc : Nat} {lo hi s : Int} {A' : Option Addr} {m' C' : Nat} (hb : Below W.heap.size W W') (K : Kp wr W h b o q C off nk px pt pa pn pc ny gx gt ga gn gc lo hi s A' m' C') : Kp wr W' h b o q C off nk px pt pa pn pc ny gx gt ga gn gc lo hi s A' m' C' := by
  have k := Ck.of_below hb
  obtain ⟨h0, h1, h2, h3, h4, h5, h6, h7, h8, h9, h10, h11, h12, h13⟩ := K
  exact ⟨k _ _ _ h0, k _ _ _ h1, k _ _ _ h2, k _ _ _ h3, k _ _ _ h4, k _ _ _ h5, k _ _ _ h6, k _ _ _ h7, k _ _ _ h8, k _ _ _ h9, k _ _ _ h10, k _ _ _ h11, k _ _ _ h12, Lib.hid (h13.out.trans (hb.mono h13.out.size))⟩
end Go.Proofs.YtpnllbojifnopaaGreatDoor
namespace Go.Proofs.YtpnllbojifnopaaGreatDoor
open Go Go.RowKit Go.Maps Pk Rl
set_option maxRecDepth 20000
set_option maxHeartbeats 8000000 in
theorem rof1_any (nd : Nd) (hk : nd.k = 1) (A : Option Addr) (q C : Nat) (rA : Option Addr) (N rC : Nat) (R : List Lg) (w : World) (hN : Nok w nd) (hR : Lr w rA R) (hn : R.length = N) (hm : N ≤ 900) (hT : Tab w) :
    GO rA N rC (fun _ => dg (hq R nd.p) N) w nd A q C [] := by
  unfold GO
  obtain ⟨w1, hw1⟩ : ∃ X, (w.alloc (tobjT nd A q C)).alloc (nobj nd) = X := ⟨_, rfl⟩
  have X1 : Hid (OB w w1 nd A q C rA R) := Lib.hid (hw1 ▸ OB.start w nd A q C rA R hR hT hN)
  have C0 := Lib.hid (rnoneR_any N w1 (by omega))
  have D0 := Lib.hid (dg_start (hq R nd.p))
  have DS := Lib.hid (dg_set (hq R nd.p))
  have CH := Lib.hid (fun i (hi : i < N) W (h : OB w W nd A q C rA R) => rholds_at h.lr nd.p h.nok.p i (by omega) h.tab)
  have RW : Hid (∀ W (h : OB w W nd A q C rA R) k, k < N → ∃ rb ro, rA = some ⟨rb, ro, none⟩ ∧ Atl W rb (ro + k * 5) (R.getD k lz)) := Lib.hid (fun W h k hk => by
    obtain ⟨b, off, e, h⟩ := h.lr.row k (by omega)
    exact ⟨b, off, e, h⟩)
  have SZ1 : Hid (w.heap.size ≤ w1.heap.size) := Lib.hid X1.out.bel.size
  clear hN hR hn hT
  generalize hq R nd.p = gg at D0 DS CH ⊢
  obtain ⟨k0, ⟨px, pt, pa, pn, pc, pL⟩, y, ⟨x2, t2, a2, n2, c2, L2⟩, lo, hi, s⟩ := nd
  simp only at hk
  subst hk
  go_enter Tryz.func23, Tryz.ntmps23
  go_upto_region 2 with fail
  clear hw1
  go_wp2_with fail
  refine C0.out.mono ?_
  rintro e w2 ⟨⟨A0, c, rfl, hM⟩, hb⟩
  rw [← D0.out] at hM
  have M2 := Lib.hid hM
  have B2 := Lib.hid hb
  have X2 := Lib.hid (X1.out.next hb)
  clear hM hb C0
  have v0 := X2.out.x.1
  go_wp2_with fail
  clear v0
  go_loopw [26] (fun t W => ∃ i : Nat, i ≤ N ∧ t = .int .i64 (i : Int) ∧ Hid (Mt2 W w1.heap.size (.slice A0 N c) N (dg gg i) ∧ OB w W ⟨1, ⟨px, pt, pa, pn, pc, pL⟩, y, ⟨x2, t2, a2, n2, c2, L2⟩, lo, hi, s⟩ A q C rA R ∧ Below w1.heap.size w1 W)) (fun t _ => N - (intOf t).toNat)
  case atStart => exact ⟨0, Nat.zero_le _, rfl, Lib.hid ⟨M2.out, X2.out, B2.out⟩⟩
  case round =>
    obtain ⟨i, hiN, rfl, I⟩ := hrel
    have v0 := I.out.2.1.x.1
    by_cases hlt : i < N
    · have hlt2 : (i : Int) < (N : Int) := by omega
      obtain ⟨g, rb2, cap, rfl, p1, p2, p3, p4, p5, p6, p7⟩ := I.out.1.at i hlt
      obtain ⟨rb, ro, rfl, hat⟩ := RW.out _ I.out.2.1 i hlt
      obtain ⟨_, _, _, e3, e4⟩ := hat
      obtain ⟨_, v1, v2, v3, _⟩ := I.out.2.1.x
      simp only [Nat.zero_add] at v1 v2 v3
      have CA := Lib.hid (CH.out i hlt)
      have K3 : Kx wr wr (w.heap.size + 1) rb ro i g rb2 cap N px pt pa pn pc (R.getD i lz).t (R.getD i lz).a (R.getD i lz).n (R.getD i lz).c (.bool (dg gg i i i)) := ⟨p1, v1, v2, v3, e3, e4, p6 i hlt, p5 i, Lib.hid (Below.refl _ _)⟩
      have NX : Hid (∀ W, Below wr.heap.size wr W → Mt2 (W.setCell ⟨rb2, i, none⟩ (.bool (gg i))) w1.heap.size (.slice (some ⟨g, 0, none⟩) N c) N (dg gg (i + 1)) ∧ OB w (W.setCell ⟨rb2, i, none⟩ (.bool (gg i))) ⟨1, ⟨px, pt, pa, pn, pc, pL⟩, y, ⟨x2, t2, a2, n2, c2, L2⟩, lo, hi, s⟩ A q C (some ⟨rb, ro, none⟩) R ∧ Below w1.heap.size w1 (W.setCell ⟨rb2, i, none⟩ (.bool (gg i)))) := Lib.hid (fun W hW => by
        have hB := (below_go I.out.2.2 hW).setCell (p := ⟨rb2, i, none⟩) p4 (.bool (gg i))
        refine ⟨((I.out.1.below hW).put i hlt ((hW.cell (p := ⟨g, i, none⟩) p2).trans p1) i hlt (gg i)).congr (fun x y _ _ => DS.out i x y), X1.out.next hB, hB⟩)
      have KD := Lib.hid (fun m => kx_next (below_drewN _ wr m) K3)
      have CB := Lib.hid (fun W (K : Kx wr W (w.heap.size + 1) rb ro i g rb2 cap N px pt pa pn pc (R.getD i lz).t (R.getD i lz).a (R.getD i lz).n (R.getD i lz).c (.bool (dg gg i i i))) => CA.out W (I.out.2.1.next K.2.2.2.2.2.2.2.2.out))
      have zh : w.heap.size + 1 < wr.heap.size := World.block_lt_of_cell? _ _ v1
      have zb : rb < wr.heap.size := World.block_lt_of_cell? _ _ e3
      clear K3
      generalize R.getD i lz = ev at e3 e4 CB KD
      have p9 := p6 i hlt
      generalize dg gg i i i = vv at p9 CB KD
      have p8 := p5 i
      clear p7 p5 p6
      go_upto_region 8 with fail
      go_region_law (first | (go_simp; go_at_call 63; (with_reducible refine Calls.mono (CB.out _ ?_) ?_); exact KD.out _; rintro e w4 ⟨rfl, b1⟩; obtain ⟨g1, _, _, _, _, _, g7, g8, g9⟩ := kx_next b1 (KD.out _)))
      all_goals (go_wp2_with fail; exact ⟨⟨i + 1, by omega, by go_num, Lib.hid (NX.out _ g9.out)⟩, by simp [intOf]; omega⟩)
    · obtain rfl : i = N := by omega
      go_wp2_with fail
      go_ret
      exact ⟨⟨A0, c, rfl, I.out.1.base SZ1.out⟩, I.out.2.1.bel⟩
end Go.Proofs.YtpnllbojifnopaaGreatDoor
namespace Go.Proofs.YtpnllbojifnopaaGreatDoor
open Go Go.RowKit Go.Maps Pk Rl
set_option maxRecDepth 20000
theorem pts_take1 (R' : List (List Nd)) (i : Nat) (h : i < R'.length) (f : List Nd → Rl2) : (R'.take (i + 1)).map f = (R'.take i).map f ++ [f (R'.getD i [])] := by
  rw [List.take_succ_eq_append_getElem h, List.map_append, List.getD_eq_getElem?_getD, List.getElem?_eq_getElem h]; rfl
theorem chn_head (N : Nat) (g : Rl2) (R' : List (List Nd)) (h : 0 < R'.length) (f : List Nd → Rl2) : chn N g ((R'.take 1).map f) = f (R'.getD 0 []) := by
  rcases R' with _ | ⟨p, R'⟩
  · simp at h
  · simp [chn_one]
theorem chn_next (N : Nat) (g : Rl2) (R' : List (List Nd)) (i : Nat) (h0 : 0 < i) (h : i < R'.length) (f : List Nd → Rl2) : chn N g ((R'.take (i + 1)).map f) = thn N (thn N (chn N g ((R'.take i).map f)) g) (f (R'.getD i [])) := by
  rw [pts_take1 R' i h, chn_snoc]
  intro e
  have := congrArg List.length e
  rw [List.length_map, List.length_take, List.length_nil] at this
  omega
set_option maxHeartbeats 8000000 in
theorem rof2_any (nd : Nd) (hk : nd.k = 2) (f : List Nd → Rl2) (A : Option Addr) (C : Nat) (R' : List (List Nd)) (rA : Option Addr) (N rC : Nat) (R : List Lg) (w : World) (hK : KD (GO rA N rC f) w A R') (h0 : 0 < R'.length) (hq' : R'.length ≤ 1000) (hN : Nok w nd) (hR : Lr w rA R) (hn : R.length = N) (hm : N ≤ 900) (hT : Tab w) :
    GO rA N rC (fun _ => chn N (gp (gd (hq R) nd)) (R'.map f)) w nd A R'.length C [] := by
  unfold GO
  obtain ⟨q, hqq⟩ : ∃ q, R'.length = q := ⟨_, rfl⟩
  rw [hqq] at h0 hq' ⊢
  obtain ⟨w1, hw1⟩ : ∃ X, (w.alloc (tobjT nd A q C)).alloc (nobj nd) = X := ⟨_, rfl⟩
  have X1 : Hid (OB w w1 nd A q C rA R) := Lib.hid (hw1 ▸ OB.start w nd A q C rA R hR hT hN)
  have C0 := Lib.hid (rnoneR_any N w1 (by omega))
  have CG := Lib.hid (fun W (h : OB w W nd A q C rA R) => rgap_any nd rA N rC R W h.nok h.lr hn hm h.tab)
  have CT := Lib.hid (fun aA aC a bA bC b W (h1 : Mtx W aA N N a) (h2 : Mtx W bA N N b) => rthen_any aA aC a bA bC b N W h1 h2 (by omega))
  have HK := Lib.hid hK
  have QQ := Lib.hid hqq
  have SZ1 : Hid (w.heap.size ≤ w1.heap.size) := Lib.hid X1.out.bel.size
  generalize gp (gd (hq R) nd) = gg at CG ⊢
  have H1 := Lib.hid (chn_head N gg R' (by omega) f)
  have H2 := Lib.hid (fun i h1 (h2 : i < q) => chn_next N gg R' i h1 (by omega) f)
  have H3 : Hid (chn N gg (R'.map f) = chn N gg ((R'.take q).map f)) := Lib.hid (by rw [List.take_of_length_le (by omega)])
  rw [H3.out]
  clear hN hR hn hT hK hqq H3
  obtain ⟨k0, ⟨px, pt, pa, pn, pc, pL⟩, y, ⟨x2, t2, a2, n2, c2, L2⟩, lo, hi, s⟩ := nd
  simp only at hk
  subst hk
  go_enter Tryz.func23, Tryz.ntmps23
  go_upto_region 2 with fail
  clear hw1
  go_wp2_with fail
  refine C0.out.mono ?_
  rintro e w2 ⟨⟨A0, c, rfl, hM⟩, hb⟩
  have B2 := Lib.hid hb
  have X2 := Lib.hid (X1.out.next hb)
  clear hM hb C0
  have PT : Hid (∀ i, i < q → ∃ b off n A' m' C', A = some ⟨b, off, none⟩ ∧ b < w.heap.size ∧ Atn w b (off + i * 12) n ∧ w.cell? ⟨b, off + i * 12 + 11, none⟩ = some (.slice A' m' C') ∧ ∀ W, Below w.heap.size w W → GO rA N rC f W n A' m' C' (R'.getD i [])) := Lib.hid (fun i hi => HK.out i (by rw [QQ.out]; exact hi))
  clear HK
  obtain ⟨b, off, ⟨nk', ⟨px', pt', pa', pn', pc', pL'⟩, ny', ⟨gx', gt', ga', gn', gc', gL'⟩, nlo', nhi', ns'⟩, A', m', C', rfl, hb0, hat, hcell, hG⟩ := PT.out 0 h0
  have ck2 := Ck.of_below X2.out.bel
  obtain ⟨k0, k1, k2, k3, k4, k5, k6, k7, k8, k9, k10⟩ := hat.ck ck2
  have k11 := ck2 _ _ _ hcell
  simp only [Nat.zero_mul, Nat.add_zero] at k0 k1 k2 k3 k4 k5 k6 k7 k8 k9 k10 k11
  have v0 := X2.out.x.1
  have t11 := X2.out.t.cells.2
  have G0 := Lib.hid (hG w2 X2.out.bel)
  have hq0 : (0 : Int) < (q : Int) := by omega
  clear hat hcell hG ck2
  unfold GO at G0
  go_wp2_with fail
  refine G0.out.mono ?_
  rintro e w3 ⟨⟨A1, c1, rfl, hM⟩, hb⟩
  rw [← H1.out] at hM
  have X3 := Lib.hid (X2.out.next hb)
  have M3 := Lib.hid (hM.base (B' := w.heap.size) X2.out.bel.size)
  clear hM hb G0 k0 k1 k2 k3 k4 k5 k6 k7 k8 k9 k10 k11 v0 t11 X2 B2
  obtain ⟨v0, v1, v2, v3, v4, v5, v6, v7, v8, v9, v10⟩ := X3.out.x
  simp only [Nat.zero_add] at v0 v1 v2 v3 v4 v5 v6 v7 v8 v9 v10
  have G3 := Lib.hid (CG.out _ X3.out)
  go_wp2_with fail
  refine G3.out.mono ?_
  rintro e w4 ⟨⟨Ag, cg, rfl, hM⟩, hb⟩
  have X4 := Lib.hid (X3.out.next hb)
  have M4 := Lib.hid (M3.out.below hb)
  have MG := Lib.hid (mtx_of hM)
  clear hM hb G3 X3 M3 v0 v1 v2 v3 v4 v5 v6 v7 v8 v9 v10 CG
  go_wp2_with fail
  go_loopw [6, 9] (fun o t W => ∃ (i : Nat) (A1 : Option Addr) (c1 : Nat), 1 ≤ i ∧ i ≤ q ∧ t = .int .i64 (i : Int) ∧ o = .slice A1 N c1 ∧ Hid (Mt2 W w.heap.size (.slice A1 N c1) N (chn N gg ((R'.take i).map f)) ∧ OB w W ⟨2, ⟨px, pt, pa, pn, pc, pL⟩, y, ⟨x2, t2, a2, n2, c2, L2⟩, lo, hi, s⟩ (some ⟨b, off, none⟩) q C rA R ∧ Mtx W Ag N N gg)) (fun _ t _ => q - (intOf t).toNat)
  case atStart => exact ⟨1, A1, c1, Nat.le_refl _, by omega, rfl, rfl, Lib.hid ⟨M4.out, X4.out, MG.out⟩⟩
  case round =>
    obtain ⟨i, A5, c5, hi1, hiq, rfl, rfl, I⟩ := hrel
    have t11 := I.out.2.1.t.cells.2
    by_cases hlt : i < q
    · have hlt2 : (i : Int) < (q : Int) := by omega
      obtain ⟨b', off', ⟨nk', ⟨px', pt', pa', pn', pc', pL'⟩, ny', ⟨gx', gt', ga', gn', gc', gL'⟩, nlo', nhi', ns'⟩, A', m', C', e, hb0, hat, hcell, hG⟩ := PT.out i hlt
      injection e with e
      injection e with e1 e2 _
      subst e1 e2
      have ckr := Ck.of_below I.out.2.1.bel
      obtain ⟨k0, k1, k2, k3, k4, k5, k6, k7, k8, k9, k10⟩ := hat.ck ckr
      have k11 := ckr _ _ _ hcell
      have K3 : Kp wr wr w.heap.size b (off + i * 12) q C off nk' px' pt' pa' pn' pc' ny' gx' gt' ga' gn' gc' nlo' nhi' ns' A' m' C' := ⟨t11, k0, k1, k2, k3, k4, k5, k6, k7, k8, k9, k10, k11, Lib.hid (Below.refl _ _)⟩
      have KD1 := Lib.hid (kp_next (Below.refl _ _).drew K3)
      have CTa := Lib.hid (fun W (K : Kp wr W w.heap.size b (off + i * 12) q C off nk' px' pt' pa' pn' pc' ny' gx' gt' ga' gn' gc' nlo' nhi' ns' A' m' C') => CT.out A5 c5 _ Ag cg gg W ((mtx_of I.out.1).below K.2.2.2.2.2.2.2.2.2.2.2.2.2.out) (I.out.2.2.below K.2.2.2.2.2.2.2.2.2.2.2.2.2.out))
      have CO : Hid (∀ W (_ : Kp wr W w.heap.size b (off + i * 12) q C off nk' px' pt' pa' pn' pc' ny' gx' gt' ga' gn' gc' nlo' nhi' ns' A' m' C'), Calls Tryz.prog 23 #[tOfT ⟨nk', ⟨px', pt', pa', pn', pc', pL'⟩, ny', ⟨gx', gt', ga', gn', gc', gL'⟩, nlo', nhi', ns'⟩ A' m' C', .slice rA N rC] W fun e w' => (∃ A' c', e = .returned (.slice A' N c') ∧ Mt2 w' W.heap.size (.slice A' N c') N (f (R'.getD i []))) ∧ Below W.heap.size W w') := Lib.hid (fun W K => hG W (below_go I.out.2.1.bel K.2.2.2.2.2.2.2.2.2.2.2.2.2.out))
      have NX := Lib.hid (H2.out i hi1 hlt)
      clear hat hcell hG ckr K3
      go_upto_region 16 with fail
      go_region_held3 (fun W => W.cell? ⟨w.heap.size, 11, none⟩ = some (.slice (some ⟨b, off, none⟩) q C) ∧ W.cell? ⟨b, off + i * 12, none⟩ = some (.int .u8 nk') ∧ W.cell? ⟨b, off + i * 12 + 1, none⟩ = some (.bool px') ∧ W.cell? ⟨b, off + i * 12 + 2, none⟩ = some (.int .u8 pt') ∧ W.cell? ⟨b, off + i * 12 + 3, none⟩ = some (.slice pa' pn' pc') ∧ W.cell? ⟨b, off + i * 12 + 4, none⟩ = some (.bool ny') ∧ W.cell? ⟨b, off + i * 12 + 5, none⟩ = some (.bool gx') ∧ W.cell? ⟨b, off + i * 12 + 6, none⟩ = some (.int .u8 gt') ∧ W.cell? ⟨b, off + i * 12 + 7, none⟩ = some (.slice ga' gn' gc') ∧ W.cell? ⟨b, off + i * 12 + 8, none⟩ = some (.int .u8 nlo') ∧ W.cell? ⟨b, off + i * 12 + 9, none⟩ = some (.int .u8 nhi') ∧ W.cell? ⟨b, off + i * 12 + 10, none⟩ = some (.int .i64 ns') ∧ W.cell? ⟨b, off + i * 12 + 11, none⟩ = some (.slice A' m' C') ∧ Hid (Below wr.heap.size wr W))
        (first | (with_reducible assumption) | (with_reducible exact KD1.out))
        (first
          | (go_at_call 65; (with_reducible refine Calls.mono (CTa.out _ ?_) ?_); (with_reducible assumption); rintro e wa ⟨⟨Aa, ca, rfl, ha⟩, ba⟩; have HA := Lib.hid ha; have BA := Lib.hid ba; have kA := kp_next ba (by assumption); clear ha)
          | (go_at_call 23; (with_reducible refine Calls.mono (CO.out _ ?_) ?_); (with_reducible assumption); rintro e wo ⟨⟨Ao, co, rfl, ho⟩, bo⟩; have HC := Lib.hid (CT.out Aa ca _ Ao co _ wo (mtx_of (HA.out.below bo)) (mtx_of ho)); have kO := kp_next bo (by assumption); have ZO := Lib.hid (I.out.2.1.next kO.2.2.2.2.2.2.2.2.2.2.2.2.2.out).bel.size; clear ho)
          | (go_at_call 65; (with_reducible refine Calls.mono HC.out ?_); rintro e wt ⟨⟨At, ct, rfl, ht⟩, bt⟩; have HT := Lib.hid ht; have kT := kp_next bt (by assumption); have BT := Lib.hid kT.2.2.2.2.2.2.2.2.2.2.2.2.2.out; clear ht))
      go_wp2_with fail
      exact ⟨⟨i + 1, At, ct, by omega, by omega, by go_num, rfl, Lib.hid ⟨by rw [NX.out]; exact HT.out.base ZO.out, I.out.2.1.next BT.out, I.out.2.2.below BT.out⟩⟩, by simp [intOf]; omega⟩
    · obtain rfl : i = q := by omega
      go_wp2_with fail
      go_ret
      exact ⟨⟨A5, c5, rfl, I.out.1⟩, I.out.2.1.bel⟩
end Go.Proofs.YtpnllbojifnopaaGreatDoor
namespace Go.Proofs.YtpnllbojifnopaaGreatDoor
open Go Go.RowKit Go.Maps Pk Rl
set_option maxRecDepth 20000
theorem altr_next (R' : List (List Nd)) (i : Nat) (h : i < R'.length) (f : List Nd → Rl2) : altr ((R'.take (i + 1)).map f) = orr (altr ((R'.take i).map f)) (f (R'.getD i [])) := by
  rw [pts_take1 R' i h]
  funext x y
  unfold altr orr
  rw [List.any_append]; simp
set_option maxHeartbeats 8000000 in
theorem rof3_any (nd : Nd) (hk : nd.k = 3) (f : List Nd → Rl2) (A : Option Addr) (C : Nat) (R' : List (List Nd)) (rA : Option Addr) (N rC : Nat) (R : List Lg) (w : World) (hK : KD (GO rA N rC f) w A R') (hq' : R'.length ≤ 1000) (hN : Nok w nd) (hR : Lr w rA R) (hn : R.length = N) (hm : N ≤ 900) (hT : Tab w) :
    GO rA N rC (fun _ => altr (R'.map f)) w nd A R'.length C [] := by
  unfold GO
  obtain ⟨q, hqq⟩ : ∃ q, R'.length = q := ⟨_, rfl⟩
  rw [hqq] at hq' ⊢
  obtain ⟨w1, hw1⟩ : ∃ X, (w.alloc (tobjT nd A q C)).alloc (nobj nd) = X := ⟨_, rfl⟩
  have X1 : Hid (OB w w1 nd A q C rA R) := Lib.hid (hw1 ▸ OB.start w nd A q C rA R hR hT hN)
  have C0 := Lib.hid (rnoneR_any N w1 (by omega))
  have CR := Lib.hid (fun aA aC a bA bC b W (h1 : Mtx W aA N N a) (h2 : Mtx W bA N N b) => ror_any aA aC a bA bC b N W h1 h2 (by omega))
  have HK := Lib.hid hK
  have QQ := Lib.hid hqq
  have SZ1 : Hid (w.heap.size ≤ w1.heap.size) := Lib.hid X1.out.bel.size
  have H2 := Lib.hid (fun i (h2 : i < q) => altr_next R' i (by omega) f)
  have H3 : Hid (altr (R'.map f) = altr ((R'.take q).map f)) := Lib.hid (by rw [List.take_of_length_le (by omega)])
  rw [H3.out]
  clear hN hR hn hT hK hqq H3
  obtain ⟨k0, ⟨px, pt, pa, pn, pc, pL⟩, y, ⟨x2, t2, a2, n2, c2, L2⟩, lo, hi, s⟩ := nd
  simp only at hk
  subst hk
  go_enter Tryz.func23, Tryz.ntmps23
  go_upto_region 2 with fail
  clear hw1
  go_wp2_with fail
  refine C0.out.mono ?_
  rintro e w2 ⟨⟨A0, c, rfl, hM⟩, hb⟩
  have M2 := Lib.hid (hM.base (B' := w.heap.size) SZ1.out)
  have X2 := Lib.hid (X1.out.next hb)
  clear hM hb C0
  have PT : Hid (∀ i, i < q → ∃ b off n A' m' C', A = some ⟨b, off, none⟩ ∧ b < w.heap.size ∧ Atn w b (off + i * 12) n ∧ w.cell? ⟨b, off + i * 12 + 11, none⟩ = some (.slice A' m' C') ∧ ∀ W, Below w.heap.size w W → GO rA N rC f W n A' m' C' (R'.getD i [])) := Lib.hid (fun i hi => HK.out i (by rw [QQ.out]; exact hi))
  clear HK
  have v0 := X2.out.x.1
  have t11 := X2.out.t.cells.2
  go_wp2_with fail
  clear v0 t11
  go_loopw [6, 78] (fun o t W => ∃ (i : Nat) (A1 : Option Addr) (c1 : Nat), i ≤ q ∧ t = .int .i64 (i : Int) ∧ o = .slice A1 N c1 ∧ Hid (Mt2 W w.heap.size (.slice A1 N c1) N (altr ((R'.take i).map f)) ∧ OB w W ⟨3, ⟨px, pt, pa, pn, pc, pL⟩, y, ⟨x2, t2, a2, n2, c2, L2⟩, lo, hi, s⟩ A q C rA R)) (fun _ t _ => q - (intOf t).toNat)
  case atStart => exact ⟨0, A0, c, Nat.zero_le _, rfl, rfl, Lib.hid ⟨M2.out, X2.out⟩⟩
  case round =>
    obtain ⟨i, A5, c5, hiq, rfl, rfl, I⟩ := hrel
    have t11 := I.out.2.t.cells.2
    by_cases hlt : i < q
    · have hlt2 : (i : Int) < (q : Int) := by omega
      obtain ⟨b, off, ⟨nk', ⟨px', pt', pa', pn', pc', pL'⟩, ny', ⟨gx', gt', ga', gn', gc', gL'⟩, nlo', nhi', ns'⟩, A', m', C', rfl, hb0, hat, hcell, hG⟩ := PT.out i hlt
      have ckr := Ck.of_below I.out.2.bel
      obtain ⟨k0, k1, k2, k3, k4, k5, k6, k7, k8, k9, k10⟩ := hat.ck ckr
      have k11 := ckr _ _ _ hcell
      have G0 : Hid (Calls Tryz.prog 23 #[tOfT ⟨nk', ⟨px', pt', pa', pn', pc', pL'⟩, ny', ⟨gx', gt', ga', gn', gc', gL'⟩, nlo', nhi', ns'⟩ A' m' C', .slice rA N rC] wr fun e w' => (∃ A' c', e = .returned (.slice A' N c') ∧ Mt2 w' wr.heap.size (.slice A' N c') N (f (R'.getD i []))) ∧ Below wr.heap.size wr w') := Lib.hid (hG wr I.out.2.bel)
      have NX := Lib.hid (H2.out i hlt)
      clear hat hcell hG ckr
      go_wp2_with fail
      refine G0.out.mono ?_
      rintro e wo ⟨⟨Ao, co, rfl, ho⟩, bo⟩
      have HC := Lib.hid (CR.out A5 c5 _ Ao co _ wo (mtx_of (I.out.1.below bo)) (mtx_of ho))
      have XO := Lib.hid (I.out.2.next bo)
      clear ho bo k0 k1 k2 k3 k4 k5 k6 k7 k8 k9 k10 k11 G0 t11
      go_wp2_with fail
      refine HC.out.mono ?_
      rintro e wt ⟨⟨At, ct, rfl, ht⟩, bt⟩
      have HT := Lib.hid (ht.base XO.out.bel.size)
      have XT := Lib.hid (XO.out.next bt)
      clear ht bt HC
      go_wp2_with fail
      exact ⟨⟨i + 1, At, ct, by omega, by go_num, rfl, Lib.hid ⟨by rw [NX.out]; exact HT.out, XT.out⟩⟩, by simp [intOf]; omega⟩
    · obtain rfl : i = q := by omega
      go_wp2_with fail
      go_ret
      exact ⟨⟨A5, c5, rfl, I.out.1⟩, I.out.2.bel⟩
end Go.Proofs.YtpnllbojifnopaaGreatDoor
namespace Go.Proofs.YtpnllbojifnopaaGreatDoor
open Go Go.RowKit Go.Maps Pk Rl
set_option maxRecDepth 20000
def rpo (N : Nat) (g : Nat → Bool) (r : Rl2) (least m : Nat) : Rl2 := fun i j => (List.range m).any fun k => decide (least ≤ k + 1) && chn N (gp g) (List.replicate (k + 1) r) i j
theorem rpo_zero (N : Nat) (g : Nat → Bool) (r : Rl2) (least : Nat) : rpo N g r least 0 = fun _ _ => false := rfl
theorem rpo_yes (N : Nat) (g : Nat → Bool) (r : Rl2) (least m : Nat) (h : least ≤ m + 1) : rpo N g r least (m + 1) = orr (rpo N g r least m) (chn N (gp g) (List.replicate (m + 1) r)) := by
  funext x y
  unfold rpo orr
  rw [List.range_succ, List.any_append]
  simp [h]
theorem rpo_no (N : Nat) (g : Nat → Bool) (r : Rl2) (least m : Nat) (h : ¬ least ≤ m + 1) : rpo N g r least (m + 1) = rpo N g r least m := by
  funext x y
  unfold rpo
  rw [List.range_succ, List.any_append]
  simp [h]
theorem chn_rep (N : Nat) (g r : Rl2) (m : Nat) : chn N g (List.replicate (m + 1 + 1) r) = thn N (thn N (chn N g (List.replicate (m + 1) r)) g) r := by
  rw [List.replicate_succ' (n := m + 1), chn_snoc N g _ (by simp)]
theorem reps_one (n : Nat) (r : Rl2) : reps n [r] = List.replicate n r := by
  unfold reps
  induction n with
  | zero => rfl
  | succ n ih => rw [List.replicate_succ, List.flatten_cons, ih, List.replicate_succ]; rfl
theorem any_congr' (L : List Nat) (p q : Nat → Bool) (h : ∀ x ∈ L, p x = q x) : L.any p = L.any q := by
  induction L with
  | nil => rfl
  | cons a L ih => rw [List.any_cons, List.any_cons, h a (by simp), ih (fun x hx => h x (by simp [hx]))]
theorem rpo_end (N : Nat) (g : Nat → Bool) (r : Rl2) (least m : Nat) : rpo N g r least m = anyc N g (reps m [r]) least := by
  funext x y
  rw [reps_one]
  unfold rpo anyc
  rw [List.length_replicate]
  refine any_congr' _ _ _ fun k hk => ?_
  have := List.mem_range.1 hk
  rw [List.take_replicate, Nat.min_eq_left (by omega)]
set_option maxHeartbeats 8000000 in
theorem rof4_any (nd : Nd) (hk : nd.k = 4) (f : List Nd → Rl2) (A : Option Addr) (C : Nat) (R' : List (List Nd)) (rA : Option Addr) (N rC : Nat) (R : List Lg) (w : World) (hK : KD (GO rA N rC f) w A R') (h0 : R'.length = 1) (hN : Nok w nd) (hR : Lr w rA R) (hn : R.length = N) (hm : N ≤ 900) (hT : Tab w) :
    GO rA N rC (fun _ => anyc N (gd (hq R) nd) (reps nd.hi.toNat (R'.map f)) nd.lo.toNat) w nd A R'.length C [] := by
  unfold GO
  obtain ⟨q, hqq⟩ : ∃ q, R'.length = q := ⟨_, rfl⟩
  rw [hqq] at h0 ⊢
  subst h0
  obtain ⟨w1, hw1⟩ : ∃ X, (w.alloc (tobjT nd A 1 C)).alloc (nobj nd) = X := ⟨_, rfl⟩
  have X1 : Hid (OB w w1 nd A 1 C rA R) := Lib.hid (hw1 ▸ OB.start w nd A 1 C rA R hR hT hN)
  have C0 := Lib.hid (rnoneR_any N w1 (by omega))
  have CG := Lib.hid (fun W (h : OB w W nd A 1 C rA R) => rgap_any nd rA N rC R W h.nok h.lr hn hm h.tab)
  have CT := Lib.hid (fun aA aC a bA bC b W (h1 : Mtx W aA N N a) (h2 : Mtx W bA N N b) => rthen_any aA aC a bA bC b N W h1 h2 (by omega))
  have HK := Lib.hid hK
  have QQ := Lib.hid hqq
  have SZ1 : Hid (w.heap.size ≤ w1.heap.size) := Lib.hid X1.out.bel.size
  have CR := Lib.hid (fun aA aC a bA bC b W (h1 : Mtx W aA N N a) (h2 : Mtx W bA N N b) => ror_any aA aC a bA bC b N W h1 h2 (by omega))
  obtain ⟨lo, hlo⟩ := Int.eq_ofNat_of_zero_le hN.l0
  obtain ⟨hi, hhi⟩ := Int.eq_ofNat_of_zero_le hN.h0
  have hl255 : lo < 256 := by have := hN.l1; omega
  have hh255 : hi < 256 := by have := hN.h1; omega
  have RM : R'.map f = [f (R'.getD 0 [])] := by
    rcases R' with _ | ⟨p, _ | ⟨p2, R'⟩⟩
    · simp at hqq
    · rfl
    · simp at hqq
  rw [RM, hlo, hhi, Int.toNat_natCast, Int.toNat_natCast]
  generalize gd (hq R) nd = gg at CG ⊢
  obtain ⟨r1, hr1⟩ : ∃ z, f (R'.getD 0 []) = z := ⟨_, rfl⟩
  have HR1 := Lib.hid hr1
  rw [hr1]
  clear hr1
  have RE := Lib.hid (rpo_end N gg r1 lo hi)
  have R0 := Lib.hid (rpo_zero N gg r1 lo)
  have RY := Lib.hid (rpo_yes N gg r1 lo)
  have RN := Lib.hid (rpo_no N gg r1 lo)
  have RC := Lib.hid (chn_rep N (gp gg) r1)
  have RO := Lib.hid (chn_one N (gp gg) r1)
  rw [← RE.out]
  clear hN hR hn hT hK hqq RM RE
  obtain ⟨k0, ⟨px, pt, pa, pn, pc, pL⟩, y, ⟨x2, t2, a2, n2, c2, L2⟩, lo', hi', s⟩ := nd
  simp only at hk hlo hhi
  subst hk hlo hhi
  go_enter Tryz.func23, Tryz.ntmps23
  go_upto_region 2 with fail
  clear hw1
  go_wp2_with fail
  refine C0.out.mono ?_
  rintro e w2 ⟨⟨A0, c, rfl, hM⟩, hb⟩
  have B2 := Lib.hid hb
  have X2 := Lib.hid (X1.out.next hb)
  have M2 := Lib.hid (hM.base (B' := w.heap.size) SZ1.out)
  clear hM hb C0
  have PT : Hid (∀ i, i < 1 → ∃ b off n A' m' C', A = some ⟨b, off, none⟩ ∧ b < w.heap.size ∧ Atn w b (off + i * 12) n ∧ w.cell? ⟨b, off + i * 12 + 11, none⟩ = some (.slice A' m' C') ∧ ∀ W, Below w.heap.size w W → GO rA N rC f W n A' m' C' (R'.getD i [])) := Lib.hid (fun i hi => HK.out i (by rw [QQ.out]; exact hi))
  clear HK
  obtain ⟨b, off, ⟨nk', ⟨px', pt', pa', pn', pc', pL'⟩, ny', ⟨gx', gt', ga', gn', gc', gL'⟩, nlo', nhi', ns'⟩, A', m', C', rfl, hb0, hat, hcell, hG⟩ := PT.out 0 (by omega)
  have ck2 := Ck.of_below X2.out.bel
  obtain ⟨k0, k1, k2, k3, k4, k5, k6, k7, k8, k9, k10⟩ := hat.ck ck2
  have k11 := ck2 _ _ _ hcell
  simp only [Nat.zero_mul, Nat.add_zero] at k0 k1 k2 k3 k4 k5 k6 k7 k8 k9 k10 k11
  have v0 := X2.out.x.1
  have t11 := X2.out.t.cells.2
  have G0 := Lib.hid (hG w2 X2.out.bel)
  clear hat hcell hG ck2
  unfold GO at G0
  rw [HR1.out] at G0
  go_wp2_with fail
  refine G0.out.mono ?_
  rintro e w3 ⟨⟨A1, c1, rfl, hM⟩, hb⟩
  have X3 := Lib.hid (X2.out.next hb)
  have M3 := Lib.hid (mtx_of hM)
  have M22 := Lib.hid (M2.out.below hb)
  clear hM hb G0 k0 k1 k2 k3 k4 k5 k6 k7 k8 k9 k10 k11 v0 t11 X2 B2 M2
  obtain ⟨v0, v1, v2, v3, v4, v5, v6, v7, v8, v9, v10⟩ := X3.out.x
  simp only [Nat.zero_add] at v0 v1 v2 v3 v4 v5 v6 v7 v8 v9 v10
  have G3 := Lib.hid (CG.out _ X3.out)
  go_wp2_with fail
  refine G3.out.mono ?_
  rintro e w4 ⟨⟨Ag, cg, rfl, hM⟩, hb⟩
  have X4 := Lib.hid (X3.out.next hb)
  have M4 := Lib.hid (M3.out.below hb)
  have M42 := Lib.hid (M22.out.below hb)
  have MG := Lib.hid (mtx_of hM)
  rw [← R0.out] at M42
  clear hM hb G3 X3 M3 M22 v0 v1 v2 v3 v4 v5 v6 v7 v8 v9 v10 CG
  go_wp2_with fail
  go_loopw [6, 13, 14] (fun o v t W => ∃ (m : Nat) (A5 : Option Addr) (c5 : Nat) (A6 : Option Addr) (c6 : Nat), m ≤ hi ∧ t = .int .i64 ((m + 1 : Nat) : Int) ∧ o = .slice A5 N c5 ∧ v = .slice A6 N c6 ∧ Hid (Mt2 W w.heap.size (.slice A5 N c5) N (rpo N gg r1 lo m) ∧ Mtx W A6 N N (chn N (gp gg) (List.replicate (m + 1) r1)) ∧ OB w W ⟨4, ⟨px, pt, pa, pn, pc, pL⟩, y, ⟨x2, t2, a2, n2, c2, L2⟩, (lo : Int), (hi : Int), s⟩ (some ⟨b, off, none⟩) 1 C rA R ∧ Mtx W Ag N N (gp gg) ∧ Mtx W A1 N N r1)) (fun _ _ t _ => hi + 1 - (intOf t).toNat)
  case atStart => exact ⟨0, A0, c, A1, c1, Nat.zero_le _, rfl, rfl, rfl, Lib.hid ⟨M42.out, by rw [show List.replicate (0 + 1) r1 = [r1] from rfl, RO.out]; exact M4.out, X4.out, MG.out, M4.out⟩⟩
  case round =>
    obtain ⟨m, A5, c5, A6, c6, hmi, rfl, rfl, rfl, I⟩ := hrel
    obtain ⟨_, _, _, _, _, _, _, _, v8, v9, _⟩ := I.out.2.2.1.x
    simp only [Nat.zero_add] at v8 v9
    by_cases hlt : m < hi
    · have hlt2 : ((m + 1 : Nat) : Int) ≤ (hi : Int) := by omega
      have T1 := Lib.hid (fun W (hW : Below wr.heap.size wr W) => CT.out A6 c6 _ Ag cg (gp gg) W (I.out.2.1.below hW) (I.out.2.2.2.1.below hW))
      have RC1 := Lib.hid (RC.out m)
      by_cases hlo : lo ≤ m + 1
      · have hlo2 : (lo : Int) ≤ ((m + 1 : Nat) : Int) := by omega
        have C5 := Lib.hid (CR.out A5 c5 _ A6 c6 _ wr (mtx_of I.out.1) I.out.2.1)
        rw [← RY.out m hlo] at C5
        go_wp2_with fail
        refine C5.out.mono ?_
        rintro e w5 ⟨⟨A7, c7, rfl, h7⟩, b7⟩
        have M7 := Lib.hid (h7.base (B' := w.heap.size) I.out.2.2.1.bel.size)
        have B7 := Lib.hid b7
        have T2 := Lib.hid (T1.out _ b7)
        clear h7 b7 C5 v8 v9
        go_wp2_with fail
        refine T2.out.mono ?_
        rintro e w6 ⟨⟨A8, c8, rfl, h8⟩, b8⟩
        have B8 := Lib.hid (below_go B7.out b8)
        have T3 := Lib.hid (CT.out A8 c8 _ A1 c1 r1 w6 (mtx_of h8) (I.out.2.2.2.2.below B8.out))
        rw [← RC1.out] at T3
        have M8 := Lib.hid (M7.out.below b8)
        clear h8 b8 T2
        go_wp2_with fail
        refine T3.out.mono ?_
        rintro e w7 ⟨⟨A9, c9, rfl, h9⟩, b9⟩
        have B9 := Lib.hid (below_go B8.out b9)
        have M9 := Lib.hid (mtx_of h9)
        have M10 := Lib.hid (M8.out.below b9)
        clear h9 b9 T3
        go_wp2_with fail
        exact ⟨⟨m + 1, A7, c7, A9, c9, by omega, by go_num, rfl, rfl, Lib.hid ⟨M10.out, M9.out, I.out.2.2.1.next B9.out, I.out.2.2.2.1.below B9.out, I.out.2.2.2.2.below B9.out⟩⟩, by simp [intOf]; omega⟩
      · have hlo2 : ¬ (lo : Int) ≤ ((m + 1 : Nat) : Int) := by omega
        have T2 := Lib.hid (T1.out _ (Below.refl _ _))
        have RN1 := Lib.hid (RN.out m hlo)
        go_wp2_with fail
        refine T2.out.mono ?_
        rintro e w6 ⟨⟨A8, c8, rfl, h8⟩, b8⟩
        have B8 := Lib.hid b8
        have T3 := Lib.hid (CT.out A8 c8 _ A1 c1 r1 w6 (mtx_of h8) (I.out.2.2.2.2.below B8.out))
        rw [← RC1.out] at T3
        clear h8 b8 T2 v8 v9
        go_wp2_with fail
        refine T3.out.mono ?_
        rintro e w7 ⟨⟨A9, c9, rfl, h9⟩, b9⟩
        have B9 := Lib.hid (below_go B8.out b9)
        have M9 := Lib.hid (mtx_of h9)
        clear h9 b9 T3
        go_wp2_with fail
        exact ⟨⟨m + 1, A5, c5, A9, c9, by omega, by go_num, rfl, rfl, Lib.hid ⟨by rw [RN1.out]; exact I.out.1.below B9.out, M9.out, I.out.2.2.1.next B9.out, I.out.2.2.2.1.below B9.out, I.out.2.2.2.2.below B9.out⟩⟩, by simp [intOf]; omega⟩
    · obtain rfl : m = hi := by omega
      have hlt2 : ¬ ((m + 1 : Nat) : Int) ≤ (m : Int) := by omega
      go_wp2_with fail
      go_ret
      exact ⟨⟨A5, c5, rfl, I.out.1⟩, I.out.2.2.1.bel⟩
end Go.Proofs.YtpnllbojifnopaaGreatDoor
namespace Go.Proofs.YtpnllbojifnopaaGreatDoor
open Go Go.RowKit Go.Maps Pk Rl
set_option maxRecDepth 20000
theorem nok_z (w : World) : Nok w nz := ⟨Qok.zero w, Qok.zero w, by show (0 : Int) ≤ 0; omega, by show (0 : Int) < 256; omega, by show (0 : Int) ≤ 0; omega, by show (0 : Int) < 256; omega, by show (0 : Int) ≤ 0; omega, by show (0 : Int) < 256; omega, by show (-9223372036854775808 : Int) ≤ 0; omega, by show (0 : Int) ≤ 9223372036854775807; omega⟩
theorem kd_cases {n : Nd} {m : Nat} (h : kd n m = true) : (n.k = 1 ∧ m = 0) ∨ (n.k = 2 ∧ 2 ≤ m) ∨ (n.k = 3 ∧ 2 ≤ m) ∨ (n.k = 4 ∧ m = 1) := by
  unfold kd at h
  by_cases k1 : n.k = 1
  · rw [if_pos k1] at h; simp at h; exact .inl ⟨k1, by omega⟩
  rw [if_neg k1] at h
  by_cases k2 : n.k = 2
  · rw [if_pos k2] at h; simp at h; exact .inr (.inl ⟨k2, by omega⟩)
  rw [if_neg k2] at h
  by_cases k3 : n.k = 3
  · rw [if_pos k3] at h; simp at h; exact .inr (.inr (.inl ⟨k3, by omega⟩))
  rw [if_neg k3] at h
  by_cases k4 : n.k = 4
  · rw [if_pos k4] at h; simp at h; exact .inr (.inr (.inr ⟨k4, by omega⟩))
  rw [if_neg k4] at h
  cases h
theorem rel_dg (h : Hq) (N k : Nat) (l : List Nd) (h1 : (l.headD nz).k = 1) : rel h N (k + 1) l = dg (h (l.headD nz).p) N := by
  rw [rel_succ, if_neg (by omega), if_neg (by omega), if_neg (by omega)]; rfl
theorem rof_any (rA : Option Addr) (N rC : Nat) (R : List Lg) (hn : R.length = N) (hm : N ≤ 900) (k : Nat) : ∀ (nd : Nd) (A : Option Addr) (C : Nat) (l : List Nd) (F : Nat → Prop) (w : World), l.length ≤ 1000 → nd = l.headD nz → (∀ v ∈ l, Nok w v) → Trs k w F A (pts l) → (∀ b, F b → b < w.heap.size) → fmT (k + 1) l = true → Lr w rA R → Tab w →
    GO rA N rC (rel (hq R) N (k + 1)) w nd A (pts l).length C l := by
  induction k with
  | zero =>
    intro nd A C l F w hl hnd hv hT hF hfm hR hTb
    have h0 : pts l = [] := hT
    have hd : Nok w nd := hnd ▸ hd_mem hv (nok_z w)
    unfold fmT at hfm
    rw [Bool.and_eq_true] at hfm
    have hk := kd_cases hfm.1
    rw [h0, ← hnd] at hk
    have hk1 : nd.k = 1 := by
      rcases hk with h | h | h | h
      · exact h.1
      · simp at h
      · simp at h
      · simp at h
    have := rof1_any nd hk1 A (pts l).length C rA N rC R w hd hR hn hm hTb
    unfold GO at this ⊢
    rw [rel_dg (hq R) N 0 l (hnd ▸ hk1), ← hnd]
    exact this
  | succ k ih =>
    intro nd A C l F w hl hnd hv hT hF hfm hR hTb
    have hd : Nok w nd := hnd ▸ hd_mem hv (nok_z w)
    unfold fmT at hfm
    rw [Bool.and_eq_true] at hfm
    have hk := kd_cases hfm.1
    rw [← hnd] at hk
    have hln := pts_len l
    have hK : KD (GO rA N rC (rel (hq R) N (k + 1))) w A (pts l) := fun i hi => by
      obtain ⟨b, off, A', C', ha, hFb, hat, hc, hk2⟩ := hT i hi
      have hp := pts_mem _ (lpgetD_mem (pts l) i hi)
      refine ⟨b, off, _, A', _, C', ha, hF b hFb, hat, hc, fun W hW => ?_⟩
      have ck := Ck.of_below hW
      exact ih _ A' C' _ F W (by omega) rfl (fun v hv2 => (hv v (hp.2.2.2 v hv2)).ck ck) (hk2.below hW hF) (fun b hb => Nat.lt_of_lt_of_le (hF b hb) hW.size) (List.all_eq_true.1 hfm.2 _ (lpgetD_mem (pts l) i hi)) (hR.ck ck) (hTb.ck ck)
    rcases hk with ⟨h1, _⟩ | ⟨h1, h2⟩ | ⟨h1, h2⟩ | ⟨h1, h2⟩
    · have := rof1_any nd h1 A (pts l).length C rA N rC R w hd hR hn hm hTb
      unfold GO at this ⊢
      rw [rel_dg (hq R) N (k + 1) l (hnd ▸ h1), ← hnd]
      exact this
    · have := rof2_any nd h1 _ A C (pts l) rA N rC R w hK (by omega) (by omega) hd hR hn hm hTb
      unfold GO at this ⊢
      rw [rel_succ, ← hnd, if_pos h1]
      exact this
    · have := rof3_any nd h1 _ A C (pts l) rA N rC R w hK (by omega) hd hR hn hm hTb
      unfold GO at this ⊢
      rw [rel_succ, ← hnd, if_neg (by omega), if_pos h1]
      exact this
    · have := rof4_any nd h1 _ A C (pts l) rA N rC R w hK h2 hd hR hn hm hTb
      unfold GO at this ⊢
      rw [rel_succ, ← hnd, if_neg (by omega), if_neg (by omega), if_pos h1]
      exact this
end Go.Proofs.YtpnllbojifnopaaGreatDoor
