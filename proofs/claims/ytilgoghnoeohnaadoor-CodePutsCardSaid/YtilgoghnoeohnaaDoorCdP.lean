/- The program's putNode. -/
import Derived.Test.YtilgoghnoeohnaaDoorCdA
import Derived.Test.YtilgoghnoeohnaaDoorCdM
namespace Go.Proofs.YtilgoghnoeohnaaDoor
open Go Go.RowKit Pk Rl
set_option maxRecDepth 20000

theorem nbs_eq (x : Nd) (m : Nat) : nbs x m = fb x :: ((if x.k = 1 then wpd x.p.x x.p.t x.p.L else if x.k = 4 then [x.lo, x.hi] else [(m : Int)]) ++ (if x.y then wpd x.g.x x.g.t x.g.L else [])) := rfl
theorem wpd_len {x : Bool} {t : Int} {L : List TT} (hk : ∀ v ∈ L, Okt v) (h : pmay x t L = true) : (wpd x t L).length ≤ 1210 := by
  have h1 := wts_len L hk (pmay_rgt' h)
  have h2 := fr0_len x t L.length
  have h3 := pmay_len h
  unfold wpd
  rw [List.length_append]
  omega
theorem wpd_range {x : Bool} {t : Int} {L : List TT} (ht : 0 ≤ t ∧ t < 256) (hk : ∀ v ∈ L, Okt v) (h : pmay x t L = true) : ∀ c ∈ wpd x t L, 0 ≤ c ∧ c < 256 := by
  unfold wpd
  exact range_app (fr0_range x t _ ht (pmay_len h)) (wts_range L hk (pmay_rgt' h))
/- a node that a pattern that may be has -/
structure Nfit (w : World) (x : Nd) : Prop where
  ok : Nok w x
  k0 : 1 ≤ x.k
  k4 : x.k ≤ 4
  pt : 0 ≤ x.p.t ∧ x.p.t < 256
  gt : 0 ≤ x.g.t ∧ x.g.t < 256
  pm : pmay x.p.x x.p.t x.p.L = true
  gm : pmay x.g.x x.g.t x.g.L = true
theorem Nfit.below {w w' : World} {x : Nd} (h : Nfit w x) (hb : Below w.heap.size w w') : Nfit w' x := ⟨h.ok.below hb, h.k0, h.k4, h.pt, h.gt, h.pm, h.gm⟩
theorem Below.to {B : Nat} {w w' : World} (h : Below B w w') (hB : w.heap.size = B) : Below w.heap.size w w' := hB ▸ h
/- what the node's kind names, put; then its guard -/
def nmid (x : Nd) (m : Nat) : List Int := if x.k = 1 then wpd x.p.x x.p.t x.p.L else if x.k = 4 then [x.lo, x.hi] else [(m : Int)]
def ngrd (x : Nd) : List Int := if x.y then wpd x.g.x x.g.t x.g.L else []
theorem nbs_split (x : Nd) (m : Nat) (ys : List Int) : ys ++ nbs x m = ((ys ++ [fb x]) ++ nmid x m) ++ ngrd x := by
  rw [nbs_eq]
  unfold nmid ngrd
  simp
theorem nmid_len {w : World} {x : Nd} (h : Nfit w x) (m : Nat) : (nmid x m).length ≤ 1210 := by
  unfold nmid
  by_cases c1 : x.k = 1
  · rw [if_pos c1]; exact wpd_len h.ok.p.ok h.pm
  · rw [if_neg c1]
    by_cases c4 : x.k = 4
    · rw [if_pos c4]; simp
    · rw [if_neg c4]; simp
theorem nmid_range {w : World} {x : Nd} (h : Nfit w x) (m : Nat) (hm : m < 256) : ∀ c ∈ nmid x m, 0 ≤ c ∧ c < 256 := by
  unfold nmid
  by_cases c1 : x.k = 1
  · rw [if_pos c1]; exact wpd_range h.pt h.ok.p.ok h.pm
  · rw [if_neg c1]
    by_cases c4 : x.k = 4
    · rw [if_pos c4]
      intro c hc
      have h1 := h.ok.l0
      have h2 := h.ok.l1
      have h3 := h.ok.h0
      have h4 := h.ok.h1
      rcases List.mem_cons.1 hc with rfl | hc
      · omega
      · rw [List.mem_singleton] at hc; subst hc; omega
    · rw [if_neg c4]
      intro c hc
      rw [List.mem_singleton] at hc; subst hc; omega
theorem fb_range {w : World} {x : Nd} (h : Nfit w x) : 0 ≤ fb x ∧ fb x < 256 := by
  have h1 := h.k0
  have h2 := h.k4
  unfold fb
  cases x.y
  · rw [if_neg (by simp)]; omega
  · rw [if_pos rfl]; omega
theorem Byt.two' (w : World) (x y : Int) (h : 0 ≤ x ∧ x < 256) (h' : 0 ≤ y ∧ y < 256) : Byt (w.alloc (.cells #[.int .u8 x, .int .u8 y] 5)) (some ⟨w.heap.size, 0, none⟩) [x, y] := Byt.two w x y h h'
set_option maxHeartbeats 4000000 in
theorem putNode_any (w0 : World) (pA : Option Addr) (pn pc : Nat) (l : List Nd) (x : Nd) (m : Nat) (A : Option Addr) (k c : Nat) (ys : List Int) (w : World) (hP : Pt w0 pA pn pc l) (hl : l ≠ []) (hx : l.headD nz = x) (hm : (pts l).length = m) (hm9 : m < 256) (hf : Nfit w0 x) (hT : Tab w0)
    (ho : Own w w0.heap.size (.slice A k c) ys) (hk : ys.length = k) (hk9 : k ≤ 90000) (hr : ∀ c ∈ ys, 0 ≤ c ∧ c < 256) (hb : Below w0.heap.size w0 w) :
    Calls Tryd.prog 15 #[.slice A k c, .slice pA pn pc] w fun e w' => (∃ A' k' c', e = .returned (.slice A' k' c') ∧ (ys ++ nbs x m).length = k' ∧ Own w' w0.heap.size (.slice A' k' c') (ys ++ nbs x m)) ∧ Below w0.heap.size w0 w' := by
  have hlen := hP.len
  have hl0 : 0 < l.length := List.length_pos_iff.2 hl
  obtain ⟨pb, po, rfl, hat⟩ := hP.row 0 hl0
  rw [Nat.zero_mul, Nat.add_zero] at hat
  have hx0 : l.getD 0 nz = x := by rcases l with _ | ⟨a, l⟩ <;> simpa using hx
  rw [hx0] at hat
  have hat2 := hat.below hb hat.lt
  have PA := Lib.hid (fun W (hW : Below w0.heap.size w0 W) => parts_any w0 (some ⟨pb, po, none⟩) pn pc l W hP hW)
  have PX := Lib.hid (PN.mk (w0 := w0) (W := w.alloc (nobj x)) (g := w.heap.size) (nd := x) (ho.below (below_alloc w _)) hk (NB.alloc w x) (below_go hb (below_alloc w _)) hr)
  have NF := Lib.hid (fun W (hW : Below w0.heap.size w0 W) => hf.below hW)
  have TW := Lib.hid (fun W (hW : Below w0.heap.size w0 W) => hT.below hW)
  have HM := Lib.hid hm
  have HS := Lib.hid (nbs_split x m ys)
  have FR := Lib.hid (fb_range hf)
  have MR := Lib.hid (nmid_range hf m hm9)
  have ML := Lib.hid (nmid_len hf m)
  have FI := Lib.hid (fun W => first_any x W hf.ok.k0 hf.k4)
  have hpn : 0 < pn := by omega
  have hpn2 : (0 : Int) < (pn : Int) := by omega
  have z0 := hat2.lt
  obtain ⟨k0, k1, k2, k3, k4, k5, k6, k7, k8, k9, k10⟩ := hat2
  clear hP hlen hat hx hx0 hm hf hT ho hk hr hb hl
  go_enter Tryd.func15, Tryd.ntmps15
  go_upto_region 2 with fail
  generalize w.alloc (nobj x) = w1 at PX ⊢
  generalize w.heap.size = g at PX ⊢
  clear k0 k1 k2 k3 k4 k5 k6 k7 k8 k9 k10 z0
  obtain ⟨v0, v1, v2, v3, v4, v5, v6, v7, v8, v9, v10⟩ := PX.out.box.atn
  simp only [Nat.zero_add] at v0 v1 v2 v3 v4 v5 v6 v7 v8 v9 v10
  have F1 := Lib.hid (FI.out w1)
  go_wp2_with fail
  refine F1.out.mono ?_
  rintro e w2 ⟨rfl, hb⟩
  have P2 := Lib.hid (PX.out.next hb)
  have b2 := below_alloc w2 (.cells #[.int .u8 (fb x)] 5)
  have P3 := Lib.hid (P2.out.next b2)
  have Y3 := Lib.hid (Byt.one w2 (fb x) FR.out)
  have Z3 : Hid (w0.heap.size ≤ (w2.alloc (.cells #[.int .u8 (fb x)] 5)).heap.size) := Lib.hid P3.out.bel.size
  have CZ : Hid (A = none → c = 0) := Lib.hid (fun h => P2.out.own.capz h)
  clear hb b2 F1 FI v0 v1 v2 v3 v4 v5 v6 v7 v8 v9 v10 PX
  go_upto_region 3 with ((with_reducible show wpList _ _ _ (Oper.mk (some 13) _ _ _ _ _ :: _) _ _); refine wp_app2 (.tmp 9) (.tmp 12) _ rfl rfl w0.heap.size _ ys rfl P3.out.own _ 1 1 [fb x] rfl rfl Y3.out (fun h => by cases h) P3.out.rng (k + 1) (by rw [List.length_append, P3.out.len]; rfl) (by omega) Z3.out ?_; intro A4 c4 w4 hO hb4 hu4; have P4 := Lib.hid (PN.mk (w0 := w0) (W := w4) (g := g) (nd := x) (k := k + 1) hO (by rw [List.length_append, P3.out.len]; rfl) (P3.out.box.uk hu4) (P3.out.bel.trans hb4) (range_app P3.out.rng (fun c hc => by rw [List.mem_singleton] at hc; subst hc; exact FR.out))); obtain ⟨v0, v1, v2, v3, _, _, _, _, v8, v9, _⟩ := P4.out.box.atn; simp only [Nat.zero_add] at v0 v1 v2 v3 v8 v9; clear hO hb4 hu4)
  by_cases hk1 : x.k = 1
  · have NM : Hid (nmid x m = wpd x.p.x x.p.t x.p.L) := Lib.hid (by unfold nmid; rw [if_pos hk1])
    have QP := Lib.hid (putq_any _ _ _ _ x.p _ P4.out.len (by omega) (fun h => P4.out.own.capz h) (P4.out.own.byt P4.out.rng) (NF.out _ P4.out.bel).pt (NF.out _ P4.out.bel).ok.p (TW.out _ P4.out.bel) (NF.out _ P4.out.bel).pm)
    rw [← NM.out] at QP
    obtain ⟨k6, hk6⟩ : ∃ z, ((ys ++ [fb x]) ++ nmid x m).length = z := ⟨_, rfl⟩
    rw [hk6] at QP
    have HK6 := Lib.hid hk6
    have hk6b : k6 ≤ 92000 := by have h1 := P4.out.len; have h2 := ML.out; rw [← hk6, List.length_append, h1]; omega
    rw [hk1] at v0
    clear hk1 hk6
    go_upto_region 9 with fail
    refine QP.out.mono ?_
    rintro e w6 ⟨⟨A6, c6, rfl, ho6⟩, hb6⟩
    have P6 := Lib.hid (PN.mk (w0 := w0) (W := w6) (g := g) (nd := x) (ho6.mono P4.out.bel.size) HK6.out (P4.out.box.next hb6) (below_go P4.out.bel hb6) (range_app P4.out.rng MR.out))
    clear ho6 hb6 QP v0 v1 v2 v3 v8 v9
    go_upto_region 9 with fail
    cases hy : x.y
    · have EG : Hid (ngrd x = []) := Lib.hid (by unfold ngrd; rw [hy]; rfl)
      obtain ⟨_, _, _, _, v4, _⟩ := P6.out.box.atn
      simp only [Nat.zero_add] at v4
      rw [hy] at v4
      have FIN : Hid (ys ++ nbs x m = (ys ++ [fb x]) ++ nmid x m) := Lib.hid (by rw [HS.out, EG.out, List.append_nil])
      have LEN := Lib.hid P6.out.len
      have BEL := Lib.hid P6.out.bel
      clear hy
      go_wp2_with fail
      go_ret
      exact ⟨⟨_, _, _, rfl, by rw [FIN.out]; exact LEN.out, by rw [FIN.out]; exact P6.out.own⟩, BEL.out⟩
    · have EG : Hid (ngrd x = wpd x.g.x x.g.t x.g.L) := Lib.hid (by unfold ngrd; rw [hy]; rfl)
      obtain ⟨_, _, _, _, v4, v5, v6, v7, _⟩ := P6.out.box.atn
      simp only [Nat.zero_add] at v4 v5 v6 v7
      rw [hy] at v4
      have QG := Lib.hid (putq_any _ _ _ _ x.g _ P6.out.len (by omega) (fun h => P6.out.own.capz h) (P6.out.own.byt P6.out.rng) (NF.out _ P6.out.bel).gt (NF.out _ P6.out.bel).ok.g (TW.out _ P6.out.bel) (NF.out _ P6.out.bel).gm)
      rw [← EG.out, ← HS.out] at QG
      obtain ⟨kz, hkz⟩ : ∃ z, (ys ++ nbs x m).length = z := ⟨_, rfl⟩
      rw [hkz] at QG
      have HKZ := Lib.hid hkz
      clear hy hkz
      go_wp2_with fail
      refine QG.out.mono ?_
      rintro e w9 ⟨⟨A9, c9, rfl, ho9⟩, hb9⟩
      have O9 := Lib.hid (ho9.mono P6.out.bel.size)
      have B9 := Lib.hid (below_go P6.out.bel hb9)
      clear ho9 hb9 QG
      go_wp2_with fail
      go_ret
      exact ⟨⟨_, _, _, rfl, HKZ.out, O9.out⟩, B9.out⟩
  by_cases hk4 : x.k = 4
  · have NM : Hid (nmid x m = [x.lo, x.hi]) := Lib.hid (by unfold nmid; rw [if_neg hk1, if_pos hk4])
    have LH := Lib.hid (NF.out _ P4.out.bel).ok
    have b5 := below_alloc w4 (.cells #[.int .u8 x.lo, .int .u8 x.hi] 5)
    have P5 := Lib.hid (P4.out.next b5)
    have Y5 := Lib.hid (Byt.two w4 x.lo x.hi ⟨LH.out.l0, LH.out.l1⟩ ⟨LH.out.h0, LH.out.h1⟩)
    rw [hk4] at v0
    clear hk1 hk4 b5
    go_upto_region 9 with ((with_reducible show wpList _ _ _ (Oper.mk (some 37) _ _ _ _ _ :: _) _ _); refine wp_app2 (.tmp 31) (.tmp 36) _ rfl rfl w0.heap.size _ (ys ++ [fb x]) rfl P5.out.own _ 2 2 [x.lo, x.hi] rfl rfl Y5.out (fun h => by cases h) P5.out.rng (k + 1 + 2) (by rw [List.length_append, P5.out.len]; rfl) (by omega) P5.out.bel.size ?_; intro A6 c6 w6 hO hb6 hu6; have P6 : Hid (PN w0 w6 g x A6 (k + 1 + 2) c6 ((ys ++ [fb x]) ++ nmid x m)) := Lib.hid (by rw [NM.out]; exact PN.mk hO (by rw [List.length_append, P5.out.len]; rfl) (P5.out.box.uk hu6) (P5.out.bel.trans hb6) (range_app P5.out.rng Y5.out.2)); clear hO hb6 hu6)
    clear v0 v1 v2 v3 v8 v9
    cases hy : x.y
    · have EG : Hid (ngrd x = []) := Lib.hid (by unfold ngrd; rw [hy]; rfl)
      obtain ⟨_, _, _, _, v4, _⟩ := P6.out.box.atn
      simp only [Nat.zero_add] at v4
      rw [hy] at v4
      have FIN : Hid (ys ++ nbs x m = (ys ++ [fb x]) ++ nmid x m) := Lib.hid (by rw [HS.out, EG.out, List.append_nil])
      have LEN := Lib.hid P6.out.len
      have BEL := Lib.hid P6.out.bel
      clear hy
      go_wp2_with fail
      go_ret
      exact ⟨⟨_, _, _, rfl, by rw [FIN.out]; exact LEN.out, by rw [FIN.out]; exact P6.out.own⟩, BEL.out⟩
    · have EG : Hid (ngrd x = wpd x.g.x x.g.t x.g.L) := Lib.hid (by unfold ngrd; rw [hy]; rfl)
      obtain ⟨_, _, _, _, v4, v5, v6, v7, _⟩ := P6.out.box.atn
      simp only [Nat.zero_add] at v4 v5 v6 v7
      rw [hy] at v4
      have QG := Lib.hid (putq_any _ _ _ _ x.g _ P6.out.len (by omega) (fun h => P6.out.own.capz h) (P6.out.own.byt P6.out.rng) (NF.out _ P6.out.bel).gt (NF.out _ P6.out.bel).ok.g (TW.out _ P6.out.bel) (NF.out _ P6.out.bel).gm)
      rw [← EG.out, ← HS.out] at QG
      obtain ⟨kz, hkz⟩ : ∃ z, (ys ++ nbs x m).length = z := ⟨_, rfl⟩
      rw [hkz] at QG
      have HKZ := Lib.hid hkz
      clear hy hkz
      go_wp2_with fail
      refine QG.out.mono ?_
      rintro e w9 ⟨⟨A9, c9, rfl, ho9⟩, hb9⟩
      have O9 := Lib.hid (ho9.mono P6.out.bel.size)
      have B9 := Lib.hid (below_go P6.out.bel hb9)
      clear ho9 hb9 QG
      go_wp2_with fail
      go_ret
      exact ⟨⟨_, _, _, rfl, HKZ.out, O9.out⟩, B9.out⟩
  · have NM : Hid (nmid x m = [(m : Int)]) := Lib.hid (by unfold nmid; rw [if_neg hk1, if_neg hk4])
    have e1 : (x.k == 1) = false := by simp [hk1]
    have e4 : (x.k == 4) = false := by simp [hk4]
    have PP := Lib.hid (PA.out _ P4.out.bel)
    clear hk1 hk4
    go_upto_region 9 with fail
    refine PP.out.mono ?_
    rintro e w5 ⟨⟨A5, c5, rfl, _⟩, hb⟩
    rw [HM.out]
    have P5' := Lib.hid (P4.out.next hb)
    have wm : IntKind.u8.wrap (m : Int) = (m : Int) := by rw [IntKind.wrap_u8]; omega
    have b5 := below_alloc w5 (.cells #[.int .u8 (m : Int)] 5)
    have P5 := Lib.hid (P5'.out.next b5)
    have Y5 := Lib.hid (Byt.one w5 (m : Int) ⟨by omega, by omega⟩)
    clear hb b5 PP P5'
    go_upto_region 9 with ((with_reducible show wpList _ _ _ (Oper.mk (some 22) _ _ _ _ _ :: _) _ _); refine wp_app2 (.tmp 16) (.tmp 21) _ rfl rfl w0.heap.size _ (ys ++ [fb x]) rfl P5.out.own _ 1 1 [(m : Int)] rfl rfl Y5.out (fun h => by cases h) P5.out.rng (k + 1 + 1) (by rw [List.length_append, P5.out.len]; rfl) (by omega) P5.out.bel.size ?_; intro A6 c6 w6 hO hb6 hu6; have P6 : Hid (PN w0 w6 g x A6 (k + 1 + 1) c6 ((ys ++ [fb x]) ++ nmid x m)) := Lib.hid (by rw [NM.out]; exact PN.mk hO (by rw [List.length_append, P5.out.len]; rfl) (P5.out.box.uk hu6) (P5.out.bel.trans hb6) (range_app P5.out.rng Y5.out.2)); clear hO hb6 hu6)
    clear v0 v1 v2 v3 v8 v9
    cases hy : x.y
    · have EG : Hid (ngrd x = []) := Lib.hid (by unfold ngrd; rw [hy]; rfl)
      obtain ⟨_, _, _, _, v4, _⟩ := P6.out.box.atn
      simp only [Nat.zero_add] at v4
      rw [hy] at v4
      have FIN : Hid (ys ++ nbs x m = (ys ++ [fb x]) ++ nmid x m) := Lib.hid (by rw [HS.out, EG.out, List.append_nil])
      have LEN := Lib.hid P6.out.len
      have BEL := Lib.hid P6.out.bel
      clear hy
      go_wp2_with fail
      go_ret
      exact ⟨⟨_, _, _, rfl, by rw [FIN.out]; exact LEN.out, by rw [FIN.out]; exact P6.out.own⟩, BEL.out⟩
    · have EG : Hid (ngrd x = wpd x.g.x x.g.t x.g.L) := Lib.hid (by unfold ngrd; rw [hy]; rfl)
      obtain ⟨_, _, _, _, v4, v5, v6, v7, _⟩ := P6.out.box.atn
      simp only [Nat.zero_add] at v4 v5 v6 v7
      rw [hy] at v4
      have QG := Lib.hid (putq_any _ _ _ _ x.g _ P6.out.len (by omega) (fun h => P6.out.own.capz h) (P6.out.own.byt P6.out.rng) (NF.out _ P6.out.bel).gt (NF.out _ P6.out.bel).ok.g (TW.out _ P6.out.bel) (NF.out _ P6.out.bel).gm)
      rw [← EG.out, ← HS.out] at QG
      obtain ⟨kz, hkz⟩ : ∃ z, (ys ++ nbs x m).length = z := ⟨_, rfl⟩
      rw [hkz] at QG
      have HKZ := Lib.hid hkz
      clear hy hkz
      go_wp2_with fail
      refine QG.out.mono ?_
      rintro e w9 ⟨⟨A9, c9, rfl, ho9⟩, hb9⟩
      have O9 := Lib.hid (ho9.mono P6.out.bel.size)
      have B9 := Lib.hid (below_go P6.out.bel hb9)
      clear ho9 hb9 QG
      go_wp2_with fail
      go_ret
      exact ⟨⟨_, _, _, rfl, HKZ.out, O9.out⟩, B9.out⟩
end Go.Proofs.YtilgoghnoeohnaaDoor
