/- The document's write of a tree: one node, and its parts by their contracts. -/
import Derived.Test.YtilgoghnoeohnaaDoorCdQ
namespace Go.Proofs.YtilgoghnoeohnaaDoor
open Go Go.RowKit Pk Rl
set_option maxRecDepth 20000

theorem rpput_any (b : Option Addr) (len cap : Nat) (l : List Int) (q : Qu) (w : World) (hl : l.length = len) (hlen : len ≤ 100000) (hcap : b = none → cap = 0) (hb : Byt w b l) (ht : 0 ≤ q.t ∧ q.t < 256) (hq : Qok w q) (h : pmay q.x q.t q.L = true) :
    Calls Tryd.prog 41 #[.slice b len cap, pv q.x q.t q.a q.n q.c] w fun e w' => ∃ A' k' c', e = .returned (.tuple #[.slice A' k' c', .int .i64 0]) ∧ (l ++ wpd q.x q.t q.L).length = k' ∧ Own w' w.heap.size (.slice A' k' c') (l ++ wpd q.x q.t q.L) ∧ Below w.heap.size w w' := by
  obtain ⟨x, t, a, n, c, L⟩ := q
  cases x
  · exact rpput_f b len cap l t a n c L w hl hlen hcap hb ht hq.len hq.row hq.ok h
  · exact rpput_t b len cap l t a n c L w hl hlen hcap hb ht hq.len hq.row hq.ok h
/- what write answers of a tree's part, behind any bytes of one's own -/
abbrev GW (w0 : World) (f : List Nd → List Int) (n : Nd) (A : Option Addr) (m C : Nat) (p : List Nd) : Prop :=
  ∀ (B : Option Addr) (k c : Nat) (ys : List Int) (W : World), Own W w0.heap.size (.slice B k c) ys → ys.length = k → k + (f p).length ≤ 90000 → (∀ c ∈ ys, 0 ≤ c ∧ c < 256) → Below w0.heap.size w0 W →
    Calls Tryd.prog 18 #[.slice B k c, tOfT n A m C] W fun e w' => (∃ A' k' c', e = .returned (.slice A' k' c') ∧ (ys ++ f p).length = k' ∧ Own w' w0.heap.size (.slice A' k' c') (ys ++ f p)) ∧ Below w0.heap.size w0 w' ∧ Below w0.heap.size W w' ∧ Uk W w'
def KW (w0 : World) (f : List Nd → List Int) (A : Option Addr) (ps : List (List Nd)) : Prop :=
  ∀ i, i < ps.length → ∃ b off n A' m' C', A = some ⟨b, off, none⟩ ∧ b < w0.heap.size ∧ Atn w0 b (off + i * 12) n ∧ w0.cell? ⟨b, off + i * 12 + 11, none⟩ = some (.slice A' m' C') ∧ GW w0 f n A' m' C' (ps.getD i [])
/- the state of a write: bytes, the node's box, the tree's box -/
structure PW (w w0 W : World) (h g : Nat) (nd : Nd) (Aq : Option Addr) (m C : Nat) (A : Option Addr) (k c : Nat) (ys : List Int) : Prop where
  low : Below w0.heap.size w W
  pn : PN w0 W g nd A k c ys
  tb : Trb W h nd Aq m C
  uk : Uk w W
theorem PW.next {w w0 W W' : World} {h g : Nat} {nd : Nd} {Aq : Option Addr} {m C : Nat} {A : Option Addr} {k c : Nat} {ys : List Int} (p : PW w w0 W h g nd Aq m C A k c ys) (hb : Below W.heap.size W W') : PW w w0 W' h g nd Aq m C A k c ys := ⟨p.low.trans (hb.mono p.pn.bel.size), p.pn.next hb, p.tb.below hb p.tb.lt, p.uk.trans (Uk.of_below hb)⟩
theorem PW.put {w w0 W W' : World} {h g : Nat} {nd : Nd} {Aq : Option Addr} {m C : Nat} {A A' : Option Addr} {k c k' c' : Nat} {ys zs : List Int} (p : PW w w0 W h g nd Aq m C A k c ys) (ho : Own W' w0.heap.size (.slice A' k' c') zs) (hl : zs.length = k') (hu : Uk W W') (hb : Below w0.heap.size W W') (hr : ∀ c ∈ zs, 0 ≤ c ∧ c < 256) : PW w w0 W' h g nd Aq m C A' k' c' zs :=
  ⟨p.low.trans hb, ⟨ho, hl, p.pn.box.uk hu, p.pn.bel.trans hb, hr⟩, hu.b h _ _ _ (by decide) p.tb, p.uk.trans hu⟩
theorem flat_take (f : List Nd → List Int) (R' : List (List Nd)) (i : Nat) (h : i < R'.length) : (R'.take (i + 1)).flatMap f = (R'.take i).flatMap f ++ f (R'.getD i []) := by
  rw [List.take_succ_eq_append_getElem h, List.flatMap_append, List.getD_eq_getElem?_getD, List.getElem?_eq_getElem h]; simp
theorem flat_le (f : List Nd → List Int) (R' : List (List Nd)) (i : Nat) : ((R'.take i).flatMap f).length ≤ (R'.flatMap f).length := by
  conv => rhs; rw [← List.take_append_drop i R', List.flatMap_append, List.length_append]
  omega
set_option maxHeartbeats 16000000 in
theorem rwrite1_any (w0 : World) (f : List Nd → List Int) (x : Nd) (Aq : Option Addr) (C : Nat) (R' : List (List Nd)) (hK : KW w0 f Aq R') (hq : R'.length ≤ 100) (hf : Nfit w0 x) (hfr : ∀ p ∈ R', ∀ c ∈ f p, 0 ≤ c ∧ c < 256) (A : Option Addr) (k c : Nat) (ys : List Int) (w : World)
    (ho : Own w w0.heap.size (.slice A k c) ys) (hk : ys.length = k) (hk9 : k + (nbs x R'.length ++ R'.flatMap f).length ≤ 90000) (hr : ∀ c ∈ ys, 0 ≤ c ∧ c < 256) (hb : Below w0.heap.size w0 w) :
    Calls Tryd.prog 18 #[.slice A k c, tOfT x Aq R'.length C] w fun e w' => (∃ A' k' c', e = .returned (.slice A' k' c') ∧ (ys ++ (nbs x R'.length ++ R'.flatMap f)).length = k' ∧ Own w' w0.heap.size (.slice A' k' c') (ys ++ (nbs x R'.length ++ R'.flatMap f))) ∧ Below w0.heap.size w0 w' ∧ Below w0.heap.size w w' ∧ Uk w w' := by
  obtain ⟨m, hm⟩ : ∃ m, R'.length = m := ⟨_, rfl⟩
  obtain ⟨Z, hZ⟩ : ∃ z, ys ++ (nbs x R'.length ++ R'.flatMap f) = z := ⟨_, rfl⟩
  rw [hZ]
  rw [hm] at hq hk9 hZ ⊢
  have HM := Lib.hid hm
  have HZ := Lib.hid hZ
  have HFR := Lib.hid hfr
  have m9 : m < 256 := by omega
  have KL : Hid (k + 1 + (nmid x m).length + (ngrd x).length + (R'.flatMap f).length ≤ 90000) := Lib.hid (by
    have e := nbs_split x m []
    rw [List.nil_append] at e
    rw [List.length_append, e] at hk9
    simp only [List.length_append, List.length_cons, List.length_nil] at hk9
    omega)
  have KT : Hid (∀ i, i < m → ∃ b off n A' m' C', Aq = some ⟨b, off, none⟩ ∧ b < w0.heap.size ∧ Atn w0 b (off + i * 12) n ∧ w0.cell? ⟨b, off + i * 12 + 11, none⟩ = some (.slice A' m' C') ∧ GW w0 f n A' m' C' (R'.getD i [])) := Lib.hid (fun i hi => hK i (by rw [HM.out]; exact hi))
  obtain ⟨w1, hw1⟩ : ∃ X, (w.alloc (tobjT x Aq m C)).alloc (nobj x) = X := ⟨_, rfl⟩
  have b1 := below_alloc w (tobjT x Aq m C)
  have b2 := below_alloc (w.alloc (tobjT x Aq m C)) (nobj x)
  have PX : Hid (PW w w0 w1 w.heap.size (w.heap.size + 1) x Aq m C A k c ys) := Lib.hid (by
    rw [← hw1]
    have hn := NB.alloc (w.alloc (tobjT x Aq m C)) x
    rw [World.size_alloc] at hn
    exact ⟨(b1.mono hb.size).trans (b2.mono (Nat.le_trans hb.size b1.size)), ⟨(ho.below b1).below b2, hk, hn, below_go (below_go hb b1) b2, hr⟩, (Trb.start w x Aq m C).below b2 (by simp), (Uk.of_below b1).trans (Uk.of_below b2)⟩)
  have NF := Lib.hid (fun W (hW : Below w0.heap.size w0 W) => hf.below hW)
  have HS := Lib.hid (nbs_split x m ys)
  have FR := Lib.hid (fb_range hf)
  have MR := Lib.hid (nmid_range hf m m9)
  have GR := Lib.hid (ngrd_range hf)
  have TA := Lib.hid (flat_take f R')
  have KL2 : Hid ((ys ++ nbs x m).length + (R'.flatMap f).length ≤ 90000) := Lib.hid (by rw [← hk, List.length_append] at hk9; rw [List.length_append]; omega)
  have TL := Lib.hid (flat_le f R')
  have w16 : x.k ≤ 4 := hf.k4
  have w17 : 1 ≤ x.k := hf.k0
  clear hK hm hZ hfr hf ho hk hk9 hr hb b1 b2
  go_enter Tryd.func18, Tryd.ntmps18
  go_upto_region 2 with fail
  clear hw1
  obtain ⟨v0, v1, v2, v3, v4, v5, v6, v7, v8, v9, v10⟩ := PX.out.pn.box.atn
  simp only [Nat.zero_add] at v0 v1 v2 v3 v4 v5 v6 v7 v8 v9 v10
  have t11 := PX.out.tb.cells.2
  have hk1 : k + 1 ≤ 90000 := by have := KL.out; omega
  cases hy : x.y
  · have HY := Lib.hid hy
    rw [hy] at v4
    have EF : Hid (fb x = x.k) := Lib.hid (by unfold fb; rw [hy]; rfl)
    have FR' := Lib.hid FR.out
    rw [EF.out] at FR'
    clear hy
    have b_P0 := below_alloc w1 (.cells #[.int .u8 x.k] 5)
    have Q_P0 := Lib.hid (PX.out.next b_P0)
    have Y_P0 := Lib.hid (Byt.one w1 x.k FR'.out)
    clear b_P0
    go_upto_region 5 with ((with_reducible show wpList _ _ _ (Oper.mk (some 21) _ _ _ _ _ :: _) _ _); refine wp_app2 (.tmp 17) (.tmp 20) _ rfl rfl w0.heap.size _ ys rfl Q_P0.out.pn.own _ 1 1 [x.k] rfl rfl Y_P0.out (fun h => by cases h) Q_P0.out.pn.rng (k + 1) (by rw [List.length_append, Q_P0.out.pn.len]; rfl) (by omega) Q_P0.out.pn.bel.size ?_; intro A_P0 c_P0 w_P0 hO hbo huo; have P0 := Lib.hid (Q_P0.out.put hO (by rw [List.length_append, Q_P0.out.pn.len]; rfl) huo hbo (range_app Q_P0.out.pn.rng Y_P0.out.2)); clear hO hbo huo)
    have P1 : Hid (PW w w0 w_P0 w.heap.size (w.heap.size + 1) x Aq m C A_P0 (k + 1) c_P0 (ys ++ [fb x])) := Lib.hid (by rw [EF.out]; exact P0.out)
    clear v0 v1 v2 v3 v4 v5 v6 v7 v8 v9 v10 t11
    obtain ⟨v0, v1, v2, v3, v4, v5, v6, v7, v8, v9, v10⟩ := P1.out.pn.box.atn
    simp only [Nat.zero_add] at v0 v1 v2 v3 v4 v5 v6 v7 v8 v9 v10
    have t11 := P1.out.tb.cells.2
    by_cases hk1 : x.k = 1
    · skip
      have NM : Hid (nmid x m = wpd x.p.x x.p.t x.p.L) := Lib.hid (by unfold nmid; rw [if_pos hk1])
      rw [hk1] at v0
      clear hk1
      have C_M := Lib.hid (rpput_any A_P0 (k + 1) c_P0 (ys ++ [fb x]) x.p w_P0 P1.out.pn.len (by omega) (fun h => P1.out.pn.own.capz h) (P1.out.pn.own.byt P1.out.pn.rng) (NF.out _ P1.out.pn.bel).pt (NF.out _ P1.out.pn.bel).ok.p (NF.out _ P1.out.pn.bel).pm)
      go_upto_region 11 with fail
      refine C_M.out.mono ?_
      rintro e w_M ⟨A_M, k_M, c_M, rfl, hkk, hoo, hbb⟩
      rw [← NM.out] at hkk hoo
      have MM : Hid (PW w w0 w_M w.heap.size (w.heap.size + 1) x Aq m C A_M k_M c_M ((ys ++ [fb x]) ++ nmid x m)) := Lib.hid (P1.out.put (hoo.mono P1.out.pn.bel.size) hkk (Uk.of_below hbb) (hbb.mono P1.out.pn.bel.size) (range_app P1.out.pn.rng MR.out))
      have hkM : k_M ≤ 90000 := by have h1 := KL.out; have h2 := P1.out.pn.len; rw [← hkk, List.length_append, h2]; omega
      clear hkk hoo hbb C_M
      go_upto_region 11 with fail
      clear v0 v1 v2 v3 v4 v5 v6 v7 v8 v9 v10 t11
      obtain ⟨v0, v1, v2, v3, v4, v5, v6, v7, v8, v9, v10⟩ := MM.out.pn.box.atn
      simp only [Nat.zero_add] at v0 v1 v2 v3 v4 v5 v6 v7 v8 v9 v10
      have t11 := MM.out.tb.cells.2
      have EG : Hid (ngrd x = []) := Lib.hid (by unfold ngrd; rw [HY.out]; rfl)
      rw [HY.out] at v4
      have GG : Hid (PW w w0 w_M w.heap.size (w.heap.size + 1) x Aq m C A_M k_M c_M (ys ++ nbs x m)) := Lib.hid (by rw [HS.out, EG.out, List.append_nil]; exact MM.out)
      go_upto_region 13 with fail
      clear v0 v1 v2 v3 v4 v5 v6 v7 v8 v9 v10 t11
      have t11 := GG.out.tb.cells.2
      go_wp2_with fail
      clear t11
      go_loopw [0, 61] (fun b t X => ∃ (i : Nat) (A' : Option Addr) (k' c' : Nat), i ≤ m ∧ t = .int .i64 (i : Int) ∧ b = .slice A' k' c' ∧ Hid (PW w w0 X w.heap.size (w.heap.size + 1) x Aq m C A' k' c' ((ys ++ nbs x m) ++ (R'.take i).flatMap f))) (fun _ t _ => m - (intOf t).toNat)
      case atStart => exact ⟨0, A_M, k_M, c_M, Nat.zero_le _, rfl, rfl, Lib.hid (by rw [List.take_zero, List.flatMap_nil, List.append_nil]; exact GG.out)⟩
      case round =>
        obtain ⟨i, A7, k7, c7, hi, rfl, rfl, I⟩ := hrel
        have t11 := I.out.tb.cells.2
        by_cases hlt : i < m
        · have hlt2 : (i : Int) < (m : Int) := by omega
          obtain ⟨pb, po, ⟨nk, ⟨px, pt, pa, pn', pc', pL⟩, ny, ⟨gx, gt, ga, gn, gc, gL⟩, lo, hi', xs⟩, A', m', C', rfl, hb0, hat, hcell, hG⟩ := KT.out i hlt
          obtain ⟨k0, k1, k2, k3, k4, k5, k6, k7', k8, k9, k10⟩ := hat.below I.out.pn.bel hb0
          have k11 := (I.out.pn.bel.cell (p := ⟨pb, po + i * 12 + 11, none⟩) hb0).trans hcell
          have TA1 := TA.out i (by rw [HM.out]; exact hlt)
          have G7 := Lib.hid (hG A7 k7 c7 _ wr I.out.pn.own I.out.pn.len (by
            have h1 := TL.out (i + 1)
            have h2 := KL2.out
            have h3 := I.out.pn.len
            rw [TA1, List.length_append] at h1
            rw [List.length_append] at h3
            omega) I.out.pn.rng I.out.pn.bel)
          rw [List.append_assoc, ← TA1] at G7
          have RG : Hid (∀ c ∈ (ys ++ nbs x m) ++ (R'.take (i + 1)).flatMap f, 0 ≤ c ∧ c < 256) := Lib.hid (by
            rw [TA1, ← List.append_assoc]
            exact range_app I.out.pn.rng (HFR.out _ (pgetD_mem R' i (by rw [HM.out]; exact hlt))))
          clear TA1 hat hcell hG
          go_wp2_with fail
          refine G7.out.mono ?_
          rintro e w8 ⟨⟨A8, k8', c8, rfl, hl8, ho8⟩, hb8, hbb8, hu8⟩
          have N8 := Lib.hid (I.out.put ho8 hl8 hu8 hbb8 RG.out)
          clear hl8 ho8 hb8 hbb8 hu8 G7 k0 k1 k2 k3 k4 k5 k6 k7' k8 k9 k10 k11 t11
          go_wp2_with fail
          exact ⟨⟨i + 1, A8, k8', c8, by omega, by go_num, rfl, N8⟩, by simp [intOf]; omega⟩
        · obtain rfl : i = m := by omega
          have HZ2 : Hid (Z = (ys ++ nbs x i) ++ (R'.take i).flatMap f) := Lib.hid (by rw [← HZ.out, List.take_of_length_le (by rw [HM.out]; exact Nat.le_refl _), List.append_assoc])
          obtain rfl := HZ2.out
          have LL := Lib.hid I.out.pn.len
          have OO := Lib.hid I.out.pn.own
          have BB := Lib.hid I.out.pn.bel
          have BL := Lib.hid (And.intro I.out.low I.out.uk)
          clear I
          go_wp2_with fail
          go_ret
          exact ⟨⟨_, _, _, rfl, by first | exact LL.out | simpa using LL.out, by first | exact OO.out | simpa using OO.out⟩, BB.out, BL.out.1, BL.out.2⟩
    by_cases hk4 : x.k = 4
    · skip
      have NM : Hid (nmid x m = [x.lo, x.hi]) := Lib.hid (by unfold nmid; rw [if_neg hk1, if_pos hk4])
      have LH := Lib.hid (NF.out _ P1.out.pn.bel).ok
      have hkm : k + 1 + 2 ≤ 90000 := by have h1 := KL.out; rw [NM.out] at h1; simp only [List.length_cons, List.length_nil] at h1; omega
      rw [hk4] at v0
      clear hk1 hk4
      have b_M := below_alloc w_P0 (.cells #[.int .u8 x.lo, .int .u8 x.hi] 5)
      have Q_M := Lib.hid (P1.out.next b_M)
      have Y_M := Lib.hid (Byt.two w_P0 x.lo x.hi ⟨LH.out.l0, LH.out.l1⟩ ⟨LH.out.h0, LH.out.h1⟩)
      clear b_M
      go_upto_region 11 with ((with_reducible show wpList _ _ _ (Oper.mk (some 48) _ _ _ _ _ :: _) _ _); refine wp_app2 (.tmp 42) (.tmp 47) _ rfl rfl w0.heap.size _ (ys ++ [fb x]) rfl Q_M.out.pn.own _ 2 2 [x.lo, x.hi] rfl rfl Y_M.out (fun h => by cases h) Q_M.out.pn.rng (k + 1 + 2) (by rw [List.length_append, Q_M.out.pn.len]; rfl) (by omega) Q_M.out.pn.bel.size ?_; intro A_M c_M w_M hO hbo huo; have M := Lib.hid (Q_M.out.put hO (by rw [List.length_append, Q_M.out.pn.len]; rfl) huo hbo (range_app Q_M.out.pn.rng Y_M.out.2)); clear hO hbo huo)
      have MM : Hid (PW w w0 w_M w.heap.size (w.heap.size + 1) x Aq m C A_M (k + 1 + 2) c_M ((ys ++ [fb x]) ++ nmid x m)) := Lib.hid (by rw [NM.out]; exact M.out)
      clear v0 v1 v2 v3 v4 v5 v6 v7 v8 v9 v10 t11
      obtain ⟨v0, v1, v2, v3, v4, v5, v6, v7, v8, v9, v10⟩ := MM.out.pn.box.atn
      simp only [Nat.zero_add] at v0 v1 v2 v3 v4 v5 v6 v7 v8 v9 v10
      have t11 := MM.out.tb.cells.2
      have EG : Hid (ngrd x = []) := Lib.hid (by unfold ngrd; rw [HY.out]; rfl)
      rw [HY.out] at v4
      have GG : Hid (PW w w0 w_M w.heap.size (w.heap.size + 1) x Aq m C A_M (k + 1 + 2) c_M (ys ++ nbs x m)) := Lib.hid (by rw [HS.out, EG.out, List.append_nil]; exact MM.out)
      go_upto_region 13 with fail
      clear v0 v1 v2 v3 v4 v5 v6 v7 v8 v9 v10 t11
      have t11 := GG.out.tb.cells.2
      go_wp2_with fail
      clear t11
      go_loopw [0, 61] (fun b t X => ∃ (i : Nat) (A' : Option Addr) (k' c' : Nat), i ≤ m ∧ t = .int .i64 (i : Int) ∧ b = .slice A' k' c' ∧ Hid (PW w w0 X w.heap.size (w.heap.size + 1) x Aq m C A' k' c' ((ys ++ nbs x m) ++ (R'.take i).flatMap f))) (fun _ t _ => m - (intOf t).toNat)
      case atStart => exact ⟨0, A_M, (k + 1 + 2), c_M, Nat.zero_le _, rfl, rfl, Lib.hid (by rw [List.take_zero, List.flatMap_nil, List.append_nil]; exact GG.out)⟩
      case round =>
        obtain ⟨i, A7, k7, c7, hi, rfl, rfl, I⟩ := hrel
        have t11 := I.out.tb.cells.2
        by_cases hlt : i < m
        · have hlt2 : (i : Int) < (m : Int) := by omega
          obtain ⟨pb, po, ⟨nk, ⟨px, pt, pa, pn', pc', pL⟩, ny, ⟨gx, gt, ga, gn, gc, gL⟩, lo, hi', xs⟩, A', m', C', rfl, hb0, hat, hcell, hG⟩ := KT.out i hlt
          obtain ⟨k0, k1, k2, k3, k4, k5, k6, k7', k8, k9, k10⟩ := hat.below I.out.pn.bel hb0
          have k11 := (I.out.pn.bel.cell (p := ⟨pb, po + i * 12 + 11, none⟩) hb0).trans hcell
          have TA1 := TA.out i (by rw [HM.out]; exact hlt)
          have G7 := Lib.hid (hG A7 k7 c7 _ wr I.out.pn.own I.out.pn.len (by
            have h1 := TL.out (i + 1)
            have h2 := KL2.out
            have h3 := I.out.pn.len
            rw [TA1, List.length_append] at h1
            rw [List.length_append] at h3
            omega) I.out.pn.rng I.out.pn.bel)
          rw [List.append_assoc, ← TA1] at G7
          have RG : Hid (∀ c ∈ (ys ++ nbs x m) ++ (R'.take (i + 1)).flatMap f, 0 ≤ c ∧ c < 256) := Lib.hid (by
            rw [TA1, ← List.append_assoc]
            exact range_app I.out.pn.rng (HFR.out _ (pgetD_mem R' i (by rw [HM.out]; exact hlt))))
          clear TA1 hat hcell hG
          go_wp2_with fail
          refine G7.out.mono ?_
          rintro e w8 ⟨⟨A8, k8', c8, rfl, hl8, ho8⟩, hb8, hbb8, hu8⟩
          have N8 := Lib.hid (I.out.put ho8 hl8 hu8 hbb8 RG.out)
          clear hl8 ho8 hb8 hbb8 hu8 G7 k0 k1 k2 k3 k4 k5 k6 k7' k8 k9 k10 k11 t11
          go_wp2_with fail
          exact ⟨⟨i + 1, A8, k8', c8, by omega, by go_num, rfl, N8⟩, by simp [intOf]; omega⟩
        · obtain rfl : i = m := by omega
          have HZ2 : Hid (Z = (ys ++ nbs x i) ++ (R'.take i).flatMap f) := Lib.hid (by rw [← HZ.out, List.take_of_length_le (by rw [HM.out]; exact Nat.le_refl _), List.append_assoc])
          obtain rfl := HZ2.out
          have LL := Lib.hid I.out.pn.len
          have OO := Lib.hid I.out.pn.own
          have BB := Lib.hid I.out.pn.bel
          have BL := Lib.hid (And.intro I.out.low I.out.uk)
          clear I
          go_wp2_with fail
          go_ret
          exact ⟨⟨_, _, _, rfl, by first | exact LL.out | simpa using LL.out, by first | exact OO.out | simpa using OO.out⟩, BB.out, BL.out.1, BL.out.2⟩
    · skip
      have NM : Hid (nmid x m = [(m : Int)]) := Lib.hid (by unfold nmid; rw [if_neg hk1, if_neg hk4])
      have e1 : (x.k == 1) = false := by simp [hk1]
      have e4 : (x.k == 4) = false := by simp [hk4]
      have hkm : k + 1 + 1 ≤ 90000 := by have h1 := KL.out; rw [NM.out] at h1; simp only [List.length_cons, List.length_nil] at h1; omega
      have wm : IntKind.u8.wrap (m : Int) = (m : Int) := by rw [IntKind.wrap_u8]; omega
      clear hk1 hk4
      have b_M := below_alloc w_P0 (.cells #[.int .u8 (m : Int)] 5)
      have Q_M := Lib.hid (P1.out.next b_M)
      have Y_M := Lib.hid (Byt.one w_P0 (m : Int) ⟨by omega, by omega⟩)
      clear b_M
      go_upto_region 11 with ((with_reducible show wpList _ _ _ (Oper.mk (some 30) _ _ _ _ _ :: _) _ _); refine wp_app2 (.tmp 24) (.tmp 29) _ rfl rfl w0.heap.size _ (ys ++ [fb x]) rfl Q_M.out.pn.own _ 1 1 [(m : Int)] rfl rfl Y_M.out (fun h => by cases h) Q_M.out.pn.rng (k + 1 + 1) (by rw [List.length_append, Q_M.out.pn.len]; rfl) (by omega) Q_M.out.pn.bel.size ?_; intro A_M c_M w_M hO hbo huo; have M := Lib.hid (Q_M.out.put hO (by rw [List.length_append, Q_M.out.pn.len]; rfl) huo hbo (range_app Q_M.out.pn.rng Y_M.out.2)); clear hO hbo huo)
      have MM : Hid (PW w w0 w_M w.heap.size (w.heap.size + 1) x Aq m C A_M (k + 1 + 1) c_M ((ys ++ [fb x]) ++ nmid x m)) := Lib.hid (by rw [NM.out]; exact M.out)
      clear v0 v1 v2 v3 v4 v5 v6 v7 v8 v9 v10 t11
      obtain ⟨v0, v1, v2, v3, v4, v5, v6, v7, v8, v9, v10⟩ := MM.out.pn.box.atn
      simp only [Nat.zero_add] at v0 v1 v2 v3 v4 v5 v6 v7 v8 v9 v10
      have t11 := MM.out.tb.cells.2
      have EG : Hid (ngrd x = []) := Lib.hid (by unfold ngrd; rw [HY.out]; rfl)
      rw [HY.out] at v4
      have GG : Hid (PW w w0 w_M w.heap.size (w.heap.size + 1) x Aq m C A_M (k + 1 + 1) c_M (ys ++ nbs x m)) := Lib.hid (by rw [HS.out, EG.out, List.append_nil]; exact MM.out)
      go_upto_region 13 with fail
      clear v0 v1 v2 v3 v4 v5 v6 v7 v8 v9 v10 t11
      have t11 := GG.out.tb.cells.2
      go_wp2_with fail
      clear t11
      go_loopw [0, 61] (fun b t X => ∃ (i : Nat) (A' : Option Addr) (k' c' : Nat), i ≤ m ∧ t = .int .i64 (i : Int) ∧ b = .slice A' k' c' ∧ Hid (PW w w0 X w.heap.size (w.heap.size + 1) x Aq m C A' k' c' ((ys ++ nbs x m) ++ (R'.take i).flatMap f))) (fun _ t _ => m - (intOf t).toNat)
      case atStart => exact ⟨0, A_M, (k + 1 + 1), c_M, Nat.zero_le _, rfl, rfl, Lib.hid (by rw [List.take_zero, List.flatMap_nil, List.append_nil]; exact GG.out)⟩
      case round =>
        obtain ⟨i, A7, k7, c7, hi, rfl, rfl, I⟩ := hrel
        have t11 := I.out.tb.cells.2
        by_cases hlt : i < m
        · have hlt2 : (i : Int) < (m : Int) := by omega
          obtain ⟨pb, po, ⟨nk, ⟨px, pt, pa, pn', pc', pL⟩, ny, ⟨gx, gt, ga, gn, gc, gL⟩, lo, hi', xs⟩, A', m', C', rfl, hb0, hat, hcell, hG⟩ := KT.out i hlt
          obtain ⟨k0, k1, k2, k3, k4, k5, k6, k7', k8, k9, k10⟩ := hat.below I.out.pn.bel hb0
          have k11 := (I.out.pn.bel.cell (p := ⟨pb, po + i * 12 + 11, none⟩) hb0).trans hcell
          have TA1 := TA.out i (by rw [HM.out]; exact hlt)
          have G7 := Lib.hid (hG A7 k7 c7 _ wr I.out.pn.own I.out.pn.len (by
            have h1 := TL.out (i + 1)
            have h2 := KL2.out
            have h3 := I.out.pn.len
            rw [TA1, List.length_append] at h1
            rw [List.length_append] at h3
            omega) I.out.pn.rng I.out.pn.bel)
          rw [List.append_assoc, ← TA1] at G7
          have RG : Hid (∀ c ∈ (ys ++ nbs x m) ++ (R'.take (i + 1)).flatMap f, 0 ≤ c ∧ c < 256) := Lib.hid (by
            rw [TA1, ← List.append_assoc]
            exact range_app I.out.pn.rng (HFR.out _ (pgetD_mem R' i (by rw [HM.out]; exact hlt))))
          clear TA1 hat hcell hG
          go_wp2_with fail
          refine G7.out.mono ?_
          rintro e w8 ⟨⟨A8, k8', c8, rfl, hl8, ho8⟩, hb8, hbb8, hu8⟩
          have N8 := Lib.hid (I.out.put ho8 hl8 hu8 hbb8 RG.out)
          clear hl8 ho8 hb8 hbb8 hu8 G7 k0 k1 k2 k3 k4 k5 k6 k7' k8 k9 k10 k11 t11
          go_wp2_with fail
          exact ⟨⟨i + 1, A8, k8', c8, by omega, by go_num, rfl, N8⟩, by simp [intOf]; omega⟩
        · obtain rfl : i = m := by omega
          have HZ2 : Hid (Z = (ys ++ nbs x i) ++ (R'.take i).flatMap f) := Lib.hid (by rw [← HZ.out, List.take_of_length_le (by rw [HM.out]; exact Nat.le_refl _), List.append_assoc])
          obtain rfl := HZ2.out
          have LL := Lib.hid I.out.pn.len
          have OO := Lib.hid I.out.pn.own
          have BB := Lib.hid I.out.pn.bel
          have BL := Lib.hid (And.intro I.out.low I.out.uk)
          clear I
          go_wp2_with fail
          go_ret
          exact ⟨⟨_, _, _, rfl, by first | exact LL.out | simpa using LL.out, by first | exact OO.out | simpa using OO.out⟩, BB.out, BL.out.1, BL.out.2⟩
  · have HY := Lib.hid hy
    rw [hy] at v4
    have EF : Hid (fb x = x.k + 16) := Lib.hid (by unfold fb; rw [hy]; rfl)
    have FR' := Lib.hid FR.out
    rw [EF.out] at FR'
    have wk : IntKind.u8.wrap (x.k + 16) = x.k + 16 := by rw [IntKind.wrap_u8]; omega
    clear hy
    have b_P0 := below_alloc w1 (.cells #[.int .u8 (x.k + 16)] 5)
    have Q_P0 := Lib.hid (PX.out.next b_P0)
    have Y_P0 := Lib.hid (Byt.one w1 (x.k + 16) FR'.out)
    clear b_P0
    go_upto_region 5 with ((with_reducible show wpList _ _ _ (Oper.mk (some 16) _ _ _ _ _ :: _) _ _); refine wp_app2 (.tmp 11) (.tmp 15) _ rfl rfl w0.heap.size _ ys rfl Q_P0.out.pn.own _ 1 1 [x.k + 16] rfl rfl Y_P0.out (fun h => by cases h) Q_P0.out.pn.rng (k + 1) (by rw [List.length_append, Q_P0.out.pn.len]; rfl) (by omega) Q_P0.out.pn.bel.size ?_; intro A_P0 c_P0 w_P0 hO hbo huo; have P0 := Lib.hid (Q_P0.out.put hO (by rw [List.length_append, Q_P0.out.pn.len]; rfl) huo hbo (range_app Q_P0.out.pn.rng Y_P0.out.2)); clear hO hbo huo)
    have P1 : Hid (PW w w0 w_P0 w.heap.size (w.heap.size + 1) x Aq m C A_P0 (k + 1) c_P0 (ys ++ [fb x])) := Lib.hid (by rw [EF.out]; exact P0.out)
    clear v0 v1 v2 v3 v4 v5 v6 v7 v8 v9 v10 t11
    obtain ⟨v0, v1, v2, v3, v4, v5, v6, v7, v8, v9, v10⟩ := P1.out.pn.box.atn
    simp only [Nat.zero_add] at v0 v1 v2 v3 v4 v5 v6 v7 v8 v9 v10
    have t11 := P1.out.tb.cells.2
    by_cases hk1 : x.k = 1
    · skip
      have NM : Hid (nmid x m = wpd x.p.x x.p.t x.p.L) := Lib.hid (by unfold nmid; rw [if_pos hk1])
      rw [hk1] at v0
      clear hk1
      have C_M := Lib.hid (rpput_any A_P0 (k + 1) c_P0 (ys ++ [fb x]) x.p w_P0 P1.out.pn.len (by omega) (fun h => P1.out.pn.own.capz h) (P1.out.pn.own.byt P1.out.pn.rng) (NF.out _ P1.out.pn.bel).pt (NF.out _ P1.out.pn.bel).ok.p (NF.out _ P1.out.pn.bel).pm)
      go_upto_region 11 with fail
      refine C_M.out.mono ?_
      rintro e w_M ⟨A_M, k_M, c_M, rfl, hkk, hoo, hbb⟩
      rw [← NM.out] at hkk hoo
      have MM : Hid (PW w w0 w_M w.heap.size (w.heap.size + 1) x Aq m C A_M k_M c_M ((ys ++ [fb x]) ++ nmid x m)) := Lib.hid (P1.out.put (hoo.mono P1.out.pn.bel.size) hkk (Uk.of_below hbb) (hbb.mono P1.out.pn.bel.size) (range_app P1.out.pn.rng MR.out))
      have hkM : k_M ≤ 90000 := by have h1 := KL.out; have h2 := P1.out.pn.len; rw [← hkk, List.length_append, h2]; omega
      clear hkk hoo hbb C_M
      go_upto_region 11 with fail
      clear v0 v1 v2 v3 v4 v5 v6 v7 v8 v9 v10 t11
      obtain ⟨v0, v1, v2, v3, v4, v5, v6, v7, v8, v9, v10⟩ := MM.out.pn.box.atn
      simp only [Nat.zero_add] at v0 v1 v2 v3 v4 v5 v6 v7 v8 v9 v10
      have t11 := MM.out.tb.cells.2
      have EG : Hid (ngrd x = wpd x.g.x x.g.t x.g.L) := Lib.hid (by unfold ngrd; rw [HY.out]; rfl)
      rw [HY.out] at v4
      have C_G := Lib.hid (rpput_any A_M (k_M) c_M ((ys ++ [fb x]) ++ nmid x m) x.g w_M MM.out.pn.len (by omega) (fun h => MM.out.pn.own.capz h) (MM.out.pn.own.byt MM.out.pn.rng) (NF.out _ MM.out.pn.bel).gt (NF.out _ MM.out.pn.bel).ok.g (NF.out _ MM.out.pn.bel).gm)
      go_upto_region 13 with fail
      refine C_G.out.mono ?_
      rintro e w_G ⟨A_G, k_G, c_G, rfl, hkk, hoo, hbb⟩
      rw [← EG.out, ← HS.out] at hkk hoo
      have GG : Hid (PW w w0 w_G w.heap.size (w.heap.size + 1) x Aq m C A_G k_G c_G (ys ++ nbs x m)) := Lib.hid (MM.out.put (hoo.mono MM.out.pn.bel.size) hkk (Uk.of_below hbb) (hbb.mono MM.out.pn.bel.size) (by rw [HS.out]; exact range_app MM.out.pn.rng GR.out))
      clear hkk hoo hbb C_G
      go_upto_region 13 with fail
      clear v0 v1 v2 v3 v4 v5 v6 v7 v8 v9 v10 t11
      have t11 := GG.out.tb.cells.2
      go_wp2_with fail
      clear t11
      go_loopw [0, 61] (fun b t X => ∃ (i : Nat) (A' : Option Addr) (k' c' : Nat), i ≤ m ∧ t = .int .i64 (i : Int) ∧ b = .slice A' k' c' ∧ Hid (PW w w0 X w.heap.size (w.heap.size + 1) x Aq m C A' k' c' ((ys ++ nbs x m) ++ (R'.take i).flatMap f))) (fun _ t _ => m - (intOf t).toNat)
      case atStart => exact ⟨0, A_G, k_G, c_G, Nat.zero_le _, rfl, rfl, Lib.hid (by rw [List.take_zero, List.flatMap_nil, List.append_nil]; exact GG.out)⟩
      case round =>
        obtain ⟨i, A7, k7, c7, hi, rfl, rfl, I⟩ := hrel
        have t11 := I.out.tb.cells.2
        by_cases hlt : i < m
        · have hlt2 : (i : Int) < (m : Int) := by omega
          obtain ⟨pb, po, ⟨nk, ⟨px, pt, pa, pn', pc', pL⟩, ny, ⟨gx, gt, ga, gn, gc, gL⟩, lo, hi', xs⟩, A', m', C', rfl, hb0, hat, hcell, hG⟩ := KT.out i hlt
          obtain ⟨k0, k1, k2, k3, k4, k5, k6, k7', k8, k9, k10⟩ := hat.below I.out.pn.bel hb0
          have k11 := (I.out.pn.bel.cell (p := ⟨pb, po + i * 12 + 11, none⟩) hb0).trans hcell
          have TA1 := TA.out i (by rw [HM.out]; exact hlt)
          have G7 := Lib.hid (hG A7 k7 c7 _ wr I.out.pn.own I.out.pn.len (by
            have h1 := TL.out (i + 1)
            have h2 := KL2.out
            have h3 := I.out.pn.len
            rw [TA1, List.length_append] at h1
            rw [List.length_append] at h3
            omega) I.out.pn.rng I.out.pn.bel)
          rw [List.append_assoc, ← TA1] at G7
          have RG : Hid (∀ c ∈ (ys ++ nbs x m) ++ (R'.take (i + 1)).flatMap f, 0 ≤ c ∧ c < 256) := Lib.hid (by
            rw [TA1, ← List.append_assoc]
            exact range_app I.out.pn.rng (HFR.out _ (pgetD_mem R' i (by rw [HM.out]; exact hlt))))
          clear TA1 hat hcell hG
          go_wp2_with fail
          refine G7.out.mono ?_
          rintro e w8 ⟨⟨A8, k8', c8, rfl, hl8, ho8⟩, hb8, hbb8, hu8⟩
          have N8 := Lib.hid (I.out.put ho8 hl8 hu8 hbb8 RG.out)
          clear hl8 ho8 hb8 hbb8 hu8 G7 k0 k1 k2 k3 k4 k5 k6 k7' k8 k9 k10 k11 t11
          go_wp2_with fail
          exact ⟨⟨i + 1, A8, k8', c8, by omega, by go_num, rfl, N8⟩, by simp [intOf]; omega⟩
        · obtain rfl : i = m := by omega
          have HZ2 : Hid (Z = (ys ++ nbs x i) ++ (R'.take i).flatMap f) := Lib.hid (by rw [← HZ.out, List.take_of_length_le (by rw [HM.out]; exact Nat.le_refl _), List.append_assoc])
          obtain rfl := HZ2.out
          have LL := Lib.hid I.out.pn.len
          have OO := Lib.hid I.out.pn.own
          have BB := Lib.hid I.out.pn.bel
          have BL := Lib.hid (And.intro I.out.low I.out.uk)
          clear I
          go_wp2_with fail
          go_ret
          exact ⟨⟨_, _, _, rfl, by first | exact LL.out | simpa using LL.out, by first | exact OO.out | simpa using OO.out⟩, BB.out, BL.out.1, BL.out.2⟩
    by_cases hk4 : x.k = 4
    · skip
      have NM : Hid (nmid x m = [x.lo, x.hi]) := Lib.hid (by unfold nmid; rw [if_neg hk1, if_pos hk4])
      have LH := Lib.hid (NF.out _ P1.out.pn.bel).ok
      have hkm : k + 1 + 2 ≤ 90000 := by have h1 := KL.out; rw [NM.out] at h1; simp only [List.length_cons, List.length_nil] at h1; omega
      rw [hk4] at v0
      clear hk1 hk4
      have b_M := below_alloc w_P0 (.cells #[.int .u8 x.lo, .int .u8 x.hi] 5)
      have Q_M := Lib.hid (P1.out.next b_M)
      have Y_M := Lib.hid (Byt.two w_P0 x.lo x.hi ⟨LH.out.l0, LH.out.l1⟩ ⟨LH.out.h0, LH.out.h1⟩)
      clear b_M
      go_upto_region 11 with ((with_reducible show wpList _ _ _ (Oper.mk (some 48) _ _ _ _ _ :: _) _ _); refine wp_app2 (.tmp 42) (.tmp 47) _ rfl rfl w0.heap.size _ (ys ++ [fb x]) rfl Q_M.out.pn.own _ 2 2 [x.lo, x.hi] rfl rfl Y_M.out (fun h => by cases h) Q_M.out.pn.rng (k + 1 + 2) (by rw [List.length_append, Q_M.out.pn.len]; rfl) (by omega) Q_M.out.pn.bel.size ?_; intro A_M c_M w_M hO hbo huo; have M := Lib.hid (Q_M.out.put hO (by rw [List.length_append, Q_M.out.pn.len]; rfl) huo hbo (range_app Q_M.out.pn.rng Y_M.out.2)); clear hO hbo huo)
      have MM : Hid (PW w w0 w_M w.heap.size (w.heap.size + 1) x Aq m C A_M (k + 1 + 2) c_M ((ys ++ [fb x]) ++ nmid x m)) := Lib.hid (by rw [NM.out]; exact M.out)
      clear v0 v1 v2 v3 v4 v5 v6 v7 v8 v9 v10 t11
      obtain ⟨v0, v1, v2, v3, v4, v5, v6, v7, v8, v9, v10⟩ := MM.out.pn.box.atn
      simp only [Nat.zero_add] at v0 v1 v2 v3 v4 v5 v6 v7 v8 v9 v10
      have t11 := MM.out.tb.cells.2
      have EG : Hid (ngrd x = wpd x.g.x x.g.t x.g.L) := Lib.hid (by unfold ngrd; rw [HY.out]; rfl)
      rw [HY.out] at v4
      have C_G := Lib.hid (rpput_any A_M ((k + 1 + 2)) c_M ((ys ++ [fb x]) ++ nmid x m) x.g w_M MM.out.pn.len (by omega) (fun h => MM.out.pn.own.capz h) (MM.out.pn.own.byt MM.out.pn.rng) (NF.out _ MM.out.pn.bel).gt (NF.out _ MM.out.pn.bel).ok.g (NF.out _ MM.out.pn.bel).gm)
      go_upto_region 13 with fail
      refine C_G.out.mono ?_
      rintro e w_G ⟨A_G, k_G, c_G, rfl, hkk, hoo, hbb⟩
      rw [← EG.out, ← HS.out] at hkk hoo
      have GG : Hid (PW w w0 w_G w.heap.size (w.heap.size + 1) x Aq m C A_G k_G c_G (ys ++ nbs x m)) := Lib.hid (MM.out.put (hoo.mono MM.out.pn.bel.size) hkk (Uk.of_below hbb) (hbb.mono MM.out.pn.bel.size) (by rw [HS.out]; exact range_app MM.out.pn.rng GR.out))
      clear hkk hoo hbb C_G
      go_upto_region 13 with fail
      clear v0 v1 v2 v3 v4 v5 v6 v7 v8 v9 v10 t11
      have t11 := GG.out.tb.cells.2
      go_wp2_with fail
      clear t11
      go_loopw [0, 61] (fun b t X => ∃ (i : Nat) (A' : Option Addr) (k' c' : Nat), i ≤ m ∧ t = .int .i64 (i : Int) ∧ b = .slice A' k' c' ∧ Hid (PW w w0 X w.heap.size (w.heap.size + 1) x Aq m C A' k' c' ((ys ++ nbs x m) ++ (R'.take i).flatMap f))) (fun _ t _ => m - (intOf t).toNat)
      case atStart => exact ⟨0, A_G, k_G, c_G, Nat.zero_le _, rfl, rfl, Lib.hid (by rw [List.take_zero, List.flatMap_nil, List.append_nil]; exact GG.out)⟩
      case round =>
        obtain ⟨i, A7, k7, c7, hi, rfl, rfl, I⟩ := hrel
        have t11 := I.out.tb.cells.2
        by_cases hlt : i < m
        · have hlt2 : (i : Int) < (m : Int) := by omega
          obtain ⟨pb, po, ⟨nk, ⟨px, pt, pa, pn', pc', pL⟩, ny, ⟨gx, gt, ga, gn, gc, gL⟩, lo, hi', xs⟩, A', m', C', rfl, hb0, hat, hcell, hG⟩ := KT.out i hlt
          obtain ⟨k0, k1, k2, k3, k4, k5, k6, k7', k8, k9, k10⟩ := hat.below I.out.pn.bel hb0
          have k11 := (I.out.pn.bel.cell (p := ⟨pb, po + i * 12 + 11, none⟩) hb0).trans hcell
          have TA1 := TA.out i (by rw [HM.out]; exact hlt)
          have G7 := Lib.hid (hG A7 k7 c7 _ wr I.out.pn.own I.out.pn.len (by
            have h1 := TL.out (i + 1)
            have h2 := KL2.out
            have h3 := I.out.pn.len
            rw [TA1, List.length_append] at h1
            rw [List.length_append] at h3
            omega) I.out.pn.rng I.out.pn.bel)
          rw [List.append_assoc, ← TA1] at G7
          have RG : Hid (∀ c ∈ (ys ++ nbs x m) ++ (R'.take (i + 1)).flatMap f, 0 ≤ c ∧ c < 256) := Lib.hid (by
            rw [TA1, ← List.append_assoc]
            exact range_app I.out.pn.rng (HFR.out _ (pgetD_mem R' i (by rw [HM.out]; exact hlt))))
          clear TA1 hat hcell hG
          go_wp2_with fail
          refine G7.out.mono ?_
          rintro e w8 ⟨⟨A8, k8', c8, rfl, hl8, ho8⟩, hb8, hbb8, hu8⟩
          have N8 := Lib.hid (I.out.put ho8 hl8 hu8 hbb8 RG.out)
          clear hl8 ho8 hb8 hbb8 hu8 G7 k0 k1 k2 k3 k4 k5 k6 k7' k8 k9 k10 k11 t11
          go_wp2_with fail
          exact ⟨⟨i + 1, A8, k8', c8, by omega, by go_num, rfl, N8⟩, by simp [intOf]; omega⟩
        · obtain rfl : i = m := by omega
          have HZ2 : Hid (Z = (ys ++ nbs x i) ++ (R'.take i).flatMap f) := Lib.hid (by rw [← HZ.out, List.take_of_length_le (by rw [HM.out]; exact Nat.le_refl _), List.append_assoc])
          obtain rfl := HZ2.out
          have LL := Lib.hid I.out.pn.len
          have OO := Lib.hid I.out.pn.own
          have BB := Lib.hid I.out.pn.bel
          have BL := Lib.hid (And.intro I.out.low I.out.uk)
          clear I
          go_wp2_with fail
          go_ret
          exact ⟨⟨_, _, _, rfl, by first | exact LL.out | simpa using LL.out, by first | exact OO.out | simpa using OO.out⟩, BB.out, BL.out.1, BL.out.2⟩
    · skip
      have NM : Hid (nmid x m = [(m : Int)]) := Lib.hid (by unfold nmid; rw [if_neg hk1, if_neg hk4])
      have e1 : (x.k == 1) = false := by simp [hk1]
      have e4 : (x.k == 4) = false := by simp [hk4]
      have hkm : k + 1 + 1 ≤ 90000 := by have h1 := KL.out; rw [NM.out] at h1; simp only [List.length_cons, List.length_nil] at h1; omega
      have wm : IntKind.u8.wrap (m : Int) = (m : Int) := by rw [IntKind.wrap_u8]; omega
      clear hk1 hk4
      have b_M := below_alloc w_P0 (.cells #[.int .u8 (m : Int)] 5)
      have Q_M := Lib.hid (P1.out.next b_M)
      have Y_M := Lib.hid (Byt.one w_P0 (m : Int) ⟨by omega, by omega⟩)
      clear b_M
      go_upto_region 11 with ((with_reducible show wpList _ _ _ (Oper.mk (some 30) _ _ _ _ _ :: _) _ _); refine wp_app2 (.tmp 24) (.tmp 29) _ rfl rfl w0.heap.size _ (ys ++ [fb x]) rfl Q_M.out.pn.own _ 1 1 [(m : Int)] rfl rfl Y_M.out (fun h => by cases h) Q_M.out.pn.rng (k + 1 + 1) (by rw [List.length_append, Q_M.out.pn.len]; rfl) (by omega) Q_M.out.pn.bel.size ?_; intro A_M c_M w_M hO hbo huo; have M := Lib.hid (Q_M.out.put hO (by rw [List.length_append, Q_M.out.pn.len]; rfl) huo hbo (range_app Q_M.out.pn.rng Y_M.out.2)); clear hO hbo huo)
      have MM : Hid (PW w w0 w_M w.heap.size (w.heap.size + 1) x Aq m C A_M (k + 1 + 1) c_M ((ys ++ [fb x]) ++ nmid x m)) := Lib.hid (by rw [NM.out]; exact M.out)
      clear v0 v1 v2 v3 v4 v5 v6 v7 v8 v9 v10 t11
      obtain ⟨v0, v1, v2, v3, v4, v5, v6, v7, v8, v9, v10⟩ := MM.out.pn.box.atn
      simp only [Nat.zero_add] at v0 v1 v2 v3 v4 v5 v6 v7 v8 v9 v10
      have t11 := MM.out.tb.cells.2
      have EG : Hid (ngrd x = wpd x.g.x x.g.t x.g.L) := Lib.hid (by unfold ngrd; rw [HY.out]; rfl)
      rw [HY.out] at v4
      have C_G := Lib.hid (rpput_any A_M ((k + 1 + 1)) c_M ((ys ++ [fb x]) ++ nmid x m) x.g w_M MM.out.pn.len (by omega) (fun h => MM.out.pn.own.capz h) (MM.out.pn.own.byt MM.out.pn.rng) (NF.out _ MM.out.pn.bel).gt (NF.out _ MM.out.pn.bel).ok.g (NF.out _ MM.out.pn.bel).gm)
      go_upto_region 13 with fail
      refine C_G.out.mono ?_
      rintro e w_G ⟨A_G, k_G, c_G, rfl, hkk, hoo, hbb⟩
      rw [← EG.out, ← HS.out] at hkk hoo
      have GG : Hid (PW w w0 w_G w.heap.size (w.heap.size + 1) x Aq m C A_G k_G c_G (ys ++ nbs x m)) := Lib.hid (MM.out.put (hoo.mono MM.out.pn.bel.size) hkk (Uk.of_below hbb) (hbb.mono MM.out.pn.bel.size) (by rw [HS.out]; exact range_app MM.out.pn.rng GR.out))
      clear hkk hoo hbb C_G
      go_upto_region 13 with fail
      clear v0 v1 v2 v3 v4 v5 v6 v7 v8 v9 v10 t11
      have t11 := GG.out.tb.cells.2
      go_wp2_with fail
      clear t11
      go_loopw [0, 61] (fun b t X => ∃ (i : Nat) (A' : Option Addr) (k' c' : Nat), i ≤ m ∧ t = .int .i64 (i : Int) ∧ b = .slice A' k' c' ∧ Hid (PW w w0 X w.heap.size (w.heap.size + 1) x Aq m C A' k' c' ((ys ++ nbs x m) ++ (R'.take i).flatMap f))) (fun _ t _ => m - (intOf t).toNat)
      case atStart => exact ⟨0, A_G, k_G, c_G, Nat.zero_le _, rfl, rfl, Lib.hid (by rw [List.take_zero, List.flatMap_nil, List.append_nil]; exact GG.out)⟩
      case round =>
        obtain ⟨i, A7, k7, c7, hi, rfl, rfl, I⟩ := hrel
        have t11 := I.out.tb.cells.2
        by_cases hlt : i < m
        · have hlt2 : (i : Int) < (m : Int) := by omega
          obtain ⟨pb, po, ⟨nk, ⟨px, pt, pa, pn', pc', pL⟩, ny, ⟨gx, gt, ga, gn, gc, gL⟩, lo, hi', xs⟩, A', m', C', rfl, hb0, hat, hcell, hG⟩ := KT.out i hlt
          obtain ⟨k0, k1, k2, k3, k4, k5, k6, k7', k8, k9, k10⟩ := hat.below I.out.pn.bel hb0
          have k11 := (I.out.pn.bel.cell (p := ⟨pb, po + i * 12 + 11, none⟩) hb0).trans hcell
          have TA1 := TA.out i (by rw [HM.out]; exact hlt)
          have G7 := Lib.hid (hG A7 k7 c7 _ wr I.out.pn.own I.out.pn.len (by
            have h1 := TL.out (i + 1)
            have h2 := KL2.out
            have h3 := I.out.pn.len
            rw [TA1, List.length_append] at h1
            rw [List.length_append] at h3
            omega) I.out.pn.rng I.out.pn.bel)
          rw [List.append_assoc, ← TA1] at G7
          have RG : Hid (∀ c ∈ (ys ++ nbs x m) ++ (R'.take (i + 1)).flatMap f, 0 ≤ c ∧ c < 256) := Lib.hid (by
            rw [TA1, ← List.append_assoc]
            exact range_app I.out.pn.rng (HFR.out _ (pgetD_mem R' i (by rw [HM.out]; exact hlt))))
          clear TA1 hat hcell hG
          go_wp2_with fail
          refine G7.out.mono ?_
          rintro e w8 ⟨⟨A8, k8', c8, rfl, hl8, ho8⟩, hb8, hbb8, hu8⟩
          have N8 := Lib.hid (I.out.put ho8 hl8 hu8 hbb8 RG.out)
          clear hl8 ho8 hb8 hbb8 hu8 G7 k0 k1 k2 k3 k4 k5 k6 k7' k8 k9 k10 k11 t11
          go_wp2_with fail
          exact ⟨⟨i + 1, A8, k8', c8, by omega, by go_num, rfl, N8⟩, by simp [intOf]; omega⟩
        · obtain rfl : i = m := by omega
          have HZ2 : Hid (Z = (ys ++ nbs x i) ++ (R'.take i).flatMap f) := Lib.hid (by rw [← HZ.out, List.take_of_length_le (by rw [HM.out]; exact Nat.le_refl _), List.append_assoc])
          obtain rfl := HZ2.out
          have LL := Lib.hid I.out.pn.len
          have OO := Lib.hid I.out.pn.own
          have BB := Lib.hid I.out.pn.bel
          have BL := Lib.hid (And.intro I.out.low I.out.uk)
          clear I
          go_wp2_with fail
          go_ret
          exact ⟨⟨_, _, _, rfl, by first | exact LL.out | simpa using LL.out, by first | exact OO.out | simpa using OO.out⟩, BB.out, BL.out.1, BL.out.2⟩
end Go.Proofs.YtilgoghnoeohnaaDoor
