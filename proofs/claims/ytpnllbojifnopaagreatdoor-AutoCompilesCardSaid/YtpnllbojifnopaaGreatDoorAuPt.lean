/- A node's pattern: the program's pattern. -/
import Derived.Test.YtpnllbojifnopaaGreatDoorAuM
import Derived.Deep.RegionHeld3
namespace Go.Proofs.YtpnllbojifnopaaGreatDoor
open Go Go.RowKit Pk Rl
set_option maxRecDepth 20000

theorem ofp_spl {F : List Nd → Bool} {l : List Nd} (h : ofp F l = true) : ∃ x r ps, frn l = x :: r ∧ spl r = some ps ∧ pts l = ps ∧ ps.all F = true := by
  by_cases hf : frn l = []
  · rw [ofp_nil hf] at h; cases h
  · rw [ofp_cons hf] at h
    rcases hl : frn l with _ | ⟨x, r⟩
    · exact absurd hl hf
    · rw [hl, List.tail_cons] at h
      rcases hs : spl r with _ | ps
      · rw [hs] at h; cases h
      · rw [hs] at h
        exact ⟨x, r, ps, rfl, hs, by unfold pts; rw [hl, List.tail_cons, hs]; rfl, h⟩
theorem kd_k {n : Nd} {m : Nat} (h : kd n m = true) : n.k = 1 ∨ n.k = 2 ∨ n.k = 3 ∨ n.k = 4 := by
  unfold kd at h
  by_cases k1 : n.k = 1
  · exact .inl k1
  rw [if_neg k1] at h
  by_cases k2 : n.k = 2
  · exact .inr (.inl k2)
  rw [if_neg k2] at h
  by_cases k3 : n.k = 3
  · exact .inr (.inr (.inl k3))
  rw [if_neg k3] at h
  by_cases k4 : n.k = 4
  · exact .inr (.inr (.inr k4))
  rw [if_neg k4] at h
  cases h
theorem kd_m2 {n : Nd} {m : Nat} (h : kd n m = true) (hk : n.k = 2 ∨ n.k = 3) : 2 ≤ m := by
  unfold kd at h
  rcases hk with hk | hk <;> simp [hk] at h <;> omega
theorem kd_rep {n : Nd} {m : Nat} (h : kd n m = true) (hk : n.k = 4) : m = 1 ∧ 1 ≤ n.lo ∧ n.lo ≤ n.hi ∧ n.hi ≤ 8 := by
  unfold kd at h
  simp [hk] at h
  omega
/- parts, with the block that their row lies in -/
set_option maxHeartbeats 2000000 in
theorem partsT_any (w0 : World) (a : Option Addr) (n c : Nat) (L : List Nd) (w : World) (hP : Pt w0 a n c L) (h01 : Below w0.heap.size w0 w) :
    Calls Tryz.prog 81 #[.slice a n c] w fun e w' => (∃ A C, e = .returned (.slice A (pts L).length C) ∧ (pts L ≠ [] → PrT w0 w' A (pts L))) ∧ Below w.heap.size w w' := by
  have B0 := Lib.hid (below_alloc w (.cells #[.slice none 0 0] 178))
  have O := Lib.hid (ofp_parts (fun _ => true) (fun W D => ∃ v, SBox W w.heap.size v ∧ OwnP w0 W (w.heap.size + 1) v D) w0 w h01 w.heap.size n
    (Lib.hid fun D p A n' c' W hJ hPp _ hnn hD hB => by
      obtain ⟨v, h1, h2⟩ := hJ
      refine (parts1_any w0 w w.heap.size D hD p A n' c' v W h1 h2 hPp hB (Nat.le_refl _)).mono ?_
      rintro e w' ⟨rfl, h2, h3⟩
      exact ⟨rfl, fun _ => h2, h3⟩)
    a n c L _ hP (Nat.le_refl _) ⟨_, SBox.start w _, OwnP.nil _ _ _⟩ B0.out)
  have HE := Lib.hid (show ofp (fun _ => true) L = false → pts L = [] from fun h => by
    by_cases h0 : frn L = []
    · unfold pts; rw [h0, List.tail_nil, spl_nil]; rfl
    · rw [ofp_cons h0] at h
      unfold pts
      rcases hs : spl (frn L).tail with _ | ps
      · rfl
      · rw [hs] at h; simp at h)
  generalize ofp (fun _ => true) L = b at O HE
  clear hP
  generalize pts L = R at O HE
  go_enter Tryz.func81, Tryz.ntmps81
  go_wp2_with fail
  refine O.out.mono ?_
  rintro e w2 ⟨rfl, hJ, hB⟩
  have HJ := Lib.hid hJ
  have B2 := Lib.hid hB
  clear hJ hB O
  cases b
  · have e0 : R = [] := HE.out (by first | rfl | trivial)
    subst e0
    go_wp2_with fail
    go_ret
    exact ⟨⟨none, 0, rfl, fun h => absurd rfl h⟩, B2.out⟩
  · obtain ⟨v, h1, h2⟩ := HJ.out (by first | rfl | trivial)
    have H2 := Lib.hid h2
    obtain ⟨A, C, rfl, h3⟩ := h2.form
    have c1 := h1.cell
    clear h1 h2 h3 HE HJ
    go_wp2_with fail
    go_ret
    refine ⟨⟨A, C, rfl, fun hne => ?_⟩, B2.out⟩
    obtain ⟨cs, h1, h2, h3⟩ := H2.out
    rcases h1.2 with ⟨_, h0⟩ | ⟨g, cap, cur, e, _, hh, hcap, hmx, hsz, ht⟩
    · exact absurd (List.eq_nil_of_length_eq_zero h0) hne
    · injection e with e1 e2 e3
      refine ⟨g, cur, e1, hh, fun i hi => ?_⟩
      obtain ⟨A', C', k1, k2⟩ := h3 i hi
      refine ⟨A', C', ?_, k2⟩
      rw [← ht, List.getElem?_take_of_lt (by omega), Array.getElem?_toList] at k1
      exact k1
/- a node's pattern, once its node is loaded -/
structure Pn (w W : World) (r : Nat) (x : Nd) (P : List VQ) (E : List EV) : Prop where
  mkk : Mk W r P E
  res : EB W w.heap.size 0 0
  ndb : NB W (w.heap.size + 1) x
  kr : Ka r w W
theorem Pn.next {w W W' : World} {r : Nat} {x : Nd} {P : List VQ} {E : List EV} (h : Pn w W r x P E) (hb : Below W.heap.size W W') : Pn w W' r x P E :=
  ⟨Mk.next h.mkk hb, h.res.next hb, h.ndb.next hb, h.kr.next hb (Nat.le_of_lt (Mk.lt h.mkk))⟩
theorem Pn.ka {w W W' : World} {r : Nat} {x : Nd} {P P' : List VQ} {E E' : List EV} (h : Pn w W r x P E) (hk : Ka r W W') (hr : r < w.heap.size) (hm : Mk W' r P' E') : Pn w W' r x P' E' :=
  ⟨hm, h.res.ka hk (by omega), h.ndb.ka hk (by omega), h.kr.trans hk⟩
theorem PrT.rep {wb w w' : World} {A : Option Addr} {p : List Nd} (T : Nat) (A0 : Option Addr) (C0 : Nat) (_ : PrT wb w A [p]) (hp : Pt wb A0 p.length C0 p) (h : Rv w' w.heap.size (.slice A0 p.length C0) T T) : PrT wb w' (some ⟨w.heap.size, 0, none⟩) (List.replicate T p) := by
  refine ⟨_, _, rfl, h, fun i hi => ?_⟩
  rw [List.length_replicate] at hi
  have e : (List.replicate T p).getD i [] = p := by rw [List.getD_eq_getElem?_getD, List.getElem?_replicate, if_pos hi]; rfl
  rw [e]
  refine ⟨A0, C0, ?_, hp⟩
  rw [List.getElem?_toArray]
  unfold rwv
  rw [List.getElem?_append_left (by simpa using hi), List.getElem?_replicate, if_pos hi]
set_option maxHeartbeats 16000000 in
theorem pat1 (wb : World) (r : Nat) (kf : Nat) (x : Nd) (q : List Nd) (hkd : kd x (pts (x :: q)).length = true) (hlen : (pts (x :: q)).length ≤ 256) (hrb : wb.heap.size ≤ r) (hT : Tab5 wb) (IH : ∀ p ∈ pts (x :: q), AC wb r (au kf) p) : AC wb r (au (kf + 1)) (x :: q) := by
  intro w A n c P E h hwb hPt hP hE
  have zr := Mk.lt h
  have hx : Nok wb x := hPt.ok x (List.mem_cons_self ..)
  have hn := hPt.len
  obtain ⟨pb, po, rfl, hat⟩ := hPt.row 0 (by simp)
  rw [Nat.zero_mul, Nat.add_zero] at hat
  have hat2 := (show Atn wb pb po x from hat).below hwb hat.lt
  have eA : au (kf + 1) (x :: q) P.length = if x.k = 2 then ch (au kf) P.length x.y (vq x.g) (pts (x :: q)).length (pts (x :: q)) else if x.k = 3 then ei (au kf) P.length (pts (x :: q)) else if x.k = 4 then ch (au kf) P.length x.y (vq x.g) x.lo.toNat (List.replicate x.hi.toNat ((pts (x :: q)).headD [])) else (2 ^ P.length, 2 ^ P.length, [vq x.p], []) := rfl
  rw [eA] at hP hE ⊢
  have PA := Lib.hid (fun W (hW : Below wb.heap.size wb W) => partsT_any wb (some ⟨pb, po, none⟩) n c (x :: q) W hPt hW)
  have HB := Lib.hid (fun (p : List Nd) (_ : p ∈ pts (x :: q)) n hn => au_32 kf p n hn)
  generalize pts (x :: q) = ps at PA HB hkd hlen IH hP hE ⊢
  have X0 := Lib.hid (show Pn w ((w.alloc (.cells #[.int .u32 0, .int .u32 0] 121)).alloc (nobj x)) r x P E from
    ⟨Mk.next h (below_go (below_alloc w _) (below_alloc _ _)), (EB.alloc w 0 0).next (below_alloc _ _), by have := NB.alloc (w.alloc (.cells #[.int .u32 0, .int .u32 0] 121)) x; rw [World.size_alloc] at this; exact this, Ka.of_below (below_go (below_alloc w _) (below_alloc _ _)) (Nat.le_of_lt zr)⟩)
  have HW := Lib.hid hwb
  have HX := Lib.hid hx
  have HT := Lib.hid hT
  have HI := Lib.hid IH
  have HQ := Lib.hid hPt
  have hn1 : 0 < n := by rw [← hn]; simp
  have hn2 : (0 : Int) < (n : Int) := by omega
  have z0 := hat2.lt
  obtain ⟨k0, k1, k2, k3, k4, k5, k6, k7, k8, k9, k10⟩ := hat2
  clear h hwb hPt hat hx hn IH hT eA
  obtain ⟨k, ⟨px, pt, pa, pn, pc, pL⟩, y, ⟨gx, gt, ga, gn, gc, gL⟩, lo, hi, s⟩ := x
  simp only at hP hE hkd k0 k1 k2 k3 k4 k5 k6 k7 k8 k9 k10
  have hk4 := kd_k hkd
  simp only at hk4
  dsimp only
  rcases hk4 with hk | hk | hk | hk
  · subst hk
    rw [if_neg (show ¬ (1 : Int) = 2 by decide), if_neg (show ¬ (1 : Int) = 3 by decide), if_neg (show ¬ (1 : Int) = 4 by decide)] at hP hE ⊢
    simp only [List.length_singleton] at hP
    have CC := Lib.hid (fun W (hW : Below wb.heap.size wb W) (hM : Mk W r P E) => place_any r ⟨px, pt, pa, pn, pc, pL⟩ P E W hM (by omega) (HX.out.p.below hW))
    obtain ⟨r1, hr1⟩ : ∃ z, 2 ^ P.length = z := ⟨_, rfl⟩
    rw [hr1]
    have CP := Lib.hid (fun W hW hM => (CC.out W hW hM).mono fun e w' h => (show PtR r W (r1, r1, [vq ⟨px, pt, pa, pn, pc, pL⟩], []) P E e w' from ⟨by rw [← hr1]; exact h.1, by simpa using h.2.1, h.2.2⟩))
    clear CC hr1
    clear hkd hP hE HI HB
    go_enter Tryz.func44, Tryz.ntmps44
    go_upto_region 2 with fail
    generalize (w.alloc (.cells #[.int .u32 0, .int .u32 0] 121)).alloc (nobj ⟨1, ⟨px, pt, pa, pn, pc, pL⟩, y, ⟨gx, gt, ga, gn, gc, gL⟩, lo, hi, s⟩) = w1 at X0 ⊢
    clear k0 k1 k2 k3 k4 k5 k6 k7 k8 k9 k10 z0
    have PB := Lib.hid (PA.out w1 (HW.out.trans (X0.out.kr.o.mono hrb)))
    go_wp2_with fail
    refine PB.out.mono ?_
    rintro e w2 ⟨⟨A2, C2, rfl, hpr⟩, hb⟩
    have X2 := Lib.hid (X0.out.next hb)
    have PR := Lib.hid hpr
    clear hb hpr PA PB X0
    obtain ⟨v0, v1, v2, v3, v4, v5, v6, v7, v8, v9, v10⟩ := X2.out.ndb.atn
    simp only [Nat.zero_add] at v0 v1 v2 v3 v4 v5 v6 v7 v8 v9 v10
    have zN := X2.out.ndb.lt
    have CD := Lib.hid (CP.out w2 (HW.out.trans (X2.out.kr.o.mono hrb)) X2.out.mkk)
    clear CP
    go_wp2_with fail
    refine CD.out.mono ?_
    rintro e w3 ⟨rfl, hMk, hKa⟩
    have X3 := Lib.hid (X2.out.ka hKa zr hMk)
    clear hMk hKa X2 PR v0 v1 v2 v3 v4 v5 v6 v7 v8 v9 v10 zN
    obtain ⟨c0, c1, cf⟩ := X3.out.res.cells
    have f0 := cf 0
    have f1 := cf 1
    have z3 := X3.out.res.lt
    have MF := Lib.hid (Mk.eset (Mk.eset X3.out.mkk X3.out.res 0 (.int .u32 (r1 : Int))) (X3.out.res.set0 r1) 1 (.int .u32 (r1 : Int)))
    have KF := Lib.hid ((X3.out.kr.loc w.heap.size 0 (.int .u32 (r1 : Int)) (Nat.le_refl _) zr).loc w.heap.size 1 (.int .u32 (r1 : Int)) (Nat.le_refl _) zr)
    clear cf X3
    go_wp2_with fail
    refine bodyPost_ret (v := ev2 r1 r1) (by simp [results, Tryz.results44, go_sem, *]) rfl ⟨rfl, MF.out, KF.out⟩
  · subst hk
    rw [if_pos rfl] at hP hE ⊢
    have hm := kd_m2 hkd (.inl rfl)
    have hne : ps ≠ [] := fun e => by subst e; simp at hm
    have CC := Lib.hid (fun W A C (hW : Below wb.heap.size wb W) (hM : Mk W r P E) hp => chain_any wb r (au kf) ⟨2, ⟨px, pt, pa, pn, pc, pL⟩, y, ⟨gx, gt, ga, gn, gc, gL⟩, lo, hi, s⟩ ps.length (by omega) ps hne hlen HI.out HB.out W A C P E hM hW hrb HT.out HX.out hp hP hE)
    generalize ch (au kf) P.length y (vq ⟨gx, gt, ga, gn, gc, gL⟩) ps.length ps = R at CC ⊢
    obtain ⟨r1, r2, rP, rE⟩ := R
    (try dsimp only at CC)
    clear hkd hP hE HI HB hne
    go_enter Tryz.func44, Tryz.ntmps44
    go_upto_region 2 with fail
    generalize (w.alloc (.cells #[.int .u32 0, .int .u32 0] 121)).alloc (nobj ⟨2, ⟨px, pt, pa, pn, pc, pL⟩, y, ⟨gx, gt, ga, gn, gc, gL⟩, lo, hi, s⟩) = w1 at X0 ⊢
    clear k0 k1 k2 k3 k4 k5 k6 k7 k8 k9 k10 z0
    have PB := Lib.hid (PA.out w1 (HW.out.trans (X0.out.kr.o.mono hrb)))
    go_wp2_with fail
    refine PB.out.mono ?_
    rintro e w2 ⟨⟨A2, C2, rfl, hpr⟩, hb⟩
    have X2 := Lib.hid (X0.out.next hb)
    have PR := Lib.hid hpr
    clear hb hpr PA PB X0
    obtain ⟨v0, v1, v2, v3, v4, v5, v6, v7, v8, v9, v10⟩ := X2.out.ndb.atn
    simp only [Nat.zero_add] at v0 v1 v2 v3 v4 v5 v6 v7 v8 v9 v10
    have zN := X2.out.ndb.lt
    have CD := Lib.hid (CC.out w2 A2 C2 (HW.out.trans (X2.out.kr.o.mono hrb)) X2.out.mkk (PR.out (fun e => by subst e; simp at hm)))
    clear CC
    go_wp2_with fail
    refine CD.out.mono ?_
    rintro e w3 ⟨rfl, hMk, hKa⟩
    have X3 := Lib.hid (X2.out.ka hKa zr hMk)
    clear hMk hKa X2 PR v0 v1 v2 v3 v4 v5 v6 v7 v8 v9 v10 zN
    obtain ⟨c0, c1, cf⟩ := X3.out.res.cells
    have f0 := cf 0
    have f1 := cf 1
    have z3 := X3.out.res.lt
    have MF := Lib.hid (Mk.eset (Mk.eset X3.out.mkk X3.out.res 0 (.int .u32 (r1 : Int))) (X3.out.res.set0 r1) 1 (.int .u32 (r2 : Int)))
    have KF := Lib.hid ((X3.out.kr.loc w.heap.size 0 (.int .u32 (r1 : Int)) (Nat.le_refl _) zr).loc w.heap.size 1 (.int .u32 (r2 : Int)) (Nat.le_refl _) zr)
    clear cf X3
    go_wp2_with fail
    refine bodyPost_ret (v := ev2 r1 r2) (by simp [results, Tryz.results44, go_sem, *]) rfl ⟨rfl, MF.out, KF.out⟩
  · subst hk
    rw [if_neg (show ¬ (3 : Int) = 2 by decide), if_pos rfl] at hP hE ⊢
    have hm := kd_m2 hkd (.inr rfl)
    have hne : ps ≠ [] := fun e => by subst e; simp at hm
    have CC := Lib.hid (fun W A C (hW : Below wb.heap.size wb W) (hM : Mk W r P E) hp => either_any wb r (au kf) ps hne hlen HI.out HB.out W A C P E hM hW hrb hp hP hE)
    generalize ei (au kf) P.length ps = R at CC ⊢
    obtain ⟨r1, r2, rP, rE⟩ := R
    (try dsimp only at CC)
    clear hkd hP hE HI HB hne
    go_enter Tryz.func44, Tryz.ntmps44
    go_upto_region 2 with fail
    generalize (w.alloc (.cells #[.int .u32 0, .int .u32 0] 121)).alloc (nobj ⟨3, ⟨px, pt, pa, pn, pc, pL⟩, y, ⟨gx, gt, ga, gn, gc, gL⟩, lo, hi, s⟩) = w1 at X0 ⊢
    clear k0 k1 k2 k3 k4 k5 k6 k7 k8 k9 k10 z0
    have PB := Lib.hid (PA.out w1 (HW.out.trans (X0.out.kr.o.mono hrb)))
    go_wp2_with fail
    refine PB.out.mono ?_
    rintro e w2 ⟨⟨A2, C2, rfl, hpr⟩, hb⟩
    have X2 := Lib.hid (X0.out.next hb)
    have PR := Lib.hid hpr
    clear hb hpr PA PB X0
    obtain ⟨v0, v1, v2, v3, v4, v5, v6, v7, v8, v9, v10⟩ := X2.out.ndb.atn
    simp only [Nat.zero_add] at v0 v1 v2 v3 v4 v5 v6 v7 v8 v9 v10
    have zN := X2.out.ndb.lt
    have CD := Lib.hid (CC.out w2 A2 C2 (HW.out.trans (X2.out.kr.o.mono hrb)) X2.out.mkk (PR.out (fun e => by subst e; simp at hm)))
    clear CC
    go_wp2_with fail
    refine CD.out.mono ?_
    rintro e w3 ⟨rfl, hMk, hKa⟩
    have X3 := Lib.hid (X2.out.ka hKa zr hMk)
    clear hMk hKa X2 PR v0 v1 v2 v3 v4 v5 v6 v7 v8 v9 v10 zN
    obtain ⟨c0, c1, cf⟩ := X3.out.res.cells
    have f0 := cf 0
    have f1 := cf 1
    have z3 := X3.out.res.lt
    have MF := Lib.hid (Mk.eset (Mk.eset X3.out.mkk X3.out.res 0 (.int .u32 (r1 : Int))) (X3.out.res.set0 r1) 1 (.int .u32 (r2 : Int)))
    have KF := Lib.hid ((X3.out.kr.loc w.heap.size 0 (.int .u32 (r1 : Int)) (Nat.le_refl _) zr).loc w.heap.size 1 (.int .u32 (r2 : Int)) (Nat.le_refl _) zr)
    clear cf X3
    go_wp2_with fail
    refine bodyPost_ret (v := ev2 r1 r2) (by simp [results, Tryz.results44, go_sem, *]) rfl ⟨rfl, MF.out, KF.out⟩
  · subst hk
    rw [if_neg (show ¬ (4 : Int) = 2 by decide), if_neg (show ¬ (4 : Int) = 3 by decide), if_pos rfl] at hP hE ⊢
    obtain ⟨hm, hl1, hl2, hl3⟩ := kd_rep hkd rfl
    simp only at hl1 hl2 hl3
    obtain ⟨p0, rfl⟩ : ∃ p, ps = [p] := List.length_eq_one_iff.1 hm
    rw [List.headD_cons] at hP hE ⊢
    obtain ⟨ho, rfl⟩ := Int.eq_ofNat_of_zero_le (show 0 ≤ hi by omega)
    obtain ⟨lu, rfl⟩ := Int.eq_ofNat_of_zero_le (show 0 ≤ lo by omega)
    rw [Int.toNat_natCast, Int.toNat_natCast] at hP hE ⊢
    have hne : List.replicate ho p0 ≠ [] := fun e => by have := congrArg List.length e; simp at this; omega
    have hin : ∀ p ∈ List.replicate ho p0, p = p0 := fun p hp => (List.mem_replicate.1 hp).2
    have hrl : (List.replicate ho p0).length = ho := List.length_replicate ..
    have CC := Lib.hid (fun W A C (hW : Below wb.heap.size wb W) (hM : Mk W r P E) hp => (by have := chain_any wb r (au kf) ⟨4, ⟨px, pt, pa, pn, pc, pL⟩, y, ⟨gx, gt, ga, gn, gc, gL⟩, (lu : Int), (ho : Int), s⟩ lu (by omega) (List.replicate ho p0) hne (by rw [hrl]; omega) (fun p hp => HI.out p (by rw [hin p hp]; simp)) (fun p hp => HB.out p (by rw [hin p hp]; simp)) W A C P E hM hW hrb HT.out HX.out hp hP hE; rwa [hrl] at this : Calls Tryz.prog 82 #[.pointer (some ⟨r, 0, none⟩), nOf ⟨4, ⟨px, pt, pa, pn, pc, pL⟩, y, ⟨gx, gt, ga, gn, gc, gL⟩, (lu : Int), (ho : Int), s⟩, .slice A ho C, .int .i64 (lu : Int)] W fun e w' => PtR r W (ch (au kf) P.length y (vq ⟨gx, gt, ga, gn, gc, gL⟩) lu (List.replicate ho p0)) P E e w'))
    generalize ch (au kf) P.length y (vq ⟨gx, gt, ga, gn, gc, gL⟩) lu (List.replicate ho p0) = R at CC ⊢
    obtain ⟨r1, r2, rP, rE⟩ := R
    (try dsimp only at CC)
    clear hkd hP hE HI HB hne hin hrl
    go_enter Tryz.func44, Tryz.ntmps44
    go_upto_region 2 with fail
    generalize (w.alloc (.cells #[.int .u32 0, .int .u32 0] 121)).alloc (nobj ⟨4, ⟨px, pt, pa, pn, pc, pL⟩, y, ⟨gx, gt, ga, gn, gc, gL⟩, (lu : Int), (ho : Int), s⟩) = w1 at X0 ⊢
    clear k0 k1 k2 k3 k4 k5 k6 k7 k8 k9 k10 z0
    have PB := Lib.hid (PA.out w1 (HW.out.trans (X0.out.kr.o.mono hrb)))
    go_wp2_with fail
    refine PB.out.mono ?_
    rintro e w2 ⟨⟨A2, C2, rfl, hpr⟩, hb⟩
    have X2 := Lib.hid (X0.out.next hb)
    have PR := Lib.hid hpr
    clear hb hpr PA PB X0
    obtain ⟨v0, v1, v2, v3, v4, v5, v6, v7, v8, v9, v10⟩ := X2.out.ndb.atn
    simp only [Nat.zero_add] at v0 v1 v2 v3 v4 v5 v6 v7 v8 v9 v10
    have zN := X2.out.ndb.lt
    obtain ⟨g2, e2, zg, hat⟩ := (PR.out (by simp)).at (by simp)
    obtain ⟨A0, C0, hc0, hp0⟩ := hat 0 (by simp)
    subst e2
    simp only [List.getD_cons_zero] at hc0 hp0
    have PRR := Lib.hid (PR.out (by simp))
    have HP0 := Lib.hid hp0
    have RP := Lib.hid (fun m => repeat1_any ⟨g2, 0, none⟩ C2 A0 p0.length C0 ho (w2.drewN m) (by omega) (by omega) hc0)
    clear hat hp0 hm
    simp only [List.length_singleton]
    have SK : Hid (∀ W, NB W (w.heap.size + 1) ⟨4, ⟨px, pt, pa, pn, pc, pL⟩, y, ⟨gx, gt, ga, gn, gc, gL⟩, (lu : Int), (ho : Int), s⟩ → (fun W => W.cell? ⟨w.heap.size + 1, 0, none⟩ = some (.int .u8 4) ∧ W.cell? ⟨w.heap.size + 1, 1, none⟩ = some (.bool px) ∧ W.cell? ⟨w.heap.size + 1, 2, none⟩ = some (.int .u8 pt) ∧ W.cell? ⟨w.heap.size + 1, 3, none⟩ = some (.slice pa pn pc) ∧ W.cell? ⟨w.heap.size + 1, 4, none⟩ = some (.bool y) ∧ W.cell? ⟨w.heap.size + 1, 5, none⟩ = some (.bool gx) ∧ W.cell? ⟨w.heap.size + 1, 6, none⟩ = some (.int .u8 gt) ∧ W.cell? ⟨w.heap.size + 1, 7, none⟩ = some (.slice ga gn gc) ∧ W.cell? ⟨w.heap.size + 1, 8, none⟩ = some (.int .u8 (lu : Int)) ∧ W.cell? ⟨w.heap.size + 1, 9, none⟩ = some (.int .u8 (ho : Int)) ∧ W.cell? ⟨w.heap.size + 1, 10, none⟩ = some (.int .i64 s)) W) := Lib.hid (fun W hW => by
      obtain ⟨u0, u1, u2, u3, u4, u5, u6, u7, u8, u9, u10⟩ := hW.atn
      simp only [Nat.zero_add] at u0 u1 u2 u3 u4 u5 u6 u7 u8 u9 u10
      exact ⟨u0, u1, u2, u3, u4, u5, u6, u7, u8, u9, u10⟩)
    have wl : IntKind.i64.wrap (lu : Int) = (lu : Int) := by rw [IntKind.wrap_i64]; omega
    have wh : IntKind.i64.wrap (ho : Int) = (ho : Int) := by rw [IntKind.wrap_i64]; omega
    go_upto_region 9 with fail
    refine wp_region_noPanic ?_
    refine wp_region_held_drew (S := (fun W => W.cell? ⟨w.heap.size + 1, 0, none⟩ = some (.int .u8 4) ∧ W.cell? ⟨w.heap.size + 1, 1, none⟩ = some (.bool px) ∧ W.cell? ⟨w.heap.size + 1, 2, none⟩ = some (.int .u8 pt) ∧ W.cell? ⟨w.heap.size + 1, 3, none⟩ = some (.slice pa pn pc) ∧ W.cell? ⟨w.heap.size + 1, 4, none⟩ = some (.bool y) ∧ W.cell? ⟨w.heap.size + 1, 5, none⟩ = some (.bool gx) ∧ W.cell? ⟨w.heap.size + 1, 6, none⟩ = some (.int .u8 gt) ∧ W.cell? ⟨w.heap.size + 1, 7, none⟩ = some (.slice ga gn gc) ∧ W.cell? ⟨w.heap.size + 1, 8, none⟩ = some (.int .u8 (lu : Int)) ∧ W.cell? ⟨w.heap.size + 1, 9, none⟩ = some (.int .u8 (ho : Int)) ∧ W.cell? ⟨w.heap.size + 1, 10, none⟩ = some (.int .i64 s))) (by kernel_rfl) (SK.out _ (X2.out.ndb.next ((Below.refl _ _).drew))) (fun hHeld => ?_)
    clear v0 v1 v2 v3 v4 v5 v6 v7 v8 v9 v10 zN
    refine wpAnyH_take (i := 0) (v := ?_) rfl (by kernel_rfl) (by kernel_rfl) (by kernel_rfl) (fun _ _ _ h => h) (Or.inl ⟨by rfl, ?_⟩) (by assumption) ?_
    rotate_left
    · (intro W hSw; simp only [List.getElem_toArray, List.getElem_cons_zero]; (try dsimp only at hSw); go_simp; with_reducible rfl)
    (try simp only [List.getElem_toArray, List.getElem_cons_zero, Act.put, List.setIfInBounds_toArray, List.set_cons_zero, List.set_cons_succ])
    refine wpAnyH_take (i := 1) (v := ?_) rfl (by kernel_rfl) (by kernel_rfl) (by kernel_rfl) (fun _ _ _ h => h) (Or.inl ⟨by rfl, ?_⟩) (by assumption) ?_
    rotate_left
    · (intro W hSw; simp only [List.getElem_toArray, List.getElem_cons_succ, List.getElem_cons_zero]; (try dsimp only at hSw); go_simp; with_reducible rfl)
    (try simp only [List.getElem_toArray, List.getElem_cons_succ, List.getElem_cons_zero, Act.put, List.setIfInBounds_toArray, List.set_cons_zero, List.set_cons_succ])
    refine wpAnyH_take (i := 2) (v := ?_) rfl (by kernel_rfl) (by kernel_rfl) (by kernel_rfl) (fun _ _ _ h => h) (Or.inl ⟨by rfl, ?_⟩) (by assumption) ?_
    rotate_left
    · (intro W hSw; simp only [List.getElem_toArray, List.getElem_cons_succ, List.getElem_cons_zero]; (try dsimp only at hSw); go_simp; with_reducible rfl)
    (try simp only [List.getElem_toArray, List.getElem_cons_succ, List.getElem_cons_zero, Act.put, List.setIfInBounds_toArray, List.set_cons_zero, List.set_cons_succ])
    refine wpAnyH_take (i := 3) (v := ?_) rfl (by kernel_rfl) (by kernel_rfl) (by kernel_rfl) (fun _ _ _ h => h) (Or.inl ⟨by rfl, ?_⟩) (by assumption) ?_
    rotate_left
    · (intro W hSw; simp only [List.getElem_toArray, List.getElem_cons_succ, List.getElem_cons_zero]; (try dsimp only at hSw); go_simp; with_reducible rfl)
    (try simp only [List.getElem_toArray, List.getElem_cons_succ, List.getElem_cons_zero, Act.put, List.setIfInBounds_toArray, List.set_cons_zero, List.set_cons_succ])
    refine wpAnyH_take (i := 4) (v := ?_) rfl (by kernel_rfl) (by kernel_rfl) (by kernel_rfl) (fun _ _ _ h => h) (Or.inl ⟨by rfl, ?_⟩) (by assumption) ?_
    rotate_left
    · (intro W hSw; simp only [List.getElem_toArray, List.getElem_cons_succ, List.getElem_cons_zero]; (try dsimp only at hSw); go_simp; with_reducible rfl)
    (try simp only [List.getElem_toArray, List.getElem_cons_succ, List.getElem_cons_zero, Act.put, List.setIfInBounds_toArray, List.set_cons_zero, List.set_cons_succ])
    refine wpAnyH_take (i := 5) (v := ?_) rfl (by kernel_rfl) (by kernel_rfl) (by kernel_rfl) (fun _ _ _ h => h) (Or.inl ⟨by rfl, ?_⟩) (by assumption) ?_
    rotate_left
    · (intro W hSw; simp only [List.getElem_toArray, List.getElem_cons_succ, List.getElem_cons_zero]; (try dsimp only at hSw); go_simp; with_reducible rfl)
    (try simp only [List.getElem_toArray, List.getElem_cons_succ, List.getElem_cons_zero, Act.put, List.setIfInBounds_toArray, List.set_cons_zero, List.set_cons_succ])
    refine wpAnyH_take (i := 7) (v := ?_) rfl (by kernel_rfl) (by kernel_rfl) (by kernel_rfl) (fun _ _ _ h => h) (Or.inl ⟨by rfl, ?_⟩) (by assumption) ?_
    rotate_left
    · (intro W hSw; simp only [List.getElem_toArray, List.getElem_cons_succ, List.getElem_cons_zero]; (try dsimp only at hSw); go_simp; with_reducible rfl)
    (try simp only [List.getElem_toArray, List.getElem_cons_succ, List.getElem_cons_zero, Act.put, List.setIfInBounds_toArray, List.set_cons_zero, List.set_cons_succ])
    refine wpAnyH_take (i := 8) (v := ?_) rfl (by kernel_rfl) (by kernel_rfl) (by kernel_rfl) (fun _ _ _ h => h) (Or.inl ⟨by rfl, ?_⟩) (by assumption) ?_
    rotate_left
    · (intro W hSw; simp only [List.getElem_toArray, List.getElem_cons_succ, List.getElem_cons_zero]; (try dsimp only at hSw); go_simp; with_reducible rfl)
    (try simp only [List.getElem_toArray, List.getElem_cons_succ, List.getElem_cons_zero, Act.put, List.setIfInBounds_toArray, List.set_cons_zero, List.set_cons_succ])
    refine wpAnyH_take (i := 9) (v := ?_) rfl (by kernel_rfl) (by kernel_rfl) (by kernel_rfl) (fun _ _ _ h => h) (Or.inl ⟨by rfl, ?_⟩) (by assumption) ?_
    rotate_left
    · (intro W hSw; simp only [List.getElem_toArray, List.getElem_cons_succ, List.getElem_cons_zero]; (try dsimp only at hSw); go_simp; with_reducible rfl)
    (try simp only [List.getElem_toArray, List.getElem_cons_succ, List.getElem_cons_zero, Act.put, List.setIfInBounds_toArray, List.set_cons_zero, List.set_cons_succ])
    refine wpAnyH_ready (rs := [6]) (by kernel_rfl) (by simp) ?_
    refine AllReadyH.cons rfl (fun K hK => ?_) AllReadyH.nil
    (try simp only [List.getElem_toArray, List.getElem_cons_succ, List.getElem_cons_zero])
    go_simp
    go_at_call 84
    refine (RP.out 1).mono ?_
    rintro e w3 ⟨rfl, hv, hb⟩
    have X3 := Lib.hid (X2.out.next ((below_drewN w2.heap.size w2 1).trans hb))
    have PR3 := Lib.hid (PrT.rep ho A0 C0 PRR.out HP0.out hv)
    have CD := Lib.hid (CC.out w3 _ ho (HW.out.trans (X3.out.kr.o.mono hrb)) X3.out.mkk PR3.out)
    clear hv hb RP CC
    refine hK.out _ _ (SK.out _ X3.out.ndb) (fun hHeld => ?_)
    (try simp only [List.getElem_toArray, List.getElem_cons_succ, List.getElem_cons_zero, Act.put, List.setIfInBounds_toArray, List.set_cons_zero, List.set_cons_succ])
    refine wpAnyH_ready (rs := [10]) (by kernel_rfl) (by simp) ?_
    refine AllReadyH.cons rfl (fun K hK => ?_) AllReadyH.nil
    (try simp only [List.getElem_toArray, List.getElem_cons_succ, List.getElem_cons_zero])
    go_simp
    go_at_call 82
    refine CD.out.mono ?_
    rintro e w4 ⟨rfl, hMk, hKa⟩
    have X4 := Lib.hid (X3.out.ka hKa zr hMk)
    clear hMk hKa CD PR3
    refine hK.out _ _ (SK.out _ X4.out.ndb) (fun hHeld => ?_)
    obtain ⟨c0, c1, cf⟩ := X4.out.res.cells
    have f0 := cf 0
    have f1 := cf 1
    have z3 := X4.out.res.lt
    have NF := Lib.hid ((X4.out.ndb.other w.heap.size 0 (.int .u32 (r1 : Int)) (by omega)).other w.heap.size 1 (.int .u32 (r2 : Int)) (by omega))
    have MF := Lib.hid (Mk.eset (Mk.eset X4.out.mkk X4.out.res 0 (.int .u32 (r1 : Int))) (X4.out.res.set0 r1) 1 (.int .u32 (r2 : Int)))
    have KF := Lib.hid ((X4.out.kr.loc w.heap.size 0 (.int .u32 (r1 : Int)) (Nat.le_refl _) zr).loc w.heap.size 1 (.int .u32 (r2 : Int)) (Nat.le_refl _) zr)
    clear cf
    refine wpAnyH_ready (rs := [11]) (by kernel_rfl) (by simp) ?_
    refine AllReadyH.cons rfl (fun K hK => ?_) AllReadyH.nil
    (try simp only [List.getElem_toArray, List.getElem_cons_succ, List.getElem_cons_zero])
    go_simp
    refine hK.out _ _ (SK.out _ NF.out) (fun hHeld => ?_)
    refine wpAnyH_done (by kernel_rfl) ?_ _
    refine NoPanic.normal ?_
    clear X4 X3 X2 SK NF hHeld hK
    go_wp2_with fail
    refine bodyPost_ret (v := ev2 r1 r2) (by simp [results, Tryz.results44, go_sem, *]) rfl ⟨rfl, MF.out, KF.out⟩
theorem pat_any (wb : World) (r : Nat) (hrb : wb.heap.size ≤ r) (hT : Tab5 wb) (k : Nat) : ∀ (l : List Nd), fmd k l = true → frn l = l → l.length ≤ 256 → AC wb r (au k) l := by
  induction k with
  | zero => intro l h; cases h
  | succ k ih =>
    intro l h hf hl
    unfold fmd at h
    rw [Bool.and_eq_true] at h
    obtain ⟨x, q, ps, h1, h2, h3, h4⟩ := ofp_spl h.1
    rw [hf] at h1
    subst h1
    refine pat1 wb r k x q h.2 (Nat.le_trans (pts_len _) hl) hrb hT fun p hp => ?_
    have hm := pts_mem p hp
    exact ih p (List.all_eq_true.1 h4 p (by rw [← h3]; exact hp)) hm.2.1 (by have := hm.2.2.1; omega)
end Go.Proofs.YtpnllbojifnopaaGreatDoor
