/- The contract of the document's Get. -/
import Derived.Test.YtjpdnojkgadklaaEvGet
namespace Go.Proofs.Ytjpdnojkgadklaa
open Go Go.RowKit Pk Rl
set_option maxRecDepth 20000

set_option maxHeartbeats 1000000 in
theorem reget_out (a : Option Addr) (len cap : Nat) (p : Int) (w : World) (h : p < 0 ∨ (len : Int) < p + 2) (hp : p ≤ 9223372036854775807) (hl : len ≤ 100000) :
    Calls Try.prog 18 #[.slice a len cap, .int .i64 p] w fun e w' => e = .returned (got3 (ev 0 none 0 0) 0 3) ∧ Below w.heap.size w w' := by
  by_cases c : p < 0
  · clear h
    go_enter Try.func18, Try.ntmps18
    go_wp2
    refine bodyPost_ret (v := got3 (ev 0 none 0 0) 0 3) ?_ rfl ⟨rfl, ((Below.refl w.heap.size w).alloc (Nat.le_refl _) _).alloc (by simp) _⟩
    simp [results, Try.results18, go_sem]
  · have h2 : (len : Int) - 2 < p := by omega
    clear h
    go_enter Try.func18, Try.ntmps18
    go_wp2
    refine bodyPost_ret (v := got3 (ev 0 none 0 0) 0 3) ?_ rfl ⟨rfl, ((Below.refl w.heap.size w).alloc (Nat.le_refl _) _).alloc (by simp) _⟩
    simp [results, Try.results18, go_sem]

set_option maxHeartbeats 2000000 in
theorem reget_many (b off len cap q : Nat) (y : Int) (w : World) (hq : q + 2 ≤ len) (hl : len ≤ 100000) (hy : w.cell? ⟨b, off + (q + 1), none⟩ = some (.int .u8 y)) (h8 : 8 < y) :
    Calls Try.prog 18 #[.slice (some ⟨b, off, none⟩) len cap, .int .i64 (q : Int)] w fun e w' => e = .returned (got3 (ev 0 none 0 0) 0 12) ∧ Below w.heap.size w w' := by
  have hb := World.block_lt_of_cell? _ _ hy
  have tq : decide ((q : Int) < 0) = false := by simp
  have t2 : decide ((len : Int) - 2 < (q : Int)) = false := by simp; omega
  go_enter Try.func18, Try.ntmps18
  go_wp2
  refine bodyPost_ret (v := got3 (ev 0 none 0 0) 0 12) ?_ rfl ⟨rfl, ((Below.refl w.heap.size w).alloc (Nat.le_refl _) _).alloc (by simp) _⟩
  simp [results, Try.results18, go_sem]

theorem Grow.start3 (w : World) (x : Int) : Grow w (((w.alloc (ecells 0 none 0 0)).alloc (ecells 0 none 0 0)).alloc (ecells x none 0 0)) w.heap.size (w.heap.size + 1 + 1) (w.heap.size + 1 + 1 + 1) x none 0 0 [] ∧ Evb (((w.alloc (ecells 0 none 0 0)).alloc (ecells 0 none 0 0)).alloc (ecells x none 0 0)) (w.heap.size + 1) 0 none 0 0 := by
  have h1 := ((Evb.alloc w 0 none 0 0).next (below_alloc _ (ecells 0 none 0 0))).next (below_alloc _ (ecells x none 0 0))
  have h2 := (Evb.alloc (w.alloc (ecells 0 none 0 0)) 0 none 0 0).next (below_alloc _ (ecells x none 0 0))
  have h3 := Evb.alloc ((w.alloc (ecells 0 none 0 0)).alloc (ecells 0 none 0 0)) x none 0 0
  simp only [World.size_alloc] at h2 h3
  exact ⟨⟨h1, h3, OwnV.nil _ _, below_go (below_go (below_alloc w _) (below_alloc _ _)) (below_alloc _ _), by omega, by omega, by omega, by omega, by omega, by omega, by simp⟩, h2⟩

set_option maxHeartbeats 8000000 in
theorem reget_in (b off len cap q n : Nat) (l : List Int) (x : Int) (w : World) (X : Int) (Fs : List VV) (Y : Int) (Z : Nat) (hq : q + 2 ≤ len) (hl : l.length = len) (hlen : len ≤ 100000) (hc : len ≤ cap) (hb : Byt w (some ⟨b, off, none⟩) l)
    (hx : w.cell? ⟨b, off + q, none⟩ = some (.int .u8 x)) (hy : w.cell? ⟨b, off + (q + 1), none⟩ = some (.int .u8 (n : Int))) (h8 : n ≤ 8) (HA : Hid (Ans x (gf l n ((q + 2 : Nat) : Int) []) X Fs Y Z)) :
    Calls Try.prog 18 #[.slice (some ⟨b, off, none⟩) len cap, .int .i64 (q : Int)] w fun e w' => ∃ A k c', e = .returned (got3 (ev X A k c') Y (Z : Int)) ∧ Fs.length = k ∧ OwnV w' w.heap.size (.slice A k c') Fs ∧ Below w.heap.size w w' := by
  have hlt := World.block_lt_of_cell? _ _ hx
  have hlt1 : b < w.heap.size + 1 := by have : b < w.heap.size := hlt; omega
  have hlt2 : b < w.heap.size + 1 + 1 := by omega
  have tq : decide ((q : Int) < 0) = false := by simp
  have t2 : decide ((len : Int) - 2 < (q : Int)) = false := by simp; omega
  have t8 : decide ((8 : Int) < (n : Int)) = false := by simp; omega
  have G0 := Lib.hid (Grow.start3 w x)
  have HL := Lib.hid hl
  have HB := Lib.hid hb
  have sf := run_store_float
  clear hl hb
  go_enter Try.func18, Try.ntmps18
  go_wp2_with fail
  clear hx hy
  go_loopw [10, 1] (fun i v W => ∃ (j p : Nat) (A : Option Addr) (k c' : Nat) (acc : List VV), i = .int .i64 j ∧ v = .int .i64 p ∧ j ≤ n ∧ p ≤ len ∧ k ≤ j ∧ Hid (Grow w W w.heap.size (w.heap.size + 1 + 1) (w.heap.size + 1 + 1 + 1) x A k c' acc ∧ Evb W (w.heap.size + 1) 0 none 0 0 ∧ acc.length = k ∧ gf l (n - j) (p : Int) acc = gf l n ((q + 2 : Nat) : Int) [])) (fun i _ _ => n - (intOf i).toNat)
  case atStart => exact ⟨0, q + 2, none, 0, 0, [], rfl, by simp, by omega, by omega, by omega, Lib.hid ⟨G0.out.1, G0.out.2, rfl, rfl⟩⟩
  case round =>
    obtain ⟨j, p, A, k, c', acc, rfl, rfl, hj, hp, hk, H⟩ := hrel
    clear G0
    have G1 := Lib.hid H.out.1
    have N1 := Lib.hid H.out.2.1
    have K1 := Lib.hid H.out.2.2.1
    have R1 := Lib.hid H.out.2.2.2
    clear H
    by_cases hjn : j < n
    · have V := Lib.hid (rvget_any (some ⟨b, off, none⟩) len cap l (p : Int) wr HL.out hlen hc (by omega) (HB.out.below G1.out.bel))
      by_cases hE : (vg l (p : Int)).2.2 = 0
      · obtain ⟨p', K, e1', e2', o⟩ := vg_only l (p : Int) HB.out.2 (by have := HL.out; omega) hE
        have hK : K ≤ len := by have := o.top; have := HL.out; omega
        have RS := Lib.hid (gf_good l (n - (j + 1)) (p : Int) acc hE)
        rw [show n - (j + 1) + 1 = n - j by omega, R1.out, e2'] at RS
        generalize hvv : vg l (p : Int) = g at V hE e2' RS
        obtain ⟨v, K', E⟩ := g
        obtain ⟨qk, m, r, s⟩ := v
        simp only at hE e2'
        subst hE
        subst e2'
        clear hvv o e1'
        have K2 := Lib.hid (show (acc ++ [(qk, m, r, s)]).length = k + 1 by rw [List.length_append, K1.out]; rfl)
        go_wp2_with fail
        refine V.out.mono ?_
        rintro e w2 ⟨rfl, hb2⟩
        have G2' := Lib.hid (G1.out.next hb2)
        have N4 := Lib.hid (((N1.out.next hb2).next (below_alloc w2 (vcells qk m r s))).next (below_alloc _ (.cells #[.int .u8 qk, .int .i64 m, .float .f64 r, .string s] 60)))
        have G4 := Lib.hid ((G2'.out.next (below_alloc w2 (vcells qk m r s))).next (below_alloc _ (.cells #[.int .u8 qk, .int .i64 m, .float .f64 r, .string s] 60)))
        clear hb2 V G1 N1
        have e1 := G2'.out.loc.evt.2
        have z1 : w.heap.size + 1 + 1 < w2.heap.size := G2'.out.loc.lt
        have VV1 := Lib.hid (Vals.one (w2.alloc (vcells qk m r s)) (qk, m, r, s))
        rw [World.size_alloc] at VV1
        go_wp2_with (at_builtin; refine wp_appv (.tmp 62) (.tmp 64) _ rfl rfl (w.heap.size + 1 + 1 + 1) _ acc rfl G4.out.own _ 1 1 [(qk, m, r, s)] rfl rfl VV1.out (by intro h; cases h) (k + 1) K2.out (by omega) G4.out.big ?_; intro A5 c5 w5 hO5 hb5; have G5 := Lib.hid (G4.out.step hO5 hb5); have N5 := Lib.hid ((N4.out.below hb5 (by omega)).other (w.heap.size + 1 + 1) 1 (.slice A5 (k + 1) c5) (by omega)); have L5 := G4.out.loc.below hb5 (by omega); have y1 := L5.evt.2; have y2 := L5.free 1; clear L5 hO5 hb5)
        clear y1 y2 G4 N4 G2' VV1 e1 z1
        go_roundw
        case rel => exact ⟨j + 1, K, A5, k + 1, c5, acc ++ [(qk, m, r, s)], by go_num, rfl, by omega, hK, by omega, Lib.hid ⟨G5.out, N5.out, K2.out, RS.out.symm⟩⟩
        case measure => simp [intOf]; omega
      · have RS := Lib.hid (gf_bad l (n - (j + 1)) (p : Int) acc hE)
        rw [show n - (j + 1) + 1 = n - j by omega, R1.out] at RS
        have VB := vg_bad l (p : Int) hE
        have AN := HA.out.bad (by rw [RS.out]; exact hE)
        rw [RS.out] at AN
        obtain ⟨rfl, rfl, hz, rfl⟩ := AN
        generalize vg l (p : Int) = g at V hE RS VB hz
        obtain ⟨v, K', E⟩ := g
        simp only at hE VB hz
        subst hz
        subst VB
        clear HA RS R1
        have tE : ((Z : Int) == 0) = false := by simp; omega
        go_wp2_with fail
        refine V.out.mono ?_
        rintro e w2 ⟨rfl, hb2⟩
        have G3 := Lib.hid ((G1.out.next hb2).next (below_alloc w2 (vcells 0 0 0 ⟨#[]⟩)))
        have G2' := Lib.hid (G1.out.next hb2)
        have N2 := Lib.hid (N1.out.next hb2)
        clear hb2 V G1 N1
        obtain ⟨r0, r1⟩ := G2'.out.res.evt
        obtain ⟨n0, n1⟩ := N2.out.evt
        have g0 := G2'.out.res.free 0
        have g1 := G2'.out.res.free 1
        have z1 : w.heap.size < w2.heap.size := G2'.out.res.lt
        have z2 : w.heap.size + 1 < w2.heap.size := N2.out.lt
        have BB := Lib.hid (below_go (G2'.out.done (.int .u8 0) (.slice none 0 0)).2 (below_alloc _ (vcells 0 0 0 ⟨#[]⟩)))
        have B2 := Lib.hid ((G3.out.done (.int .u8 0) (.slice none 0 0)).2)
        clear G3 G2' N2
        go_wp2_with fail
        first
          | exact bodyPost_ret (v := got3 (ev 0 none 0 0) 0 (Z : Int)) (by simp [results, Try.results18, go_sem, *]) rfl ⟨none, 0, 0, rfl, rfl, OwnV.nil _ _, BB.out⟩
          | exact bodyPost_ret (v := got3 (ev 0 none 0 0) 0 (Z : Int)) (by simp [results, Try.results18, go_sem, *]) rfl ⟨none, 0, 0, rfl, rfl, OwnV.nil _ _, B2.out⟩
    · obtain rfl : j = n := by omega
      rw [Nat.sub_self, gf_zero] at R1
      have AN := HA.out.good (by rw [← R1.out])
      rw [← R1.out] at AN
      simp only at AN
      obtain ⟨rfl, rfl, rfl, rfl⟩ := AN
      have DD := Lib.hid (G1.out.done (.int .u8 X) (.slice A k c'))
      obtain ⟨e0, e1⟩ := G1.out.loc.evt
      obtain ⟨r0, r1⟩ := G1.out.res.evt
      have g0 := G1.out.res.free 0
      have g1 := G1.out.res.free 1
      clear HA R1 G1 N1
      go_wp2_with fail
      exact bodyPost_ret (v := got3 (ev X A k c') (p : Int) 0) (by simp [results, Try.results18, go_sem, *]) rfl ⟨A, k, c', rfl, K1.out, DD.out.1, DD.out.2⟩

theorem reget_any (a : Option Addr) (len cap : Nat) (l : List Int) (p : Int) (w : World) (hl : l.length = len) (hm : len ≤ 100000) (hc : len ≤ cap) (h1 : p ≤ 9223372036854775807) (hb : Byt w a l) :
    Calls Try.prog 18 #[.slice a len cap, .int .i64 p] w fun e w' => ∃ A k c', e = .returned (got3 (ev (eg l p).t A k c') (eg l p).k ((eg l p).e : Int)) ∧ (eg l p).fs.length = k ∧ OwnV w' w.heap.size (.slice A k c') (eg l p).fs ∧ Below w.heap.size w w' := by
  by_cases c : p < 0 ∨ (l.length : Int) < p + 2
  · rw [show eg l p = ⟨0, [], 0, 3⟩ by unfold eg; rw [if_pos c]]
    exact (reget_out a len cap p w (by rw [← hl]; exact c) h1 hm).mono fun e w' h => ⟨none, 0, 0, h.1, rfl, OwnV.nil _ _, h.2⟩
  · obtain ⟨q, rfl⟩ : ∃ q : Nat, p = (q : Int) := ⟨p.toNat, by omega⟩
    have hq : q + 2 ≤ len := by omega
    obtain ⟨b, off, rfl, hx⟩ := hb.1 q (by omega)
    obtain ⟨b', off', e, hy⟩ := hb.1 (q + 1) (by omega)
    injection e with e
    injection e with e1 e2 _
    subst e1
    subst e2
    have r1 := getD_range l (q + 1) (by omega) hb.2
    by_cases c8 : 8 < l.getD (q + 1) 0
    · rw [show eg l (q : Int) = ⟨0, [], 0, 12⟩ by unfold eg; rw [if_neg c, show ((q : Int) + 1).toNat = q + 1 by omega, if_pos c8]]
      exact (reget_many b off len cap q _ w hq hm hy c8).mono fun e w' h => ⟨none, 0, 0, h.1, rfl, OwnV.nil _ _, h.2⟩
    · obtain ⟨n, hn⟩ : ∃ n : Nat, l.getD (q + 1) 0 = (n : Int) := ⟨(l.getD (q + 1) 0).toNat, by omega⟩
      rw [hn] at hy c8
      refine reget_in b off len cap q n l _ w _ _ _ _ hq hl hm hc hb hx hy (by omega) (Lib.hid ?_)
      have e : eg l (q : Int) = if (gf l n ((q + 2 : Nat) : Int) []).2.2 = 0 then ⟨l.getD q 0, (gf l n ((q + 2 : Nat) : Int) []).1, (gf l n ((q + 2 : Nat) : Int) []).2.1, 0⟩ else ⟨0, [], 0, (gf l n ((q + 2 : Nat) : Int) []).2.2⟩ := by
        unfold eg
        rw [if_neg c, show ((q : Int) + 1).toNat = q + 1 by omega, hn, if_neg (by omega), Int.toNat_natCast, Int.toNat_natCast, show ((q : Int) + 2) = ((q + 2 : Nat) : Int) by omega]
      rw [e]
      exact ⟨fun h => by rw [if_pos h]; exact ⟨rfl, rfl, rfl, rfl⟩, fun h => by rw [if_neg h]; exact ⟨rfl, rfl, rfl, rfl⟩⟩
end Go.Proofs.Ytjpdnojkgadklaa
