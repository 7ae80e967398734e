/- What a node's kind names, read: all kinds. -/
import Derived.Test.YtilgoghnoeohnaaDoorCdV
namespace Go.Proofs.YtilgoghnoeohnaaDoor
open Go Go.RowKit Pk Rl
set_option maxRecDepth 20000

/- what a node's first byte and what its kind names tell of it -/
structure Gm (w0 W : World) (x nd : Nd) : Prop where
  k : nd.k = x.k
  y : nd.y = x.y
  g : nd.g = qz
  s : nd.s = 0
  lo : nd.lo = x.lo
  hi : nd.hi = x.hi
  p : vq nd.p = zq x.p
  len : nd.p.L.length = nd.p.n
  few : nd.p.n ≤ 10
  own : OwnT W w0.heap.size (.slice nd.p.a nd.p.n nd.p.c) nd.p.L
theorem qno_zq {q : Qu} (h : qno q = true) (hl : q.L.length = q.n) : zq q = (false, 0, []) := by
  obtain ⟨x, t, a, n, c, L⟩ := q
  unfold qno at h
  simp only [Bool.and_eq_true, decide_eq_true_eq, Bool.not_eq_true'] at h
  obtain ⟨⟨rfl, rfl⟩, rfl⟩ := h
  have : L = [] := List.eq_nil_of_length_eq_zero hl
  subst this
  rfl
theorem byt_at {w : World} {b off : Nat} {l : List Int} (h : Byt w (some ⟨b, off, none⟩) l) (i : Nat) (hi : i < l.length) : w.cell? ⟨b, off + i, none⟩ = some (.int .u8 (l.getD i 0)) := by
  obtain ⟨b', off', e, hc⟩ := h.1 i hi
  injection e with e
  injection e with e1 e2
  subst e1 e2
  rw [List.getD_eq_getElem?_getD, List.getElem?_eq_getElem hi]
  simpa [List.getD_eq_getElem?_getD, List.getElem?_eq_getElem hi] using hc
theorem named_any (b off len cap ee : Nat) (l z : List Int) (x : Nd) (m : Nat) (r g : Nat) (A2 : Option Addr) (m2 c2 : Nat) (w : World) (h : Rb w r (.slice (some ⟨b, off, none⟩) len cap) (l.length : Int) (.slice A2 m2 c2)) (hn : NB w g { nz with k := x.k, y := x.y }) (hgr : g ≠ r) (hbr : b ≠ r) (hkd : kd x m = true) (hm : m < 256)
    (hee : (l ++ nmid x m).length = ee) (hlen : (l ++ (nmid x m ++ z)).length = len) (hl : len ≤ 100000) (hc : len ≤ cap) (hb : Byt w (some ⟨b, off, none⟩) (l ++ (nmid x m ++ z))) (hf : Nfit w x) (hT : Tab w) :
    Calls Tryd.prog 43 #[.pointer (some ⟨r, 0, none⟩), .pointer (some ⟨g, 0, none⟩)] w fun e w' => ∃ nd, e = .returned (.tuple #[.int .i64 (m : Int), .int .i64 0]) ∧ Gm w w' x nd ∧ Rb w' r (.slice (some ⟨b, off, none⟩) len cap) (ee : Int) (.slice A2 m2 c2) ∧ NB w' g nd ∧ Fr r g w w' := by
  have hpl := hf.ok.p.len
  have hpf := hf.ok.p.few
  unfold kd at hkd
  by_cases c1 : x.k = 1
  · rw [if_pos c1] at hkd
    simp only [Bool.and_eq_true, decide_eq_true_eq, Bool.not_eq_true'] at hkd
    obtain ⟨⟨⟨⟨rfl, _⟩, _⟩, e3⟩, e4⟩ := hkd
    have en : nmid x 0 = wpd x.p.x x.p.t x.p.L := by unfold nmid; rw [if_pos c1]
    rw [en] at hee hlen hb
    refine (named_1 b off len cap ee l z x.p r g _ A2 m2 c2 w h hn c1 hgr hee hlen hl hc hb hf.ok.p.ok hT hf.pm).mono ?_
    rintro e w' ⟨A, k, c, rfl, hk, ho, hR, hN, hF⟩
    exact ⟨⟨x.k, ⟨x.p.x, x.p.t, A, k, c, x.p.L.map nt⟩, x.y, qz, 0, 0, 0⟩, rfl, ⟨rfl, rfl, rfl, rfl, e3.symm, e4.symm, rfl, hk, by show k ≤ 10; rw [List.length_map] at hk; omega, ho⟩, hR, hN, hF⟩
  · rw [if_neg c1] at hkd
    by_cases c4 : x.k = 4
    · have n2 : ¬ x.k = 2 := by omega
      have n3 : ¬ x.k = 3 := by omega
      rw [if_neg n2, if_neg n3, if_pos c4] at hkd
      simp only [Bool.and_eq_true, decide_eq_true_eq, Bool.or_eq_true] at hkd
      obtain ⟨⟨⟨⟨⟨rfl, q1⟩, _⟩, e1⟩, e2⟩, e3⟩ := hkd
      have en : nmid x 1 = [x.lo, x.hi] := by unfold nmid; rw [if_neg c1, if_pos c4]
      rw [en] at hee hlen hb
      have e5 : l.length + 2 = ee := by rw [← hee]; simp
      have hll : (l ++ ([x.lo, x.hi] ++ z)).length = l.length + 2 + z.length := by simp; omega
      have c0 := byt_at hb l.length (by omega)
      have c5 := byt_at hb (l.length + 1) (by omega)
      rw [List.getD_eq_getElem?_getD, List.getElem?_append_right (by omega), Nat.sub_self] at c0
      rw [List.getD_eq_getElem?_getD, List.getElem?_append_right (by omega), show l.length + 1 - l.length = 1 by omega] at c5
      refine (named_4 b off len cap l.length x.lo x.hi r g _ A2 m2 c2 w h hn c4 (by omega) hl hc c0 c5 hbr hgr e1 e2 e3).mono ?_
      rintro e w' ⟨rfl, hR, hN, hF⟩
      rw [e5] at hR
      exact ⟨⟨x.k, qz, x.y, qz, x.lo, x.hi, 0⟩, rfl, ⟨rfl, rfl, rfl, rfl, rfl, rfl, (qno_zq q1 hpl).symm, rfl, Nat.zero_le _, OwnT.nil _ _⟩, hR, hN, hF⟩
    · have hk23 : x.k = 2 ∨ x.k = 3 := by have := hf.k0; have := hf.k4; omega
      have hk5 : 2 ≤ m ∧ qno x.p = true ∧ x.lo = 0 ∧ x.hi = 0 := by
        rcases hk23 with e | e
        · rw [if_pos e] at hkd
          simp only [Bool.and_eq_true, decide_eq_true_eq, Bool.or_eq_true] at hkd
          exact ⟨hkd.1.1.1.1, hkd.1.1.1.2, hkd.1.2, hkd.2⟩
        · rw [if_neg (by omega), if_pos e] at hkd
          simp only [Bool.and_eq_true, decide_eq_true_eq] at hkd
          exact ⟨hkd.1.1.1.1.1, hkd.1.1.1.1.2, hkd.1.2, hkd.2⟩
      obtain ⟨m0, q1, e3, e4⟩ := hk5
      have en : nmid x m = [(m : Int)] := by unfold nmid; rw [if_neg c1, if_neg c4]
      rw [en] at hee hlen hb
      have e5 : l.length + 1 = ee := by rw [← hee]; simp
      have hll : (l ++ ([(m : Int)] ++ z)).length = l.length + 1 + z.length := by simp; omega
      have c0 := byt_at hb l.length (by omega)
      rw [List.getD_eq_getElem?_getD, List.getElem?_append_right (by omega), Nat.sub_self] at c0
      refine (named_m b off len cap l.length m r g _ A2 m2 c2 w h hn hk23 (by omega) hl hc c0 hbr hgr m0 hm).mono ?_
      rintro e w' ⟨rfl, hR, hN, hF⟩
      rw [e5] at hR
      exact ⟨⟨x.k, qz, x.y, qz, 0, 0, 0⟩, rfl, ⟨rfl, rfl, rfl, rfl, e3.symm, e4.symm, (qno_zq q1 hpl).symm, rfl, Nat.zero_le _, OwnT.nil _ _⟩, hR, hN, hF⟩
end Go.Proofs.YtilgoghnoeohnaaDoor
