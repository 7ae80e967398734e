/- Whether a test holds of fields: the program's and the document's. -/
import Derived.Test.YtiddpoihhfphmaaDoorPdS
import Derived.Test.YtiddpoihhfphmaaDoorVlRCmp
namespace Go.Proofs.YtiddpoihhfphmaaDoor
open Go Go.RowKit Pk Rl
set_option maxRecDepth 20000

def cmo (o : Nat) (c : Int) : Bool := if o = 1 then decide (c = 0) else if o = 2 then decide (c ≠ 0) else if o = 3 then decide (c < 0) else if o = 4 then decide (c ≤ 0) else if o = 5 then decide (0 < c) else decide (0 ≤ c)
theorem cmo_table (o : Nat) (c : Int) (h1 : 1 ≤ o) (h6 : o ≤ 6) : (if c < 0 then sy o 3 else if 0 < c then sy o 5 else sy o 4) = cmo o c := by
  obtain rfl | rfl | rfl | rfl | rfl | rfl : o = 1 ∨ o = 2 ∨ o = 3 ∨ o = 4 ∨ o = 5 ∨ o = 6 := by omega
  all_goals
    by_cases k0 : c < 0
    · simp [k0, cmo, sy, says]; try omega
    · by_cases k3 : 0 < c
      · simp [k0, k3, cmo, sy, says]; try omega
      · obtain rfl : c = 0 := by omega
        decide
def pfx (s p : ByteArray) : Bool := decide (p.size ≤ s.size) && ((s.extract 0 p.size).toList == p.toList)
set_option maxHeartbeats 400000 in
theorem slPrefix_any (s p : ByteArray)  (w : World) :
    Calls Tryd.prog 70 #[.string s, .string p] w fun e w' => e = .returned (.bool (pfx s p)) ∧ w = w' := by
  obtain ⟨q, hq⟩ : ∃ q, pfx s p = q := ⟨_, rfl⟩
  rw [hq]
  have HQ := Lib.hid hq
  clear hq
  go_enter Tryd.func70, Tryd.ntmps70
  by_cases c : p.size ≤ s.size
  · have c1 : (p.size : Int) ≤ (s.size : Int) := by omega
    go_wp2_with fail
    go_ret
    exact ⟨ret_bool (by rw [← HQ.out]; unfold pfx; rw [decide_eq_true c]; rfl), rfl⟩
  · have c1 : ¬ (p.size : Int) ≤ (s.size : Int) := by omega
    go_wp2_with fail
    go_ret
    exact ⟨ret_bool (by rw [← HQ.out]; unfold pfx; rw [decide_eq_false c]; rfl), rfl⟩
set_option maxHeartbeats 400000 in
theorem comesOut_any (s0 s1 s2 s3 s4 s5 : Bool) (c : Int) (w : World) :
    Calls Tryd.prog 52 #[.agg #[.bool s0, .bool s1, .bool s2, .bool s3, .bool s4, .bool s5], .int .i64 c] w fun e w' => e = .returned (.bool (if c < 0 then s3 else if 0 < c then s5 else s4)) ∧ Below w.heap.size w w' := by
  have B0 := Lib.hid (below_alloc w (.cells #[.bool s0, .bool s1, .bool s2, .bool s3, .bool s4, .bool s5] 91))
  obtain ⟨q, hq⟩ : ∃ q, (if c < 0 then s3 else if 0 < c then s5 else s4) = q := ⟨_, rfl⟩
  rw [hq]
  have HQ := Lib.hid hq
  clear hq
  by_cases c0 : c < 0
  · rw [if_pos c0] at HQ
    go_enter Tryd.func52, Tryd.ntmps52
    go_wp2_with fail
    go_ret
    exact ⟨ret_bool HQ.out, B0.out⟩
  · rw [if_neg c0] at HQ
    by_cases c1 : 0 < c
    · rw [if_pos c1] at HQ
      go_enter Tryd.func52, Tryd.ntmps52
      go_wp2_with fail
      go_ret
      exact ⟨ret_bool HQ.out, B0.out⟩
    · rw [if_neg c1] at HQ
      go_enter Tryd.func52, Tryd.ntmps52
      go_wp2_with fail
      go_ret
      exact ⟨ret_bool HQ.out, B0.out⟩
theorem prefix_any (s p : ByteArray)  (w : World) :
    Calls Tryd.prog 50 #[.string s, .string p] w fun e w' => e = .returned (.bool (pfx s p)) ∧ w = w' := by
  have H := Lib.hid (slPrefix_any s p)
  generalize pfx s p = q at H
  go_enter Tryd.func50, Tryd.ntmps50
  go_wp2_with fail
  refine (H.out _).mono ?_
  rintro e w2 ⟨rfl, rfl⟩
  go_wp2_with fail
  go_ret
  exact ⟨rfl, rfl⟩

abbrev crv (v u : VV) : Int × Bool := cr v.1 v.2.1 v.2.2.1 v.2.2.2 u.1 u.2.1 u.2.2.1 u.2.2.2
def hdv (o : Nat) (v u : VV) : Bool := if o = 7 then decide (v.1 ≠ 0) else if o = 8 then (decide (v.1 = 3) && pfx v.2.2.2 u.2.2.2) else ((crv v u).2 && cmo o (crv v u).1)
def hdf (t : TT) (L : List VV) : Bool := if t.1.toNat < L.length then hdv t.2.1.toNat (L.getD t.1.toNat vz) t.2.2 else false

set_option maxHeartbeats 2000000 in
theorem holdsOf_walk (f o : Nat) (u v : VV) (b off len cap : Nat) (w : World) (hf : f < len) (h256 : f < 256) (h1 : 1 ≤ o) (h8 : o ≤ 8) (hT : Tab w) (hA : Atv w b (off + f * 4) v) (hu : Okv u) (hv : Okv v) :
    Calls Tryd.prog 29 #[tOf ((f : Int), (o : Int), u), .slice (some ⟨b, off, none⟩) len cap] w fun e w' => e = .returned (.bool (hdv o v u)) ∧ Below w.heap.size w w' := by
  have T0 := Lib.hid (Tbx.start w ((f : Int), (o : Int), u))
  have C := Lib.hid (vcmp_any v.1 v.2.1 v.2.2.1 v.2.2.2 u.1 u.2.1 u.2.2.1 u.2.2.2 hv.n0 hv.n1 hv.re hu.n0 hu.n1 hu.re)
  have P := Lib.hid (prefix_any v.2.2.2 u.2.2.2)
  have HT := Lib.hid (hT.below (below_alloc w (tobj ((f : Int), (o : Int), u))))
  have sf := run_store_float
  obtain ⟨c0, c1, c2, c3⟩ := hA
  have zb : b < w.heap.size := World.block_lt_of_cell? _ _ c0
  obtain ⟨R, hR⟩ : ∃ R, hdv o v u = R := ⟨_, rfl⟩
  rw [hR]
  have HR := Lib.hid hR
  have HF := Lib.hid hf
  have B1 := Lib.hid (below_go T0.out.bel (below_alloc _ (vcells v.1 v.2.1 v.2.2.1 v.2.2.2)))
  have T1 := Lib.hid (T0.out.next (below_alloc _ (vcells v.1 v.2.1 v.2.2.1 v.2.2.2)))
  have HT1 := Lib.hid (HT.out.below (below_alloc _ (vcells v.1 v.2.1 v.2.2.1 v.2.2.2)))
  clear hT hu hv hR HT T0
  unfold hdv crv at HR
  obtain ⟨k, n, r, s⟩ := v
  obtain ⟨k', n', r', s'⟩ := u
  obtain ⟨X, hX⟩ : ∃ X, cr k n r s k' n' r' s' = X := ⟨_, rfl⟩
  obtain ⟨x, ok⟩ := X
  simp only [hX] at C HR
  clear hX
  obtain ⟨pf, hpf⟩ : ∃ pf, pfx s s' = pf := ⟨_, rfl⟩
  simp only [hpf] at P HR
  clear hpf
  have q7 : ((o : Int) == 7) = decide (o = 7) := by rw [Bool.eq_iff_iff]; simp; omega
  have q8 : ((o : Int) == 8) = decide (o = 8) := by rw [Bool.eq_iff_iff]; simp; omega
  by_cases o7 : o = 7
  · subst o7
    rw [if_pos rfl] at HR
    clear C P q7 q8
    go_enter Tryd.func29, Tryd.ntmps29
    go_wp2_with fail
    go_ret
    exact ⟨ret_bool (by rw [← HR.out, Bool.eq_iff_iff]; simp), B1.out⟩
  rw [if_neg o7] at HR
  rw [decide_eq_false o7] at q7
  by_cases o8 : o = 8
  · subst o8
    rw [if_pos rfl] at HR
    clear C q7 q8
    by_cases k3 : k = 3
    · subst k3
      rw [decide_eq_true rfl, Bool.true_and] at HR
      go_enter Tryd.func29, Tryd.ntmps29
      go_wp2_with fail
      refine (P.out _).mono ?_
      rintro e w2 ⟨rfl, rfl⟩
      go_wp2_with fail
      go_ret
      exact ⟨ret_bool HR.out, B1.out⟩
    · rw [decide_eq_false k3, Bool.false_and] at HR
      have q3 : (k == 3) = false := by simpa using k3
      clear P
      go_enter Tryd.func29, Tryd.ntmps29
      go_wp2_with fail
      go_ret
      exact ⟨ret_bool HR.out, B1.out⟩
  rw [if_neg o8] at HR
  rw [decide_eq_false o8] at q8
  clear P
  have ct := Lib.hid (cmo_table o x h1 (by omega))
  have ho9 : o < 9 := by omega
  obtain ⟨s0, e0⟩ : ∃ s0, sy o 0 = s0 := ⟨_, rfl⟩
  obtain ⟨s1, e1⟩ : ∃ s1, sy o 1 = s1 := ⟨_, rfl⟩
  obtain ⟨s2, e2⟩ : ∃ s2, sy o 2 = s2 := ⟨_, rfl⟩
  obtain ⟨s3, e3⟩ : ∃ s3, sy o 3 = s3 := ⟨_, rfl⟩
  obtain ⟨s4, e4⟩ : ∃ s4, sy o 4 = s4 := ⟨_, rfl⟩
  obtain ⟨s5, e5⟩ : ∃ s5, sy o 5 = s5 := ⟨_, rfl⟩
  rw [e3, e4, e5] at ct
  have CO := Lib.hid (comesOut_any s0 s1 s2 s3 s4 s5 x)
  rw [ct.out] at CO
  generalize cmo o x = y at CO HR
  have TB : Hid (∀ W, Tab W → W.cell? ⟨0, o * 6, none⟩ = some (.bool s0) ∧ W.cell? ⟨0, o * 6 + 1, none⟩ = some (.bool s1) ∧ W.cell? ⟨0, o * 6 + 2, none⟩ = some (.bool s2) ∧ W.cell? ⟨0, o * 6 + 3, none⟩ = some (.bool s3) ∧ W.cell? ⟨0, o * 6 + 4, none⟩ = some (.bool s4) ∧ W.cell? ⟨0, o * 6 + 5, none⟩ = some (.bool s5)) := Lib.hid fun W h => by
    refine ⟨?_, ?_, ?_, ?_, ?_, ?_⟩
    · rw [← e0]; exact h o 0 ho9 (by omega)
    · rw [← e1]; exact h o 1 ho9 (by omega)
    · rw [← e2]; exact h o 2 ho9 (by omega)
    · rw [← e3]; exact h o 3 ho9 (by omega)
    · rw [← e4]; exact h o 4 ho9 (by omega)
    · rw [← e5]; exact h o 5 ho9 (by omega)
  clear e0 e1 e2 e3 e4 e5 ct
  go_enter Tryd.func29, Tryd.ntmps29
  go_wp2_with fail
  refine (C.out _).mono ?_
  rintro e w2 ⟨rfl, hb⟩
  have T2 := Lib.hid (T1.out.next hb)
  have HT2 := Lib.hid (HT1.out.below hb)
  clear hb T1 HT1 C B1
  obtain ⟨f0, f1, f2, f3, f4, f5⟩ := T2.out.at_
  obtain ⟨g0, g1, g2, g3, g4, g5⟩ := TB.out _ HT2.out
  cases ok
  · go_wp2_with fail
    go_ret
    exact ⟨ret_bool (by rw [← HR.out]; rfl), T2.out.bel⟩
  · rw [Bool.true_and] at HR
    go_wp2_with fail
    refine (CO.out _).mono ?_
    rintro e w3 ⟨rfl, hb⟩
    have B3 := Lib.hid (below_go T2.out.bel hb)
    clear hb
    go_wp2_with fail
    go_ret
    exact ⟨ret_bool HR.out, B3.out⟩
set_option maxHeartbeats 400000 in
theorem holdsOf_out (f : Nat) (t : TT) (a : Option Addr) (len cap : Nat) (w : World) (h256 : f < 256) (hf : ¬ f < len) (e : t.1 = (f : Int)) :
    Calls Tryd.prog 29 #[tOf t, .slice a len cap] w fun e w' => e = .returned (.bool false) ∧ Below w.heap.size w w' := by
  obtain ⟨f', o, k, n, r, s⟩ := t
  have e' : f' = (f : Int) := e
  subst e'
  have B0 := Lib.hid (below_alloc w (tobj ((f : Int), o, k, n, r, s)))
  have c1 : (len : Int) ≤ (f : Int) := by omega
  clear e hf
  go_enter Tryd.func29, Tryd.ntmps29
  go_wp2_with fail
  go_ret
  exact ⟨rfl, B0.out⟩
theorem holdsOf_any (t : TT) (a : Option Addr) (len cap : Nat) (E : List VV) (w : World) (hn : E.length = len) (ht : Okt t) (h1 : 1 ≤ t.2.1) (h8 : t.2.1 ≤ 8) (hT : Tab w) (hA : Vals w a E) (hE : ∀ v ∈ E, Okv v) :
    Calls Tryd.prog 29 #[tOf t, .slice a len cap] w fun e w' => e = .returned (.bool (hdf t E)) ∧ Below w.heap.size w w' := by
  obtain ⟨f, o, u⟩ := t
  obtain ⟨g, rfl⟩ : ∃ q : Nat, f = (q : Int) := ⟨f.toNat, by have : 0 ≤ f := ht.f0; omega⟩
  obtain ⟨q, rfl⟩ : ∃ q : Nat, o = (q : Int) := ⟨o.toNat, by have : 0 ≤ o := ht.o0; omega⟩
  have h256 : (g : Int) < 256 := ht.f1
  have g1 : (1 : Int) ≤ (q : Int) := h1
  have g8 : (q : Int) ≤ 8 := h8
  unfold hdf
  simp only [Int.toNat_natCast]
  by_cases c : g < len
  · rw [if_pos (by omega)]
    obtain ⟨b, off, rfl, hAt⟩ := hA g (by omega)
    exact holdsOf_walk g q u _ b off len cap w c (by omega) (by omega) (by omega) hT hAt ht.v (hE _ (getD_mem E g (by omega)))
  · rw [if_neg (by omega)]
    exact holdsOf_out g _ a len cap w (by omega) c rfl

end Go.Proofs.YtiddpoihhfphmaaDoor
