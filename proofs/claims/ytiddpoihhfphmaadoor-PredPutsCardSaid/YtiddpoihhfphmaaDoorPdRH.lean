/- Whether a test holds of fields: the document's. -/
import Derived.Test.YtiddpoihhfphmaaDoorPdH
namespace Go.Proofs.YtiddpoihhfphmaaDoor
open Go Go.RowKit Pk Rl
set_option maxRecDepth 20000

/- the document's -/
structure Hbx (w W : World) (t : TT) (x : Int) (a : Option Addr) (n c : Nat) : Prop where
  tst : Att W w.heap.size 0 t
  evt : Evt W (w.heap.size + 1) x a n c
  bel : Below w.heap.size w W
theorem Hbx.next {w W W' : World} {t : TT} {x : Int} {a : Option Addr} {n c : Nat} (h : Hbx w W t x a n c) (hb : Below W.heap.size W W') : Hbx w W' t x a n c := ⟨h.tst.below hb, h.evt.next hb, below_go h.bel hb⟩
theorem Hbx.start (w : World) (t : TT) (x : Int) (a : Option Addr) (n c : Nat) : Hbx w ((w.alloc (tobj t)).alloc (ecells x a n c)) t x a n c := by
  have h1 := (Tbx.start w t).next (below_alloc _ (ecells x a n c))
  have h2 := Evt.alloc (w.alloc (tobj t)) x a n c
  rw [World.size_alloc] at h2
  exact ⟨h1.at_, h2, h1.bel⟩
set_option maxHeartbeats 4000000 in
theorem rholds_walk (f o : Nat) (u v : VV) (x : Int) (b off len cap : Nat) (w : World) (hf : f < len) (h256 : f < 256) (h1 : 1 ≤ o) (h8 : o ≤ 8) (hA : Atv w b (off + f * 4) v) (hu : Okv u) (hv : Okv v) (hsu : u.2.2.2.size ≤ 1000000) (hsv : v.2.2.2.size ≤ 1000000) :
    Calls Tryd.prog 31 #[tOf ((f : Int), (o : Int), u), ev x (some ⟨b, off, none⟩) len cap] w fun e w' => e = .returned (.bool (hdv o v u)) ∧ Below w.heap.size w w' := by
  have T0 := Lib.hid (Hbx.start w ((f : Int), (o : Int), u) x (some ⟨b, off, none⟩) len cap)
  have C := Lib.hid (rcmp_any v.1 v.2.1 v.2.2.1 v.2.2.2 u.1 u.2.1 u.2.2.1 u.2.2.2 hv.k0 hu.k0 hv.n0 hv.n1 hv.re hu.n0 hu.n1 hu.re hsv hsu)
  have sf := run_store_float
  obtain ⟨c0, c1, c2, c3⟩ := hA
  have zb : b < w.heap.size := World.block_lt_of_cell? _ _ c0
  obtain ⟨R, hR⟩ : ∃ R, hdv o v u = R := ⟨_, rfl⟩
  rw [hR]
  have HR := Lib.hid hR
  have HF := Lib.hid hf
  have T1 := Lib.hid (T0.out.next (below_alloc _ (vcells v.1 v.2.1 v.2.2.1 v.2.2.2)))
  have B1 := Lib.hid T1.out.bel
  clear hu hv hR T0
  unfold hdv crv at HR
  obtain ⟨k, n, r, s⟩ := v
  obtain ⟨k', n', r', s'⟩ := u
  obtain ⟨X, hX⟩ : ∃ X, cr k n r s k' n' r' s' = X := ⟨_, rfl⟩
  obtain ⟨y, ok⟩ := X
  simp only [hX] at C HR
  clear hX
  have q7 : ((o : Int) == 7) = decide (o = 7) := by rw [Bool.eq_iff_iff]; simp; omega
  have q8 : ((o : Int) == 8) = decide (o = 8) := by rw [Bool.eq_iff_iff]; simp; omega
  by_cases o7 : o = 7
  · subst o7
    rw [if_pos rfl] at HR
    clear C q7 q8
    go_enter Tryd.func31, Tryd.ntmps31
    go_wp2_with fail
    go_ret
    exact ⟨ret_bool (by rw [← HR.out, Bool.eq_iff_iff]; simp), B1.out⟩
  rw [if_neg o7] at HR
  rw [decide_eq_false o7] at q7
  by_cases o8 : o = 8
  · subst o8
    rw [if_pos rfl] at HR
    clear C q7 q8
    by_cases k3 : k = 3
    · subst k3
      rw [decide_eq_true rfl, Bool.true_and] at HR
      unfold pfx at HR
      by_cases cc : s'.size ≤ s.size
      · rw [decide_eq_true cc, Bool.true_and] at HR
        have c1 : (s'.size : Int) ≤ (s.size : Int) := by omega
        go_enter Tryd.func31, Tryd.ntmps31
        go_wp2_with fail
        go_ret
        exact ⟨ret_bool HR.out, B1.out⟩
      · rw [decide_eq_false cc, Bool.false_and] at HR
        have c1 : ¬ (s'.size : Int) ≤ (s.size : Int) := by omega
        go_enter Tryd.func31, Tryd.ntmps31
        go_wp2_with fail
        go_ret
        exact ⟨ret_bool HR.out, B1.out⟩
    · rw [decide_eq_false k3, Bool.false_and] at HR
      have q3 : (k == 3) = false := by simpa using k3
      go_enter Tryd.func31, Tryd.ntmps31
      go_wp2_with fail
      go_ret
      exact ⟨ret_bool HR.out, B1.out⟩
  rw [if_neg o8] at HR
  rw [decide_eq_false o8] at q8
  have B2 := Lib.hid T1.out.bel
  cases ok
  · rw [Bool.false_and] at HR
    go_enter Tryd.func31, Tryd.ntmps31
    go_wp2_with fail
    refine (C.out _).mono ?_
    rintro e w2 ⟨rfl, hb⟩
    have B2 := Lib.hid (T1.out.next hb).bel
    clear hb T1 C
    go_wp2_with fail
    go_ret
    exact ⟨ret_bool HR.out, B2.out⟩
  rw [Bool.true_and] at HR
  unfold cmo at HR
  have O : o = 1 ∨ o = 2 ∨ o = 3 ∨ o = 4 ∨ o = 5 ∨ o = 6 := by omega
  clear h1 h8 q7 q8 o7 o8
  rcases O with rfl | rfl | rfl | rfl | rfl | rfl
  all_goals
    go_enter Tryd.func31, Tryd.ntmps31
    go_wp2_with fail
    refine (C.out _).mono ?_
    rintro e w2 ⟨rfl, hb⟩
    have T2 := Lib.hid (T1.out.next hb)
    obtain ⟨f0, f1, f2, f3, f4, f5⟩ := T2.out.tst
    have B2 := Lib.hid T2.out.bel
    clear hb T1 C T2
    go_wp2_with fail
    go_ret
    exact ⟨ret_bool (by rw [← HR.out, Bool.eq_iff_iff]; simp), B2.out⟩
set_option maxHeartbeats 400000 in
theorem rholds_out (f : Nat) (t : TT) (x : Int) (a : Option Addr) (len cap : Nat) (w : World) (h256 : f < 256) (hf : ¬ f < len) (e : t.1 = (f : Int)) :
    Calls Tryd.prog 31 #[tOf t, ev x a len cap] w fun e w' => e = .returned (.bool false) ∧ Below w.heap.size w w' := by
  have T0 := Lib.hid (Hbx.start w t x a len cap)
  obtain ⟨f', o, k, n, r, s⟩ := t
  have e' : f' = (f : Int) := e
  subst e'
  have c1 : (len : Int) ≤ (f : Int) := by omega
  clear e hf
  go_enter Tryd.func31, Tryd.ntmps31
  go_wp2_with fail
  go_ret
  exact ⟨rfl, T0.out.bel⟩
theorem rholds_any (t : TT) (x : Int) (a : Option Addr) (len cap : Nat) (E : List VV) (w : World) (hn : E.length = len) (ht : Okt t) (h1 : 1 ≤ t.2.1) (h8 : t.2.1 ≤ 8) (hA : Vals w a E) (hE : ∀ v ∈ E, Okv v) (hsu : t.2.2.2.2.2.size ≤ 1000000) (hsv : ∀ v ∈ E, v.2.2.2.size ≤ 1000000) :
    Calls Tryd.prog 31 #[tOf t, ev x a len cap] w fun e w' => e = .returned (.bool (hdf t E)) ∧ Below w.heap.size w w' := by
  obtain ⟨f, o, u⟩ := t
  obtain ⟨g, rfl⟩ : ∃ q : Nat, f = (q : Int) := ⟨f.toNat, by have : 0 ≤ f := ht.f0; omega⟩
  obtain ⟨q, rfl⟩ : ∃ q : Nat, o = (q : Int) := ⟨o.toNat, by have : 0 ≤ o := ht.o0; omega⟩
  have h256 : (g : Int) < 256 := ht.f1
  have g1 : (1 : Int) ≤ (q : Int) := h1
  have g8 : (q : Int) ≤ 8 := h8
  unfold hdf
  simp only [Int.toNat_natCast]
  by_cases c : g < len
  · rw [if_pos (by omega)]
    obtain ⟨b, off, rfl, hAt⟩ := hA g (by omega)
    exact rholds_walk g q u _ x b off len cap w c (by omega) (by omega) (by omega) hAt ht.v (hE _ (getD_mem E g (by omega))) hsu (hsv _ (getD_mem E g (by omega)))
  · rw [if_neg (by omega)]
    exact rholds_out g _ x a len cap w (by omega) c rfl
end Go.Proofs.YtiddpoihhfphmaaDoor
