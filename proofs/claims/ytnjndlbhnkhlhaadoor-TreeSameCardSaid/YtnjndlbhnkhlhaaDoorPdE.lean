/- Whether two questions are the same: both sides. -/
import Derived.Test.YtnjndlbhnkhlhaaDoorPdM
import Derived.Deep.RegionHeld3
import Derived.BigQuiet
import Derived.Deep.QuietTactic
namespace Go.Proofs.YtnjndlbhnkhlhaaDoor
open Go Go.RowKit Pk Rl
set_option maxRecDepth 20000

def smt (t u : TT) : Bool := decide (t.1 = u.1) && decide (t.2.1 = u.2.1) && smv t.2.2 u.2.2
abbrev TT2 (L M : List TT) (j : Nat) : Bool := smt (L.getD j tz) (M.getD j tz)
def psm (x : Bool) (t : Int) (L : List TT) (x' : Bool) (t' : Int) (M : List TT) : Bool := decide (x = x') && decide (t = t') && decide (L.length = M.length) && (List.range L.length).all (TT2 L M)
theorem below2 (w : World) (o o' : Obj) : Below w.heap.size w ((w.alloc o).alloc o') := below_go (below_alloc w o) (below_alloc _ o')
structure T2x (w W : World) (t u : TT) : Prop where
  one : Att W w.heap.size 0 t
  two : Att W (w.heap.size + 1) 0 u
  bel : Below w.heap.size w W
theorem T2x.next {w W W' : World} {t u : TT} (h : T2x w W t u) (hb : Below W.heap.size W W') : T2x w W' t u := ⟨h.one.below hb, h.two.below hb, below_go h.bel hb⟩
theorem T2x.start (w : World) (t u : TT) : T2x w ((w.alloc (tobj t)).alloc (tobj u)) t u := by
  have h1 := (Tbx.start w t).next (below_alloc _ (tobj u))
  have h2 := (Tbx.start (w.alloc (tobj t)) u).at_
  rw [World.size_alloc] at h2
  exact ⟨h1.at_, h2, h1.bel⟩
set_option maxHeartbeats 1000000 in
theorem sameTest_any (t u : TT) (ht : Okt t) (hu : Okt u) (w : World) :
    Calls Tryd.prog 55 #[tOf t, tOf u] w fun e w' => e = .returned (.bool (smt t u)) ∧ Below w.heap.size w w' := by
  have S := Lib.hid (vsame_v t.2.2 u.2.2 ht.v hu.v)
  have T0 := Lib.hid (T2x.start w t u)
  have HC := Lib.hid (show (decide (t.1 = u.1) && decide (t.2.1 = u.2.1) && smv t.2.2 u.2.2) = smt t u from rfl)
  generalize smt t u = R at HC
  clear ht hu
  obtain ⟨f, o, k, n, r, s⟩ := t
  obtain ⟨f', o', k', n', r', s'⟩ := u
  generalize smv (k, n, r, s) (k', n', r', s') = q at S HC
  by_cases c1 : f = f'
  · subst c1
    have e1 : (f == f) = true := by simp
    by_cases c2 : o = o'
    · subst c2
      have e2 : (o == o) = true := by simp
      rw [decide_eq_true rfl, decide_eq_true rfl, Bool.true_and, Bool.true_and] at HC
      go_enter Tryd.func55, Tryd.ntmps55
      go_wp2_with fail
      refine (S.out _).mono ?_
      rintro e w2 ⟨rfl, hb⟩
      have T2 := Lib.hid (T0.out.next hb)
      clear hb
      go_wp2_with fail
      go_ret
      exact ⟨ret_bool HC.out, T2.out.bel⟩
    · have e2 : (o == o') = false := by simpa using c2
      rw [decide_eq_true rfl, decide_eq_false c2, Bool.true_and, Bool.false_and] at HC
      clear S
      go_enter Tryd.func55, Tryd.ntmps55
      go_wp2_with fail
      go_ret
      exact ⟨ret_bool HC.out, T0.out.bel⟩
  · have e1 : (f == f') = false := by simpa using c1
    rw [decide_eq_false c1, Bool.false_and, Bool.false_and] at HC
    clear S
    go_enter Tryd.func55, Tryd.ntmps55
    go_wp2_with fail
    go_ret
    exact ⟨ret_bool HC.out, T0.out.bel⟩

structure SB (w W : World) (g h : Nat) (x : Bool) (t : Int) (a : Option Addr) (n c : Nat) (L : List TT) (x' : Bool) (t' : Int) (a' : Option Addr) (n' c' : Nat) (M : List TT) : Prop where
  one : Pdt W g x t a n c
  two : Pdt W h x' t' a' n' c'
  v1 : Tsts W a L
  v2 : Tsts W a' M
  bel : Below w.heap.size w W
theorem SB.next {w W W' : World} {g h : Nat} {x : Bool} {t : Int} {a : Option Addr} {n c : Nat} {L : List TT} {x' : Bool} {t' : Int} {a' : Option Addr} {n' c' : Nat} {M : List TT}
    (k : SB w W g h x t a n c L x' t' a' n' c' M) (hb : Below W.heap.size W W') : SB w W' g h x t a n c L x' t' a' n' c' M :=
  ⟨k.one.next hb, k.two.next hb, k.v1.below hb, k.v2.below hb, below_go k.bel hb⟩
theorem SB.self {w W : World} {g h : Nat} {x : Bool} {t : Int} {a : Option Addr} {n c : Nat} {L : List TT} {x' : Bool} {t' : Int} {a' : Option Addr} {n' c' : Nat} {M : List TT}
    (k : SB w W g h x t a n c L x' t' a' n' c' M) : SB W W g h x t a n c L x' t' a' n' c' M := ⟨k.one, k.two, k.v1, k.v2, Below.refl _ _⟩
theorem SB.start (w : World) (x : Bool) (t : Int) (a : Option Addr) (n c : Nat) (L : List TT) (x' : Bool) (t' : Int) (a' : Option Addr) (n' c' : Nat) (M : List TT) (h1 : Tsts w a L) (h2 : Tsts w a' M) :
    SB w ((w.alloc (pcells x t a n c)).alloc (pcells x' t' a' n' c')) w.heap.size (w.heap.size + 1) x t a n c L x' t' a' n' c' M := by
  have k1 := (Pdt.alloc w x t a n c).next (below_alloc _ (pcells x' t' a' n' c'))
  have k2 := Pdt.alloc (w.alloc (pcells x t a n c)) x' t' a' n' c'
  rw [World.size_alloc] at k2
  have B := below2 w (pcells x t a n c) (pcells x' t' a' n' c')
  exact ⟨k1, k2, h1.below B, h2.below B, B⟩
abbrev Ks (w W : World) (g h : Nat) (x : Bool) (t : Int) (b off n c : Nat) (L : List TT) (x' : Bool) (t' : Int) (b' off' n' c' : Nat) (M : List TT) (j : Nat) (f o k i : Int) (r : Nat) (s : ByteArray) (f' o' k' i' : Int) (r' : Nat) (s' : ByteArray) : Prop :=
  W.cell? ⟨g, 2, none⟩ = some (.slice (some ⟨b, off, none⟩) n c) ∧ W.cell? ⟨h, 2, none⟩ = some (.slice (some ⟨b', off', none⟩) n' c') ∧
  W.cell? ⟨b, off + j * 6, none⟩ = some (.int .u8 f) ∧ W.cell? ⟨b, off + j * 6 + 1, none⟩ = some (.int .u8 o) ∧ W.cell? ⟨b, off + j * 6 + 2, none⟩ = some (.int .u8 k) ∧ W.cell? ⟨b, off + j * 6 + 3, none⟩ = some (.int .i64 i) ∧
  W.cell? ⟨b, off + j * 6 + 4, none⟩ = some (.float .f64 r) ∧ W.cell? ⟨b, off + j * 6 + 5, none⟩ = some (.string s) ∧
  W.cell? ⟨b', off' + j * 6, none⟩ = some (.int .u8 f') ∧ W.cell? ⟨b', off' + j * 6 + 1, none⟩ = some (.int .u8 o') ∧ W.cell? ⟨b', off' + j * 6 + 2, none⟩ = some (.int .u8 k') ∧ W.cell? ⟨b', off' + j * 6 + 3, none⟩ = some (.int .i64 i') ∧
  W.cell? ⟨b', off' + j * 6 + 4, none⟩ = some (.float .f64 r') ∧ W.cell? ⟨b', off' + j * 6 + 5, none⟩ = some (.string s') ∧ Hid (SB w W g h x t (some ⟨b, off, none⟩) n c L x' t' (some ⟨b', off', none⟩) n' c' M)
theorem ks_of {w W : World} {g h : Nat} {x : Bool} {t : Int} {b off n c : Nat} {L : List TT} {x' : Bool} {t' : Int} {b' off' n' c' : Nat} {M : List TT} {j : Nat} {f o k i : Int} {r : Nat} {s : ByteArray} {f' o' k' i' : Int} {r' : Nat} {s' : ByteArray}
    (hj : (j < L.length ∧ L.getD j tz = (f, o, k, i, r, s)) ∧ j < M.length ∧ M.getD j tz = (f', o', k', i', r', s')) (K : SB w W g h x t (some ⟨b, off, none⟩) n c L x' t' (some ⟨b', off', none⟩) n' c' M) :
    Ks w W g h x t b off n c L x' t' b' off' n' c' M j f o k i r s f' o' k' i' r' s' := by
  obtain ⟨b2, off2, e2, h0, h1, h2, h3, h4, h5⟩ := K.v1 j hj.1.1
  injection e2 with e2
  injection e2 with e3 e4
  subst e3 e4
  rw [hj.1.2] at h0 h1 h2 h3 h4 h5
  obtain ⟨b3, off3, e5, k0, k1, k2, k3, k4, k5⟩ := K.v2 j hj.2.1
  injection e5 with e5
  injection e5 with e6 e7
  subst e6 e7
  rw [hj.2.2] at k0 k1 k2 k3 k4 k5
  exact ⟨K.one.2.2, K.two.2.2, h0, h1, h2, h3, h4, h5, k0, k1, k2, k3, k4, k5, Lib.hid K⟩
theorem ks_next {w W W' : World} {g h : Nat} {x : Bool} {t : Int} {b off n c : Nat} {L : List TT} {x' : Bool} {t' : Int} {b' off' n' c' : Nat} {M : List TT} {j : Nat} {f o k i : Int} {r : Nat} {s : ByteArray} {f' o' k' i' : Int} {r' : Nat} {s' : ByteArray}
    (hj : Hid ((j < L.length ∧ L.getD j tz = (f, o, k, i, r, s)) ∧ j < M.length ∧ M.getD j tz = (f', o', k', i', r', s'))) (hb : Below W.heap.size W W') (K : Ks w W g h x t b off n c L x' t' b' off' n' c' M j f o k i r s f' o' k' i' r' s') :
    Ks w W' g h x t b off n c L x' t' b' off' n' c' M j f o k i r s f' o' k' i' r' s' := ks_of hj.out (K.2.2.2.2.2.2.2.2.2.2.2.2.2.2.out.next hb)

set_option maxHeartbeats 2000000 in
theorem same1_any (g h : Nat) (x : Bool) (t : Int) (a : Option Addr) (n c : Nat) (L : List TT) (x' : Bool) (t' : Int) (a' : Option Addr) (c' : Nat) (M : List TT) (j : Nat) (w : World) (hn : L.length = n) (hn' : M.length = n) (hj : j < n)
    (hk : ∀ v ∈ L, Okt v) (hk' : ∀ v ∈ M, Okt v) (K : SB w w g h x t a n c L x' t' a' n c' M) :
    Calls Tryd.prog 54 #[.int .i64 (j : Int), .pointer (some ⟨g, 0, none⟩), .pointer (some ⟨h, 0, none⟩)] w fun e w' => e = .returned (.bool (TT2 L M j)) ∧ Below w.heap.size w w' := by
  obtain ⟨b, off, rfl, _⟩ := K.v1 j (by omega)
  obtain ⟨b', off', rfl, _⟩ := K.v2 j (by omega)
  have S := Lib.hid (sameTest_any (L.getD j tz) (M.getD j tz) (hk _ (tgetD_mem L j (by omega))) (hk' _ (tgetD_mem M j (by omega))))
  obtain ⟨v, hv⟩ : ∃ v, L.getD j tz = v := ⟨_, rfl⟩
  obtain ⟨u, hu⟩ : ∃ u, M.getD j tz = u := ⟨_, rfl⟩
  unfold TT2
  rw [hv, hu] at S ⊢
  obtain ⟨f, o, k, i, r, s⟩ := v
  obtain ⟨f', o', k', i', r', s'⟩ := u
  generalize smt (f, o, k, i, r, s) (f', o', k', i', r', s') = q at S
  have KJ : Hid ((j < L.length ∧ L.getD j tz = (f, o, k, i, r, s)) ∧ j < M.length ∧ M.getD j tz = (f', o', k', i', r', s')) := Lib.hid ⟨⟨by omega, hv⟩, by omega, hu⟩
  have KD := Lib.hid (ks_next KJ (Below.refl _ _).drew (ks_of KJ.out K))
  obtain ⟨c0, c1, c2, c3, c4, c5, c6, c7, d0, d1, d2, d3, d4, d5, _⟩ := ks_of KJ.out K
  clear hn hn' hk hk' K hv hu
  go_enter Tryd.func54, Tryd.ntmps54
  go_wp2_with fail
  go_region_held3 (fun W => W.cell? ⟨g, 2, none⟩ = some (.slice (some ⟨b, off, none⟩) n c) ∧ W.cell? ⟨h, 2, none⟩ = some (.slice (some ⟨b', off', none⟩) n c') ∧
      W.cell? ⟨b, off + j * 6, none⟩ = some (.int .u8 f) ∧ W.cell? ⟨b, off + j * 6 + 1, none⟩ = some (.int .u8 o) ∧ W.cell? ⟨b, off + j * 6 + 2, none⟩ = some (.int .u8 k) ∧ W.cell? ⟨b, off + j * 6 + 3, none⟩ = some (.int .i64 i) ∧
      W.cell? ⟨b, off + j * 6 + 4, none⟩ = some (.float .f64 r) ∧ W.cell? ⟨b, off + j * 6 + 5, none⟩ = some (.string s) ∧
      W.cell? ⟨b', off' + j * 6, none⟩ = some (.int .u8 f') ∧ W.cell? ⟨b', off' + j * 6 + 1, none⟩ = some (.int .u8 o') ∧ W.cell? ⟨b', off' + j * 6 + 2, none⟩ = some (.int .u8 k') ∧ W.cell? ⟨b', off' + j * 6 + 3, none⟩ = some (.int .i64 i') ∧
      W.cell? ⟨b', off' + j * 6 + 4, none⟩ = some (.float .f64 r') ∧ W.cell? ⟨b', off' + j * 6 + 5, none⟩ = some (.string s') ∧ Hid (SB w W g h x t (some ⟨b, off, none⟩) n c L x' t' (some ⟨b', off', none⟩) n c' M))
    (first | (with_reducible assumption) | (with_reducible exact KD.out) | (with_reducible exact ks_next KJ b1 (by assumption)))
    (first | (go_at_call 55; (with_reducible refine (S.out _).mono ?_); rintro e w' ⟨rfl, b1⟩))
  rename_i hHeld
  have HB2 := Lib.hid hHeld.2.2.2.2.2.2.2.2.2.2.2.2.2.2.out.bel
  clear hHeld
  go_wp2_with fail
  go_ret
  exact ⟨rfl, HB2.out⟩

set_option maxHeartbeats 2000000 in
theorem psame_any (x : Bool) (t : Int) (a : Option Addr) (n c : Nat) (L : List TT) (x' : Bool) (t' : Int) (a' : Option Addr) (n' c' : Nat) (M : List TT) (w : World) (hn : L.length = n) (hn' : M.length = n') (hm : n ≤ 1000)
    (hv : Tsts w a L) (hv' : Tsts w a' M) (hk : ∀ v ∈ L, Okt v) (hk' : ∀ v ∈ M, Okt v) :
    Calls Tryd.prog 45 #[pv x t a n c, pv x' t' a' n' c'] w fun e w' => e = .returned (.bool (psm x t L x' t' M)) ∧ Below w.heap.size w w' := by
  have K0 := Lib.hid (SB.start w x t a n c L x' t' a' n' c' M hv hv')
  have E := Lib.hid (fun (h : n = n') => eachS n hm w.heap.size (w.heap.size + 1) (TT2 L M) ((w.alloc (pcells x t a n c)).alloc (pcells x' t' a' n' c')) (Lib.hid fun j hj W hW => by
    subst h
    exact same1_any w.heap.size (w.heap.size + 1) x t a n c L x' t' a' c' M j W hn hn' hj hk hk' (K0.out.next hW).self))
  have HC := Lib.hid (show (decide (x = x') && decide (t = t') && decide (n = n') && (List.range n).all (TT2 L M)) = psm x t L x' t' M by unfold psm; rw [hn, hn'])
  have BB := Lib.hid K0.out.bel
  generalize psm x t L x' t' M = R at HC
  clear hn hn' hm hv hv' hk hk' K0
  generalize (List.range n).all (TT2 L M) = q at E HC
  by_cases cx : x = x'
  · subst cx
    have ex : (x == x) = true := by simp
    rw [decide_eq_true rfl, Bool.true_and] at HC
    by_cases ct : t = t'
    · subst ct
      have et : (t == t) = true := by simp
      rw [decide_eq_true rfl, Bool.true_and] at HC
      by_cases cn : n = n'
      · subst cn
        have en : ((n : Int) == (n : Int)) = true := by simp
        rw [decide_eq_true rfl, Bool.true_and] at HC
        have E2 := Lib.hid (E.out rfl)
        clear E
        go_enter Tryd.func45, Tryd.ntmps45
        go_wp2_with fail
        refine E2.out.mono ?_
        rintro e w2 ⟨rfl, hb⟩
        have B2 := Lib.hid (below_go BB.out hb)
        clear hb
        go_wp2_with fail
        go_ret
        exact ⟨ret_bool HC.out, B2.out⟩
      · have en : ((n : Int) == (n' : Int)) = false := by simp; omega
        rw [decide_eq_false cn, Bool.false_and] at HC
        clear E cn
        go_enter Tryd.func45, Tryd.ntmps45
        go_wp2_with fail
        go_ret
        exact ⟨ret_bool HC.out, BB.out⟩
    · have et : (t == t') = false := by simpa using ct
      rw [decide_eq_false ct, Bool.false_and, Bool.false_and] at HC
      clear E
      go_enter Tryd.func45, Tryd.ntmps45
      go_wp2_with fail
      go_ret
      exact ⟨ret_bool HC.out, BB.out⟩
  · have ex : (x == x') = false := by simpa using cx
    rw [decide_eq_false cx, Bool.false_and, Bool.false_and, Bool.false_and] at HC
    clear E
    go_enter Tryd.func45, Tryd.ntmps45
    go_wp2_with fail
    go_ret
    exact ⟨ret_bool HC.out, BB.out⟩
end Go.Proofs.YtnjndlbhnkhlhaaDoor
