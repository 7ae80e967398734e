/- Whether a question holds of an event: both sides. -/
import Derived.Test.YtiddpoihhfphmaaDoorPdM
import Derived.Test.YtiddpoihhfphmaaDoorPdRH
import Derived.Test.YtiddpoihhfphmaaDoorEvMay
import Derived.Deep.RegionHeld3
namespace Go.Proofs.YtiddpoihhfphmaaDoor
open Go Go.RowKit Pk Rl
set_option maxRecDepth 20000

structure HB (w W : World) (g h : Nat) (x : Bool) (t : Int) (a : Option Addr) (n c : Nat) (L : List TT) (y : Int) (b : Option Addr) (m d : Nat) (E : List VV) : Prop where
  one : Pdt W g x t a n c
  two : Evt W h y b m d
  tst : Tsts W a L
  val : Vals W b E
  tab : Tab W
  bel : Below w.heap.size w W
theorem HB.next {w W W' : World} {g h : Nat} {x : Bool} {t : Int} {a : Option Addr} {n c : Nat} {L : List TT} {y : Int} {b : Option Addr} {m d : Nat} {E : List VV}
    (k : HB w W g h x t a n c L y b m d E) (hb : Below W.heap.size W W') : HB w W' g h x t a n c L y b m d E :=
  ⟨k.one.next hb, k.two.next hb, k.tst.below hb, k.val.below hb, k.tab.below hb, below_go k.bel hb⟩
abbrev Kh (w W : World) (g h : Nat) (x : Bool) (t : Int) (b off : Nat) (n c : Nat) (L : List TT) (y : Int) (b' : Option Addr) (m d : Nat) (E : List VV) (j : Nat) (f o k i : Int) (r : Nat) (s : ByteArray) : Prop :=
  W.cell? ⟨g, 2, none⟩ = some (.slice (some ⟨b, off, none⟩) n c) ∧ W.cell? ⟨h, 0, none⟩ = some (.int .u8 y) ∧ W.cell? ⟨h, 1, none⟩ = some (.slice b' m d) ∧
  W.cell? ⟨b, off + j * 6, none⟩ = some (.int .u8 f) ∧ W.cell? ⟨b, off + j * 6 + 1, none⟩ = some (.int .u8 o) ∧ W.cell? ⟨b, off + j * 6 + 2, none⟩ = some (.int .u8 k) ∧ W.cell? ⟨b, off + j * 6 + 3, none⟩ = some (.int .i64 i) ∧
  W.cell? ⟨b, off + j * 6 + 4, none⟩ = some (.float .f64 r) ∧ W.cell? ⟨b, off + j * 6 + 5, none⟩ = some (.string s) ∧ Hid (HB w W g h x t (some ⟨b, off, none⟩) n c L y b' m d E)
theorem kh_of {w W : World} {g h : Nat} {x : Bool} {t : Int} {b off : Nat} {n c : Nat} {L : List TT} {y : Int} {b' : Option Addr} {m d : Nat} {E : List VV} {j : Nat} {f o k i : Int} {r : Nat} {s : ByteArray}
    (hj : j < L.length) (e : L.getD j tz = (f, o, k, i, r, s)) (K : HB w W g h x t (some ⟨b, off, none⟩) n c L y b' m d E) : Kh w W g h x t b off n c L y b' m d E j f o k i r s := by
  obtain ⟨b2, off2, e2, h0, h1, h2, h3, h4, h5⟩ := K.tst j hj
  injection e2 with e2
  injection e2 with e3 e4
  subst e3 e4
  rw [e] at h0 h1 h2 h3 h4 h5
  exact ⟨K.one.2.2, K.two.1, K.two.2, h0, h1, h2, h3, h4, h5, Lib.hid K⟩
theorem kh_next {w W W' : World} {g h : Nat} {x : Bool} {t : Int} {b off : Nat} {n c : Nat} {L : List TT} {y : Int} {b' : Option Addr} {m d : Nat} {E : List VV} {j : Nat} {f o k i : Int} {r : Nat} {s : ByteArray}
    (hj : Hid (j < L.length ∧ L.getD j tz = (f, o, k, i, r, s))) (hb : Below W.heap.size W W') (K : Kh w W g h x t b off n c L y b' m d E j f o k i r s) : Kh w W' g h x t b off n c L y b' m d E j f o k i r s :=
  kh_of hj.out.1 hj.out.2 (K.2.2.2.2.2.2.2.2.2.out.next hb)
theorem kh_drew {w W : World} {g h : Nat} {x : Bool} {t : Int} {b off : Nat} {n c : Nat} {L : List TT} {y : Int} {b' : Option Addr} {m d : Nat} {E : List VV} {j : Nat} {f o k i : Int} {r : Nat} {s : ByteArray}
    (hj : Hid (j < L.length ∧ L.getD j tz = (f, o, k, i, r, s))) (K : Kh w W g h x t b off n c L y b' m d E j f o k i r s) : Kh w W.drew g h x t b off n c L y b' m d E j f o k i r s := kh_next hj (Below.refl _ _).drew K
theorem rgt_op {t : TT} (h : rgt t = true) : 1 ≤ t.2.1 ∧ t.2.1 ≤ 8 := by
  unfold rgt at h
  simp only [Bool.and_eq_true, decide_eq_true_eq] at h
  exact h.1.1
theorem may_size {k n : Int} {r : Nat} {s : ByteArray} (h : may k n r s = true) : s.size ≤ 1000000 := by
  rcases may_facts h with ⟨_, _, _, h⟩ | ⟨_, _, h⟩ | ⟨_, _, h⟩ | ⟨_, _, _, h⟩ <;> omega
theorem rgt_size {t : TT} (h : rgt t = true) : t.2.2.2.2.2.size ≤ 1000000 := by
  unfold rgt at h
  simp only [Bool.and_eq_true] at h
  exact may_size h.1.2

set_option maxHeartbeats 2000000 in
theorem holds1_any (g h : Nat) (x : Bool) (t : Int) (a : Option Addr) (n c : Nat) (L : List TT) (y : Int) (b : Option Addr) (m d : Nat) (E : List VV) (j : Nat) (w : World) (hn : L.length = n) (hj : j < n) (hE : E.length = m)
    (hk : ∀ v ∈ L, Okt v) (hr : ∀ v ∈ L, rgt v = true) (hv : ∀ v ∈ E, Okv v) (K : HB w w g h x t a n c L y b m d E) :
    Calls Tryd.prog 28 #[.int .i64 (j : Int), .pointer (some ⟨g, 0, none⟩), .pointer (some ⟨h, 0, none⟩)] w fun e w' => e = .returned (.bool (hdf (L.getD j tz) E)) ∧ Below w.heap.size w w' := by
  have mem := tgetD_mem L j (by omega)
  obtain ⟨v, hv'⟩ : ∃ v, L.getD j tz = v := ⟨_, rfl⟩
  obtain ⟨b0, off, rfl, hAt⟩ := K.tst j (by omega)
  rw [hv'] at mem
  have C := Lib.hid (fun W (k : HB w W g h x t (some ⟨b0, off, none⟩) n c L y b m d E) => holdsOf_any v b m d E W hE (hk v mem) (rgt_op (hr v mem)).1 (rgt_op (hr v mem)).2 k.tab k.val hv)
  rw [hv']
  obtain ⟨f, o, k, i, r, s⟩ := v
  have KJ := Lib.hid (show j < L.length ∧ L.getD j tz = (f, o, k, i, r, s) from ⟨by omega, hv'⟩)
  have KD := Lib.hid (kh_drew KJ (kh_of KJ.out.1 KJ.out.2 K))
  generalize hdf (f, o, k, i, r, s) E = q at C
  have C' := Lib.hid (fun W (k : Kh w W g h x t b0 off n c L y b m d E j f o k i r s) => C.out W k.2.2.2.2.2.2.2.2.2.out)
  obtain ⟨c0, c1, c2, c3, c4, c5, c6, c7, c8, _⟩ := kh_of KJ.out.1 KJ.out.2 K
  clear hn hE hk hr hv K hAt mem hv' C
  go_enter Tryd.func28, Tryd.ntmps28
  go_wp2_with fail
  go_region_held3 (fun W => W.cell? ⟨g, 2, none⟩ = some (.slice (some ⟨b0, off, none⟩) n c) ∧ W.cell? ⟨h, 0, none⟩ = some (.int .u8 y) ∧ W.cell? ⟨h, 1, none⟩ = some (.slice b m d) ∧
      W.cell? ⟨b0, off + j * 6, none⟩ = some (.int .u8 f) ∧ W.cell? ⟨b0, off + j * 6 + 1, none⟩ = some (.int .u8 o) ∧ W.cell? ⟨b0, off + j * 6 + 2, none⟩ = some (.int .u8 k) ∧ W.cell? ⟨b0, off + j * 6 + 3, none⟩ = some (.int .i64 i) ∧
      W.cell? ⟨b0, off + j * 6 + 4, none⟩ = some (.float .f64 r) ∧ W.cell? ⟨b0, off + j * 6 + 5, none⟩ = some (.string s) ∧ Hid (HB w W g h x t (some ⟨b0, off, none⟩) n c L y b m d E))
    (first | (with_reducible assumption) | (with_reducible exact KD.out) | (with_reducible exact kh_next KJ b1 (by assumption)))
    (first | (go_at_call 29; (with_reducible refine Calls.mono (C'.out _ ?_) ?_); (with_reducible assumption); rintro e w' ⟨rfl, b1⟩))
  rename_i hHeld
  have HB2 := Lib.hid hHeld.2.2.2.2.2.2.2.2.2.out.bel
  clear hHeld
  go_wp2_with fail
  go_ret
  exact ⟨rfl, HB2.out⟩

def phold (x : Bool) (t : Int) (L : List TT) (y : Int) (E : List VV) : Bool := pmay x t L && emay E && (x || decide (t = y)) && L.all fun v => hdf v E
theorem HB.start (w : World) (x : Bool) (t : Int) (a : Option Addr) (n c : Nat) (L : List TT) (y : Int) (b : Option Addr) (m d : Nat) (E : List VV) (hT : Tab w) (h1 : Tsts w a L) (h2 : Vals w b E) :
    HB w ((w.alloc (pcells x t a n c)).alloc (ecells y b m d)) w.heap.size (w.heap.size + 1) x t a n c L y b m d E := by
  have k1 := (Pdt.alloc w x t a n c).next (below_alloc _ (ecells y b m d))
  have k2 := Evt.alloc (w.alloc (pcells x t a n c)) y b m d
  rw [World.size_alloc] at k2
  have B := below_go (below_alloc w (pcells x t a n c)) (below_alloc _ (ecells y b m d))
  exact ⟨k1, k2, h1.below B, h2.below B, hT.below B, B⟩
theorem HB.self {w W : World} {g h : Nat} {x : Bool} {t : Int} {a : Option Addr} {n c : Nat} {L : List TT} {y : Int} {b : Option Addr} {m d : Nat} {E : List VV}
    (k : HB w W g h x t a n c L y b m d E) : HB W W g h x t a n c L y b m d E := ⟨k.one, k.two, k.tst, k.val, k.tab, Below.refl _ _⟩
theorem pmay_rgt {x : Bool} {t : Int} {L : List TT} (h : pmay x t L = true) : ∀ v ∈ L, rgt v = true := by
  unfold pmay at h
  simp only [Bool.and_eq_true] at h
  exact fun v hv => List.all_eq_true.1 h.2 v hv
set_option maxHeartbeats 2000000 in
theorem phold_any (x : Bool) (t : Int) (a : Option Addr) (n c : Nat) (L : List TT) (y : Int) (b : Option Addr) (m d : Nat) (E : List VV) (w : World) (hn : L.length = n) (hm : n ≤ 1000) (hE : E.length = m) (hm2 : m ≤ 1000)
    (hv : Tsts w a L) (hk : ∀ v ∈ L, Okt v) (hv2 : Vals w b E) (hk2 : ∀ v ∈ E, Okv v) (hT : Tab w) :
    Calls Tryd.prog 14 #[pv x t a n c, ev y b m d] w fun e w' => e = .returned (.bool (phold x t L y E)) ∧ Below w.heap.size w w' := by
  have K0 := Lib.hid (HB.start w x t a n c L y b m d E hT hv hv2)
  have M1 := Lib.hid (fun W (k : HB w W w.heap.size (w.heap.size + 1) x t a n c L y b m d E) => pmay_any x t a n c L W hn hm k.tst hk k.tab)
  have M2 := Lib.hid (fun W (k : HB w W w.heap.size (w.heap.size + 1) x t a n c L y b m d E) => emay_any y b m d E W hE hm2 k.val hk2)
  have EH := Lib.hid (fun (hr : pmay x t L = true) W (k : HB w W w.heap.size (w.heap.size + 1) x t a n c L y b m d E) => eachH n hm w.heap.size (w.heap.size + 1) (fun j => hdf (L.getD j tz) E) W (Lib.hid fun j hj W' hW => holds1_any w.heap.size (w.heap.size + 1) x t a n c L y b m d E j W' hn hj hE hk (pmay_rgt hr) hk2 (k.next hW).self))
  rw [all_rangeT L n hn (fun v => hdf v E)] at EH
  have HC := Lib.hid (show (pmay x t L && emay E && (x || decide (t = y)) && L.all fun v => hdf v E) = phold x t L y E from rfl)
  obtain ⟨R, hR⟩ : ∃ R, phold x t L y E = R := ⟨_, rfl⟩
  rw [hR] at HC ⊢
  clear hn hm hE hm2 hv hk hv2 hk2 hT hR
  generalize (L.all fun v => hdf v E) = q at EH HC
  obtain ⟨p1, hp1⟩ : ∃ p, pmay x t L = p := ⟨_, rfl⟩
  rw [hp1] at M1 EH HC
  clear hp1
  generalize emay E = p2 at M2 HC
  cases p1
  · rw [Bool.false_and, Bool.false_and, Bool.false_and] at HC
    go_enter Tryd.func14, Tryd.ntmps14
    go_wp2_with fail
    refine (M1.out _ K0.out).mono ?_
    rintro e w2 ⟨rfl, hb⟩
    have K2 := Lib.hid (K0.out.next hb)
    clear hb M1 M2 EH K0
    go_wp2_with fail
    go_ret
    exact ⟨ret_bool HC.out, K2.out.bel⟩
  rw [Bool.true_and] at HC
  cases p2
  · rw [Bool.false_and, Bool.false_and] at HC
    go_enter Tryd.func14, Tryd.ntmps14
    go_wp2_with fail
    refine (M1.out _ K0.out).mono ?_
    rintro e w2 ⟨rfl, hb⟩
    have K2 := Lib.hid (K0.out.next hb)
    clear hb M1 EH K0
    obtain ⟨f0, f1⟩ := K2.out.two
    go_wp2_with fail
    refine (M2.out _ K2.out).mono ?_
    rintro e w3 ⟨rfl, hb⟩
    have K3 := Lib.hid (K2.out.next hb)
    clear hb M2 K2 f0 f1
    go_wp2_with fail
    go_ret
    exact ⟨ret_bool HC.out, K3.out.bel⟩
  rw [Bool.true_and] at HC
  cases x
  · rw [Bool.false_or] at HC
    by_cases ct : t = y
    · subst ct
      have et : (t == t) = true := by simp
      rw [decide_eq_true rfl, Bool.true_and] at HC
      go_enter Tryd.func14, Tryd.ntmps14
      go_wp2_with fail
      refine (M1.out _ K0.out).mono ?_
      rintro e w2 ⟨rfl, hb⟩
      have K2 := Lib.hid (K0.out.next hb)
      clear hb M1 K0
      obtain ⟨f0, f1⟩ := K2.out.two
      go_wp2_with fail
      refine (M2.out _ K2.out).mono ?_
      rintro e w3 ⟨rfl, hb⟩
      have K3 := Lib.hid (K2.out.next hb)
      clear hb M2 K2 f0 f1
      obtain ⟨g0, g1, g2⟩ := K3.out.one
      obtain ⟨f0, f1⟩ := K3.out.two
      go_wp2_with fail
      refine (EH.out (by first | rfl | trivial) _ K3.out).mono ?_
      rintro e w4 ⟨rfl, hb⟩
      have K4 := Lib.hid (K3.out.next hb)
      clear hb EH K3
      go_wp2_with fail
      go_ret
      exact ⟨ret_bool HC.out, K4.out.bel⟩
    · have et : (t == y) = false := by simpa using ct
      rw [decide_eq_false ct, Bool.false_and] at HC
      go_enter Tryd.func14, Tryd.ntmps14
      go_wp2_with fail
      refine (M1.out _ K0.out).mono ?_
      rintro e w2 ⟨rfl, hb⟩
      have K2 := Lib.hid (K0.out.next hb)
      clear hb M1 K0
      obtain ⟨f0, f1⟩ := K2.out.two
      go_wp2_with fail
      refine (M2.out _ K2.out).mono ?_
      rintro e w3 ⟨rfl, hb⟩
      have K3 := Lib.hid (K2.out.next hb)
      clear hb M2 K2 f0 f1 EH
      obtain ⟨g0, g1, g2⟩ := K3.out.one
      obtain ⟨f0, f1⟩ := K3.out.two
      go_wp2_with fail
      go_ret
      exact ⟨ret_bool HC.out, K3.out.bel⟩
  · rw [Bool.true_or, Bool.true_and] at HC
    go_enter Tryd.func14, Tryd.ntmps14
    go_wp2_with fail
    refine (M1.out _ K0.out).mono ?_
    rintro e w2 ⟨rfl, hb⟩
    have K2 := Lib.hid (K0.out.next hb)
    clear hb M1 K0
    obtain ⟨f0, f1⟩ := K2.out.two
    go_wp2_with fail
    refine (M2.out _ K2.out).mono ?_
    rintro e w3 ⟨rfl, hb⟩
    have K3 := Lib.hid (K2.out.next hb)
    clear hb M2 K2 f0 f1
    obtain ⟨g0, g1, g2⟩ := K3.out.one
    obtain ⟨f0, f1⟩ := K3.out.two
    go_wp2_with fail
    refine (EH.out (by first | rfl | trivial) _ K3.out).mono ?_
    rintro e w4 ⟨rfl, hb⟩
    have K4 := Lib.hid (K3.out.next hb)
    clear hb EH K3
    go_wp2_with fail
    go_ret
    exact ⟨ret_bool HC.out, K4.out.bel⟩
end Go.Proofs.YtiddpoihhfphmaaDoor
