/- Contracts, joined: PdH, PdRH, EvMay, PdHo. -/
import Derived.Test.YtpnllbojifnopaaGreatDoorMD
import Derived.Test.YtpnllbojifnopaaGreatDoorYMI
import Derived.Test.YtpnllbojifnopaaGreatDoorMC
import Derived.Deep.RegionHeld3
namespace Go.Proofs.YtpnllbojifnopaaGreatDoor
open Go Go.RowKit Pk Rl
set_option maxRecDepth 20000
def cmo (o : Nat) (c : Int) : Bool := if o = 1 then decide (c = 0) else if o = 2 then decide (c ≠ 0) else if o = 3 then decide (c < 0) else if o = 4 then decide (c ≤ 0) else if o = 5 then decide (0 < c) else decide (0 ≤ c)
theorem cmo_table (o : Nat) (c : Int) (h1 : 1 ≤ o) (h6 : o ≤ 6) : (if c < 0 then sy o 3 else if 0 < c then sy o 5 else sy o 4) = cmo o c := by
  obtain rfl | rfl | rfl | rfl | rfl | rfl : o = 1 ∨ o = 2 ∨ o = 3 ∨ o = 4 ∨ o = 5 ∨ o = 6 := by omega
  all_goals
    by_cases k0 : c < 0
    · simp [k0, cmo, sy, says]; try omega
    · by_cases k3 : 0 < c
      · simp [k0, k3, cmo, sy, says]; try omega
      · obtain rfl : c = 0 := by omega
        decide
def pfx (s p : ByteArray) : Bool := decide (p.size ≤ s.size) && ((s.extract 0 p.size).toList == p.toList)
set_option maxHeartbeats 400000 in
theorem slPrefix_any (s p : ByteArray)  (w : World) :
    Calls Tryz.prog 167 #[.string s, .string p] w fun e w' => e = .returned (.bool (pfx s p)) ∧ w = w' := by
  obtain ⟨q, hq⟩ : ∃ q, pfx s p = q := ⟨_, rfl⟩
  rw [hq]
  have HQ := Lib.hid hq
  clear hq
  go_enter Tryz.func167, Tryz.ntmps167
  by_cases c : p.size ≤ s.size
  · have c1 : (p.size : Int) ≤ (s.size : Int) := by omega
    go_wp2_with fail
    go_ret
    exact ⟨ret_bool (by rw [← HQ.out]; unfold pfx; rw [decide_eq_true c]; rfl), rfl⟩
  · have c1 : ¬ (p.size : Int) ≤ (s.size : Int) := by omega
    go_wp2_with fail
    go_ret
    exact ⟨ret_bool (by rw [← HQ.out]; unfold pfx; rw [decide_eq_false c]; rfl), rfl⟩
set_option maxHeartbeats 400000 in
theorem comesOut_any (s0 s1 s2 s3 s4 s5 : Bool) (c : Int) (w : World) :
    Calls Tryz.prog 162 #[.agg #[.bool s0, .bool s1, .bool s2, .bool s3, .bool s4, .bool s5], .int .i64 c] w fun e w' => e = .returned (.bool (if c < 0 then s3 else if 0 < c then s5 else s4)) ∧ Below w.heap.size w w' := by
  have B0 := Lib.hid (below_alloc w (.cells #[.bool s0, .bool s1, .bool s2, .bool s3, .bool s4, .bool s5] 246))
  obtain ⟨q, hq⟩ : ∃ q, (if c < 0 then s3 else if 0 < c then s5 else s4) = q := ⟨_, rfl⟩
  rw [hq]
  have HQ := Lib.hid hq
  clear hq
  by_cases c0 : c < 0
  · rw [if_pos c0] at HQ
    go_enter Tryz.func162, Tryz.ntmps162
    go_wp2_with fail
    go_ret
    exact ⟨ret_bool HQ.out, B0.out⟩
  · rw [if_neg c0] at HQ
    by_cases c1 : 0 < c
    · rw [if_pos c1] at HQ
      go_enter Tryz.func162, Tryz.ntmps162
      go_wp2_with fail
      go_ret
      exact ⟨ret_bool HQ.out, B0.out⟩
    · rw [if_neg c1] at HQ
      go_enter Tryz.func162, Tryz.ntmps162
      go_wp2_with fail
      go_ret
      exact ⟨ret_bool HQ.out, B0.out⟩
theorem prefix_any (s p : ByteArray)  (w : World) :
    Calls Tryz.prog 160 #[.string s, .string p] w fun e w' => e = .returned (.bool (pfx s p)) ∧ w = w' := by
  have H := Lib.hid (slPrefix_any s p)
  generalize pfx s p = q at H
  go_enter Tryz.func160, Tryz.ntmps160
  go_wp2_with fail
  refine (H.out _).mono ?_
  rintro e w2 ⟨rfl, rfl⟩
  go_wp2_with fail
  go_ret
  exact ⟨rfl, rfl⟩
abbrev crv (v u : VV) : Int × Bool := cr v.1 v.2.1 v.2.2.1 v.2.2.2 u.1 u.2.1 u.2.2.1 u.2.2.2
def hdv (o : Nat) (v u : VV) : Bool := if o = 7 then decide (v.1 ≠ 0) else if o = 8 then (decide (v.1 = 3) && pfx v.2.2.2 u.2.2.2) else ((crv v u).2 && cmo o (crv v u).1)
def hdf (t : TT) (L : List VV) : Bool := if t.1.toNat < L.length then hdv t.2.1.toNat (L.getD t.1.toNat vz) t.2.2 else false
set_option maxHeartbeats 2000000 in
theorem holdsOf_walk (f o : Nat) (u v : VV) (b off len cap : Nat) (w : World) (hf : f < len) (h256 : f < 256) (h1 : 1 ≤ o) (h8 : o ≤ 8) (hT : Tab w) (hA : Atv w b (off + f * 4) v) (hu : Okv u) (hv : Okv v) :
    Calls Tryz.prog 152 #[tOf ((f : Int), (o : Int), u), .slice (some ⟨b, off, none⟩) len cap] w fun e w' => e = .returned (.bool (hdv o v u)) ∧ Below w.heap.size w w' := by
  have T0 := Lib.hid (Tbx.start w ((f : Int), (o : Int), u))
  have C := Lib.hid (vcmp_any v.1 v.2.1 v.2.2.1 v.2.2.2 u.1 u.2.1 u.2.2.1 u.2.2.2 hv.n0 hv.n1 hv.re hu.n0 hu.n1 hu.re)
  have P := Lib.hid (prefix_any v.2.2.2 u.2.2.2)
  have HT := Lib.hid (hT.below (below_alloc w (tobj ((f : Int), (o : Int), u))))
  have sf := run_store_float
  obtain ⟨c0, c1, c2, c3⟩ := hA
  have zb : b < w.heap.size := World.block_lt_of_cell? _ _ c0
  obtain ⟨R, hR⟩ : ∃ R, hdv o v u = R := ⟨_, rfl⟩
  rw [hR]
  have HR := Lib.hid hR
  have HF := Lib.hid hf
  have B1 := Lib.hid (below_go T0.out.bel (below_alloc _ (vcells v.1 v.2.1 v.2.2.1 v.2.2.2)))
  have T1 := Lib.hid (T0.out.next (below_alloc _ (vcells v.1 v.2.1 v.2.2.1 v.2.2.2)))
  have HT1 := Lib.hid (HT.out.below (below_alloc _ (vcells v.1 v.2.1 v.2.2.1 v.2.2.2)))
  clear hT hu hv hR HT T0
  unfold hdv crv at HR
  obtain ⟨k, n, r, s⟩ := v
  obtain ⟨k', n', r', s'⟩ := u
  obtain ⟨X, hX⟩ : ∃ X, cr k n r s k' n' r' s' = X := ⟨_, rfl⟩
  obtain ⟨x, ok⟩ := X
  simp only [hX] at C HR
  clear hX
  obtain ⟨pf, hpf⟩ : ∃ pf, pfx s s' = pf := ⟨_, rfl⟩
  simp only [hpf] at P HR
  clear hpf
  have q7 : ((o : Int) == 7) = decide (o = 7) := by rw [Bool.eq_iff_iff]; simp; omega
  have q8 : ((o : Int) == 8) = decide (o = 8) := by rw [Bool.eq_iff_iff]; simp; omega
  by_cases o7 : o = 7
  · subst o7
    rw [if_pos rfl] at HR
    clear C P q7 q8
    go_enter Tryz.func152, Tryz.ntmps152
    go_wp2_with fail
    go_ret
    exact ⟨ret_bool (by rw [← HR.out, Bool.eq_iff_iff]; simp), B1.out⟩
  rw [if_neg o7] at HR
  rw [decide_eq_false o7] at q7
  by_cases o8 : o = 8
  · subst o8
    rw [if_pos rfl] at HR
    clear C q7 q8
    by_cases k3 : k = 3
    · subst k3
      rw [decide_eq_true rfl, Bool.true_and] at HR
      go_enter Tryz.func152, Tryz.ntmps152
      go_wp2_with fail
      refine (P.out _).mono ?_
      rintro e w2 ⟨rfl, rfl⟩
      go_wp2_with fail
      go_ret
      exact ⟨ret_bool HR.out, B1.out⟩
    · rw [decide_eq_false k3, Bool.false_and] at HR
      have q3 : (k == 3) = false := by simpa using k3
      clear P
      go_enter Tryz.func152, Tryz.ntmps152
      go_wp2_with fail
      go_ret
      exact ⟨ret_bool HR.out, B1.out⟩
  rw [if_neg o8] at HR
  rw [decide_eq_false o8] at q8
  clear P
  have ct := Lib.hid (cmo_table o x h1 (by omega))
  have ho9 : o < 9 := by omega
  obtain ⟨s0, e0⟩ : ∃ s0, sy o 0 = s0 := ⟨_, rfl⟩
  obtain ⟨s1, e1⟩ : ∃ s1, sy o 1 = s1 := ⟨_, rfl⟩
  obtain ⟨s2, e2⟩ : ∃ s2, sy o 2 = s2 := ⟨_, rfl⟩
  obtain ⟨s3, e3⟩ : ∃ s3, sy o 3 = s3 := ⟨_, rfl⟩
  obtain ⟨s4, e4⟩ : ∃ s4, sy o 4 = s4 := ⟨_, rfl⟩
  obtain ⟨s5, e5⟩ : ∃ s5, sy o 5 = s5 := ⟨_, rfl⟩
  rw [e3, e4, e5] at ct
  have CO := Lib.hid (comesOut_any s0 s1 s2 s3 s4 s5 x)
  rw [ct.out] at CO
  generalize cmo o x = y at CO HR
  have TB : Hid (∀ W, Tab W → W.cell? ⟨1, o * 6, none⟩ = some (.bool s0) ∧ W.cell? ⟨1, o * 6 + 1, none⟩ = some (.bool s1) ∧ W.cell? ⟨1, o * 6 + 2, none⟩ = some (.bool s2) ∧ W.cell? ⟨1, o * 6 + 3, none⟩ = some (.bool s3) ∧ W.cell? ⟨1, o * 6 + 4, none⟩ = some (.bool s4) ∧ W.cell? ⟨1, o * 6 + 5, none⟩ = some (.bool s5)) := Lib.hid fun W h => by
    refine ⟨?_, ?_, ?_, ?_, ?_, ?_⟩
    · rw [← e0]; exact h o 0 ho9 (by omega)
    · rw [← e1]; exact h o 1 ho9 (by omega)
    · rw [← e2]; exact h o 2 ho9 (by omega)
    · rw [← e3]; exact h o 3 ho9 (by omega)
    · rw [← e4]; exact h o 4 ho9 (by omega)
    · rw [← e5]; exact h o 5 ho9 (by omega)
  clear e0 e1 e2 e3 e4 e5 ct
  go_enter Tryz.func152, Tryz.ntmps152
  go_wp2_with fail
  refine (C.out _).mono ?_
  rintro e w2 ⟨rfl, hb⟩
  have T2 := Lib.hid (T1.out.next hb)
  have HT2 := Lib.hid (HT1.out.below hb)
  clear hb T1 HT1 C B1
  obtain ⟨f0, f1, f2, f3, f4, f5⟩ := T2.out.at_
  obtain ⟨g0, g1, g2, g3, g4, g5⟩ := TB.out _ HT2.out
  cases ok
  · go_wp2_with fail
    go_ret
    exact ⟨ret_bool (by rw [← HR.out]; rfl), T2.out.bel⟩
  · rw [Bool.true_and] at HR
    go_wp2_with fail
    refine (CO.out _).mono ?_
    rintro e w3 ⟨rfl, hb⟩
    have B3 := Lib.hid (below_go T2.out.bel hb)
    clear hb
    go_wp2_with fail
    go_ret
    exact ⟨ret_bool HR.out, B3.out⟩
set_option maxHeartbeats 400000 in
theorem holdsOf_out (f : Nat) (t : TT) (a : Option Addr) (len cap : Nat) (w : World) (h256 : f < 256) (hf : ¬ f < len) (e : t.1 = (f : Int)) :
    Calls Tryz.prog 152 #[tOf t, .slice a len cap] w fun e w' => e = .returned (.bool false) ∧ Below w.heap.size w w' := by
  obtain ⟨f', o, k, n, r, s⟩ := t
  have e' : f' = (f : Int) := e
  subst e'
  have B0 := Lib.hid (below_alloc w (tobj ((f : Int), o, k, n, r, s)))
  have c1 : (len : Int) ≤ (f : Int) := by omega
  clear e hf
  go_enter Tryz.func152, Tryz.ntmps152
  go_wp2_with fail
  go_ret
  exact ⟨rfl, B0.out⟩
theorem holdsOf_any (t : TT) (a : Option Addr) (len cap : Nat) (E : List VV) (w : World) (hn : E.length = len) (ht : Okt t) (h1 : 1 ≤ t.2.1) (h8 : t.2.1 ≤ 8) (hT : Tab w) (hA : Vals w a E) (hE : ∀ v ∈ E, Okv v) :
    Calls Tryz.prog 152 #[tOf t, .slice a len cap] w fun e w' => e = .returned (.bool (hdf t E)) ∧ Below w.heap.size w w' := by
  obtain ⟨f, o, u⟩ := t
  obtain ⟨g, rfl⟩ : ∃ q : Nat, f = (q : Int) := ⟨f.toNat, by have : 0 ≤ f := ht.f0; omega⟩
  obtain ⟨q, rfl⟩ : ∃ q : Nat, o = (q : Int) := ⟨o.toNat, by have : 0 ≤ o := ht.o0; omega⟩
  have h256 : (g : Int) < 256 := ht.f1
  have g1 : (1 : Int) ≤ (q : Int) := h1
  have g8 : (q : Int) ≤ 8 := h8
  unfold hdf
  simp only [Int.toNat_natCast]
  by_cases c : g < len
  · rw [if_pos (by omega)]
    obtain ⟨b, off, rfl, hAt⟩ := hA g (by omega)
    exact holdsOf_walk g q u _ b off len cap w c (by omega) (by omega) (by omega) hT hAt ht.v (hE _ (getD_mem E g (by omega)))
  · rw [if_neg (by omega)]
    exact holdsOf_out g _ a len cap w (by omega) c rfl
end Go.Proofs.YtpnllbojifnopaaGreatDoor
namespace Go.Proofs.YtpnllbojifnopaaGreatDoor
open Go Go.RowKit Pk Rl
set_option maxRecDepth 20000
end Go.Proofs.YtpnllbojifnopaaGreatDoor
namespace Go.Proofs.YtpnllbojifnopaaGreatDoor
open Go Go.RowKit Pk Rl
set_option maxRecDepth 20000
set_option maxHeartbeats 1000000 in
theorem emay1_any (g : Nat) (t : Int) (a : Option Addr) (n c : Nat) (L : List VV) (j : Nat) (w : World) (hn : L.length = n) (_hm : n ≤ 1000) (hj : j < n) (hv : Vals w a L) (hk : ∀ v ∈ L, Okv v) (he : Evt w g t a n c) :
    Calls Tryz.prog 97 #[.int .i64 (j : Int), .pointer (some ⟨g, 0, none⟩)] w fun e w' => e = .returned (.bool (mayv (L.getD j vz))) ∧ Below w.heap.size w w' := by
  obtain ⟨b, off, rfl, c0, c1, c2, c3⟩ := hv j (by omega)
  obtain ⟨e0, e1⟩ := he
  have M := Lib.hid (may_v (L.getD j vz) (hk _ (getD_mem L j (by omega))))
  clear hn hv hk
  generalize L.getD j vz = v at M c0 c1 c2 c3
  obtain ⟨k, m, r, s⟩ := v
  generalize mayv (k, m, r, s) = q at M
  go_enter Tryz.func97, Tryz.ntmps97
  go_wp2_with fail
  refine (M.out _).mono ?_
  rintro e w2 ⟨rfl, hb⟩
  have B2 := Lib.hid hb
  go_wp2_with fail
  go_ret
  exact ⟨rfl, B2.out⟩
set_option maxHeartbeats 1000000 in
theorem each_may (n : Nat) (hm : n ≤ 1000) (g : Nat) (p : Nat → Bool) (w : World)
    (F : Hid (∀ j, j < n → ∀ W, Below w.heap.size w W → Calls Tryz.prog 97 #[.int .i64 (j : Int), .pointer (some ⟨g, 0, none⟩)] W fun e w' => e = .returned (.bool (p j)) ∧ Below W.heap.size W w')) :
    Calls Tryz.prog 96 #[.int .i64 (n : Int), .func (.func 97) #[] #[.pointer (some ⟨g, 0, none⟩)]] w fun e w' => e = .returned (.bool ((List.range n).all p)) ∧ Below w.heap.size w w' := by
  go_enter Tryz.func96, Tryz.ntmps96
  go_wp2
  go_loopw [7] (fun i W => ∃ (j : Nat), i = .int .i64 j ∧ j ≤ n ∧ Hid (Below w.heap.size w W ∧ (List.range j).all p = true)) (fun i _ => n - (intOf i).toNat)
  case atStart => exact ⟨0, rfl, by omega, Lib.hid ⟨Below.refl _ _, rfl⟩⟩
  case round =>
    obtain ⟨j, rfl, hj, H⟩ := hrel
    by_cases c1 : j < n
    · have F1 := Lib.hid (F.out j c1 wr H.out.1)
      have B1 := Lib.hid H.out.1
      have HD := Lib.hid H.out.2
      have PJ := Lib.hid (show p j = false → (List.range n).all p = false from fun h => by
        rw [List.all_eq_false]; exact ⟨j, List.mem_range.2 c1, by simp [h]⟩)
      have PS := Lib.hid (show p j = true → (List.range (j + 1)).all p = true from fun h => by rw [List.range_succ, List.all_append, HD.out]; simp [h])
      clear H HD
      generalize p j = q at F1 PJ PS
      go_wp2_with fail
      refine F1.out.mono ?_
      rintro e w2 ⟨rfl, hb⟩
      have B2 := Lib.hid (below_go B1.out hb)
      clear hb F1 B1
      cases q
      · go_wp2_with fail
        go_ret
        exact ⟨ret_bool (PJ.out (by first | rfl | trivial)).symm, B2.out⟩
      · go_wp2_with fail
        go_roundw
        case rel => exact ⟨j + 1, by go_num, by omega, Lib.hid ⟨B2.out, PS.out (by first | rfl | trivial)⟩⟩
        case measure => simp [intOf]; omega
    · obtain rfl : j = n := by omega
      have B1 := Lib.hid H.out.1
      have HD := Lib.hid H.out.2
      clear H
      go_wp2_with fail
      go_ret
      exact ⟨ret_bool HD.out.symm, B1.out⟩
theorem all_range (L : List VV) (n : Nat) (hn : L.length = n) (p : VV → Bool) : (List.range n).all (fun j => p (L.getD j vz)) = L.all p := by
  subst hn
  induction L with
  | nil => rfl
  | cons v L ih =>
    rw [List.length_cons, List.range_succ_eq_map, List.all_cons, List.all_map, List.all_cons]
    congr 1
set_option maxHeartbeats 1000000 in
theorem emay_any (t : Int) (a : Option Addr) (n c : Nat) (L : List VV) (w : World) (hn : L.length = n) (hm : n ≤ 1000) (hv : Vals w a L) (hk : ∀ v ∈ L, Okv v) :
    Calls Tryz.prog 68 #[ev t a n c] w fun e w' => e = .returned (.bool (emay L)) ∧ Below w.heap.size w w' := by
  have B0 := Lib.hid (below_alloc w (ecells t a n c))
  have E := Lib.hid (each_may n hm w.heap.size (fun j => mayv (L.getD j vz)) (w.alloc (ecells t a n c)) (Lib.hid fun j hj W hW => emay1_any w.heap.size t a n c L j W hn hm hj ((hv.below B0.out).below hW) hk ((Evt.alloc w t a n c).next hW)))
  rw [all_range L n hn] at E
  have hc : (decide (n ≤ 8) && L.all mayv) = emay L := by rw [emay, hn]
  have HC := Lib.hid hc
  clear hn hv hk hc
  generalize L.all mayv = q at E HC
  by_cases c8 : n ≤ 8
  · rw [decide_eq_true c8, Bool.true_and] at HC
    go_enter Tryz.func68, Tryz.ntmps68
    go_wp2_with fail
    refine E.out.mono ?_
    rintro e w2 ⟨rfl, hb⟩
    have B2 := Lib.hid (below_go B0.out hb)
    clear hb
    go_wp2_with fail
    go_ret
    exact ⟨ret_bool HC.out, B2.out⟩
  · rw [decide_eq_false c8, Bool.false_and] at HC
    clear E
    go_enter Tryz.func68, Tryz.ntmps68
    go_wp2_with fail
    go_ret
    exact ⟨ret_bool HC.out, B0.out⟩
end Go.Proofs.YtpnllbojifnopaaGreatDoor
namespace Go.Proofs.YtpnllbojifnopaaGreatDoor
open Go Go.RowKit Pk Rl
set_option maxRecDepth 20000
structure HB (w W : World) (g h : Nat) (x : Bool) (t : Int) (a : Option Addr) (n c : Nat) (L : List TT) (y : Int) (b : Option Addr) (m d : Nat) (E : List VV) : Prop where
  one : Pdt W g x t a n c
  two : Evt W h y b m d
  tst : Tsts W a L
  val : Vals W b E
  tab : Tab W
  bel : Below w.heap.size w W
theorem HB.next {w W W' : World} {g h : Nat} {x : Bool} {t : Int} {a : Option Addr} {n c : Nat} {L : List TT} {y : Int} {b : Option Addr} {m d : Nat} {E : List VV}
    (k : HB w W g h x t a n c L y b m d E) (hb : Below W.heap.size W W') : HB w W' g h x t a n c L y b m d E :=
  ⟨k.one.next hb, k.two.next hb, k.tst.below hb, k.val.below hb, k.tab.below hb, below_go k.bel hb⟩
abbrev Kh (w W : World) (g h : Nat) (x : Bool) (t : Int) (b off : Nat) (n c : Nat) (L : List TT) (y : Int) (b' : Option Addr) (m d : Nat) (E : List VV) (j : Nat) (f o k i : Int) (r : Nat) (s : ByteArray) : Prop :=
  W.cell? ⟨g, 2, none⟩ = some (.slice (some ⟨b, off, none⟩) n c) ∧ W.cell? ⟨h, 0, none⟩ = some (.int .u8 y) ∧ W.cell? ⟨h, 1, none⟩ = some (.slice b' m d) ∧
  W.cell? ⟨b, off + j * 6, none⟩ = some (.int .u8 f) ∧ W.cell? ⟨b, off + j * 6 + 1, none⟩ = some (.int .u8 o) ∧ W.cell? ⟨b, off + j * 6 + 2, none⟩ = some (.int .u8 k) ∧ W.cell? ⟨b, off + j * 6 + 3, none⟩ = some (.int .i64 i) ∧
  W.cell? ⟨b, off + j * 6 + 4, none⟩ = some (.float .f64 r) ∧ W.cell? ⟨b, off + j * 6 + 5, none⟩ = some (.string s) ∧ Hid (HB w W g h x t (some ⟨b, off, none⟩) n c L y b' m d E)
theorem kh_of {w W : World} {g h : Nat} {x : Bool} {t : Int} {b off : Nat} {n c : Nat} {L : List TT} {y : Int} {b' : Option Addr} {m d : Nat} {E : List VV} {j : Nat} {f o k i : Int} {r : Nat} {s : ByteArray}
    (hj : j < L.length) (e : L.getD j tz = (f, o, k, i, r, s)) (K : HB w W g h x t (some ⟨b, off, none⟩) n c L y b' m d E) : Kh w W g h x t b off n c L y b' m d E j f o k i r s := by
  obtain ⟨b2, off2, e2, h0, h1, h2, h3, h4, h5⟩ := K.tst j hj
  injection e2 with e2
  injection e2 with e3 e4
  subst e3 e4
  rw [e] at h0 h1 h2 h3 h4 h5
  exact ⟨K.one.2.2, K.two.1, K.two.2, h0, h1, h2, h3, h4, h5, Lib.hid K⟩
theorem kh_next {w W W' : World} {g h : Nat} {x : Bool} {t : Int} {b off : Nat} {n c : Nat} {L : List TT} {y : Int} {b' : Option Addr} {m d : Nat} {E : List VV} {j : Nat} {f o k i : Int} {r : Nat} {s : ByteArray}
    (hj : Hid (j < L.length ∧ L.getD j tz = (f, o, k, i, r, s))) (hb : Below W.heap.size W W') (K : Kh w W g h x t b off n c L y b' m d E j f o k i r s) : Kh w W' g h x t b off n c L y b' m d E j f o k i r s :=
  kh_of hj.out.1 hj.out.2 (K.2.2.2.2.2.2.2.2.2.out.next hb)
theorem kh_drew {w W : World} {g h : Nat} {x : Bool} {t : Int} {b off : Nat} {n c : Nat} {L : List TT} {y : Int} {b' : Option Addr} {m d : Nat} {E : List VV} {j : Nat} {f o k i : Int} {r : Nat} {s : ByteArray}
    (hj : Hid (j < L.length ∧ L.getD j tz = (f, o, k, i, r, s))) (K : Kh w W g h x t b off n c L y b' m d E j f o k i r s) : Kh w W.drew g h x t b off n c L y b' m d E j f o k i r s := kh_next hj (Below.refl _ _).drew K
theorem rgt_op {t : TT} (h : rgt t = true) : 1 ≤ t.2.1 ∧ t.2.1 ≤ 8 := by
  unfold rgt at h
  simp only [Bool.and_eq_true, decide_eq_true_eq] at h
  exact h.1.1
set_option maxHeartbeats 2000000 in
theorem holds1_any (g h : Nat) (x : Bool) (t : Int) (a : Option Addr) (n c : Nat) (L : List TT) (y : Int) (b : Option Addr) (m d : Nat) (E : List VV) (j : Nat) (w : World) (hn : L.length = n) (hj : j < n) (hE : E.length = m)
    (hk : ∀ v ∈ L, Okt v) (hr : ∀ v ∈ L, rgt v = true) (hv : ∀ v ∈ E, Okv v) (K : HB w w g h x t a n c L y b m d E) :
    Calls Tryz.prog 151 #[.int .i64 (j : Int), .pointer (some ⟨g, 0, none⟩), .pointer (some ⟨h, 0, none⟩)] w fun e w' => e = .returned (.bool (hdf (L.getD j tz) E)) ∧ Below w.heap.size w w' := by
  have mem := tgetD_mem L j (by omega)
  obtain ⟨v, hv'⟩ : ∃ v, L.getD j tz = v := ⟨_, rfl⟩
  obtain ⟨b0, off, rfl, hAt⟩ := K.tst j (by omega)
  rw [hv'] at mem
  have C := Lib.hid (fun W (k : HB w W g h x t (some ⟨b0, off, none⟩) n c L y b m d E) => holdsOf_any v b m d E W hE (hk v mem) (rgt_op (hr v mem)).1 (rgt_op (hr v mem)).2 k.tab k.val hv)
  rw [hv']
  obtain ⟨f, o, k, i, r, s⟩ := v
  have KJ := Lib.hid (show j < L.length ∧ L.getD j tz = (f, o, k, i, r, s) from ⟨by omega, hv'⟩)
  have KD := Lib.hid (kh_drew KJ (kh_of KJ.out.1 KJ.out.2 K))
  generalize hdf (f, o, k, i, r, s) E = q at C
  have C' := Lib.hid (fun W (k : Kh w W g h x t b0 off n c L y b m d E j f o k i r s) => C.out W k.2.2.2.2.2.2.2.2.2.out)
  obtain ⟨c0, c1, c2, c3, c4, c5, c6, c7, c8, _⟩ := kh_of KJ.out.1 KJ.out.2 K
  clear hn hE hk hr hv K hAt mem hv' C
  go_enter Tryz.func151, Tryz.ntmps151
  go_wp2_with fail
  go_region_held3 (fun W => W.cell? ⟨g, 2, none⟩ = some (.slice (some ⟨b0, off, none⟩) n c) ∧ W.cell? ⟨h, 0, none⟩ = some (.int .u8 y) ∧ W.cell? ⟨h, 1, none⟩ = some (.slice b m d) ∧
      W.cell? ⟨b0, off + j * 6, none⟩ = some (.int .u8 f) ∧ W.cell? ⟨b0, off + j * 6 + 1, none⟩ = some (.int .u8 o) ∧ W.cell? ⟨b0, off + j * 6 + 2, none⟩ = some (.int .u8 k) ∧ W.cell? ⟨b0, off + j * 6 + 3, none⟩ = some (.int .i64 i) ∧
      W.cell? ⟨b0, off + j * 6 + 4, none⟩ = some (.float .f64 r) ∧ W.cell? ⟨b0, off + j * 6 + 5, none⟩ = some (.string s) ∧ Hid (HB w W g h x t (some ⟨b0, off, none⟩) n c L y b m d E))
    (first | (with_reducible assumption) | (with_reducible exact KD.out) | (with_reducible exact kh_next KJ b1 (by assumption)))
    (first | (go_at_call 152; (with_reducible refine Calls.mono (C'.out _ ?_) ?_); (with_reducible assumption); rintro e w' ⟨rfl, b1⟩))
  rename_i hHeld
  have HB2 := Lib.hid hHeld.2.2.2.2.2.2.2.2.2.out.bel
  clear hHeld
  go_wp2_with fail
  go_ret
  exact ⟨rfl, HB2.out⟩
def phold (x : Bool) (t : Int) (L : List TT) (y : Int) (E : List VV) : Bool := pmay x t L && emay E && (x || decide (t = y)) && L.all fun v => hdf v E
theorem HB.start (w : World) (x : Bool) (t : Int) (a : Option Addr) (n c : Nat) (L : List TT) (y : Int) (b : Option Addr) (m d : Nat) (E : List VV) (hT : Tab w) (h1 : Tsts w a L) (h2 : Vals w b E) :
    HB w ((w.alloc (pcells x t a n c)).alloc (ecells y b m d)) w.heap.size (w.heap.size + 1) x t a n c L y b m d E := by
  have k1 := (Pdt.alloc w x t a n c).next (below_alloc _ (ecells y b m d))
  have k2 := Evt.alloc (w.alloc (pcells x t a n c)) y b m d
  rw [World.size_alloc] at k2
  have B := below_go (below_alloc w (pcells x t a n c)) (below_alloc _ (ecells y b m d))
  exact ⟨k1, k2, h1.below B, h2.below B, hT.below B, B⟩
theorem HB.self {w W : World} {g h : Nat} {x : Bool} {t : Int} {a : Option Addr} {n c : Nat} {L : List TT} {y : Int} {b : Option Addr} {m d : Nat} {E : List VV}
    (k : HB w W g h x t a n c L y b m d E) : HB W W g h x t a n c L y b m d E := ⟨k.one, k.two, k.tst, k.val, k.tab, Below.refl _ _⟩
theorem pmay_rgt {x : Bool} {t : Int} {L : List TT} (h : pmay x t L = true) : ∀ v ∈ L, rgt v = true := by
  unfold pmay at h
  simp only [Bool.and_eq_true] at h
  exact fun v hv => List.all_eq_true.1 h.2 v hv
set_option maxHeartbeats 2000000 in
theorem phold_any (x : Bool) (t : Int) (a : Option Addr) (n c : Nat) (L : List TT) (y : Int) (b : Option Addr) (m d : Nat) (E : List VV) (w : World) (hn : L.length = n) (hm : n ≤ 1000) (hE : E.length = m) (hm2 : m ≤ 1000)
    (hv : Tsts w a L) (hk : ∀ v ∈ L, Okt v) (hv2 : Vals w b E) (hk2 : ∀ v ∈ E, Okv v) (hT : Tab w) :
    Calls Tryz.prog 131 #[pv x t a n c, ev y b m d] w fun e w' => e = .returned (.bool (phold x t L y E)) ∧ Below w.heap.size w w' := by
  have K0 := Lib.hid (HB.start w x t a n c L y b m d E hT hv hv2)
  have M1 := Lib.hid (fun W (k : HB w W w.heap.size (w.heap.size + 1) x t a n c L y b m d E) => pmay_any x t a n c L W hn hm k.tst hk k.tab)
  have M2 := Lib.hid (fun W (k : HB w W w.heap.size (w.heap.size + 1) x t a n c L y b m d E) => emay_any y b m d E W hE hm2 k.val hk2)
  have EH := Lib.hid (fun (hr : pmay x t L = true) W (k : HB w W w.heap.size (w.heap.size + 1) x t a n c L y b m d E) => eachH n hm w.heap.size (w.heap.size + 1) (fun j => hdf (L.getD j tz) E) W (Lib.hid fun j hj W' hW => holds1_any w.heap.size (w.heap.size + 1) x t a n c L y b m d E j W' hn hj hE hk (pmay_rgt hr) hk2 (k.next hW).self))
  rw [all_rangeT L n hn (fun v => hdf v E)] at EH
  have HC := Lib.hid (show (pmay x t L && emay E && (x || decide (t = y)) && L.all fun v => hdf v E) = phold x t L y E from rfl)
  obtain ⟨R, hR⟩ : ∃ R, phold x t L y E = R := ⟨_, rfl⟩
  rw [hR] at HC ⊢
  clear hn hm hE hm2 hv hk hv2 hk2 hT hR
  generalize (L.all fun v => hdf v E) = q at EH HC
  obtain ⟨p1, hp1⟩ : ∃ p, pmay x t L = p := ⟨_, rfl⟩
  rw [hp1] at M1 EH HC
  clear hp1
  generalize emay E = p2 at M2 HC
  cases p1
  · rw [Bool.false_and, Bool.false_and, Bool.false_and] at HC
    go_enter Tryz.func131, Tryz.ntmps131
    go_wp2_with fail
    refine (M1.out _ K0.out).mono ?_
    rintro e w2 ⟨rfl, hb⟩
    have K2 := Lib.hid (K0.out.next hb)
    clear hb M1 M2 EH K0
    go_wp2_with fail
    go_ret
    exact ⟨ret_bool HC.out, K2.out.bel⟩
  rw [Bool.true_and] at HC
  cases p2
  · rw [Bool.false_and, Bool.false_and] at HC
    go_enter Tryz.func131, Tryz.ntmps131
    go_wp2_with fail
    refine (M1.out _ K0.out).mono ?_
    rintro e w2 ⟨rfl, hb⟩
    have K2 := Lib.hid (K0.out.next hb)
    clear hb M1 EH K0
    obtain ⟨f0, f1⟩ := K2.out.two
    go_wp2_with fail
    refine (M2.out _ K2.out).mono ?_
    rintro e w3 ⟨rfl, hb⟩
    have K3 := Lib.hid (K2.out.next hb)
    clear hb M2 K2 f0 f1
    go_wp2_with fail
    go_ret
    exact ⟨ret_bool HC.out, K3.out.bel⟩
  rw [Bool.true_and] at HC
  cases x
  · rw [Bool.false_or] at HC
    by_cases ct : t = y
    · subst ct
      have et : (t == t) = true := by simp
      rw [decide_eq_true rfl, Bool.true_and] at HC
      go_enter Tryz.func131, Tryz.ntmps131
      go_wp2_with fail
      refine (M1.out _ K0.out).mono ?_
      rintro e w2 ⟨rfl, hb⟩
      have K2 := Lib.hid (K0.out.next hb)
      clear hb M1 K0
      obtain ⟨f0, f1⟩ := K2.out.two
      go_wp2_with fail
      refine (M2.out _ K2.out).mono ?_
      rintro e w3 ⟨rfl, hb⟩
      have K3 := Lib.hid (K2.out.next hb)
      clear hb M2 K2 f0 f1
      obtain ⟨g0, g1, g2⟩ := K3.out.one
      obtain ⟨f0, f1⟩ := K3.out.two
      go_wp2_with fail
      refine (EH.out (by first | rfl | trivial) _ K3.out).mono ?_
      rintro e w4 ⟨rfl, hb⟩
      have K4 := Lib.hid (K3.out.next hb)
      clear hb EH K3
      go_wp2_with fail
      go_ret
      exact ⟨ret_bool HC.out, K4.out.bel⟩
    · have et : (t == y) = false := by simpa using ct
      rw [decide_eq_false ct, Bool.false_and] at HC
      go_enter Tryz.func131, Tryz.ntmps131
      go_wp2_with fail
      refine (M1.out _ K0.out).mono ?_
      rintro e w2 ⟨rfl, hb⟩
      have K2 := Lib.hid (K0.out.next hb)
      clear hb M1 K0
      obtain ⟨f0, f1⟩ := K2.out.two
      go_wp2_with fail
      refine (M2.out _ K2.out).mono ?_
      rintro e w3 ⟨rfl, hb⟩
      have K3 := Lib.hid (K2.out.next hb)
      clear hb M2 K2 f0 f1 EH
      obtain ⟨g0, g1, g2⟩ := K3.out.one
      obtain ⟨f0, f1⟩ := K3.out.two
      go_wp2_with fail
      go_ret
      exact ⟨ret_bool HC.out, K3.out.bel⟩
  · rw [Bool.true_or, Bool.true_and] at HC
    go_enter Tryz.func131, Tryz.ntmps131
    go_wp2_with fail
    refine (M1.out _ K0.out).mono ?_
    rintro e w2 ⟨rfl, hb⟩
    have K2 := Lib.hid (K0.out.next hb)
    clear hb M1 K0
    obtain ⟨f0, f1⟩ := K2.out.two
    go_wp2_with fail
    refine (M2.out _ K2.out).mono ?_
    rintro e w3 ⟨rfl, hb⟩
    have K3 := Lib.hid (K2.out.next hb)
    clear hb M2 K2 f0 f1
    obtain ⟨g0, g1, g2⟩ := K3.out.one
    obtain ⟨f0, f1⟩ := K3.out.two
    go_wp2_with fail
    refine (EH.out (by first | rfl | trivial) _ K3.out).mono ?_
    rintro e w4 ⟨rfl, hb⟩
    have K4 := Lib.hid (K3.out.next hb)
    clear hb EH K3
    go_wp2_with fail
    go_ret
    exact ⟨ret_bool HC.out, K4.out.bel⟩
end Go.Proofs.YtpnllbojifnopaaGreatDoor
