/- The contract of the document's Read. -/
import Derived.Test.YtjpdnojkgadklaaEvRead
namespace Go.Proofs.Ytjpdnojkgadklaa
open Go Go.RowKit Pk Rl
set_option maxRecDepth 20000

abbrev two2 (w : World) : World := (w.alloc (lcells 0 0 0 0 none 0 0)).alloc (lcells 0 0 0 0 none 0 0)
theorem two2_below (w : World) : Below w.heap.size w (two2 w) := below_go (below_alloc w _) (below_alloc _ _)

set_option maxHeartbeats 2000000 in
theorem rread_1 (b : Option Addr) (len cap : Nat) (l : List Int) (w : World) (hl : l.length = len) (hm : len ≤ 100000) (hb : Byt w b l) (hE : (frn l).e ≠ 0) :
    Calls Try.prog 23 #[.slice b len cap] w fun e w' => e = .returned (got2 0 0 0 0 none 0 0 ((frn l).e : Int)) ∧ Below w.heap.size w w' := by
  have B0 := Lib.hid (two2_below w)
  have G := Lib.hid (fun p => rget_any b len cap l p (two2 w) hl hm (hb.below B0.out))
  unfold frn at hE ⊢
  have G1 := Lib.hid (G.out 0)
  have G2 := Lib.hid (G.out (gK l 0))
  have G3 := Lib.hid (G.out (gK l (gK l 0)))
  clear hl hb hm G
  generalize gN l 0 = N1 at G1 hE
  generalize gE l 0 = E1 at G1 hE
  generalize gK l (gK l (gK l 0)) = K3 at G3 hE
  generalize gN l (gK l (gK l 0)) = N3 at G3 hE
  generalize gE l (gK l (gK l 0)) = E3 at G3 hE
  generalize gN l (gK l 0) = N2 at G2 hE
  generalize gE l (gK l 0) = E2 at G2 hE
  generalize gK l (gK l 0) = K2 at G2 G3
  generalize gK l 0 = K1 at G1 G2
  by_cases e1 : E1 = 0
  · subst e1
    rw [if_neg (by simp)] at hE ⊢
    by_cases n1 : 4294967295 < N1
    · rw [if_pos n1]
      clear hE
      go_enter Try.func23, Try.ntmps23
      go_wp2_with fail
      refine G1.out.mono ?_
      rintro e w1 ⟨rfl, rfl⟩
      go_wp2_with fail
      exact bodyPost_ret (v := got2 0 0 0 0 none 0 0 5) (by simp [results, Try.results23, go_sem]) rfl ⟨rfl, B0.out⟩
    · rw [if_neg n1] at hE ⊢
      have t1 : decide ((4294967295 : Int) < (N1 : Int)) = false := by simp; omega
      by_cases e2 : E2 = 0
      · subst e2
        rw [if_neg (by simp)] at hE ⊢
        by_cases e3 : E3 = 0
        · subst e3
          rw [if_neg (by simp)] at hE
          exact absurd rfl hE
        · rw [if_pos e3]
          have t3 : ((E3 : Int) == 0) = false := by simp; omega
          clear hE
          go_enter Try.func23, Try.ntmps23
          go_wp2_with fail
          refine G1.out.mono ?_
          rintro e w1 ⟨rfl, rfl⟩
          go_wp2_with fail
          refine G2.out.mono ?_
          rintro e w1 ⟨rfl, rfl⟩
          go_wp2_with fail
          refine G3.out.mono ?_
          rintro e w1 ⟨rfl, rfl⟩
          go_wp2_with fail
          exact bodyPost_ret (v := got2 0 0 0 0 none 0 0 (E3 : Int)) (by simp [results, Try.results23, go_sem]) rfl ⟨rfl, B0.out⟩
      · rw [if_pos e2]
        have t2 : ((E2 : Int) == 0) = false := by simp; omega
        clear hE
        go_enter Try.func23, Try.ntmps23
        go_wp2_with fail
        refine G1.out.mono ?_
        rintro e w1 ⟨rfl, rfl⟩
        go_wp2_with fail
        refine G2.out.mono ?_
        rintro e w1 ⟨rfl, rfl⟩
        go_wp2_with fail
        exact bodyPost_ret (v := got2 0 0 0 0 none 0 0 (E2 : Int)) (by simp [results, Try.results23, go_sem]) rfl ⟨rfl, B0.out⟩
  · rw [if_pos e1]
    have t1 : ((E1 : Int) == 0) = false := by simp; omega
    clear hE
    go_enter Try.func23, Try.ntmps23
    go_wp2_with fail
    refine G1.out.mono ?_
    rintro e w1 ⟨rfl, rfl⟩
    go_wp2_with fail
    exact bodyPost_ret (v := got2 0 0 0 0 none 0 0 (E1 : Int)) (by simp [results, Try.results23, go_sem]) rfl ⟨rfl, B0.out⟩

set_option maxHeartbeats 2000000 in
theorem rread_2 (b : Option Addr) (len cap : Nat) (l : List Int) (w : World) (N1 N2 N3 : Nat) (K1 K2 K3 : Int) (t : Int) (fs : List VV) (KE : Int) (E : Nat) (hE : E ≠ 0) (hN : ¬ 4294967295 < N1) (hb : Byt w b l)
    (G1 : Hid (Calls Try.prog 40 #[.slice b len cap, .int .i64 0] (two2 w) fun e w' => e = .returned (.tuple #[.int .u64 (N1 : Int), .int .i64 K1, .int .i64 0]) ∧ two2 w = w'))
    (G2 : Hid (Calls Try.prog 40 #[.slice b len cap, .int .i64 K1] (two2 w) fun e w' => e = .returned (.tuple #[.int .u64 (N2 : Int), .int .i64 K2, .int .i64 0]) ∧ two2 w = w'))
    (G3 : Hid (Calls Try.prog 40 #[.slice b len cap, .int .i64 K2] (two2 w) fun e w' => e = .returned (.tuple #[.int .u64 (N3 : Int), .int .i64 K3, .int .i64 0]) ∧ two2 w = w'))
    (G4 : Hid (∀ w, Byt w b l → Calls Try.prog 18 #[.slice b len cap, .int .i64 K3] w fun e w' => ∃ A k c', e = .returned (got3 (ev t A k c') KE (E : Int)) ∧ fs.length = k ∧ OwnV w' w.heap.size (.slice A k c') fs ∧ Below w.heap.size w w')) :
    Calls Try.prog 23 #[.slice b len cap] w fun e w' => e = .returned (got2 0 0 0 0 none 0 0 (E : Int)) ∧ Below w.heap.size w w' := by
  have tE : ((E : Int) == 0) = false := by simp; omega
  have B0 := Lib.hid (two2_below w)
  have L0 := Lib.hid ((Lgb.alloc w 0 0 0 0 none 0 0).next (below_alloc _ (lcells 0 0 0 0 none 0 0)))
  have M0 := Lib.hid (Lgb.alloc (w.alloc (lcells 0 0 0 0 none 0 0)) 0 0 0 0 none 0 0)
  rw [World.size_alloc] at M0
  have HB := Lib.hid (hb.below B0.out)
  have n1 : decide ((4294967295 : Int) < (N1 : Int)) = false := by simp; omega
  have hw : IntKind.u32.wrap (N1 : Int) = (N1 : Int) := by rw [IntKind.wrap_u32]; omega
  clear hb hN
  go_enter Try.func23, Try.ntmps23
  go_wp2_with fail
  refine G1.out.mono ?_
  rintro e w1 ⟨rfl, rfl⟩
  go_wp2_with fail
  refine G2.out.mono ?_
  rintro e w1 ⟨rfl, rfl⟩
  go_wp2_with fail
  refine G3.out.mono ?_
  rintro e w1 ⟨rfl, rfl⟩
  go_wp2_with fail
  refine (G4.out _ HB.out).mono ?_
  rintro e w2 ⟨A2, k2, c2, rfl, hk2, ho2, hbl⟩
  have B2 := Lib.hid (below_go B0.out hbl)
  have L2 := Lib.hid (L0.out.next hbl)
  have M2 := Lib.hid (M0.out.next hbl)
  have KK := Lib.hid hk2
  have O2 := Lib.hid (ho2.mono (show w.heap.size + 1 + 1 ≤ _ by simp))
  clear hbl G1 G2 G3 G4 hk2 ho2 B0 L0 M0
  obtain ⟨r0, r1, r2, r3, r4⟩ := L2.out.lgt
  have y0 := L2.out.free 0
  have y1 := L2.out.free 1
  have y2 := L2.out.free 2
  have y3 := L2.out.free 3
  have y4 := L2.out.free 4
  have z2 : w.heap.size < w2.heap.size := L2.out.lt
  obtain ⟨m0, m1, m2, m3, m4⟩ := M2.out.lgt
  have z3 : w.heap.size + 1 < w2.heap.size := M2.out.lt
  have BB := Lib.hid (below_go (below_set5 B2.out (Nat.le_refl _) (.int .u32 0) (.int .u64 0) (.int .u64 0) (.int .u8 0) (.slice none 0 0)) (below_alloc _ (ecells t A2 k2 c2)))
  clear B2 L2 M2 O2 KK
  go_wp2_with fail
  exact bodyPost_ret (v := got2 0 0 0 0 none 0 0 (E : Int)) (by simp [results, Try.results23, go_sem, *]) rfl ⟨rfl, BB.out⟩

set_option maxHeartbeats 2000000 in
theorem rread_3 (b : Option Addr) (len cap : Nat) (l : List Int) (w : World) (N1 N2 N3 : Nat) (K1 K2 K3 : Int) (t : Int) (fs : List VV) (KE : Int) (hK : (KE == (len : Int)) = false) (hN : ¬ 4294967295 < N1) (hb : Byt w b l)
    (G1 : Hid (Calls Try.prog 40 #[.slice b len cap, .int .i64 0] (two2 w) fun e w' => e = .returned (.tuple #[.int .u64 (N1 : Int), .int .i64 K1, .int .i64 0]) ∧ two2 w = w'))
    (G2 : Hid (Calls Try.prog 40 #[.slice b len cap, .int .i64 K1] (two2 w) fun e w' => e = .returned (.tuple #[.int .u64 (N2 : Int), .int .i64 K2, .int .i64 0]) ∧ two2 w = w'))
    (G3 : Hid (Calls Try.prog 40 #[.slice b len cap, .int .i64 K2] (two2 w) fun e w' => e = .returned (.tuple #[.int .u64 (N3 : Int), .int .i64 K3, .int .i64 0]) ∧ two2 w = w'))
    (G4 : Hid (∀ w, Byt w b l → Calls Try.prog 18 #[.slice b len cap, .int .i64 K3] w fun e w' => ∃ A k c', e = .returned (got3 (ev t A k c') KE 0) ∧ fs.length = k ∧ OwnV w' w.heap.size (.slice A k c') fs ∧ Below w.heap.size w w')) :
    Calls Try.prog 23 #[.slice b len cap] w fun e w' => e = .returned (got2 0 0 0 0 none 0 0 2) ∧ Below w.heap.size w w' := by
  have B0 := Lib.hid (two2_below w)
  have L0 := Lib.hid ((Lgb.alloc w 0 0 0 0 none 0 0).next (below_alloc _ (lcells 0 0 0 0 none 0 0)))
  have M0 := Lib.hid (Lgb.alloc (w.alloc (lcells 0 0 0 0 none 0 0)) 0 0 0 0 none 0 0)
  rw [World.size_alloc] at M0
  have HB := Lib.hid (hb.below B0.out)
  have n1 : decide ((4294967295 : Int) < (N1 : Int)) = false := by simp; omega
  have hw : IntKind.u32.wrap (N1 : Int) = (N1 : Int) := by rw [IntKind.wrap_u32]; omega
  clear hb hN
  go_enter Try.func23, Try.ntmps23
  go_wp2_with fail
  refine G1.out.mono ?_
  rintro e w1 ⟨rfl, rfl⟩
  go_wp2_with fail
  refine G2.out.mono ?_
  rintro e w1 ⟨rfl, rfl⟩
  go_wp2_with fail
  refine G3.out.mono ?_
  rintro e w1 ⟨rfl, rfl⟩
  go_wp2_with fail
  refine (G4.out _ HB.out).mono ?_
  rintro e w2 ⟨A2, k2, c2, rfl, hk2, ho2, hbl⟩
  have B2 := Lib.hid (below_go B0.out hbl)
  have L2 := Lib.hid (L0.out.next hbl)
  have M2 := Lib.hid (M0.out.next hbl)
  have KK := Lib.hid hk2
  have O2 := Lib.hid (ho2.mono (show w.heap.size + 1 + 1 ≤ _ by simp))
  clear hbl G1 G2 G3 G4 hk2 ho2 B0 L0 M0
  obtain ⟨r0, r1, r2, r3, r4⟩ := L2.out.lgt
  have y0 := L2.out.free 0
  have y1 := L2.out.free 1
  have y2 := L2.out.free 2
  have y3 := L2.out.free 3
  have y4 := L2.out.free 4
  have z2 : w.heap.size < w2.heap.size := L2.out.lt
  obtain ⟨m0, m1, m2, m3, m4⟩ := M2.out.lgt
  have z3 : w.heap.size + 1 < w2.heap.size := M2.out.lt
  have BB := Lib.hid (below_go (below_set5 B2.out (Nat.le_refl _) (.int .u32 0) (.int .u64 0) (.int .u64 0) (.int .u8 0) (.slice none 0 0)) (below_alloc _ (ecells t A2 k2 c2)))
  clear B2 L2 M2 O2 KK
  go_wp2_with fail
  exact bodyPost_ret (v := got2 0 0 0 0 none 0 0 2) (by simp [results, Try.results23, go_sem, *]) rfl ⟨rfl, BB.out⟩

set_option maxHeartbeats 2000000 in
theorem rread_4 (b : Option Addr) (len cap : Nat) (l : List Int) (w : World) (N1 N2 N3 : Nat) (K1 K2 K3 : Int) (t : Int) (fs : List VV) (KE : Int) (hK : (KE == (len : Int)) = true) (hN : ¬ 4294967295 < N1) (hb : Byt w b l)
    (G1 : Hid (Calls Try.prog 40 #[.slice b len cap, .int .i64 0] (two2 w) fun e w' => e = .returned (.tuple #[.int .u64 (N1 : Int), .int .i64 K1, .int .i64 0]) ∧ two2 w = w'))
    (G2 : Hid (Calls Try.prog 40 #[.slice b len cap, .int .i64 K1] (two2 w) fun e w' => e = .returned (.tuple #[.int .u64 (N2 : Int), .int .i64 K2, .int .i64 0]) ∧ two2 w = w'))
    (G3 : Hid (Calls Try.prog 40 #[.slice b len cap, .int .i64 K2] (two2 w) fun e w' => e = .returned (.tuple #[.int .u64 (N3 : Int), .int .i64 K3, .int .i64 0]) ∧ two2 w = w'))
    (G4 : Hid (∀ w, Byt w b l → Calls Try.prog 18 #[.slice b len cap, .int .i64 K3] w fun e w' => ∃ A k c', e = .returned (got3 (ev t A k c') KE 0) ∧ fs.length = k ∧ OwnV w' w.heap.size (.slice A k c') fs ∧ Below w.heap.size w w')) :
    Calls Try.prog 23 #[.slice b len cap] w fun e w' => ∃ A k c', e = .returned (got2 N1 N2 N3 t A k c' 0) ∧ fs.length = k ∧ OwnV w' w.heap.size (.slice A k c') fs ∧ Below w.heap.size w w' := by
  have B0 := Lib.hid (two2_below w)
  have L0 := Lib.hid ((Lgb.alloc w 0 0 0 0 none 0 0).next (below_alloc _ (lcells 0 0 0 0 none 0 0)))
  have M0 := Lib.hid (Lgb.alloc (w.alloc (lcells 0 0 0 0 none 0 0)) 0 0 0 0 none 0 0)
  rw [World.size_alloc] at M0
  have HB := Lib.hid (hb.below B0.out)
  have n1 : decide ((4294967295 : Int) < (N1 : Int)) = false := by simp; omega
  have hw : IntKind.u32.wrap (N1 : Int) = (N1 : Int) := by rw [IntKind.wrap_u32]; omega
  clear hb hN
  go_enter Try.func23, Try.ntmps23
  go_wp2_with fail
  refine G1.out.mono ?_
  rintro e w1 ⟨rfl, rfl⟩
  go_wp2_with fail
  refine G2.out.mono ?_
  rintro e w1 ⟨rfl, rfl⟩
  go_wp2_with fail
  refine G3.out.mono ?_
  rintro e w1 ⟨rfl, rfl⟩
  go_wp2_with fail
  refine (G4.out _ HB.out).mono ?_
  rintro e w2 ⟨A2, k2, c2, rfl, hk2, ho2, hbl⟩
  have B2 := Lib.hid (below_go B0.out hbl)
  have L2 := Lib.hid (L0.out.next hbl)
  have M2 := Lib.hid (M0.out.next hbl)
  have KK := Lib.hid hk2
  have O2 := Lib.hid (ho2.mono (show w.heap.size + 1 + 1 ≤ _ by simp))
  clear hbl G1 G2 G3 G4 hk2 ho2 B0 L0 M0
  obtain ⟨r0, r1, r2, r3, r4⟩ := L2.out.lgt
  have y0 := L2.out.free 0
  have y1 := L2.out.free 1
  have y2 := L2.out.free 2
  have y3 := L2.out.free 3
  have y4 := L2.out.free 4
  have z2 : w.heap.size < w2.heap.size := L2.out.lt
  have BB := Lib.hid (below_go (below_set5 B2.out (Nat.le_refl _) (.int .u32 (N1 : Int)) (.int .u64 (N2 : Int)) (.int .u64 (N3 : Int)) (.int .u8 t) (.slice A2 k2 c2)) (below_alloc _ (ecells t A2 k2 c2)))
  have OO := Lib.hid (((own_set5 O2.out (show w.heap.size < w.heap.size + 1 + 1 by omega) (.int .u32 (N1 : Int)) (.int .u64 (N2 : Int)) (.int .u64 (N3 : Int)) (.int .u8 t) (.slice A2 k2 c2)).mono (show w.heap.size ≤ _ by omega)).below (below_alloc _ (ecells t A2 k2 c2)))
  clear B2 L2 M2 O2
  go_wp2_with fail
  exact bodyPost_ret (v := got2 N1 N2 N3 t A2 k2 c2 0) (by simp [results, Try.results23, go_sem, *]) rfl ⟨A2, k2, c2, rfl, KK.out, OO.out, BB.out⟩
end Go.Proofs.Ytjpdnojkgadklaa
