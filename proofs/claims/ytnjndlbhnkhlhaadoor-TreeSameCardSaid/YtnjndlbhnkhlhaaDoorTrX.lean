/- Same: of rows of nodes, and of patterns; the program's and the document's. -/
import Derived.Test.YtnjndlbhnkhlhaaDoorTrW
namespace Go.Proofs.YtnjndlbhnkhlhaaDoor
open Go Go.RowKit Pk Rl
set_option maxRecDepth 20000

def ssn (D E : List Nd) : Bool := decide (D.length = E.length) && (List.range D.length).all (fun i => sn (D.getD i nz) (E.getD i nz))
theorem ssn_yes {D E : List Nd} {n : Nat} (hd : D.length = n) (he : E.length = n) (h : ∀ i, i < n → sn (D.getD i nz) (E.getD i nz) = true) : ssn D E = true := by
  unfold ssn
  rw [hd, he, decide_eq_true rfl, Bool.true_and, List.all_eq_true]
  exact fun i hi => h i (List.mem_range.1 hi)
theorem ssn_no {D E : List Nd} {n : Nat} (hd : D.length = n) (i : Nat) (hi : i < n) (h : sn (D.getD i nz) (E.getD i nz) = false) : ssn D E = false := by
  unfold ssn
  rw [hd]
  have : (List.range n).all (fun i => sn (D.getD i nz) (E.getD i nz)) = false := by
    rw [List.all_eq_false]
    exact ⟨i, List.mem_range.2 hi, by rw [h]; simp⟩
  rw [this, Bool.and_false]
theorem ssn_len {D E : List Nd} (h : D.length ≠ E.length) : ssn D E = false := by unfold ssn; rw [decide_eq_false h, Bool.false_and]
theorem ssn_cn {D E : List Nd} {n : Nat} (hd : D.length = n) (he : E.length = n) (h : ∀ i, i < n → cn 10 (D.getD i nz) = cn 10 (E.getD i nz)) (h1 : ∀ v ∈ D, v.p.L.length ≤ 10 ∧ v.g.L.length ≤ 10) (h2 : ∀ v ∈ E, v.p.L.length ≤ 10 ∧ v.g.L.length ≤ 10) : ssn D E = true :=
  ssn_yes hd he fun i hi => sn_cn (h i hi) (h1 _ (ngetD_mem D i (by omega))) (h2 _ (ngetD_mem E i (by omega)))
abbrev K2n (w W : World) (b o b2 o2 : Nat) (x y : Nd) : Prop := W.cell? ⟨b, o, none⟩ = some (.int .u8 x.k) ∧ W.cell? ⟨b, o + 1, none⟩ = some (.bool x.p.x) ∧ W.cell? ⟨b, o + 2, none⟩ = some (.int .u8 x.p.t) ∧ W.cell? ⟨b, o + 3, none⟩ = some (.slice x.p.a x.p.n x.p.c) ∧ W.cell? ⟨b, o + 4, none⟩ = some (.bool x.y) ∧ W.cell? ⟨b, o + 5, none⟩ = some (.bool x.g.x) ∧ W.cell? ⟨b, o + 6, none⟩ = some (.int .u8 x.g.t) ∧ W.cell? ⟨b, o + 7, none⟩ = some (.slice x.g.a x.g.n x.g.c) ∧ W.cell? ⟨b, o + 8, none⟩ = some (.int .u8 x.lo) ∧ W.cell? ⟨b, o + 9, none⟩ = some (.int .u8 x.hi) ∧ W.cell? ⟨b, o + 10, none⟩ = some (.int .i64 x.s) ∧ W.cell? ⟨b2, o2, none⟩ = some (.int .u8 y.k) ∧ W.cell? ⟨b2, o2 + 1, none⟩ = some (.bool y.p.x) ∧ W.cell? ⟨b2, o2 + 2, none⟩ = some (.int .u8 y.p.t) ∧ W.cell? ⟨b2, o2 + 3, none⟩ = some (.slice y.p.a y.p.n y.p.c) ∧ W.cell? ⟨b2, o2 + 4, none⟩ = some (.bool y.y) ∧ W.cell? ⟨b2, o2 + 5, none⟩ = some (.bool y.g.x) ∧ W.cell? ⟨b2, o2 + 6, none⟩ = some (.int .u8 y.g.t) ∧ W.cell? ⟨b2, o2 + 7, none⟩ = some (.slice y.g.a y.g.n y.g.c) ∧ W.cell? ⟨b2, o2 + 8, none⟩ = some (.int .u8 y.lo) ∧ W.cell? ⟨b2, o2 + 9, none⟩ = some (.int .u8 y.hi) ∧ W.cell? ⟨b2, o2 + 10, none⟩ = some (.int .i64 y.s) ∧ Hid (Below w.heap.size w W)
theorem k2n_of {w W : World} {b o b2 o2 : Nat} {x y : Nd} (h1 : Atn W b o x) (h2 : Atn W b2 o2 y) (h : Below w.heap.size w W) : K2n w W b o b2 o2 x y := by
  obtain ⟨q0, q1, q2, q3, q4, q5, q6, q7, q8, q9, q10⟩ := h1
  obtain ⟨r0, r1, r2, r3, r4, r5, r6, r7, r8, r9, r10⟩ := h2
  exact ⟨q0, q1, q2, q3, q4, q5, q6, q7, q8, q9, q10, r0, r1, r2, r3, r4, r5, r6, r7, r8, r9, r10, Lib.hid h⟩
theorem k2n_next {w W W' : World} {b o b2 o2 : Nat} {x y : Nd} (hb : Below W.heap.size W W') (h : K2n w W b o b2 o2 x y) : K2n w W' b o b2 o2 x y := by
  obtain ⟨q0, q1, q2, q3, q4, q5, q6, q7, q8, q9, q10, r0, r1, r2, r3, r4, r5, r6, r7, r8, r9, r10, h⟩ := h
  have h1 : Atn W b o x := ⟨q0, q1, q2, q3, q4, q5, q6, q7, q8, q9, q10⟩
  have h2 : Atn W b2 o2 y := ⟨r0, r1, r2, r3, r4, r5, r6, r7, r8, r9, r10⟩
  exact k2n_of (h1.below hb h1.lt) (h2.below hb h2.lt) (below_go h.out hb)
set_option maxHeartbeats 4000000 in
theorem equalNodes_any (a : Option Addr) (n c : Nat) (D : List Nd) (a' : Option Addr) (n' c' : Nat) (E : List Nd) (w : World) (hP : Pt w a n c D) (hQ : Pt w a' n' c' E) :
    Calls Tryd.prog 33 #[.slice a n c, .slice a' n' c', .func (.func 34) #[] #[]] w fun e w' => e = .returned (.bool (ssn D E)) ∧ Below w.heap.size w w' := by
  have HP := Lib.hid hP
  have HQ := Lib.hid hQ
  have hdl := hP.len
  have hel := hQ.len
  have hfew := hP.few
  have hfew2 := hQ.few
  clear hP hQ
  by_cases cl : n = n'
  · subst cl
    have YES := Lib.hid (fun h => ssn_yes hdl hel h)
    have NO := Lib.hid (fun i hi h => ssn_no (E := E) hdl i hi h)
    have nn : ((n : Int) != (n : Int)) = false := by simp
    clear hdl hel
    generalize ssn D E = R at YES NO
    go_enter Tryd.func33, Tryd.ntmps33
    go_wp2_with fail
    go_loopw [17] (fun v W => ∃ (i : Nat), v = .int .i64 (i : Int) ∧ i ≤ n ∧ Hid (Below w.heap.size w W ∧ ∀ j, j < i → sn (D.getD j nz) (E.getD j nz) = true)) (fun v _ => n - (intOf v).toNat)
    case atStart => exact ⟨0, rfl, by omega, Lib.hid ⟨Below.refl _ _, fun j hj => by omega⟩⟩
    case round =>
      obtain ⟨i, rfl, hi, H⟩ := hrel
      have B1 := Lib.hid H.out.1
      have HD := Lib.hid H.out.2
      clear H
      by_cases ci : i < n
      · obtain ⟨b, off, rfl, hat⟩ := (HP.out.row.below B1.out) i (by have := HP.out.len; omega)
        obtain ⟨b2, off2, rfl, hat2⟩ := (HQ.out.row.below B1.out) i (by have := HQ.out.len; omega)
        have N1 := Lib.hid (HP.out.ok (D.getD i nz) (ngetD_mem D i (by have := HP.out.len; omega)))
        have N2 := Lib.hid (HQ.out.ok (E.getD i nz) (ngetD_mem E i (by have := HQ.out.len; omega)))
        obtain ⟨x, hx⟩ : ∃ x, D.getD i nz = x := ⟨_, rfl⟩
        obtain ⟨y, hy⟩ : ∃ y, E.getD i nz = y := ⟨_, rfl⟩
        rw [hx] at hat N1
        rw [hy] at hat2 N2
        have S := Lib.hid (fun W (hW : Below w.heap.size w W) => sameNode_any x y W (N1.out.below hW) (N2.out.below hW))
        obtain ⟨z, hz⟩ : ∃ z, sn x y = z := ⟨_, rfl⟩
        rw [hz] at S
        have TA := Lib.hid (show z = true → ∀ j, j < i + 1 → sn (D.getD j nz) (E.getD j nz) = true from fun h j hj => by
          by_cases e : j = i
          · subst e; rw [hx, hy, hz, h]
          · exact HD.out j (by omega))
        have TB := Lib.hid (show z = false → R = false from fun h => NO.out i ci (by rw [hx, hy, hz, h]))
        clear hx hy hz HD N1 N2
        obtain ⟨xk, ⟨xx, xt, xa, xn, xc, xL⟩, xy, ⟨yx, yt, ya, yn, yc, yL⟩, xlo, xhi, xs⟩ := x
        obtain ⟨zk, ⟨zx, zt, za, zn, zc, zL⟩, zy, ⟨ux, ut, ua, un, uc, uL⟩, zlo, zhi, zs⟩ := y
        have B3 := Lib.hid (below2 wr (nobj ⟨xk, ⟨xx, xt, xa, xn, xc, xL⟩, xy, ⟨yx, yt, ya, yn, yc, yL⟩, xlo, xhi, xs⟩) (nobj ⟨zk, ⟨zx, zt, za, zn, zc, zL⟩, zy, ⟨ux, ut, ua, un, uc, uL⟩, zlo, zhi, zs⟩))
        have zb := hat2.lt
        obtain ⟨q0, q1, q2, q3, q4, q5, q6, q7, q8, q9, q10⟩ := hat
        obtain ⟨r0, r1, r2, r3, r4, r5, r6, r7, r8, r9, r10⟩ := hat2
        simp only at q0 q1 q2 q3 q4 q5 q6 q7 q8 q9 q10 r0 r1 r2 r3 r4 r5 r6 r7 r8 r9 r10
        go_wp2_with fail
        refine (S.out _ (below_go B1.out B3.out)).mono ?_
        rintro e w2 ⟨rfl, hb⟩
        have B2 := Lib.hid (below_go (below_go B1.out B3.out) hb)
        clear hb S q0 q1 q2 q3 q4 q5 q6 q7 q8 q9 q10 r0 r1 r2 r3 r4 r5 r6 r7 r8 r9 r10
        cases z
        · have E0 := TB.out (by first | rfl | trivial)
          subst E0
          clear TA TB YES NO
          go_wp2_with fail
          go_ret
          exact ⟨rfl, B2.out⟩
        · have TA2 := Lib.hid (TA.out (by first | rfl | trivial))
          clear TA TB
          go_wp2_with fail
          go_roundw
          case rel => exact ⟨i + 1, by go_num, by omega, Lib.hid ⟨B2.out, TA2.out⟩⟩
          case measure => simp [intOf]; omega
      · obtain rfl : i = n := by omega
        have E0 : R = true := YES.out HD.out
        subst E0
        clear YES NO HP HQ HD
        go_wp2_with fail
        go_ret
        exact ⟨rfl, B1.out⟩
  · have nn : ((n : Int) != (n' : Int)) = true := by simp; omega
    have E0 : ssn D E = false := ssn_len (by rw [hdl, hel]; exact cl)
    rw [E0]
    clear HP HQ hdl hel E0 cl
    go_enter Tryd.func33, Tryd.ntmps33
    go_wp2_with fail
    go_ret
    exact ⟨rfl, Below.refl _ _⟩
set_option maxHeartbeats 4000000 in
theorem rsameNodes_any (a : Option Addr) (n c : Nat) (D : List Nd) (a' : Option Addr) (n' c' : Nat) (E : List Nd) (w : World) (hP : Pt w a n c D) (hQ : Pt w a' n' c' E) :
    Calls Tryd.prog 32 #[.slice a n c, .slice a' n' c'] w fun e w' => e = .returned (.bool (ssn D E)) ∧ Below w.heap.size w w' := by
  have HP := Lib.hid hP
  have HQ := Lib.hid hQ
  have hdl := hP.len
  have hel := hQ.len
  have hfew := hP.few
  have hfew2 := hQ.few
  clear hP hQ
  by_cases cl : n = n'
  · subst cl
    have YES := Lib.hid (fun h => ssn_yes hdl hel h)
    have NO := Lib.hid (fun i hi h => ssn_no (E := E) hdl i hi h)
    have nn : ((n : Int) != (n : Int)) = false := by simp
    clear hdl hel
    generalize ssn D E = R at YES NO
    go_enter Tryd.func32, Tryd.ntmps32
    go_wp2_with fail
    go_loopw [13] (fun v W => ∃ (i : Nat), v = .int .i64 (i : Int) ∧ i ≤ n ∧ Hid (Below w.heap.size w W ∧ ∀ j, j < i → sn (D.getD j nz) (E.getD j nz) = true)) (fun v _ => n - (intOf v).toNat)
    case atStart => exact ⟨0, rfl, by omega, Lib.hid ⟨Below.refl _ _, fun j hj => by omega⟩⟩
    case round =>
      obtain ⟨i, rfl, hi, H⟩ := hrel
      have B1 := Lib.hid H.out.1
      have HD := Lib.hid H.out.2
      clear H
      by_cases ci : i < n
      · obtain ⟨b, off, rfl, hat⟩ := (HP.out.row.below B1.out) i (by have := HP.out.len; omega)
        obtain ⟨b2, off2, rfl, hat2⟩ := (HQ.out.row.below B1.out) i (by have := HQ.out.len; omega)
        have N1 := Lib.hid (HP.out.ok (D.getD i nz) (ngetD_mem D i (by have := HP.out.len; omega)))
        have N2 := Lib.hid (HQ.out.ok (E.getD i nz) (ngetD_mem E i (by have := HQ.out.len; omega)))
        obtain ⟨x, hx⟩ : ∃ x, D.getD i nz = x := ⟨_, rfl⟩
        obtain ⟨y, hy⟩ : ∃ y, E.getD i nz = y := ⟨_, rfl⟩
        rw [hx] at hat N1
        rw [hy] at hat2 N2
        have S := Lib.hid (fun W (hW : Below w.heap.size w W) => rsameNode_any x y W (N1.out.below hW) (N2.out.below hW))
        obtain ⟨z, hz⟩ : ∃ z, sn x y = z := ⟨_, rfl⟩
        rw [hz] at S
        have TA := Lib.hid (show z = true → ∀ j, j < i + 1 → sn (D.getD j nz) (E.getD j nz) = true from fun h j hj => by
          by_cases e : j = i
          · subst e; rw [hx, hy, hz, h]
          · exact HD.out j (by omega))
        have TB := Lib.hid (show z = false → R = false from fun h => NO.out i ci (by rw [hx, hy, hz, h]))
        clear hx hy hz HD N1 N2
        obtain ⟨xk, ⟨xx, xt, xa, xn, xc, xL⟩, xy, ⟨yx, yt, ya, yn, yc, yL⟩, xlo, xhi, xs⟩ := x
        obtain ⟨zk, ⟨zx, zt, za, zn, zc, zL⟩, zy, ⟨ux, ut, ua, un, uc, uL⟩, zlo, zhi, zs⟩ := y
        have KD := Lib.hid (k2n_next (Below.refl _ _).drew (k2n_of hat hat2 B1.out))
        have BD := Lib.hid (B1.out.trans (Below.refl _ _).drew)
        obtain ⟨q0, q1, q2, q3, q4, q5, q6, q7, q8, q9, q10⟩ := hat
        obtain ⟨r0, r1, r2, r3, r4, r5, r6, r7, r8, r9, r10⟩ := hat2
        simp only at q0 q1 q2 q3 q4 q5 q6 q7 q8 q9 q10 r0 r1 r2 r3 r4 r5 r6 r7 r8 r9 r10
        go_wp2_with fail
        go_region_held3 (fun W => W.cell? ⟨b, off + i * 11, none⟩ = some (.int .u8 xk) ∧ W.cell? ⟨b, off + i * 11 + 1, none⟩ = some (.bool xx) ∧ W.cell? ⟨b, off + i * 11 + 2, none⟩ = some (.int .u8 xt) ∧ W.cell? ⟨b, off + i * 11 + 3, none⟩ = some (.slice xa xn xc) ∧ W.cell? ⟨b, off + i * 11 + 4, none⟩ = some (.bool xy) ∧ W.cell? ⟨b, off + i * 11 + 5, none⟩ = some (.bool yx) ∧ W.cell? ⟨b, off + i * 11 + 6, none⟩ = some (.int .u8 yt) ∧ W.cell? ⟨b, off + i * 11 + 7, none⟩ = some (.slice ya yn yc) ∧ W.cell? ⟨b, off + i * 11 + 8, none⟩ = some (.int .u8 xlo) ∧ W.cell? ⟨b, off + i * 11 + 9, none⟩ = some (.int .u8 xhi) ∧ W.cell? ⟨b, off + i * 11 + 10, none⟩ = some (.int .i64 xs) ∧ W.cell? ⟨b2, off2 + i * 11, none⟩ = some (.int .u8 zk) ∧ W.cell? ⟨b2, off2 + i * 11 + 1, none⟩ = some (.bool zx) ∧ W.cell? ⟨b2, off2 + i * 11 + 2, none⟩ = some (.int .u8 zt) ∧ W.cell? ⟨b2, off2 + i * 11 + 3, none⟩ = some (.slice za zn zc) ∧ W.cell? ⟨b2, off2 + i * 11 + 4, none⟩ = some (.bool zy) ∧ W.cell? ⟨b2, off2 + i * 11 + 5, none⟩ = some (.bool ux) ∧ W.cell? ⟨b2, off2 + i * 11 + 6, none⟩ = some (.int .u8 ut) ∧ W.cell? ⟨b2, off2 + i * 11 + 7, none⟩ = some (.slice ua un uc) ∧ W.cell? ⟨b2, off2 + i * 11 + 8, none⟩ = some (.int .u8 zlo) ∧ W.cell? ⟨b2, off2 + i * 11 + 9, none⟩ = some (.int .u8 zhi) ∧ W.cell? ⟨b2, off2 + i * 11 + 10, none⟩ = some (.int .i64 zs) ∧ Hid (Below w.heap.size w W))
          (first | (with_reducible assumption) | (with_reducible exact KD.out) | (with_reducible exact k2n_next (x := ⟨xk, ⟨xx, xt, xa, xn, xc, xL⟩, xy, ⟨yx, yt, ya, yn, yc, yL⟩, xlo, xhi, xs⟩) (y := ⟨zk, ⟨zx, zt, za, zn, zc, zL⟩, zy, ⟨ux, ut, ua, un, uc, uL⟩, zlo, zhi, zs⟩) b1 (by assumption)))
          (first | (go_at_call 44; (with_reducible refine Calls.mono (S.out _ ?_) ?_); (first | (with_reducible assumption) | (exact BD.out)); rintro e w' ⟨rfl, b1⟩))
        rename_i hHeld
        have B2 := Lib.hid (hHeld.2.2.2.2.2.2.2.2.2.2.2.2.2.2.2.2.2.2.2.2.2.2.out)
        clear hHeld S q0 q1 q2 q3 q4 q5 q6 q7 q8 q9 q10 r0 r1 r2 r3 r4 r5 r6 r7 r8 r9 r10 KD BD
        cases z
        · have E0 := TB.out (by first | rfl | trivial)
          subst E0
          clear TA TB YES NO
          go_wp2_with fail
          go_ret
          exact ⟨rfl, B2.out⟩
        · have TA2 := Lib.hid (TA.out (by first | rfl | trivial))
          clear TA TB
          go_wp2_with fail
          go_roundw
          case rel => exact ⟨i + 1, by go_num, by omega, Lib.hid ⟨B2.out, TA2.out⟩⟩
          case measure => simp [intOf]; omega
      · obtain rfl : i = n := by omega
        have E0 : R = true := YES.out HD.out
        subst E0
        clear YES NO HP HQ HD
        go_wp2_with fail
        go_ret
        exact ⟨rfl, B1.out⟩
  · have nn : ((n : Int) != (n' : Int)) = true := by simp; omega
    have E0 : ssn D E = false := ssn_len (by rw [hdl, hel]; exact cl)
    rw [E0]
    clear HP HQ hdl hel E0 cl
    go_enter Tryd.func32, Tryd.ntmps32
    go_wp2_with fail
    go_ret
    exact ⟨rfl, Below.refl _ _⟩
end Go.Proofs.YtnjndlbhnkhlhaaDoor
