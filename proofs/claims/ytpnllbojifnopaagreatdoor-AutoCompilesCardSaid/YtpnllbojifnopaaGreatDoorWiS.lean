/- The document's Same of two automata, of which both are the same by value. -/
import Derived.Test.YtpnllbojifnopaaGreatDoorWiQ
import Derived.Test.YtpnllbojifnopaaGreatDoorMY
namespace Go.Proofs.YtpnllbojifnopaaGreatDoor
open Go Go.RowKit Pk Rl
set_option maxRecDepth 20000

abbrev ed0' : Ed := ⟨0, 0, false, qz⟩
def Qrow (w : World) (A : Option Addr) (D : List Qu) : Prop := ∀ i, i < D.length → ∃ g, A = some ⟨g, 0, none⟩ ∧ w.cell? ⟨g, i * 3, none⟩ = some (.bool (D.getD i qz).x) ∧ w.cell? ⟨g, i * 3 + 1, none⟩ = some (.int .u8 (D.getD i qz).t) ∧ w.cell? ⟨g, i * 3 + 2, none⟩ = some (.slice (D.getD i qz).a (D.getD i qz).n (D.getD i qz).c)
def Erow (w : World) (A : Option Addr) (D : List Ed) : Prop := ∀ i, i < D.length → ∃ g, A = some ⟨g, 0, none⟩ ∧ w.cell? ⟨g, i * 6, none⟩ = some (.int .u8 ((D.getD i ed0').f : Int)) ∧ w.cell? ⟨g, i * 6 + 1, none⟩ = some (.int .u8 ((D.getD i ed0').t : Int)) ∧ w.cell? ⟨g, i * 6 + 2, none⟩ = some (.bool (D.getD i ed0').y) ∧ w.cell? ⟨g, i * 6 + 3, none⟩ = some (.bool (D.getD i ed0').g.x) ∧ w.cell? ⟨g, i * 6 + 4, none⟩ = some (.int .u8 (D.getD i ed0').g.t) ∧ w.cell? ⟨g, i * 6 + 5, none⟩ = some (.slice (D.getD i ed0').g.a (D.getD i ed0').g.n (D.getD i ed0').g.c)
theorem pcls_get (X : List Qu) (i : Nat) (hi : i < X.length) (j : Nat) (hj : j < 3) : (X.flatMap pcl)[i * 3 + j]? = (pcl (X.getD i qz))[j]? := by
  induction X generalizing i with
  | nil => simp at hi
  | cons v X ih =>
    rw [List.flatMap_cons]
    have h4 : (pcl v).length = 3 := rfl
    rcases i with _ | i
    · rw [List.getElem?_append_left (by omega)]; simp
    · rw [List.getElem?_append_right (by omega), h4, show (i + 1) * 3 + j - 3 = i * 3 + j by omega, ih i (by simpa using hi)]; simp
theorem ecls_getD (X : List Ed) (i : Nat) (hi : i < X.length) (j : Nat) (hj : j < 6) : (X.flatMap ecl)[i * 6 + j]? = (ecl (X.getD i ed0'))[j]? := by
  induction X generalizing i with
  | nil => simp at hi
  | cons v X ih =>
    rw [List.flatMap_cons]
    have h4 : (ecl v).length = 6 := rfl
    rcases i with _ | i
    · rw [List.getElem?_append_left (by omega)]; simp
    · rw [List.getElem?_append_right (by omega), h4, show (i + 1) * 6 + j - 6 = i * 6 + j by omega, ih i (by simpa using hi)]; simp
theorem OwnQ'.row {w : World} {B n c : Nat} {A : Option Addr} {D : List Qu} (h : OwnQ' w B (.slice A n c) D) : Qrow w A D := by
  intro i hi
  rcases h.2 with ⟨_, h0⟩ | ⟨g, cap, cur, e, _⟩
  · omega
  · injection e with e1 _ _
    have key : ∀ j u, j < 3 → (pcl (D.getD i qz))[j]? = some u → w.cell? ⟨g, i * 3 + j, none⟩ = some u := fun j u hj hu => by
      have := World.ownsRow.cells h (g := g) (by rw [e1]; rfl) (i * 3 + j) u (by rw [pcls_get D i hi j hj]; exact hu)
      rwa [add_plain, Nat.zero_add] at this
    exact ⟨g, e1, key 0 _ (by omega) rfl, key 1 _ (by omega) rfl, key 2 _ (by omega) rfl⟩
theorem OwnE.row {w : World} {B n c : Nat} {A : Option Addr} {D : List Ed} (h : OwnE w B (.slice A n c) D) : Erow w A D := by
  intro i hi
  rcases h.2 with ⟨_, h0⟩ | ⟨g, cap, cur, e, _⟩
  · omega
  · injection e with e1 _ _
    have key : ∀ j u, j < 6 → (ecl (D.getD i ed0'))[j]? = some u → w.cell? ⟨g, i * 6 + j, none⟩ = some u := fun j u hj hu => by
      have := World.ownsRow.cells h (g := g) (by rw [e1]; rfl) (i * 6 + j) u (by rw [ecls_getD D i hi j hj]; exact hu)
      rwa [add_plain, Nat.zero_add] at this
    exact ⟨g, e1, key 0 _ (by omega) rfl, key 1 _ (by omega) rfl, key 2 _ (by omega) rfl, key 3 _ (by omega) rfl, key 4 _ (by omega) rfl, key 5 _ (by omega) rfl⟩
theorem Qrow.below {w w' : World} {A : Option Addr} {D : List Qu} (h : Qrow w A D) (hb : Below w.heap.size w w') : Qrow w' A D := fun i hi => by
  obtain ⟨g, e, h0, h1, h2⟩ := h i hi
  have k : ∀ {j v}, w.cell? ⟨g, j, none⟩ = some v → w'.cell? ⟨g, j, none⟩ = some v := fun hc => (hb.cell (World.block_lt_of_cell? _ _ hc)).trans hc
  exact ⟨g, e, k h0, k h1, k h2⟩
theorem Erow.below {w w' : World} {A : Option Addr} {D : List Ed} (h : Erow w A D) (hb : Below w.heap.size w w') : Erow w' A D := fun i hi => by
  obtain ⟨g, e, h0, h1, h2, h3, h4, h5⟩ := h i hi
  have k : ∀ {j v}, w.cell? ⟨g, j, none⟩ = some v → w'.cell? ⟨g, j, none⟩ = some v := fun hc => (hb.cell (World.block_lt_of_cell? _ _ hc)).trans hc
  exact ⟨g, e, k h0, k h1, k h2, k h3, k h4, k h5⟩
theorem qgetD_mem (D : List Qu) (k : Nat) (h : k < D.length) : D.getD k qz ∈ D := by
  rw [List.getD_eq_getElem?_getD, List.getElem?_eq_getElem h]; exact List.getElem_mem _
theorem egetD_mem (D : List Ed) (k : Nat) (h : k < D.length) : D.getD k ed0' ∈ D := by
  rw [List.getD_eq_getElem?_getD, List.getElem?_eq_getElem h]; exact List.getElem_mem _
theorem vq_getD {D E : List Qu} (h : D.map vq = E.map vq) (i : Nat) (hi : i < D.length) : vq (D.getD i qz) = vq (E.getD i qz) := by
  have hl := congrArg List.length h
  rw [List.length_map, List.length_map] at hl
  have := congrArg (fun l => l[i]?) h
  simp only [List.getElem?_map] at this
  rw [List.getElem?_eq_getElem hi, List.getElem?_eq_getElem (by omega)] at this
  rw [List.getD_eq_getElem?_getD, List.getD_eq_getElem?_getD, List.getElem?_eq_getElem hi, List.getElem?_eq_getElem (by omega)]
  simpa using this
theorem ve_getD {D E : List Ed} (h : D.map ve = E.map ve) (i : Nat) (hi : i < D.length) : ve (D.getD i ed0') = ve (E.getD i ed0') := by
  have hl := congrArg List.length h
  rw [List.length_map, List.length_map] at hl
  have := congrArg (fun l => l[i]?) h
  simp only [List.getElem?_map] at this
  rw [List.getElem?_eq_getElem hi, List.getElem?_eq_getElem (by omega)] at this
  rw [List.getD_eq_getElem?_getD, List.getD_eq_getElem?_getD, List.getElem?_eq_getElem hi, List.getElem?_eq_getElem (by omega)]
  simpa using this
theorem rpsame_yes (q q' : Qu) (w : World) (h : vq q = vq q') (hq : Qok w q) (hq' : Qok w q') : Calls Tryz.prog 52 #[pv q.x q.t q.a q.n q.c, pv q'.x q'.t q'.a q'.n q'.c] w fun e w' => e = .returned (.bool true) ∧ Below w.heap.size w w' := by
  have e := rpsame_any q.x q.t q.a q.n q.c q.L q'.x q'.t q'.a q'.n q'.c q'.L w hq.len hq'.len (by have := hq.few; omega) hq.row hq'.row hq.ok hq'.ok
  unfold vq at h
  simp only [Prod.mk.injEq] at h
  rw [← h.1, ← h.2.1, ← h.2.2, psm_self] at e
  rw [← h.1, ← h.2.1]
  exact e
/- both automata, in boxes -/
structure S14 (w W : World) (Ap : Option Addr) (kp cp a b : Nat) (Ae : Option Addr) (ke ce : Nat) (Ap' : Option Addr) (cp' : Nat) (Ae' : Option Addr) (ce' : Nat) : Prop where
  one : AB W w.heap.size Ap kp cp (a : Int) (b : Int) Ae ke ce
  two : AB W (w.heap.size + 1) Ap' kp cp' (a : Int) (b : Int) Ae' ke ce'
  bel : Below w.heap.size w W
theorem S14.next {w W W' : World} {Ap : Option Addr} {kp cp a b : Nat} {Ae : Option Addr} {ke ce : Nat} {Ap' : Option Addr} {cp' : Nat} {Ae' : Option Addr} {ce' : Nat} (h : S14 w W Ap kp cp a b Ae ke ce Ap' cp' Ae' ce') (hb : Below W.heap.size W W') : S14 w W' Ap kp cp a b Ae ke ce Ap' cp' Ae' ce' :=
  ⟨h.one.below hb h.one.lt, h.two.below hb h.two.lt, below_go h.bel hb⟩
abbrev Kq (w W : World) (Ap : Option Addr) (kp cp a b : Nat) (Ae : Option Addr) (ke ce : Nat) (Ap' : Option Addr) (cp' : Nat) (Ae' : Option Addr) (ce' : Nat) (g g' i : Nat) (x : Bool) (t : Int) (qa : Option Addr) (qn qc : Nat) (x' : Bool) (t' : Int) (qa' : Option Addr) (qn' qc' : Nat) : Prop :=
  W.cell? ⟨w.heap.size, 0, none⟩ = some (.slice Ap kp cp) ∧ W.cell? ⟨w.heap.size + 1, 0, none⟩ = some (.slice Ap' kp cp') ∧ W.cell? ⟨g, i * 3, none⟩ = some (.bool x) ∧ W.cell? ⟨g, i * 3 + 1, none⟩ = some (.int .u8 t) ∧ W.cell? ⟨g, i * 3 + 2, none⟩ = some (.slice qa qn qc) ∧ W.cell? ⟨g', i * 3, none⟩ = some (.bool x') ∧ W.cell? ⟨g', i * 3 + 1, none⟩ = some (.int .u8 t') ∧ W.cell? ⟨g', i * 3 + 2, none⟩ = some (.slice qa' qn' qc') ∧ Hid (S14 w W Ap kp cp a b Ae ke ce Ap' cp' Ae' ce')
theorem kq_next {w W W' : World} {Ap : Option Addr} {kp cp a b : Nat} {Ae : Option Addr} {ke ce : Nat} {Ap' : Option Addr} {cp' : Nat} {Ae' : Option Addr} {ce' g g' i : Nat} {x : Bool} {t : Int} {qa : Option Addr} {qn qc : Nat} {x' : Bool} {t' : Int} {qa' : Option Addr} {qn' qc' : Nat} (hb : Below W.heap.size W W') (h : Kq w W Ap kp cp a b Ae ke ce Ap' cp' Ae' ce' g g' i x t qa qn qc x' t' qa' qn' qc') : Kq w W' Ap kp cp a b Ae ke ce Ap' cp' Ae' ce' g g' i x t qa qn qc x' t' qa' qn' qc' := by
  have k : ∀ {r j v}, W.cell? ⟨r, j, none⟩ = some v → W'.cell? ⟨r, j, none⟩ = some v := fun hc => (hb.cell (World.block_lt_of_cell? _ _ hc)).trans hc
  obtain ⟨h0, h1, h2, h3, h4, h5, h6, h7, h8⟩ := h
  exact ⟨k h0, k h1, k h2, k h3, k h4, k h5, k h6, k h7, Lib.hid (h8.out.next hb)⟩
set_option maxHeartbeats 8000000 in
theorem rsame14_any (Ap : Option Addr) (kp cp a b : Nat) (Ae : Option Addr) (ke ce : Nat) (Ap' : Option Addr) (cp' : Nat) (Ae' : Option Addr) (ce' : Nat) (Ps Ps' : List Qu) (Es Es' : List Ed) (w : World) (lp : Ps.length = kp) (le : Es.length = ke) (hp : Ps.map vq = Ps'.map vq) (he : Es.map ve = Es'.map ve)
    (r1 : Qrow w Ap Ps) (r2 : Qrow w Ap' Ps') (r3 : Erow w Ae Es) (r4 : Erow w Ae' Es') (q1 : ∀ q ∈ Ps, Qok w q) (q2 : ∀ q ∈ Ps', Qok w q) (q3 : ∀ d ∈ Es, Qok w d.g) (q4 : ∀ d ∈ Es', Qok w d.g) (h1 : kp ≤ 1000) (h2 : ke ≤ 1000) :
    Calls Tryz.prog 16 #[autv Ap kp cp a b Ae ke ce, autv Ap' kp cp' a b Ae' ke ce'] w fun e w' => e = .returned (.bool true) ∧ Below w.heap.size w w' := by
  obtain ⟨w1, hw1⟩ : ∃ X, (w.alloc (.cells #[.slice Ap kp cp, .int .u32 (a : Int), .int .u32 (b : Int), .slice Ae ke ce] 36)).alloc (.cells #[.slice Ap' kp cp', .int .u32 (a : Int), .int .u32 (b : Int), .slice Ae' ke ce'] 36) = X := ⟨_, rfl⟩
  have X0 : Hid (S14 w w1 Ap kp cp a b Ae ke ce Ap' cp' Ae' ce') := Lib.hid (by
    refine ⟨?_, ?_, hw1 ▸ below_go (below_alloc w _) (below_alloc _ _)⟩
    · have h0 : AB (w.alloc (.cells #[.slice Ap kp cp, .int .u32 (a : Int), .int .u32 (b : Int), .slice Ae ke ce] 36)) w.heap.size Ap kp cp a b Ae ke ce := heap_alloc_new w _
      rw [← hw1]
      exact h0.below (below_alloc _ _) h0.lt
    · rw [← hw1, ← World.size_alloc w (.cells #[.slice Ap kp cp, .int .u32 (a : Int), .int .u32 (b : Int), .slice Ae ke ce] 36)]
      exact heap_alloc_new _ _)
  have lp' : Ps'.length = kp := by have := congrArg List.length hp; rw [List.length_map, List.length_map] at this; omega
  have le' : Es'.length = ke := by have := congrArg List.length he; rw [List.length_map, List.length_map] at this; omega
  have R1 := Lib.hid (fun W (hW : Below w.heap.size w W) i (hi : i < kp) => (r1.below hW) i (by omega))
  have R2 := Lib.hid (fun W (hW : Below w.heap.size w W) i (hi : i < kp) => (r2.below hW) i (by omega))
  have R3 := Lib.hid (fun W (hW : Below w.heap.size w W) i (hi : i < ke) => (r3.below hW) i (by omega))
  have R4 := Lib.hid (fun W (hW : Below w.heap.size w W) i (hi : i < ke) => (r4.below hW) i (by omega))
  have S1 := Lib.hid (fun i (hi : i < kp) W (hW : Below w.heap.size w W) => rpsame_yes (Ps.getD i qz) (Ps'.getD i qz) W (vq_getD hp i (by omega)) ((q1 _ (qgetD_mem Ps i (by omega))).below hW) ((q2 _ (qgetD_mem Ps' i (by omega))).below hW))
  have EQ := Lib.hid (fun i (hi : i < ke) => ve_getD he i (by omega))
  have S2 := Lib.hid (fun i (hi : i < ke) W (hW : Below w.heap.size w W) => rpsame_yes (Es.getD i ed0').g (Es'.getD i ed0').g W (by have := ve_getD he i (by omega); unfold ve at this; simp only [Prod.mk.injEq] at this; exact this.2.2.2) ((q3 _ (egetD_mem Es i (by omega))).below hW) ((q4 _ (egetD_mem Es' i (by omega))).below hW))
  clear lp le hp he r1 r2 r3 r4 q1 q2 q3 q4 lp' le'
  have n0 : ((a : Int) != (a : Int)) = false := by simp
  have n1 : ((b : Int) != (b : Int)) = false := by simp
  have n2 : ((kp : Int) != (kp : Int)) = false := by simp
  have n3 : ((ke : Int) != (ke : Int)) = false := by simp
  go_enter Tryz.func16, Tryz.ntmps16
  go_upto_region 1 with fail
  clear hw1
  obtain ⟨o0, o1, o2, o3, _⟩ := X0.out.one.cells
  obtain ⟨t0, t1, t2, t3, _⟩ := X0.out.two.cells
  go_wp2_with fail
  go_loopw [42] (fun v W => ∃ (i : Nat), v = .int .i64 (i : Int) ∧ i ≤ kp ∧ Hid (S14 w W Ap kp cp a b Ae ke ce Ap' cp' Ae' ce')) (fun v _ => kp - (intOf v).toNat)
  case atStart => exact ⟨0, rfl, by omega, X0⟩
  case round =>
    obtain ⟨i, rfl, hi, H⟩ := hrel
    clear X0 o0 o1 o2 o3 t0 t1 t2 t3
    obtain ⟨o0, o1, o2, o3, _⟩ := H.out.one.cells
    obtain ⟨t0, t1, t2, t3, _⟩ := H.out.two.cells
    by_cases ci : i < kp
    · obtain ⟨g, rfl, c0, c1, c2⟩ := R1.out wr H.out.bel i ci
      obtain ⟨g', rfl, d0, d1, d2⟩ := R2.out wr H.out.bel i ci
      have SS := Lib.hid (S1.out i ci)
      obtain ⟨x, hx⟩ : ∃ x, Ps.getD i qz = x := ⟨_, rfl⟩
      obtain ⟨y, hy⟩ : ∃ y, Ps'.getD i qz = y := ⟨_, rfl⟩
      rw [hx] at c0 c1 c2 SS
      rw [hy] at d0 d1 d2 SS
      clear hx hy
      obtain ⟨xx, xt, xa, xn, xc, xL⟩ := x
      obtain ⟨yx, yt, ya, yn, yc, yL⟩ := y
      simp only at c0 c1 c2 d0 d1 d2
      have K0 : Hid (Kq w wr.drew (some ⟨g, 0, none⟩) kp cp a b Ae ke ce (some ⟨g', 0, none⟩) cp' Ae' ce' g g' i xx xt xa xn xc yx yt ya yn yc) := Lib.hid (kq_next (Below.refl _ _).drew ⟨o0, t0, c0, c1, c2, d0, d1, d2, H⟩)
      go_wp2_with fail
      go_region_held3 (fun W => W.cell? ⟨w.heap.size, 0, none⟩ = some (.slice (some ⟨g, 0, none⟩) kp cp) ∧ W.cell? ⟨w.heap.size + 1, 0, none⟩ = some (.slice (some ⟨g', 0, none⟩) kp cp') ∧ W.cell? ⟨g, i * 3, none⟩ = some (.bool xx) ∧ W.cell? ⟨g, i * 3 + 1, none⟩ = some (.int .u8 xt) ∧ W.cell? ⟨g, i * 3 + 2, none⟩ = some (.slice xa xn xc) ∧ W.cell? ⟨g', i * 3, none⟩ = some (.bool yx) ∧ W.cell? ⟨g', i * 3 + 1, none⟩ = some (.int .u8 yt) ∧ W.cell? ⟨g', i * 3 + 2, none⟩ = some (.slice ya yn yc) ∧ Hid (S14 w W (some ⟨g, 0, none⟩) kp cp a b Ae ke ce (some ⟨g', 0, none⟩) cp' Ae' ce'))
        (first | (with_reducible assumption) | (with_reducible exact K0.out) | (with_reducible exact kq_next b1 (by assumption)))
        (first | (go_at_call 52; (with_reducible refine Calls.mono (SS.out _ ?_) ?_); (first | (with_reducible exact (And.right (And.right (And.right (And.right (And.right (And.right (And.right (And.right (by assumption)))))))) : Hid (S14 w _ _ _ _ _ _ _ _ _ _ _ _ _)).out.bel) | (exact K0.out.2.2.2.2.2.2.2.2.out.bel)); rintro e w' ⟨rfl, b1⟩))
      rename_i hHeld
      have H2 := hHeld.2.2.2.2.2.2.2.2
      clear hHeld SS c0 c1 c2 d0 d1 d2 K0 o0 o1 o2 o3 t0 t1 t2 t3 H
      go_wp2_with fail
      go_roundw
      case rel => exact ⟨i + 1, by go_num, by omega, H2⟩
      case measure => simp [intOf]; omega
    · obtain rfl : i = kp := by omega
      go_wp2_with fail
      go_loopw [61] (fun v W => ∃ (j : Nat), v = .int .i64 (j : Int) ∧ j ≤ ke ∧ Hid (S14 w W Ap i cp a b Ae ke ce Ap' cp' Ae' ce')) (fun v _ => ke - (intOf v).toNat)
      case atStart => exact ⟨0, rfl, by omega, H⟩
      case round =>
        obtain ⟨j, rfl, hj, I⟩ := hrel
        clear H o0 o1 o2 o3 t0 t1 t2 t3
        obtain ⟨o0, o1, o2, o3, _⟩ := I.out.one.cells
        obtain ⟨t0, t1, t2, t3, _⟩ := I.out.two.cells
        by_cases cj : j < ke
        · obtain ⟨g, rfl, c0, c1, c2, c3, c4, c5⟩ := R3.out wr I.out.bel j cj
          obtain ⟨g', rfl, d0, d1, d2, d3, d4, d5⟩ := R4.out wr I.out.bel j cj
          have SS := Lib.hid (S2.out j cj)
          have EE := EQ.out j cj
          obtain ⟨x, hx⟩ : ∃ x, Es.getD j ed0' = x := ⟨_, rfl⟩
          obtain ⟨y, hy⟩ : ∃ y, Es'.getD j ed0' = y := ⟨_, rfl⟩
          rw [hx] at c0 c1 c2 c3 c4 c5 SS EE
          rw [hy] at d0 d1 d2 d3 d4 d5 SS EE
          clear hx hy
          obtain ⟨xf, xg, xy, ⟨xx, xt, xa, xn, xc, xL⟩⟩ := x
          obtain ⟨yf, yg, yy, ⟨yx, yt, ya, yn, yc, yL⟩⟩ := y
          simp only [ve, vq, Prod.mk.injEq] at c0 c1 c2 c3 c4 c5 d0 d1 d2 d3 d4 d5 EE
          obtain ⟨rfl, rfl, rfl, rfl, rfl, rfl⟩ := EE
          have m0 : ((xf : Int) != (xf : Int)) = false := by simp
          have m1 : ((xg : Int) != (xg : Int)) = false := by simp
          have m2 : (xy != xy) = false := by simp
          have z1 := I.out.one.lt
          have z2 := I.out.two.lt
          have z3 := World.block_lt_of_cell? _ _ c0
          have z4 := World.block_lt_of_cell? _ _ d0
          have IB := Lib.hid (fun (o1 o2 : Obj) => I.out.next (below_go (below_alloc wr o1) (below_alloc _ o2)))
          go_wp2_with fail
          refine (SS.out _ (IB.out _ _).bel).mono ?_
          rintro e w' ⟨rfl, hb⟩
          have I2 := Lib.hid ((IB.out _ _).next hb)
          clear hb SS IB I c0 c1 c2 c3 c4 c5 d0 d1 d2 d3 d4 d5 o0 o1 o2 o3 t0 t1 t2 t3
          go_wp2_with fail
          go_roundw
          case rel => exact ⟨j + 1, by go_num, by omega, I2⟩
          case measure => simp [intOf]; omega
        · obtain rfl : j = ke := by omega
          go_wp2_with fail
          go_ret
          exact ⟨rfl, I.out.bel⟩
end Go.Proofs.YtpnllbojifnopaaGreatDoor
