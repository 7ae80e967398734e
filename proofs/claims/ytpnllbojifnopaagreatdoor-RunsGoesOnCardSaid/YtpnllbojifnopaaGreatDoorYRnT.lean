/- Engines told in the world at hand; Feed as one; two engines shifted. -/
import Derived.Test.YtpnllbojifnopaaGreatDoorYRnO
namespace Go.Proofs.YtpnllbojifnopaaGreatDoor
open Go Go.RowKit Go.Maps Pk Rl
set_option maxRecDepth 20000
theorem row_keepT {w w' : World} {B : Nat} {ty : TypeId} {sz : Nat} {v : Value} {n : Nat} {cs : List Value} {d : Nat} {ds : Array Value} {T : TypeId} {fr : Nat × Nat} (h : w.ownsRow B ty sz v n cs) (hk : Keep (· = d) w w') (hd : w.heap[d]? = some (Obj.cells ds T fr)) (ht : ty ≠ T) : w'.ownsRow B ty sz v n cs :=
  row_same h fun g cur _ hh => by
    rw [hk.block g (Array.getElem?_eq_some_iff.1 hh).1 (by
      intro eg
      have eg' : g = d := eg
      rw [← eg', hh] at hd
      injection hd with hd
      injection hd with _ h2
      exact ht h2)]
    exact hh
theorem row_keep {w w' : World} {B : Nat} {ty : TypeId} {sz : Nat} {v : Value} {n : Nat} {cs : List Value} {d : Nat} {e : En} (h : w.ownsRow B ty sz v n cs) (hk : Keep (· = d) w w') (hd : EnB w d e) (ht : ty ≠ 153) : w'.ownsRow B ty sz v n cs :=
  row_keepT h hk hd ht
theorem Qm.keep {w w' : World} {B : Nat} {q : Qu} {d : Nat} {e : En} (h : Qm w B q) (hk : Keep (· = d) w w') (hd : EnB w d e) : Qm w' B q := ⟨row_keep h.own hk hd (by decide), h.len, h.few, h.ok⟩
theorem Cz.keep {w w' : World} {B : Nat} {Ap : Option Addr} {kp cp : Nat} {Ae : Option Addr} {ke ce : Nat} {Ps : List Qu} {Es : List Ed} {d : Nat} {e : En} (h : Cz w B Ap kp cp Ae ke ce Ps Es) (hk : Keep (· = d) w w') (hd : EnB w d e) : Cz w' B Ap kp cp Ae ke ce Ps Es :=
  ⟨row_keep h.rp hk hd (by decide), row_keep h.re hk hd (by decide), h.lp, h.le, fun q hq => (h.qp q hq).keep hk hd, fun x hx => (h.qe x hx).keep hk hd⟩
structure Ez (W : World) (d : Nat) (e : En) (Ps : List Qu) (Es : List Ed) (R : List Ru) : Prop where
  cz : ∃ B, Cz W B e.Ap e.kp e.cp e.Ae e.ke e.ce Ps Es
  o : ∃ C, OwnRu W C (.slice e.Ar e.nr e.cr) R
  eb : EnB W d e
  kp : e.kp ≤ 32
  ke : e.ke ≤ 64
  a : e.a < 4294967296
  b : e.b < 4294967296
  win : e.win < 18446744073709551616
  ef : ∀ x ∈ Es, x.f < 32 ∧ x.t < 32
  next : e.next ≤ 1099511627776
  last : e.last ≤ 1099511627776
  n : R.length = e.nr
  few : e.nr ≤ 64
  x : Rok e.last R
theorem Ez.rus {W : World} {d : Nat} {e : En} {Ps : List Qu} {Es : List Ed} {R : List Ru} (h : Ez W d e Ps Es R) : Rus W e.Ar R := by
  obtain ⟨C, ho⟩ := h.o
  obtain ⟨A', c', he, hr, _⟩ := ho.form
  injection he with e1 _ _
  rw [e1]; exact hr
theorem Ez.enw {W : World} {d : Nat} {e : En} {Ps : List Qu} {Es : List Ed} {R : List Ru} (h : Ez W d e Ps Es R) : Enw W d e Ps Es R := by
  obtain ⟨B, hc⟩ := h.cz
  exact ⟨h.eb, hc.read, h.kp, h.ke, h.a, h.b, h.win, h.ef, h.next, h.last, h.rus, h.n, h.few, h.x⟩
theorem Ez.below {W W' : World} {d : Nat} {e : En} {Ps : List Qu} {Es : List Ed} {R : List Ru} (h : Ez W d e Ps Es R) (hb : Below W.heap.size W W') : Ez W' d e Ps Es R := by
  obtain ⟨B, hc⟩ := h.cz
  obtain ⟨C, ho⟩ := h.o
  exact ⟨⟨B, hc.below hb⟩, ⟨C, ho.below hb⟩, h.eb.below hb, h.kp, h.ke, h.a, h.b, h.win, h.ef, h.next, h.last, h.n, h.few, h.x⟩
theorem Ez.keep {W W' : World} {d d' : Nat} {e e' : En} {Ps : List Qu} {Es : List Ed} {R : List Ru} (h : Ez W d e Ps Es R) (hk : Keep (· = d') W W') (hd : EnB W d' e') (hne : d ≠ d') : Ez W' d e Ps Es R := by
  obtain ⟨B, hc⟩ := h.cz
  obtain ⟨C, ho⟩ := h.o
  exact ⟨⟨B, hc.keep hk hd⟩, ⟨C, row_keep ho hk hd (by decide)⟩, (hk.block d h.eb.lt hne).trans h.eb, h.kp, h.ke, h.a, h.b, h.win, h.ef, h.next, h.last, h.n, h.few, h.x⟩
theorem Ez.keepL {W W' : World} {d g : Nat} {e : En} {Ps : List Qu} {Es : List Ed} {R : List Ru} {ds : Array Value} {fr : Nat × Nat} (h : Ez W d e Ps Es R) (hk : Keep (· = g) W W') (hd : W.heap[g]? = some (Obj.cells ds 81 fr)) : Ez W' d e Ps Es R := by
  obtain ⟨B, hc⟩ := h.cz
  obtain ⟨C, ho⟩ := h.o
  refine ⟨⟨B, row_keepT hc.rp hk hd (by decide), row_keepT hc.re hk hd (by decide), hc.lp, hc.le, fun q hq => ⟨row_keepT (hc.qp q hq).own hk hd (by decide), (hc.qp q hq).len, (hc.qp q hq).few, (hc.qp q hq).ok⟩, fun x hx => ⟨row_keepT (hc.qe x hx).own hk hd (by decide), (hc.qe x hx).len, (hc.qe x hx).few, (hc.qe x hx).ok⟩⟩, ⟨C, row_keepT ho hk hd (by decide)⟩, (hk.block d h.eb.lt ?_).trans h.eb, h.kp, h.ke, h.a, h.b, h.win, h.ef, h.next, h.last, h.n, h.few, h.x⟩
  intro eg
  have eg' : d = g := eg
  have he : W.heap[d]? = some (enobj e) := h.eb
  rw [eg', hd] at he
  injection he with he
  injection he with _ h2
  exact absurd h2 (by decide)
def NzX (V : AV) (win : Nat) (next : Nat) (w : World) (en : Ending) (w' : World) : Prop :=
  (V.m ≠ 0 ∧ en = .returned (.tuple #[.pointer none, .int .i64 V.m]) ∧ Below w.heap.size w w') ∨
  (V.m = 0 ∧ 1099511627776 < next ∧ en = .returned (.tuple #[.pointer none, .int .i64 5]) ∧ Below w.heap.size w w') ∨
  (V.m = 0 ∧ next ≤ 1099511627776 ∧ ∃ d Ap kp cp Ae ke ce Ps Es B, en = .returned (.tuple #[.pointer (some ⟨d, 0, none⟩), .int .i64 0]) ∧ w.heap.size ≤ d ∧
    Hid (EnB w' d ⟨Ap, kp, cp, V.a, V.b, Ae, ke, ce, win, next, 0, false, 0, none, 0, 0⟩ ∧ Cz w' B Ap kp cp Ae ke ce Ps Es ∧ (Ps.map vq = V.P ∧ Es.map ve = V.E)) ∧ Below w.heap.size w w')
set_option maxHeartbeats 8000000 in
theorem newz_any (A : Option Addr) (n c : Nat) (L : List Nd) (win next : Nat) (w : World) (hP : Pt w A n c L) (hT : Tab w) (hT5 : Tab5 w) :
    Calls Tryz.prog 26 #[ptv A n c (win : Int), .int .u64 (next : Int)] w fun en w' => NzX (cov L (win : Int)) win next w en w' := by
  have nb := below_alloc w (ptobj A n c (win : Int))
  have NB := Lib.hid nb
  have PB := Lib.hid (PtB.alloc w A n c (win : Int))
  have CC := Lib.hid (cv_any A n c L (win : Int) (w.alloc (ptobj A n c (win : Int))) (hP.below nb) (hT.below nb) (fun j hj => (nb.cell (World.block_lt_of_cell? _ _ (hT5 j hj))).trans (hT5 j hj)))
  obtain ⟨V, hV⟩ : ∃ V, cov L (win : Int) = V := ⟨_, rfl⟩
  rw [hV] at CC ⊢
  clear hP hT hT5 nb hV
  go_enter Tryz.func26, Tryz.ntmps26
  go_upto_region 1 with fail
  generalize w.alloc (.cells #[.slice A n c, .int .u64 (win : Int)] 28) = w1 at NB PB CC ⊢
  have k0 := PB.out.c0
  have k1 := PB.out.c1
  go_wp2_with fail
  refine CC.out.mono ?_
  rintro e w2 ⟨Ap, kp, cp, Ae, ke, ce, Ps, Es, B, rfl, HC, hb⟩
  have P2 := Lib.hid (PB.out.next hb)
  have B2 := Lib.hid (below_go NB.out hb)
  have CR := Lib.hid HC.out.1
  have MP := Lib.hid (And.intro HC.out.2.1 HC.out.2.2.1)
  clear hb HC CC PB k0 k1 NB
  obtain ⟨Vm, Va, Vb, VP, VE⟩ := V
  simp only at MP ⊢
  go_upto_region 2 with fail
  have n3 := below_alloc w2 (.cells #[.slice Ap kp cp, .int .u32 (Va : Int), .int .u32 (Vb : Int), .slice Ae ke ce] 36)
  have P3 := Lib.hid (P2.out.next n3)
  have B3 := Lib.hid (below_go B2.out n3)
  have C3 := Lib.hid (CR.out.below n3)
  have A3 : Hid (AB (w2.alloc (.cells #[.slice Ap kp cp, .int .u32 (Va : Int), .int .u32 (Vb : Int), .slice Ae ke ce] 36)) w2.heap.size Ap kp cp Va Vb Ae ke ce) := Lib.hid (heap_alloc_new w2 _)
  clear n3 P2 B2 CR
  generalize w2.alloc (.cells #[.slice Ap kp cp, .int .u32 (Va : Int), .int .u32 (Vb : Int), .slice Ae ke ce] 36) = w3 at P3 B3 C3 A3 ⊢
  generalize w2.heap.size = g at A3 ⊢
  by_cases hm : Vm = 0
  · have m1 : (Vm != 0) = false := by simp [hm]
    have HM := Lib.hid hm
    clear hm
    by_cases hn : 1099511627776 < next
    · have d1 : decide ((1099511627776 : Int) < (next : Int)) = true := by simp; omega
      have d1' : decide (1099511627776 < next) = true := by simp; omega
      have HN := Lib.hid hn
      clear hn
      go_wp2_with fail
      exact bodyPost_ret (results_tmp2 rfl _ _ _) rfl (Or.inr (Or.inl ⟨HM.out, HN.out, rfl, B3.out⟩))
    · have d1 : decide ((1099511627776 : Int) < (next : Int)) = false := by simp; omega
      have d1' : decide (1099511627776 < next) = false := by simp; omega
      have HN := Lib.hid hn
      clear hn
      have k1 := P3.out.c1
      obtain ⟨a0, a1, a2, a3, _⟩ := A3.out.cells
      have n4 := below_alloc w3 (enobj ⟨Ap, kp, cp, Va, Vb, Ae, ke, ce, win, next, 0, false, 0, none, 0, 0⟩)
      have E4 : Hid (EnB (w3.alloc (enobj ⟨Ap, kp, cp, Va, Vb, Ae, ke, ce, win, next, 0, false, 0, none, 0, 0⟩)) w3.heap.size ⟨Ap, kp, cp, Va, Vb, Ae, ke, ce, win, next, 0, false, 0, none, 0, 0⟩) := Lib.hid (heap_alloc_new w3 _)
      have B4 := Lib.hid (below_go B3.out n4)
      have N4 := Lib.hid n4
      clear n4
      go_wp2_with fail
      exact bodyPost_ret (results_tmp2 rfl _ _ _) rfl (Or.inr (Or.inr ⟨HM.out, by have := HN.out; omega, w3.heap.size, Ap, kp, cp, Ae, ke, ce, Ps, Es, B, rfl, B3.out.size, Lib.hid ⟨E4.out, C3.out.below N4.out, MP.out⟩, B4.out⟩))
  · have m1 : (Vm != 0) = true := by simp [hm]
    have HM := Lib.hid hm
    clear hm
    go_wp2_with fail
    exact bodyPost_ret (results_tmp2 rfl _ _ _) rfl (Or.inl ⟨HM.out, rfl, B3.out⟩)
def NeX (L : List Nd) (win next : Nat) (w : World) (en : Ending) (w' : World) : Prop :=
  (((cov L (win : Int)).m ≠ 0 ∨ 1099511627776 < next) ∧ ∃ m : Int, m ≠ 0 ∧ ((cov L (win : Int)).m ≠ 0 → m = (cov L (win : Int)).m) ∧ en = .returned (.tuple #[.pointer none, .int .i64 m]) ∧ Below w.heap.size w w') ∨
  ((cov L (win : Int)).m = 0 ∧ next ≤ 1099511627776 ∧ ∃ d e Ps Es, en = .returned (.tuple #[.pointer (some ⟨d, 0, none⟩), .int .i64 0]) ∧ w.heap.size ≤ d ∧ Hid (Ez w' d e Ps Es []) ∧ Hid (Ps.map vq = (cov L (win : Int)).P ∧ Es.map ve = (cov L (win : Int)).E ∧ e.a = (cov L (win : Int)).a ∧ e.b = (cov L (win : Int)).b ∧ e.win = win ∧ e.next = next ∧ e.last = 0 ∧ e.fl = false ∧ e.fat = 0 ∧ e.nr = 0) ∧ Below w.heap.size w w')
theorem newe_any (A : Option Addr) (n c : Nat) (L : List Nd) (win next : Nat) (w : World) (hP : Pt w A n c L) (hT : Tab w) (hT5 : Tab5 w) (hw : win < 18446744073709551616) :
    Calls Tryz.prog 26 #[ptv A n c (win : Int), .int .u64 (next : Int)] w fun en w' => NeX L win next w en w' := by
  refine (newz_any A n c L win next w hP hT hT5).mono fun en w' h => ?_
  rcases h with ⟨h0, he, hb⟩ | ⟨h0, hn, he, hb⟩ | ⟨h0, hn, d, Ap, kp, cp, Ae, ke, ce, Ps, Es, B, he, hd, hh, hb⟩
  · exact Or.inl ⟨Or.inl h0, _, h0, fun _ => rfl, he, hb⟩
  · exact Or.inl ⟨Or.inr hn, 5, by decide, fun k => absurd h0 k, he, hb⟩
  · obtain ⟨hE, hC, hP', hEs⟩ := hh.out
    have hk : kp = (cov L (win : Int)).P.length := by rw [← hC.lp, ← hP', List.length_map]
    have hl : ke = (cov L (win : Int)).E.length := by rw [← hC.le, ← hEs, List.length_map]
    have hf := cov_few (L := L) (win := (win : Int))
    obtain ⟨ha, hb', hef⟩ := cov_nums h0
    refine Or.inr ⟨h0, hn, d, _, Ps, Es, he, hd, Lib.hid ⟨⟨B, hC⟩, ⟨0, OwnRu.nil _ _⟩, hE, ?_, ?_, ha, hb', hw, ?_, hn, by show 0 ≤ _; omega, rfl, by show 0 ≤ 64; omega, fun r hr => by cases hr⟩, Lib.hid ⟨hP', hEs, rfl, rfl, rfl, rfl, rfl, rfl, rfl, rfl⟩, hb⟩
    · show kp ≤ 32
      rw [hk]; exact hf.1
    · show ke ≤ 64
      rw [hl]; exact hf.2
    · intro x hx
      have := hef (ve x) (by rw [← hEs]; exact List.mem_map_of_mem hx)
      exact this
def FzX (e : En) (d : Nat) (Ps : List Qu) (Es : List Ed) (R : List Ru) (l : Lg) (W : World) (en : Ending) (W' : World) : Prop :=
  (fcode e l ≠ 0 ∧ en = .returned (.tuple #[nsl, .int .i64 (fcode e l)]) ∧ Below W.heap.size W W') ∨
  (fcode e l = 0 ∧ 64 < (feR Ps Es e.a e.win e.next R l).length ∧ en = .returned (.tuple #[nsl, .int .i64 12]) ∧ Keep (· = d) W W' ∧ Hid (Ez W' d { e with next := e.next + 1, last := l.at_, fl := true, fat := e.next, Ar := none, nr := 0, cr := 0 } Ps Es [])) ∨
  (fcode e l = 0 ∧ (feR Ps Es e.a e.win e.next R l).length ≤ 64 ∧ ∃ A c A' c', en = .returned (.tuple #[.slice A' (feM Ps Es e.a e.b e.win e.next R l).length c', .int .i64 0]) ∧ Keep (· = d) W W' ∧
    Hid (Ez W' d { e with next := e.next + 1, last := l.at_, fl := false, fat := 0, Ar := A, nr := (feR Ps Es e.a e.win e.next R l).length, cr := c } Ps Es (feR Ps Es e.a e.win e.next R l)) ∧ Hid (OwnMt W' W.heap.size (.slice A' (feM Ps Es e.a e.b e.win e.next R l).length c') (feM Ps Es e.a e.b e.win e.next R l)))
theorem feedz_any (W : World) (d : Nat) (e : En) (Ps : List Qu) (Es : List Ed) (R : List Ru) (l : Lg) (h : Ez W d e Ps Es R) (hT : Tab W) (hl : Lok W l) :
    Calls Tryz.prog 28 #[.pointer (some ⟨d, 0, none⟩), lval l] W fun en W' => FzX e d Ps Es R l W en W' := by
  obtain ⟨B, hcz⟩ := h.cz
  by_cases hf : e.fl = true
  · have e0 : fcode e l = 10 := by unfold fcode; rw [if_pos hf]
    exact (feed_no d e Ps Es R l W h.enw hl (Or.inl hf)).mono fun en W' hh => Or.inl ⟨by rw [e0]; decide, hh.1, hh.2⟩
  · by_cases hn : e.next = 1099511627776
    · have e0 : fcode e l = 5 := by unfold fcode; rw [if_neg hf, if_pos hn]
      exact (feed_no d e Ps Es R l W h.enw hl (Or.inr hn)).mono fun en W' hh => Or.inl ⟨by rw [e0]; decide, hh.1, hh.2⟩
    · refine (feed_go d e Ps Es R l W h.enw hT hl (by simpa using hf) hn).mono fun en W' hh => ?_
      have hnx := h.next
      rcases hh with ⟨hbad, h1, h2⟩ | ⟨⟨g1, g2, g3⟩, hh⟩
      · have e0 : fcode e l = 1 := by unfold fcode; rw [if_neg hf, if_neg hn, if_pos hbad]
        exact Or.inl ⟨by rw [e0]; decide, by rw [e0]; exact h1, h2⟩
      · have e0 : fcode e l = 0 := by
          unfold fcode
          rw [if_neg hf, if_neg hn, if_neg (by rw [g3]; simp; omega)]
        rcases hh with ⟨h1, h2, h3, h4⟩ | ⟨h1, A, c, A', c', h2, h3, h4, h5⟩
        · exact Or.inr (Or.inl ⟨e0, h1, h2, h3, Lib.hid ⟨⟨B, hcz.keep h3 h.eb⟩, ⟨0, OwnRu.nil _ _⟩, h4, h.kp, h.ke, h.a, h.b, h.win, h.ef, (by show e.next + 1 ≤ _; omega), g2, rfl, by show 0 ≤ 64; omega, fun r hr => by cases hr⟩⟩)
        · exact Or.inr (Or.inr ⟨e0, h1, A, c, A', c', h2, h3, Lib.hid ⟨⟨B, hcz.keep h3 h.eb⟩, ⟨_, h5.out.1⟩, h4, h.kp, h.ke, h.a, h.b, h.win, h.ef, (by show e.next + 1 ≤ _; omega), g2, rfl, h1, feR_ok h.x g1 (by rw [hcz.le]; exact h.ke)⟩, Lib.hid h5.out.2⟩)
end Go.Proofs.YtpnllbojifnopaaGreatDoor
namespace Go.Proofs.YtpnllbojifnopaaGreatDoor
open Go Go.RowKit Go.Maps Pk Rl
set_option maxRecDepth 20000
theorem csz_of {L D : List Nd} {m : Nat} (h : D.map (cn 10) = (L.take m).map (cn 10)) (hs : ∀ v ∈ L, Sm v) (hl : ∀ v ∈ D, v.p.L.length ≤ 10 ∧ v.g.L.length ≤ 10) : ∀ v ∈ D, Sm v := by
  intro v hv
  have : cn 10 v ∈ (L.take m).map (cn 10) := by rw [← h]; exact List.mem_map.2 ⟨v, hv, rfl⟩
  obtain ⟨u, hu, e⟩ := List.mem_map.1 this
  have hs := hs u (List.mem_of_mem_take hu)
  unfold cn cq at e
  simp only [Prod.mk.injEq] at e
  obtain ⟨_, ⟨_, _, e1⟩, _, ⟨_, _, e2⟩, _⟩ := e
  have hl := hl v hv
  rw [List.take_of_length_le hl.1] at e1
  rw [List.take_of_length_le hl.2] at e2
  refine ⟨fun t ht => hs.1 t ?_, fun t ht => hs.2 t ?_⟩
  · rw [← e1] at ht; exact List.mem_of_mem_take ht
  · rw [← e2] at ht; exact List.mem_of_mem_take ht
theorem kept_s {x : Nat} {r q : Ru} (h : q ∈ kept x r) : q.s = r.s := by have := mem_kept h; rw [this]
theorem feR_s {Ps : List Qu} {Es : List Ed} {a win next K : Nat} {R : List Ru} {l : Lg} (hR : ∀ r ∈ R, r.s ≤ K) (hn : next ≤ K) : ∀ r ∈ feR Ps Es a win next R l, r.s ≤ K := by
  intro r hr
  unfold feR at hr
  rcases List.mem_append.1 hr with h | h
  · unfold fR at h
    rw [List.take_length] at h
    obtain ⟨r0, h0, h1⟩ := List.mem_flatMap.1 h
    unfold gR at h1
    split at h1
    · cases h1
    · rw [kept_s h1]; exact hR r0 h0
  · rw [kept_s h]; exact hn
section
variable {wb W W' : World} {by_ later d1 d2 : Nat} {e1 e2 : En} {Ps1 : List Qu} {Es1 : List Ed} {R1 : List Ru} {Ps2 : List Qu} {Es2 : List Ed} {R2 : List Ru} {i : Nat}
end
end Go.Proofs.YtpnllbojifnopaaGreatDoor
namespace Go.Proofs.YtpnllbojifnopaaGreatDoor
open Go Go.RowKit Go.Maps Pk Rl
set_option maxRecDepth 20000
abbrev fer (Ps : List Qu) (Es : List Ed) (e : En) (R : List Ru) (l : Lg) : List Ru := feR Ps Es e.a e.win e.next R l
abbrev fem (Ps : List Qu) (Es : List Ed) (e : En) (R : List Ru) (l : Lg) : List Mt := feM Ps Es e.a e.b e.win e.next R l
def fcd (Ps : List Qu) (Es : List Ed) (e : En) (R : List Ru) (l : Lg) : Int := if fcode e l ≠ 0 then fcode e l else if 64 < (fer Ps Es e R l).length then 12 else 0
def fms (Ps : List Qu) (Es : List Ed) (e : En) (R : List Ru) (l : Lg) : List Mt := if fcode e l ≠ 0 ∨ 64 < (fer Ps Es e R l).length then [] else fem Ps Es e R l
structure Fo (Ps : List Qu) (Es : List Ed) (e : En) (R : List Ru) (l : Lg) (e' : En) (R' : List Ru) : Prop where
  a : e'.a = e.a
  b : e'.b = e.b
  win : e'.win = e.win
  alt : (fcode e l ≠ 0 ∧ e'.fl = e.fl ∧ e'.next = e.next ∧ e'.last = e.last ∧ e'.fat = e.fat ∧ R' = R) ∨
    (fcode e l = 0 ∧ 64 < (fer Ps Es e R l).length ∧ e'.fl = true ∧ e'.next = e.next + 1 ∧ e'.last = l.at_ ∧ e'.fat = e.next ∧ R' = []) ∨
    (fcode e l = 0 ∧ (fer Ps Es e R l).length ≤ 64 ∧ e'.fl = false ∧ e'.next = e.next + 1 ∧ e'.last = l.at_ ∧ e'.fat = 0 ∧ R' = fer Ps Es e R l)
def FuX (e : En) (d : Nat) (Ps : List Qu) (Es : List Ed) (R : List Ru) (l : Lg) (W : World) (en : Ending) (W' : World) : Prop :=
  ∃ A c e' R', en = .returned (.tuple #[.slice A (fms Ps Es e R l).length c, .int .i64 (fcd Ps Es e R l)]) ∧ Keep (· = d) W W' ∧ Hid (Ez W' d e' Ps Es R') ∧ Hid (OwnMt W' W.heap.size (.slice A (fms Ps Es e R l).length c) (fms Ps Es e R l)) ∧ Fo Ps Es e R l e' R'
theorem feedu_any (W : World) (d : Nat) (e : En) (Ps : List Qu) (Es : List Ed) (R : List Ru) (l : Lg) (h : Ez W d e Ps Es R) (hT : Tab W) (hl : Lok W l) :
    Calls Tryz.prog 28 #[.pointer (some ⟨d, 0, none⟩), lval l] W fun en W' => FuX e d Ps Es R l W en W' := by
  refine (feedz_any W d e Ps Es R l h hT hl).mono fun en W' hh => ?_
  rcases hh with ⟨h0, he, hb⟩ | ⟨h0, h1, he, hk, hz⟩ | ⟨h0, h1, A, c, A', c', he, hk, hz, ho⟩
  · have e1 : fcd Ps Es e R l = fcode e l := by unfold fcd; rw [if_pos h0]
    have e2 : fms Ps Es e R l = [] := by unfold fms; rw [if_pos (Or.inl h0)]
    refine ⟨none, 0, e, R, ?_, Keep.of_below _ hb, Lib.hid (h.below hb), ?_, ⟨rfl, rfl, rfl, Or.inl ⟨h0, rfl, rfl, rfl, rfl, rfl⟩⟩⟩
    · rw [e1, e2]; exact he
    · rw [e2]; exact Lib.hid (OwnMt.nil _ _)
  · have e1 : fcd Ps Es e R l = 12 := by unfold fcd; rw [if_neg (by rw [h0]; simp), if_pos h1]
    have e2 : fms Ps Es e R l = [] := by unfold fms; rw [if_pos (Or.inr h1)]
    refine ⟨none, 0, _, [], ?_, hk, hz, ?_, ⟨rfl, rfl, rfl, Or.inr (Or.inl ⟨h0, h1, rfl, rfl, rfl, rfl, rfl⟩)⟩⟩
    · rw [e1, e2]; exact he
    · rw [e2]; exact Lib.hid (OwnMt.nil _ _)
  · have e1 : fcd Ps Es e R l = 0 := by unfold fcd; rw [if_neg (by rw [h0]; simp), if_neg (show ¬ 64 < (feR Ps Es e.a e.win e.next R l).length by omega)]
    have e2 : fms Ps Es e R l = fem Ps Es e R l := by unfold fms; rw [if_neg (by rintro (x | x); exact x h0; exact absurd x (by show ¬ 64 < (feR Ps Es e.a e.win e.next R l).length; omega))]
    refine ⟨A', c', _, _, ?_, hk, hz, ?_, ⟨rfl, rfl, rfl, Or.inr (Or.inr ⟨h0, h1, rfl, rfl, rfl, rfl, rfl⟩)⟩⟩
    · rw [e1, e2]; exact he
    · rw [e2]; exact ho
section
variable {by_ later : Nat} {e e' : En} {R R' : List Ru} {l l' : Lg} {Ps Ps' : List Qu} {Es Es' : List Ed}
end
theorem Fo.few {Ps : List Qu} {Es : List Ed} {e e' : En} {R R' : List Ru} {l : Lg} (h : Fo Ps Es e R l e' R') {K : Nat} (hn : e.next ≤ K) (hR : ∀ r ∈ R, r.s ≤ K) : e'.next ≤ K + 1 ∧ ∀ r ∈ R', r.s ≤ K := by
  rcases h.alt with ⟨_, _, a2, _, _, a5⟩ | ⟨_, _, _, a2, _, _, a5⟩ | ⟨_, _, _, a2, _, _, a5⟩
  · exact ⟨by omega, by rw [a5]; exact hR⟩
  · exact ⟨by omega, by rw [a5]; intro r hr; cases hr⟩
  · exact ⟨by omega, by rw [a5]; exact feR_s hR hn⟩
theorem hit_lenw (q b s n : Nat) : (hit q b s n).length ≤ 1 := by unfold hit; split <;> simp
theorem flat_len {f : Ru → List Mt} (h : ∀ r, (f r).length ≤ 1) (R : List Ru) : (R.flatMap f).length ≤ R.length := by
  induction R with
  | nil => simp
  | cons r R ih => rw [List.flatMap_cons, List.length_append, List.length_cons]; have := h r; omega
theorem fms_len (Ps : List Qu) (Es : List Ed) (e : En) (R : List Ru) (l : Lg) : (fms Ps Es e R l).length ≤ R.length + 1 := by
  unfold fms
  split
  · simp
  · show (feM Ps Es e.a e.b e.win e.next R l).length ≤ _
    unfold feM fM
    rw [List.take_length, List.length_append]
    have h1 := flat_len (f := gM Es (plc_ Ps l) e.b e.win l.at_ e.next) (fun r => by unfold gM; split; simp; exact hit_lenw _ _ _ _) R
    have h2 := hit_lenw (e.a &&& plc_ Ps l) e.b e.next e.next
    omega
theorem lg_keep {W W' : World} {d g : Nat} {e : En} {x : Lg} (hb : W.heap[g]? = some (lobj x)) (hk : Keep (· = d) W W') (he : EnB W d e) : W'.heap[g]? = some (lobj x) := by
  rw [hk.block g (Array.getElem?_eq_some_iff.1 hb).1 (by
    intro eg
    have eg' : g = d := eg
    have he' : W.heap[d]? = some (enobj e) := he
    rw [← eg', hb] at he'
    injection he' with he'
    injection he' with _ h2
    exact absurd h2 (by decide))]
  exact hb
theorem lg_cells {W : World} {g : Nat} {x : Lg} (h : W.heap[g]? = some (lobj x)) : W.cell? ⟨g, 0, none⟩ = some (.int .u32 x.pub) ∧ W.cell? ⟨g, 1, none⟩ = some (.int .u64 x.seq) ∧ W.cell? ⟨g, 2, none⟩ = some (.int .u64 (x.at_ : Int)) ∧ W.cell? ⟨g, 3, none⟩ = some (.int .u8 x.t) ∧ W.cell? ⟨g, 4, none⟩ = some (.slice x.a x.n x.c) ∧ ∀ j, W.frozen? ⟨g, j, none⟩ = false := by
  refine ⟨?_, ?_, ?_, ?_, ?_, fun j => by simp [World.frozen?, h]⟩ <;> (rw [cell_of_row W g _ _ _ _ h]; rfl)
theorem lg_later {W : World} {g : Nat} {x : Lg} (h : W.heap[g]? = some (lobj x)) (t : Nat) : (W.setCell ⟨g, 2, none⟩ (.int .u64 (t : Int))).heap[g]? = some (lobj { x with at_ := t }) := by
  rw [heap_setCell_same W g 2 _ _ _ h]
  rfl
theorem lg_set {W : World} {g : Nat} (j : Nat) (v : Value) : Keep (· = g) W (W.setCell ⟨g, j, none⟩ v) := keep_cell (Keep.refl _ _) j v
end Go.Proofs.YtpnllbojifnopaaGreatDoor
