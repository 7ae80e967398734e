/- An engine over its base: what a feed leaves. -/
import Derived.Test.YtpnllbojifnopaaGreatDoorYRnH
namespace Go.Proofs.YtpnllbojifnopaaGreatDoor
open Go Go.RowKit Go.Maps Pk Rl
set_option maxRecDepth 20000
def Rok (last : Nat) (R : List Ru) : Prop := ∀ r ∈ R, r.x < 18446744073709551616 ∧ r.t ≤ last
theorem mem_kept {x : Nat} {r r' : Ru} (h : r' ∈ kept x r) : r' = ⟨r.s, r.t, x⟩ := by
  unfold kept at h
  split at h
  · cases h
  · exact List.mem_singleton.1 h
theorem feR_ok {Ps : List Qu} {Es : List Ed} {a win next last : Nat} {R : List Ru} {l : Lg} (hR : Rok last R) (hl : last ≤ l.at_) (hE : Es.length ≤ 64) : Rok l.at_ (feR Ps Es a win next R l) := by
  intro r hr
  unfold feR at hr
  rcases List.mem_append.1 hr with h | h
  · unfold fR at h
    rw [List.take_length] at h
    obtain ⟨r0, h0, h1⟩ := List.mem_flatMap.1 h
    unfold gR at h1
    split at h1
    · cases h1
    · have hk := mem_kept h1
      subst hk
      have hx := hR r0 h0
      refine ⟨?_, by show r0.t ≤ l.at_; omega⟩
      exact Nat.or_lt_two_pow (n := 64) (Nat.lt_of_le_of_lt Nat.and_le_left hx.1) (sbt_le64 _ _ hE)
  · have hk := mem_kept h
    subst hk
    exact ⟨sbt_le64 _ _ hE, Nat.le_refl _⟩
structure Eb (w0 W : World) (d : Nat) (e : En) (Ps : List Qu) (Es : List Ed) (R : List Ru) : Prop where
  cr : Cr w0 e.Ap e.kp e.Ae e.ke Ps Es
  tab : Tab w0
  bel : Below w0.heap.size w0 W
  far : w0.heap.size ≤ d
  kp : e.kp ≤ 32
  ke : e.ke ≤ 64
  a : e.a < 4294967296
  b : e.b < 4294967296
  win : e.win < 18446744073709551616
  ef : ∀ x ∈ Es, x.f < 32 ∧ x.t < 32
  next : e.next ≤ 1099511627776
  last : e.last ≤ 1099511627776
  eb : EnB W d e
  r : Rus W e.Ar R
  n : R.length = e.nr
  few : e.nr ≤ 64
  x : Rok e.last R
theorem Eb.enw {w0 W : World} {d : Nat} {e : En} {Ps : List Qu} {Es : List Ed} {R : List Ru} (h : Eb w0 W d e Ps Es R) : Enw W d e Ps Es R :=
  ⟨h.eb, h.cr.below h.bel, h.kp, h.ke, h.a, h.b, h.win, h.ef, h.next, h.last, h.r, h.n, h.few, h.x⟩
theorem Eb.next' {w0 W W' : World} {d : Nat} {e : En} {Ps : List Qu} {Es : List Ed} {R : List Ru} (h : Eb w0 W d e Ps Es R) (hb : Below W.heap.size W W') : Eb w0 W' d e Ps Es R :=
  ⟨h.cr, h.tab, below_go h.bel hb, h.far, h.kp, h.ke, h.a, h.b, h.win, h.ef, h.next, h.last, h.eb.below hb, h.r.below hb, h.n, h.few, h.x⟩
theorem keep_bel {w0 W W' : World} {d : Nat} (h : Below w0.heap.size w0 W) (hd : w0.heap.size ≤ d) (hk : Keep (· = d) W W') : Below w0.heap.size w0 W' :=
  h.trans (Keep.below hk (fun k (e : k = d) => e ▸ hd) h.size)
def FsX (w0 : World) (e : En) (d : Nat) (Ps : List Qu) (Es : List Ed) (R : List Ru) (l : Lg) (W : World) (en : Ending) (W' : World) : Prop :=
  (fcode e l ≠ 0 ∧ en = .returned (.tuple #[nsl, .int .i64 (fcode e l)]) ∧ Below W.heap.size W W') ∨
  (fcode e l = 0 ∧ 64 < (feR Ps Es e.a e.win e.next R l).length ∧ en = .returned (.tuple #[nsl, .int .i64 12]) ∧ Keep (· = d) W W' ∧ Eb w0 W' d { e with next := e.next + 1, last := l.at_, fl := true, fat := e.next, Ar := none, nr := 0, cr := 0 } Ps Es []) ∨
  (fcode e l = 0 ∧ (feR Ps Es e.a e.win e.next R l).length ≤ 64 ∧ ∃ A c A' c', en = .returned (.tuple #[.slice A' (feM Ps Es e.a e.b e.win e.next R l).length c', .int .i64 0]) ∧ Keep (· = d) W W' ∧
    Eb w0 W' d { e with next := e.next + 1, last := l.at_, fl := false, fat := 0, Ar := A, nr := (feR Ps Es e.a e.win e.next R l).length, cr := c } Ps Es (feR Ps Es e.a e.win e.next R l) ∧ Hid (OwnMt W' W.heap.size (.slice A' (feM Ps Es e.a e.b e.win e.next R l).length c') (feM Ps Es e.a e.b e.win e.next R l)))
theorem feed_any (w0 W : World) (d : Nat) (e : En) (Ps : List Qu) (Es : List Ed) (R : List Ru) (l : Lg) (h : Eb w0 W d e Ps Es R) (hl : Lok W l) :
    Calls Tryz.prog 28 #[.pointer (some ⟨d, 0, none⟩), lval l] W fun en W' => FsX w0 e d Ps Es R l W en W' := by
  by_cases hf : e.fl = true
  · have e0 : fcode e l = 10 := by unfold fcode; rw [if_pos hf]
    exact (feed_no d e Ps Es R l W h.enw hl (Or.inl hf)).mono fun en W' hh => Or.inl ⟨by rw [e0]; decide, hh.1, hh.2⟩
  · by_cases hn : e.next = 1099511627776
    · have e0 : fcode e l = 5 := by unfold fcode; rw [if_neg hf, if_pos hn]
      exact (feed_no d e Ps Es R l W h.enw hl (Or.inr hn)).mono fun en W' hh => Or.inl ⟨by rw [e0]; decide, hh.1, hh.2⟩
    · refine (feed_go d e Ps Es R l W h.enw (h.tab.below h.bel) hl (by simpa using hf) hn).mono fun en W' hh => ?_
      have hnx := h.next
      rcases hh with ⟨hbad, h1, h2⟩ | ⟨⟨g1, g2, g3⟩, hh⟩
      · have e0 : fcode e l = 1 := by unfold fcode; rw [if_neg hf, if_neg hn, if_pos hbad]
        exact Or.inl ⟨by rw [e0]; decide, by rw [e0]; exact h1, h2⟩
      · have e0 : fcode e l = 0 := by
          unfold fcode
          rw [if_neg hf, if_neg hn, if_neg (by rw [g3]; simp; omega)]
        rcases hh with ⟨h1, h2, h3, h4⟩ | ⟨h1, A, c, A', c', h2, h3, h4, h5⟩
        · exact Or.inr (Or.inl ⟨e0, h1, h2, h3, h.cr, h.tab, keep_bel h.bel h.far h3, h.far, h.kp, h.ke, h.a, h.b, h.win, h.ef, (by show e.next + 1 ≤ _; omega), g2, h4, Rus.nil _ _, rfl, by show 0 ≤ 64; omega, fun r hr => by cases hr⟩)
        · obtain ⟨A2, c2, e2, hr, _⟩ := h5.out.1.form
          injection e2 with e2 _ _
          subst e2
          exact Or.inr (Or.inr ⟨e0, h1, A, c, A', c', h2, h3, ⟨h.cr, h.tab, keep_bel h.bel h.far h3, h.far, h.kp, h.ke, h.a, h.b, h.win, h.ef, (by show e.next + 1 ≤ _; omega), g2, h4, hr, rfl, h1, feR_ok h.x g1 (by rw [h.cr.le]; exact h.ke)⟩, Lib.hid h5.out.2⟩)
end Go.Proofs.YtpnllbojifnopaaGreatDoor
