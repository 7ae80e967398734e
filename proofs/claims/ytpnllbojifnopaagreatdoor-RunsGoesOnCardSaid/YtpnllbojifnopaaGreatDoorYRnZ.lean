/- Two engines that are where each other is. -/
import Derived.Test.YtpnllbojifnopaaGreatDoorYRnX
namespace Go.Proofs.YtpnllbojifnopaaGreatDoor
open Go Go.RowKit Go.Maps Pk Rl
set_option maxRecDepth 20000
structure Se (e e' : En) (R R' : List Ru) : Prop where
  fl : e'.fl = e.fl
  nx : e'.next = e.next
  la : e'.last = e.last
  a : e'.a = e.a
  b : e'.b = e.b
  win : e'.win = e.win
  fat : e'.fat = e.fat
  r : R' = R
section
variable {e e' : En} {R R' : List Ru} {l : Lg} {Ps Ps' : List Qu} {Es Es' : List Ed}
theorem Se.fer (h : Se e e' R R') (hP : Ps.map vq = Ps'.map vq) (hEs : Es.map ve = Es'.map ve) (l : Lg) : fer Ps' Es' e' R' l = fer Ps Es e R l := by
  show feR Ps' Es' e'.a e'.win e'.next R' l = feR Ps Es e.a e.win e.next R l
  rw [h.a, h.win, h.nx, h.r, feR_congr hP hEs]
theorem Se.code (h : Se e e' R R') (l : Lg) : fcode e' l = fcode e l := by unfold fcode; rw [h.fl, h.nx, h.la]
theorem Se.same (h : Se e e' R R') (hP : Ps.map vq = Ps'.map vq) (hEs : Es.map ve = Es'.map ve) (l : Lg) : fcd Ps' Es' e' R' l = fcd Ps Es e R l ∧ fms Ps' Es' e' R' l = fms Ps Es e R l := by
  have hc := h.code l
  have hr := h.fer hP hEs l
  constructor
  · unfold fcd; rw [hc, hr]
  · unfold fms
    rw [hc, hr]
    have hm : fem Ps' Es' e' R' l = fem Ps Es e R l := by
      show feM Ps' Es' e'.a e'.b e'.win e'.next R' l = feM Ps Es e.a e.b e.win e.next R l
      rw [h.a, h.b, h.win, h.nx, h.r, feM_congr hP hEs]
    rw [hm]
theorem Se.step (h : Se e e' R R') (hP : Ps.map vq = Ps'.map vq) (hEs : Es.map ve = Es'.map ve) {f f' : En} {S S' : List Ru} (h1 : Fo Ps Es e R l f S) (h2 : Fo Ps' Es' e' R' l f' S') : Se f f' S S' := by
  have hc := h.code l
  have hr := h.fer hP hEs l
  have a := h1.alt
  have b := h2.alt
  rw [hc, hr] at b
  have p1 : f'.a = f.a := by rw [h2.a, h1.a]; exact h.a
  have p2 : f'.b = f.b := by rw [h2.b, h1.b]; exact h.b
  have p3 : f'.win = f.win := by rw [h2.win, h1.win]; exact h.win
  rcases a with ⟨a0, a1, a2, a3, a4, a5⟩ | ⟨a0, a6, a1, a2, a3, a4, a5⟩ | ⟨a0, a6, a1, a2, a3, a4, a5⟩
  · rcases b with ⟨b0, b1, b2, b3, b4, b5⟩ | ⟨b0, _⟩ | ⟨b0, _⟩
    · exact ⟨by rw [b1, a1]; exact h.fl, by rw [b2, a2]; exact h.nx, by rw [b3, a3]; exact h.la, p1, p2, p3, by rw [b4, a4]; exact h.fat, by rw [b5, a5]; exact h.r⟩
    · exact absurd b0 a0
    · exact absurd b0 a0
  · rcases b with ⟨b0, _⟩ | ⟨b0, b6, b1, b2, b3, b4, b5⟩ | ⟨b0, b6, _⟩
    · exact absurd a0 b0
    · exact ⟨by rw [b1, a1], by rw [b2, a2, h.nx], by rw [b3, a3], p1, p2, p3, by rw [b4, a4]; exact h.nx, by rw [b5, a5]⟩
    · omega
  · rcases b with ⟨b0, _⟩ | ⟨b0, b6, _⟩ | ⟨b0, b6, b1, b2, b3, b4, b5⟩
    · exact absurd a0 b0
    · omega
    · exact ⟨by rw [b1, a1], by rw [b2, a2, h.nx], by rw [b3, a3], p1, p2, p3, by rw [b4, a4], by rw [b5, a5]⟩
theorem Fo.okn (h : Fo Ps Es e R l e' R') (ho : Okn e.next e.last e.win Es.length e.fl e.fat R) : Okn e'.next e'.last e'.win Es.length e'.fl e'.fat R' := by
  have hw := h.win
  rcases h.alt with ⟨a0, a1, a2, a3, a4, a5⟩ | ⟨a0, a6, a1, a2, a3, a4, a5⟩ | ⟨a0, a6, a1, a2, a3, a4, a5⟩
  · rw [a1, a2, a3, a4, a5, hw]; exact ho
  · exact Or.inr ⟨a1, by omega, a5⟩
  · have hl : e.fl = false ∧ e.last ≤ l.at_ := by
      unfold fcode at a0
      split at a0
      · omega
      · rename_i h1
        split at a0
        · omega
        · split at a0
          · omega
          · rename_i h3
            refine ⟨by simpa using h1, ?_⟩
            rcases Nat.lt_or_ge l.at_ e.last with h4 | h4
            · exact absurd (Or.inl h4) h3
            · exact h4
    rcases ho with ⟨_, _, hg⟩ | ⟨h1, _⟩
    · refine Or.inl ⟨a1, a4, ?_⟩
      rw [a2, a3, a5, hw]
      exact hg.feed hl.2
    · rw [hl.1] at h1; cases h1
end
structure Wq (wb W : World) (d1 d2 : Nat) (e1 e2 : En) (Ps1 : List Qu) (Es1 : List Ed) (R1 : List Ru) (Ps2 : List Qu) (Es2 : List Ed) (R2 : List Ru) : Prop where
  bb : Below wb.heap.size wb W
  f1 : wb.heap.size ≤ d1
  f2 : wb.heap.size ≤ d2
  ne : d1 ≠ d2
  z1 : Ez W d1 e1 Ps1 Es1 R1
  z2 : Ez W d2 e2 Ps2 Es2 R2
  hP : Ps1.map vq = Ps2.map vq
  hE : Es1.map ve = Es2.map ve
  se : Se e1 e2 R1 R2
theorem Wq.below {wb W W' : World} {d1 d2 : Nat} {e1 e2 : En} {Ps1 : List Qu} {Es1 : List Ed} {R1 : List Ru} {Ps2 : List Qu} {Es2 : List Ed} {R2 : List Ru} (h : Wq wb W d1 d2 e1 e2 Ps1 Es1 R1 Ps2 Es2 R2) (hb : Below W.heap.size W W') : Wq wb W' d1 d2 e1 e2 Ps1 Es1 R1 Ps2 Es2 R2 :=
  ⟨below_go h.bb hb, h.f1, h.f2, h.ne, h.z1.below hb, h.z2.below hb, h.hP, h.hE, h.se⟩
structure IV (w W : World) (g1 : Nat) (A : Option Addr) (k c' : Nat) (win : Int) (D : List Nd) (rA : Option Addr) (R : List Lg) (sA : Option Addr) (S : List Lg) : Prop where
  p : PtB W g1 A k c' win
  pt : Pt W A k c' D
  lr : Lr W rA R
  ls : Lr W sA S
  tab : Tab W
  tab5 : Tab5 W
  bel : Below w.heap.size w W
theorem IV.next {w W W' : World} {g1 : Nat} {A : Option Addr} {k c' : Nat} {win : Int} {D : List Nd} {rA : Option Addr} {R : List Lg} {sA : Option Addr} {S : List Lg} (h : IV w W g1 A k c' win D rA R sA S) (hb : Below W.heap.size W W') : IV w W' g1 A k c' win D rA R sA S :=
  ⟨h.p.next hb, h.pt.below hb, h.lr.ck (Ck.of_below hb), h.ls.ck (Ck.of_below hb), h.tab.below hb, h.tab5.below hb, below_go h.bel hb⟩
theorem sto_keep {W W' : World} {d g : Nat} {e : En} {next last : Nat} {fl : Bool} {fat : Nat} {A : Option Addr} {n c : Nat} (hb : W.heap[g]? = some (sto next last fl fat A n c)) (hk : Keep (· = d) W W') (he : EnB W d e) : W'.heap[g]? = some (sto next last fl fat A n c) := by
  rw [hk.block g (Array.getElem?_eq_some_iff.1 hb).1 (by
    intro eg
    have eg' : g = d := eg
    have he' : W.heap[d]? = some (enobj e) := he
    rw [← eg', hb] at he'
    injection he' with he'
    injection he' with _ h2
    exact absurd h2 (by decide))]
  exact hb
end Go.Proofs.YtpnllbojifnopaaGreatDoor
