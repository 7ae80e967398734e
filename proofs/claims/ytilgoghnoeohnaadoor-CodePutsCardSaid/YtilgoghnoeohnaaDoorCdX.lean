/- A node that comes back, with its guard; the state of a reading. -/
import Derived.Test.YtilgoghnoeohnaaDoorCdW
namespace Go.Proofs.YtilgoghnoeohnaaDoor
open Go Go.RowKit Pk Rl
set_option maxRecDepth 20000

/- a node as it comes back, its Size not told yet -/
structure Gn (B : Nat) (W : World) (x nd : Nd) : Prop where
  v : vn nd = zn { x with s := 0 }
  pl : nd.p.L.length = nd.p.n
  pf : nd.p.n ≤ 10
  po : OwnT W B (.slice nd.p.a nd.p.n nd.p.c) nd.p.L
  gl : nd.g.L.length = nd.g.n
  gf : nd.g.n ≤ 10
  go : OwnT W B (.slice nd.g.a nd.g.n nd.g.c) nd.g.L
theorem kd_guard {x : Nd} {m : Nat} (h : kd x m = true) (hy : x.y = false) : qno x.g = true := by
  unfold kd at h
  rw [hy] at h
  split at h
  · simp only [Bool.and_eq_true] at h; exact h.1.1.2
  · split at h
    · simp only [Bool.and_eq_true, Bool.false_or] at h; exact h.1.1.2
    · split at h
      · simp only [Bool.and_eq_true] at h; exact h.1.1.2
      · split at h
        · simp only [Bool.and_eq_true, Bool.false_or] at h; exact h.1.1.1.2
        · cases h
theorem Gm.gn {w0 W : World} {x nd : Nd} {m : Nat} (h : Gm w0 W x nd) (hk : kd x m = true) (hy : x.y = false) (hl : x.g.L.length = x.g.n) : Gn w0.heap.size W x nd := by
  refine ⟨?_, h.len, h.few, h.own, by rw [h.g]; rfl, by rw [h.g]; decide, by rw [h.g]; exact OwnT.nil _ _⟩
  unfold vn zn
  rw [h.k, h.p, h.y, h.g, h.lo, h.hi, h.s, qno_zq (kd_guard hk hy) hl]
  rfl
theorem Gm.guard {w0 W W' : World} {x nd : Nd} {A : Option Addr} {k c : Nat} {M : Nat} (h : Gm w0 W x nd) (ho' : OwnT W' w0.heap.size (.slice nd.p.a nd.p.n nd.p.c) nd.p.L) (hk : (x.g.L.map nt).length = k) (hf : x.g.L.length ≤ 10) (ho : OwnT W' M (.slice A k c) (x.g.L.map nt)) (hM : w0.heap.size ≤ M) :
    Gn w0.heap.size W' x { nd with g := ⟨x.g.x, x.g.t, A, k, c, x.g.L.map nt⟩ } := by
  refine ⟨?_, h.len, h.few, ho', hk, by show k ≤ 10; rw [List.length_map] at hk; omega, ho.mono hM⟩
  unfold vn zn
  show (nd.k, vq nd.p, nd.y, _, nd.lo, nd.hi, nd.s) = _
  rw [h.k, h.p, h.y, h.lo, h.hi, h.s]
  rfl
theorem zq_of {q q' : Qu} (h : vq q' = zq q) (ho : ∀ v ∈ q.L, Okt v) : ∀ v ∈ q'.L, Okt v := by
  unfold vq zq at h
  injection h with _ h
  injection h with _ h
  rw [h]
  intro v hv
  obtain ⟨u, hu, rfl⟩ := List.mem_map.1 hv
  exact nt_ok (ho u hu)
theorem Gn.rg {B : Nat} {W : World} {x nd : Nd} (h : Gn B W x nd) (w : World) (hx : Nok w x) : Rg nd := by
  have hv := h.v
  unfold vn zn at hv
  simp only [Prod.mk.injEq] at hv
  obtain ⟨e1, _, _, _, e5, e6, e7⟩ := hv
  exact ⟨by rw [e1]; exact hx.k0, by rw [e1]; exact hx.k1, by rw [e5]; exact hx.l0, by rw [e5]; exact hx.l1, by rw [e6]; exact hx.h0, by rw [e6]; exact hx.h1, by rw [e7]; show (-9223372036854775808 : Int) ≤ 0; omega, by rw [e7]; show (0 : Int) ≤ 9223372036854775807; omega⟩
theorem Gn.qb {B0 : Nat} {W w0 wx : World} {x nd : Nd} {B : Nat} {A : Option Addr} {k c : Nat} {D : List Nd} (h : Gn B0 W x nd) (hx : Nok wx x) (ho : OwnN w0 B (.slice A k c) D) (hM : w0.heap.size ≤ B0) (hB : B ≤ B0) : QB W B (.slice A k c) nd.p ∧ QB W B (.slice A k c) nd.g := by
  have hv := h.v
  unfold vn zn at hv
  simp only [Prod.mk.injEq] at hv
  obtain ⟨_, e2, _, e4, _, _, _⟩ := hv
  exact ⟨⟨h.po.mono hB, h.pl, h.pf, zq_of e2 hx.p.ok, fun g hg e => by
      have h1 := (World.ownsRow.lt h.po g hg).1
      have h2 := (ho.lt g e).2
      omega⟩, ⟨h.go.mono hB, h.gl, h.gf, zq_of e4 hx.g.ok, fun g hg e => by
      have h1 := (World.ownsRow.lt h.go g hg).1
      have h2 := (ho.lt g e).2
      omega⟩⟩
/- the state of a reading -/
structure GS (w0 W : World) (r B b off len cap i : Nat) (A : Option Addr) (k c : Nat) (D : List Nd) : Prop where
  rb : Rb W r (.slice (some ⟨b, off, none⟩) len cap) (i : Int) (.slice A k c)
  own : OwnN W B (.slice A k c) D
  len : D.length = k
  bel : Below w0.heap.size w0 W
  big : B ≤ W.heap.size
end Go.Proofs.YtilgoghnoeohnaaDoor
