/- Rows of nodes of one's own, while another block is written; a node's Size in its row. -/
import Derived.Test.YtilgoghnoeohnaaDoorCdU
import Derived.Test.YtilgoghnoeohnaaDoorMT
namespace Go.Proofs.YtilgoghnoeohnaaDoor
open Go Go.RowKit Pk Rl
set_option maxRecDepth 20000

theorem OwnT.fr {w w' : World} {B r : Nat} {v : Value} {L : List TT} (h : OwnT w B v L) (hr : r < B) (k : Fr r r w w') : OwnT w' B v L :=
  h.sameB fun g hg hlt => k.b g hlt (by have := (World.ownsRow.lt h g hg).1; omega) (by have := (World.ownsRow.lt h g hg).1; omega)
theorem rowN_fr {w w' : World} {B n r : Nat} {v : Value} {cs : List Value} (h : w.ownsRow B 52 11 v n cs) (hr : r < B) (k : Fr r r w w') : w'.ownsRow B 52 11 v n cs := by
  refine ⟨h.1, ?_⟩
  rcases h.2 with h0 | ⟨g, cap, cur, hv, hg, hh, t⟩
  · exact .inl h0
  · refine .inr ⟨g, cap, cur, hv, hg, ?_, t⟩
    rw [k.b g (Array.getElem?_eq_some_iff.1 hh).1 (by omega) (by omega)]
    exact hh
theorem OwnN.fr {w w' : World} {B r : Nat} {v : Value} {D : List Nd} (h : OwnN w B v D) (hr : r < B) (k : Fr r r w w') : OwnN w' B v D :=
  ⟨rowN_fr h.1 hr k, fun n hn => ⟨⟨(h.2 n hn).1.own.fr hr k, (h.2 n hn).1.len, (h.2 n hn).1.few, (h.2 n hn).1.ok, (h.2 n hn).1.dis⟩, ⟨(h.2 n hn).2.1.own.fr hr k, (h.2 n hn).2.1.len, (h.2 n hn).2.1.few, (h.2 n hn).2.1.ok, (h.2 n hn).2.1.dis⟩, (h.2 n hn).2.2⟩⟩
theorem ncls_set (D : List Nd) (i : Nat) (hi : i < D.length) (s : Int) : ncls (D.set i { D.getD i nz with s := s }) = (ncls D).set (i * 11 + 10) (.int .i64 s) := by
  induction D generalizing i with
  | nil => simp at hi
  | cons v D ih =>
    rcases i with _ | i
    · rfl
    · rw [List.set_cons_succ, List.getD_cons_succ]
      show ncl v ++ ncls _ = (ncl v ++ ncls D).set _ _
      rw [ih i (by simpa using hi), List.set_append_right _ _ (by rw [ncl_len]; omega), ncl_len, show (i + 1) * 11 + 10 - 11 = i * 11 + 10 by omega]
theorem OwnN.size {w : World} {B g k c : Nat} {D : List Nd} (h : OwnN w B (.slice (some ⟨g, 0, none⟩) k c) D) (i : Nat) (hi : i < D.length) (s : Int) (h0 : -9223372036854775808 ≤ s) (h1 : s ≤ 9223372036854775807) :
    OwnN (w.setCell ⟨g, i * 11 + 10, none⟩ (.int .i64 s)) B (.slice (some ⟨g, 0, none⟩) k c) (D.set i { D.getD i nz with s := s }) := by
  have hm := ngetD_mem D i hi
  have hq := h.2 _ hm
  have old : ∀ q, QB w B (.slice (some ⟨g, 0, none⟩) k c) q → QB (w.setCell ⟨g, i * 11 + 10, none⟩ (.int .i64 s)) B (.slice (some ⟨g, 0, none⟩) k c) q := fun q hq =>
    ⟨hq.own.sameB (fun b hb _ => heap_setCell_other w ⟨g, i * 11 + 10, none⟩ b _ (fun e => hq.dis b hb (by rw [e]; rfl))), hq.len, hq.few, hq.ok, hq.dis⟩
  refine ⟨?_, fun n hn => ?_⟩
  · rw [List.length_set, ncls_set D i hi s]
    refine ⟨by rw [List.length_set]; exact h.1.1, ?_⟩
    rcases h.1.2 with ⟨e, _⟩ | ⟨g', cap, cur, e, hB, hh, e1, e2, e3, e4⟩
    · cases e
    · injection e with ea ek ec
      injection ea with ea
      injection ea with eg _ _
      subst eg ek ec
      refine .inr ⟨g, c, cur.setIfInBounds (i * 11 + 10) (.int .i64 s), rfl, hB, ?_, e1, e2, by rw [Array.size_setIfInBounds]; exact e3, ?_⟩
      · exact heap_setCell_same w g _ _ _ _ hh
      · rw [Array.toList_setIfInBounds, List.take_set, e4]
  · rcases List.mem_or_eq_of_mem_set hn with hn | rfl
    · exact ⟨old _ (h.2 n hn).1, old _ (h.2 n hn).2.1, (h.2 n hn).2.2⟩
    · exact ⟨old _ hq.1, old _ hq.2.1, hq.2.2.k0, hq.2.2.k1, hq.2.2.l0, hq.2.2.l1, hq.2.2.h0, hq.2.2.h1, h0, h1⟩
/- what a node tells; what it tells when it comes back -/
def vq (q : Qu) : Bool × Int × List TT := (q.x, q.t, q.L)
def vn (n : Nd) : Int × (Bool × Int × List TT) × Bool × (Bool × Int × List TT) × Int × Int × Int := (n.k, vq n.p, n.y, vq n.g, n.lo, n.hi, n.s)
def zq (q : Qu) : Bool × Int × List TT := (q.x, q.t, q.L.map nt)
def zn (n : Nd) : Int × (Bool × Int × List TT) × Bool × (Bool × Int × List TT) × Int × Int × Int := (n.k, zq n.p, n.y, zq n.g, n.lo, n.hi, n.s)
theorem QB.new {w : World} {B M : Nat} {A A2 : Option Addr} {k c m c2 n : Nat} {x : Bool} {t : Int} {L : List TT} {D : List Nd} {w0 : World} (h : OwnT w M (.slice A k c) L) (hk : L.length = k) (hn : k ≤ 10) (ok : ∀ v ∈ L, Okt v) (ho : OwnN w0 B (.slice A2 m c2) D) (hM : w0.heap.size ≤ M) (hB : B ≤ M) (hn' : n = k) : QB w B (.slice A2 m c2) ⟨x, t, A, n, c, L⟩ := by
  subst hn'
  exact ⟨h.mono hB, hk, hn, ok, fun g hg e => by
    have h1 := (World.ownsRow.lt h g hg).1
    have h2 := (ho.lt g e).2
    omega⟩
theorem QB.zero (w : World) (B : Nat) (v : Value) : QB w B v qz := ⟨OwnT.nil _ _, rfl, by decide, by simp, fun g hg => by cases hg⟩
end Go.Proofs.YtilgoghnoeohnaaDoor
