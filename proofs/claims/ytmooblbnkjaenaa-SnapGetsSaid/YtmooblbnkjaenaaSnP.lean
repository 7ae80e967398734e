/- The program's reading: a state; Get. -/
import Derived.Test.YtmooblbnkjaenaaSnO
namespace Go.Proofs.Ytmooblbnkjaenaa
open Go Go.RowKit Pk
set_option maxRecDepth 20000

abbrev set5 (W : World) (r : Nat) (next last : Nat) (fl : Bool) (fat : Nat) (A : Option Addr) (n c : Nat) : World :=
  ((((W.setCell ⟨r, 0, none⟩ (.int .u64 (next : Int))).setCell ⟨r, 1, none⟩ (.int .u64 (last : Int))).setCell ⟨r, 2, none⟩ (.bool fl)).setCell ⟨r, 3, none⟩ (.int .u64 (fat : Int))).setCell ⟨r, 4, none⟩ (.slice A n c)
theorem set5_same {W : World} {r : Nat} {a b : Nat} {f : Bool} {x : Nat} {A0 : Option Addr} {n0 c0 : Nat} (h : W.heap[r]? = some (sto a b f x A0 n0 c0)) (next last : Nat) (fl : Bool) (fat : Nat) (A : Option Addr) (n c : Nat) : (set5 W r next last fl fat A n c).heap[r]? = some (sto next last fl fat A n c) := by
  have q1 := heap_setCell_same _ r 0 _ _ (.int .u64 (next : Int)) h
  have q2 := heap_setCell_same _ r 1 _ _ (.int .u64 (last : Int)) q1
  have q3 := heap_setCell_same _ r 2 _ _ (.bool fl) q2
  have q4 := heap_setCell_same _ r 3 _ _ (.int .u64 (fat : Int)) q3
  have q5 := heap_setCell_same _ r 4 _ _ (.slice A n c) q4
  rw [q5]; rfl
theorem set5_other (W : World) (r k : Nat) (h : k ≠ r) (next last : Nat) (fl : Bool) (fat : Nat) (A : Option Addr) (n c : Nat) : (set5 W r next last fl fat A n c).heap[k]? = W.heap[k]? := by
  unfold set5
  rw [heap_setCell_other _ ⟨r, 4, none⟩ k _ h, heap_setCell_other _ ⟨r, 3, none⟩ k _ h, heap_setCell_other _ ⟨r, 2, none⟩ k _ h, heap_setCell_other _ ⟨r, 1, none⟩ k _ h, heap_setCell_other _ ⟨r, 0, none⟩ k _ h]
theorem set5_below {B : Nat} (W : World) (r : Nat) (h : B ≤ r) (next last : Nat) (fl : Bool) (fat : Nat) (A : Option Addr) (n c : Nat) : Below B W (set5 W r next last fl fat A n c) :=
  (((((Below.refl B W).setCell (p := ⟨r, 0, none⟩) h _).setCell (p := ⟨r, 1, none⟩) h _).setCell (p := ⟨r, 2, none⟩) h _).setCell (p := ⟨r, 3, none⟩) h _).setCell (p := ⟨r, 4, none⟩) h _
/- while a state is read: the result's box and the state's own -/
structure Ls (w W : World) (d : Nat) (A : Option Addr) (m c : Nat) (r : Nat) (σ : Sg) : Prop where
  b : Rb W d (.slice A m c) σ
  z : W.heap[r]? = some (sto 0 0 false 0 none 0 0)
  fr : Fr d d w W
  dr : d < r
  rw : w.heap.size ≤ r
theorem Ls.rl {w W : World} {d : Nat} {A : Option Addr} {m c : Nat} {r : Nat} {σ : Sg} (h : Ls w W d A m c r σ) : r < W.heap.size := (Array.getElem?_eq_some_iff.1 h.z).1
theorem Ls.call {w W W' : World} {d : Nat} {A : Option Addr} {m c : Nat} {r : Nat} {σ σ' : Sg} (h : Ls w W d A m c r σ) (hb : Rb W' d (.slice A m c) σ') (hf : Fr d d W W') : Ls w W' d A m c r σ' :=
  ⟨hb, by have := h.dr; rw [hf.b r h.rl (by omega) (by omega)]; exact h.z, h.fr.trans hf, h.dr, h.rw⟩
structure Lt (w W : World) (d : Nat) (A : Option Addr) (m c : Nat) (r : Nat) (σ : Sg) (g next last : Nat) (fl : Bool) (fat : Nat) (B : Option Addr) (n k : Nat) : Prop where
  s : Ls w W d A m c r σ
  gg : W.heap[g]? = some (sto next last fl fat B n k)
  rg : r < g
theorem Lt.gl {w W : World} {d : Nat} {A : Option Addr} {m c : Nat} {r : Nat} {σ : Sg} {g next last : Nat} {fl : Bool} {fat : Nat} {B : Option Addr} {n k : Nat} (h : Lt w W d A m c r σ g next last fl fat B n k) : g < W.heap.size := (Array.getElem?_eq_some_iff.1 h.gg).1
theorem Lt.call {w W W' : World} {d : Nat} {A : Option Addr} {m c : Nat} {r : Nat} {σ σ' : Sg} {g next last : Nat} {fl : Bool} {fat : Nat} {B : Option Addr} {n k : Nat} (h : Lt w W d A m c r σ g next last fl fat B n k) (hb : Rb W' d (.slice A m c) σ') (hf : Fr d d W W') : Lt w W' d A m c r σ' g next last fl fat B n k :=
  ⟨h.s.call hb hf, by have := h.s.dr; have := h.rg; rw [hf.b g h.gl (by omega) (by omega)]; exact h.gg, h.rg⟩
/- a store into the state's own box, then the result's -/
theorem Lt.end_ {w W : World} {d : Nat} {A : Option Addr} {m c : Nat} {r : Nat} {σ : Sg} {g next last : Nat} {fl : Bool} {fat : Nat} {B : Option Addr} {n k : Nat} (h : Lt w W d A m c r σ g next last fl fat B n k) (j : Nat) (v : Value) (next' last' : Nat) (fl' : Bool) (fat' : Nat) (B' : Option Addr) (n' k' : Nat) :
    (set5 (W.setCell ⟨g, j, none⟩ v) r next' last' fl' fat' B' n' k').heap[r]? = some (sto next' last' fl' fat' B' n' k') ∧ Rb (set5 (W.setCell ⟨g, j, none⟩ v) r next' last' fl' fat' B' n' k') d (.slice A m c) σ ∧ Fr d d w (set5 (W.setCell ⟨g, j, none⟩ v) r next' last' fl' fat' B' n' k') ∧
    ∀ (V : Value) (R : List Ru), OwnRu W (g + 1) V R → OwnRu (set5 (W.setCell ⟨g, j, none⟩ v) r next' last' fl' fat' B' n' k') (g + 1) V R := by
  have h1 := h.s.dr
  have h2 := h.rg
  have h3 := h.s.rw
  have ot : ∀ x, x ≠ r → x ≠ g → (set5 (W.setCell ⟨g, j, none⟩ v) r next' last' fl' fat' B' n' k').heap[x]? = W.heap[x]? := fun x hx hg => by
    rw [set5_other _ r x hx, heap_setCell_other W ⟨g, j, none⟩ x v hg]
  refine ⟨set5_same (a := 0) (b := 0) (f := false) (x := 0) (A0 := none) (n0 := 0) (c0 := 0) (by rw [heap_setCell_other W ⟨g, j, none⟩ r v (by show r ≠ g; omega)]; exact h.s.z) .., ?_, ?_, fun V R hR => ?_⟩
  · unfold Rb
    rw [ot d (by omega) (by omega)]
    exact h.s.b
  · exact ⟨(h.s.fr.o.setCell (p := ⟨g, j, none⟩) (Nat.zero_le _) v).trans (set5_below _ r (Nat.zero_le _) ..), fun x hx hd _ => by rw [ot x (by omega) (by omega)]; exact h.s.fr.b x hx hd hd⟩
  · exact row_same hR fun x cur hk hh => by
      have := (World.ownsRow.lt hR x hk).1
      rw [ot x (by omega) (by omega)]; exact hh
set_option maxHeartbeats 8000000 in
theorem state_any (d : Nat) (A : Option Addr) (m c : Nat) (l : List Int) (w : World) (h : Rb w d (.slice A m c) (0, 0)) (hl : l.length = m) (hm : m ≤ 100000) (hc : m ≤ c) (hb : Byt w A l) (hd : ∀ W, Fr d d w W → Byt W A l) :
    Calls Try.prog 18 #[.pointer (some ⟨d, 0, none⟩)] w fun e w' => ∃ A' k' c', e = .returned (stv (sq l).next (sq l).last (sq l).fl (sq l).fat A' k' c') ∧ (sq l).L.length = k' ∧ Hid (OwnRu w' w.heap.size (.slice A' k' c') (sq l).L) ∧ Rb w' d (.slice A m c) (s5 l) ∧ Fr d d w w' := by
  have HR := Lib.hid hb.2
  have C2 := Lib.hid (fun (W : World) (s : Sg) (hB : Rb W d (.slice A m c) s) (hF : Fr d d w W) => number_any d A m c l s W hB hl hm hc (hd W hF))
  have C3 := Lib.hid (fun (W : World) (s : Sg) (hB : Rb W d (.slice A m c) s) (hF : Fr d d w W) (h0 : s.2 = 0 → 0 ≤ s.1) => failed_any d A m c l s W hB hl hm (hd W hF) h0 (fun W' hF' => hd W' (hF.trans hF')))
  have C4 := Lib.hid (fun (W : World) (s : Sg) (hB : Rb W d (.slice A m c) s) (hF : Fr d d w W) => runs_any d A m c l s W hB hl hm hc (hd W hF) (fun W' hF' => hd W' (hF.trans hF')))
  have L0 : Hid (Ls w (w.alloc (.cells #[.int .u64 0, .int .u64 0, .bool false, .int .u64 0, .slice none 0 0] 25)) d A m c w.heap.size (0, 0)) := Lib.hid ⟨h.next (below_alloc _ _), heap_alloc_new w _, Fr.of_below (below_alloc _ _), h.lt, Nat.le_refl _⟩
  have E1 := Lib.hid (show rds l (0, 0) = s1 l from rfl)
  have E2 := Lib.hid (show rds l (s1 l) = s2 l from rfl)
  have E3 := Lib.hid (show fgs l (s2 l) = s3 l from rfl)
  have E4 := Lib.hid (show rds l (s3 l) = s4 l from rfl)
  have P2 := Lib.hid (fun (k : (s2 l).2 = 0) => show 0 ≤ (s2 l).1 by
    have := (rds_ok l (s1 l) HR.out k).2
    have a1 := this.1
    have a2 := this.2.1
    exact Int.le_trans a1 a2)
  clear h hb hd hl
  go_enter Try.func18, Try.ntmps18
  go_upto_region 1 with fail
  generalize (w.alloc (.cells #[.int .u64 0, .int .u64 0, .bool false, .int .u64 0, .slice none 0 0] 25)) = w0 at L0 ⊢
  generalize w.heap.size = r at L0
  go_wp2_with fail
  refine (C2.out _ _ L0.out.b L0.out.fr).mono ?_
  rintro _ w1 ⟨rfl, hr1, hf1⟩
  have L1 := Lib.hid (L0.out.call hr1 hf1)
  rw [E1.out] at L1
  clear hr1 hf1 L0
  go_wp2_with fail
  refine (C2.out _ _ L1.out.b L1.out.fr).mono ?_
  rintro _ w2 ⟨rfl, hr2, hf2⟩
  have L2 := Lib.hid (L1.out.call hr2 hf2)
  rw [E2.out] at L2
  clear hr2 hf2 L1
  go_wp2_with fail
  refine (C3.out _ _ L2.out.b L2.out.fr P2.out).mono ?_
  rintro _ w3 ⟨rfl, hr3, hf3⟩
  have L3 := Lib.hid (L2.out.call hr3 hf3)
  rw [E3.out] at L3
  clear hr3 hf3 L2 C3
  have NB := Lib.hid (below_alloc w3 (sto (rdn l (0, 0)) (rdn l (s1 l)) (fgb l (s2 l)) 0 none 0 0))
  have T4 : Hid (Lt w (w3.alloc (.cells #[.int .u64 (rdn l (0, 0) : Int), .int .u64 (rdn l (s1 l) : Int), .bool (fgb l (s2 l)), .int .u64 0, .slice none 0 0] 25)) d A m c r (s3 l) w3.heap.size (rdn l (0, 0)) (rdn l (s1 l)) (fgb l (s2 l)) 0 none 0 0) := Lib.hid
    ⟨L3.out.call (L3.out.b.next NB.out) (Fr.of_below NB.out), heap_alloc_new w3 _, L3.out.rl⟩
  clear L3 NB
  obtain ⟨n0, hn0⟩ : ∃ n0, rdn l (0, 0) = n0 := ⟨_, rfl⟩
  obtain ⟨n1, hn1⟩ : ∃ n1, rdn l (s1 l) = n1 := ⟨_, rfl⟩
  obtain ⟨fl, hfl⟩ : ∃ fl, fgb l (s2 l) = fl := ⟨_, rfl⟩
  have QS := Lib.hid (show sq l = ⟨n0, n1, fl, if fl then rdn l (s3 l) else 0, if fl then [] else rsL l (s3 l)⟩ ∧ s5 l = if fl then s4 l else rsS l (s3 l) by unfold sq s5; rw [hn0, hn1, hfl]; exact ⟨rfl, rfl⟩)
  rw [hn0, hn1, hfl] at T4 ⊢
  clear hn0 hn1 hfl
  go_upto_region 2 with fail
  generalize (w3.alloc (.cells #[.int .u64 (n0 : Int), .int .u64 (n1 : Int), .bool fl, .int .u64 0, .slice none 0 0] 25)) = w4 at T4 ⊢
  generalize w3.heap.size = g at T4 ⊢
  obtain ⟨_, _, b2, _, _, _⟩ := sto_cells T4.out.gg
  cases fl
  · go_wp2_with fail
    refine (C4.out _ _ T4.out.s.b T4.out.s.fr).mono ?_
    rintro _ w5 ⟨A5, k5, c5, rfl, hl5, ho5, hr5, hf5⟩
    have T5 := Lib.hid (T4.out.call hr5 hf5)
    have O5 := Lib.hid (row_mono ho5 T4.out.gl)
    have L5 := Lib.hid hl5
    clear hl5 ho5 hr5 hf5 T4 b2
    obtain ⟨b0, b1, b2, b3, b4, bf⟩ := sto_cells T5.out.gg
    obtain ⟨_, _, _, _, _, zf⟩ := sto_cells T5.out.s.z
    have bf4 := bf 4
    have z0 := zf 0
    have z1 := zf 1
    have z2 := zf 2
    have z3 := zf 3
    have z4 := zf 4
    have rg := T5.out.rg
    clear bf zf
    obtain ⟨e1, e2, e3, e4⟩ := T5.out.end_ 4 (.slice A5 k5 c5) n0 n1 false 0 A5 k5 c5
    have HF := Lib.hid (And.intro e2 (And.intro e3 (e4 _ _ O5.out)))
    have HE := Lib.hid e1
    have RW := Lib.hid (show w.heap.size ≤ g + 1 by have := T5.out.s.rw; omega)
    clear e1 e2 e3 e4 T5 O5
    go_wp2_with fail
    show bodyPost _ _ _ _ _ (set5 (w5.setCell ⟨g, 4, none⟩ (.slice A5 k5 c5)) r n0 n1 false 0 A5 k5 c5)
    generalize set5 (w5.setCell ⟨g, 4, none⟩ (.slice A5 k5 c5)) r n0 n1 false 0 A5 k5 c5 = wf at HE HF ⊢
    obtain ⟨k0, k1, k2, k3, k4, _⟩ := sto_cells HE.out
    refine bodyPost_ret (v := stv n0 n1 false 0 A5 k5 c5) ?_ rfl ⟨_, _, _, by rw [QS.out.1]; rfl, by rw [QS.out.1]; exact L5.out, by rw [QS.out.1]; exact Lib.hid (row_mono HF.out.2.2 RW.out), by rw [QS.out.2]; exact HF.out.1, HF.out.2.1⟩
    simp [results, Try.results18, go_sem, *]
  · go_wp2_with fail
    refine (C2.out _ _ T4.out.s.b T4.out.s.fr).mono ?_
    rintro _ w5 ⟨rfl, hr5, hf5⟩
    have T5 := Lib.hid (T4.out.call hr5 hf5)
    rw [E4.out] at T5
    clear hr5 hf5 T4 b2
    obtain ⟨n2, hn2⟩ : ∃ n2, rdn l (s3 l) = n2 := ⟨_, rfl⟩
    rw [hn2] at QS ⊢
    clear hn2
    obtain ⟨b0, b1, b2, b3, b4, bf⟩ := sto_cells T5.out.gg
    obtain ⟨_, _, _, _, _, zf⟩ := sto_cells T5.out.s.z
    have bf3 := bf 3
    have z0 := zf 0
    have z1 := zf 1
    have z2 := zf 2
    have z3 := zf 3
    have z4 := zf 4
    have rg := T5.out.rg
    clear bf zf
    obtain ⟨e1, e2, e3, _⟩ := T5.out.end_ 3 (.int .u64 (n2 : Int)) n0 n1 true n2 none 0 0
    have HF := Lib.hid (And.intro e2 (And.intro e3 trivial))
    have HE := Lib.hid e1
    clear e1 e2 e3 T5
    go_wp2_with fail
    show bodyPost _ _ _ _ _ (set5 (w5.setCell ⟨g, 3, none⟩ (.int .u64 (n2 : Int))) r n0 n1 true n2 none 0 0)
    generalize set5 (w5.setCell ⟨g, 3, none⟩ (.int .u64 (n2 : Int))) r n0 n1 true n2 none 0 0 = wf at HE HF ⊢
    obtain ⟨k0, k1, k2, k3, k4, _⟩ := sto_cells HE.out
    refine bodyPost_ret (v := stv n0 n1 true n2 none 0 0) ?_ rfl ⟨_, _, _, by rw [QS.out.1]; rfl, by rw [QS.out.1]; rfl, by rw [QS.out.1]; exact Lib.hid (OwnRu.nil _ _), by rw [QS.out.2]; exact HF.out.1, HF.out.2.1⟩
    simp [results, Try.results18, go_sem, *]
end Go.Proofs.Ytmooblbnkjaenaa
