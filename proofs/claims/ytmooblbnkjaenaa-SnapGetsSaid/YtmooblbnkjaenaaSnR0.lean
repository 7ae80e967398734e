/- The document's reading, by value; its boxes. -/
import Derived.Test.YtmooblbnkjaenaaSnQ
import Derived.Test.YtmooblbnkjaenaaLbRGet
namespace Go.Proofs.Ytmooblbnkjaenaa
open Go Go.RowKit Pk
set_option maxRecDepth 20000

theorem rds0 (l : List Int) (K : Int) : rds l (K, 0) = (gK l K, gE l K) ∧ rdn l (K, 0) = gN l K := by unfold rds rdn; rw [if_pos rfl, if_pos rfl]; exact ⟨rfl, rfl⟩
theorem abs_e (l : List Int) (a : Nat) (K : Int) (h : gE l K ≠ 0) : abs l a (K, 0) = (gK l K, gE l K) := by unfold abs; rw [(rds0 l K).1, if_neg (fun k => h k.1)]
theorem abs_5 (l : List Int) (a : Nat) (K : Int) (h : gE l K = 0) (h2 : 18446744073709551616 ≤ a + gN l K) : abs l a (K, 0) = (gK l K, 5) := by unfold abs; rw [(rds0 l K).1, (rds0 l K).2, if_pos ⟨h, h2⟩]
theorem abs_0 (l : List Int) (a : Nat) (K : Int) (h : gE l K = 0) (h2 : ¬ 18446744073709551616 ≤ a + gN l K) : abs l a (K, 0) = (gK l K, 0) ∧ abn l a (K, 0) = a + gN l K := by
  unfold abs abn
  rw [(rds0 l K).1, (rds0 l K).2, if_neg (fun k => h2 k.2), h]
  exact ⟨rfl, Nat.mod_eq_of_lt (by omega)⟩
theorem ons_1 (l : List Int) (p : Ru) (σ τ : Sg) (h : abs l p.s σ = τ) (h2 : τ.2 ≠ 0) : ons l p σ = τ := by unfold ons; rw [h, abs_bad l p.t τ h2, (rds_bad l τ h2).1]
theorem ons_2 (l : List Int) (p : Ru) (σ τ υ : Sg) (h : abs l p.s σ = τ) (h2 : abs l p.t τ = υ) (h3 : υ.2 ≠ 0) : ons l p σ = υ := by unfold ons; rw [h, h2, (rds_bad l υ h3).1]
/- an error while runs are read is the error -/
theorem s6_runs (l : List Int) (hf : fgb l (s2 l) = false) (n : Nat) (hn : rdn l (s3 l) = n) (h64 : ¬ 64 < n) (R : List Ru) (j : Nat) (p : Ru) (σ : Sg) (hT : rrs l n rz (s4 l) = (R ++ (rrs l (j + 1) p σ).1, (rrs l (j + 1) p σ).2)) (e : Nat) (he : (ons l p σ).2 = e) (h0 : e ≠ 0) : (s6 l).2 = e := by
  have : s5 l = ons l p σ := by
    unfold s5
    rw [hf]
    simp only [Bool.false_eq_true, if_false]
    unfold rsS
    rw [hn, if_neg h64]
    show (rrs l n rz (s4 l)).2 = _
    rw [hT]
    show (rrs l j (onr l p σ) (ons l p σ)).2 = _
    exact rrs_bad l j _ _ (by rw [he]; exact h0)
  rw [s6_of l (by rw [this, he]; exact h0), this, he]
/- the document's three boxes -/
structure Lv (w W : World) (next last : Nat) (fl : Bool) (fat : Nat) (A : Option Addr) (k c : Nat) (L : List Ru) : Prop where
  z : W.heap[w.heap.size]? = some (sto 0 0 false 0 none 0 0)
  nn : W.heap[w.heap.size + 1]? = some (sto 0 0 false 0 none 0 0)
  ss : W.heap[w.heap.size + 1 + 1]? = some (sto next last fl fat A k c)
  o : OwnRu W (w.heap.size + 1 + 1 + 1) (.slice A k c) L
  l : L.length = k
  bel : Below w.heap.size w W
theorem Lv.size {w W : World} {next last : Nat} {fl : Bool} {fat : Nat} {A : Option Addr} {k c : Nat} {L : List Ru} (h : Lv w W next last fl fat A k c L) : w.heap.size + 1 + 1 + 1 ≤ W.heap.size := (Array.getElem?_eq_some_iff.1 h.ss).1
theorem Lv.rus {w W : World} {next last : Nat} {fl : Bool} {fat : Nat} {A : Option Addr} {k c : Nat} {L : List Ru} (h : Lv w W next last fl fat A k c L) : Rus W A L := by
  obtain ⟨A', c', e, hr, _⟩ := h.o.form
  injection e with e1 _ _
  rw [e1]; exact hr
theorem Lv.next {w W W' : World} {next last : Nat} {fl : Bool} {fat : Nat} {A : Option Addr} {k c : Nat} {L : List Ru} (h : Lv w W next last fl fat A k c L) (hb : Below W.heap.size W W') : Lv w W' next last fl fat A k c L := by
  have hs := h.size
  exact ⟨(hb.block _ (by omega)).trans h.z, (hb.block _ (by omega)).trans h.nn, (hb.block _ (by omega)).trans h.ss, h.o.below hb, h.l, below_go h.bel hb⟩
theorem Lv.c {w W : World} {next last : Nat} {fl : Bool} {fat : Nat} {A : Option Addr} {k c : Nat} {L : List Ru} (h : Lv w W next last fl fat A k c L) :
    (W.cell? ⟨w.heap.size + 1, 0, none⟩ = some (.int .u64 0) ∧ W.cell? ⟨w.heap.size + 1, 1, none⟩ = some (.int .u64 0) ∧ W.cell? ⟨w.heap.size + 1, 2, none⟩ = some (.bool false) ∧ W.cell? ⟨w.heap.size + 1, 3, none⟩ = some (.int .u64 0) ∧ W.cell? ⟨w.heap.size + 1, 4, none⟩ = some (.slice none 0 0)) ∧
    (W.cell? ⟨w.heap.size, 0, none⟩ = some (.int .u64 0) ∧ W.cell? ⟨w.heap.size, 1, none⟩ = some (.int .u64 0) ∧ W.cell? ⟨w.heap.size, 2, none⟩ = some (.bool false) ∧ W.cell? ⟨w.heap.size, 3, none⟩ = some (.int .u64 0) ∧ W.cell? ⟨w.heap.size, 4, none⟩ = some (.slice none 0 0)) ∧
    (W.frozen? ⟨w.heap.size, 0, none⟩ = false ∧ W.frozen? ⟨w.heap.size, 1, none⟩ = false ∧ W.frozen? ⟨w.heap.size, 2, none⟩ = false ∧ W.frozen? ⟨w.heap.size, 3, none⟩ = false ∧ W.frozen? ⟨w.heap.size, 4, none⟩ = false) := by
  obtain ⟨a0, a1, a2, a3, a4, _⟩ := sto_cells h.nn
  obtain ⟨x0, x1, x2, x3, x4, zf⟩ := sto_cells h.z
  exact ⟨⟨a0, a1, a2, a3, a4⟩, ⟨x0, x1, x2, x3, x4⟩, zf 0, zf 1, zf 2, zf 3, zf 4⟩
theorem Lv.field {w W : World} {next last : Nat} {fl : Bool} {fat : Nat} {A : Option Addr} {k c : Nat} {L : List Ru} (h : Lv w W next last fl fat A k c L) (j : Nat) (v : Value) {next' last' : Nat} {fl' : Bool} {fat' : Nat}
    (e : (#[.int .u64 (next : Int), .int .u64 (last : Int), .bool fl, .int .u64 (fat : Int), .slice A k c] : Array Value).setIfInBounds j v = #[.int .u64 (next' : Int), .int .u64 (last' : Int), .bool fl', .int .u64 (fat' : Int), .slice A k c]) :
    Lv w (W.setCell ⟨w.heap.size + 1 + 1, j, none⟩ v) next' last' fl' fat' A k c L := by
  have o1 : ∀ x, x ≠ w.heap.size + 1 + 1 → (W.setCell ⟨w.heap.size + 1 + 1, j, none⟩ v).heap[x]? = W.heap[x]? := fun x hx => heap_setCell_other W ⟨w.heap.size + 1 + 1, j, none⟩ x v hx
  refine ⟨(o1 _ (by omega)).trans h.z, (o1 _ (by omega)).trans h.nn, ?_, row_cell h.o (by omega) j v, h.l, h.bel.setCell (p := ⟨w.heap.size + 1 + 1, j, none⟩) (by show w.heap.size ≤ w.heap.size + 1 + 1; omega) v⟩
  rw [heap_setCell_same W (w.heap.size + 1 + 1) j _ _ v h.ss, e]
theorem Lv.more {w W W' : World} {next last : Nat} {fl : Bool} {fat : Nat} {A : Option Addr} {k c : Nat} {L : List Ru} (h : Lv w W next last fl fat A k c L) (hb : Below (w.heap.size + 1 + 1 + 1) W W') {A2 : Option Addr} {c2 : Nat} {r : Ru} (ho : OwnRu W' (w.heap.size + 1 + 1 + 1) (.slice A2 (k + 1) c2) (L ++ [r])) :
    Lv w (W'.setCell ⟨w.heap.size + 1 + 1, 4, none⟩ (.slice A2 (k + 1) c2)) next last fl fat A2 (k + 1) c2 (L ++ [r]) := by
  have o1 : ∀ x, x ≠ w.heap.size + 1 + 1 → (W'.setCell ⟨w.heap.size + 1 + 1, 4, none⟩ (.slice A2 (k + 1) c2)).heap[x]? = W'.heap[x]? := fun x hx => heap_setCell_other W' ⟨w.heap.size + 1 + 1, 4, none⟩ x _ hx
  refine ⟨(o1 _ (by omega)).trans ((hb.block _ (by omega)).trans h.z), (o1 _ (by omega)).trans ((hb.block _ (by omega)).trans h.nn), ?_, row_cell ho (by omega) 4 _, by rw [List.length_append, h.l]; rfl, (h.bel.trans (hb.mono (by omega))).setCell (p := ⟨w.heap.size + 1 + 1, 4, none⟩) (by show w.heap.size ≤ w.heap.size + 1 + 1; omega) _⟩
  rw [heap_setCell_same W' (w.heap.size + 1 + 1) 4 _ _ _ ((hb.block _ (by omega)).trans h.ss)]
  rfl
theorem Lv.end_ {w W : World} {next last : Nat} {fl : Bool} {fat : Nat} {A : Option Addr} {k c : Nat} {L : List Ru} (h : Lv w W next last fl fat A k c L) (next' last' : Nat) (fl' : Bool) (fat' : Nat) (B' : Option Addr) (n' k' : Nat) :
    (set5 W w.heap.size next' last' fl' fat' B' n' k').heap[w.heap.size]? = some (sto next' last' fl' fat' B' n' k') ∧ Rus (set5 W w.heap.size next' last' fl' fat' B' n' k') A L ∧ Below w.heap.size w (set5 W w.heap.size next' last' fl' fat' B' n' k') := by
  refine ⟨set5_same h.z .., ?_, h.bel.trans (set5_below W _ (Nat.le_refl _) ..)⟩
  have ho : OwnRu (set5 W w.heap.size next' last' fl' fat' B' n' k') (w.heap.size + 1 + 1 + 1) (.slice A k c) L := row_same h.o fun x cur hx hh => by
    have h5 := World.ownsRow.lt h.o x hx
    rw [set5_other W w.heap.size x (by omega)]; exact hh
  obtain ⟨A', c', e, hr, _⟩ := ho.form
  injection e with e1 _ _
  rw [e1]; exact hr
theorem Lv.start (w : World) (Z : Obj) (hZ : Z = sto 0 0 false 0 none 0 0) : Lv w (((w.alloc Z).alloc Z).alloc Z) 0 0 false 0 none 0 0 [] := by
  subst hZ
  have n1 := below_alloc w (sto 0 0 false 0 none 0 0)
  have n2 := below_alloc (w.alloc (sto 0 0 false 0 none 0 0)) (sto 0 0 false 0 none 0 0)
  have n3 := below_alloc ((w.alloc (sto 0 0 false 0 none 0 0)).alloc (sto 0 0 false 0 none 0 0)) (sto 0 0 false 0 none 0 0)
  have e1 := heap_alloc_new w (sto 0 0 false 0 none 0 0)
  have e2 := heap_alloc_new (w.alloc (sto 0 0 false 0 none 0 0)) (sto 0 0 false 0 none 0 0)
  have e3 := heap_alloc_new ((w.alloc (sto 0 0 false 0 none 0 0)).alloc (sto 0 0 false 0 none 0 0)) (sto 0 0 false 0 none 0 0)
  simp only [World.size_alloc] at e2 e3 n2 n3
  exact ⟨(n3.block _ (by omega)).trans ((n2.block _ (by omega)).trans e1), (n3.block _ (by omega)).trans e2, e3, OwnRu.nil _ _, rfl, (n1.trans (n2.mono (by omega))).trans (n3.mono (by omega))⟩
end Go.Proofs.Ytmooblbnkjaenaa
