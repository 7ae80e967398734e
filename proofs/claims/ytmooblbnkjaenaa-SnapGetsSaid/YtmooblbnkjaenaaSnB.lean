/- Runs and states in memory: rows of runs, a state as a value and in its box, a reading's box. -/
import Derived.Test.YtmooblbnkjaenaaSnM
import Derived.BigQuiet
import Derived.BigRegion
import Derived.Maps.AppendAt
import Derived.Deep.DeepCutAuto
import Derived.Deep.RegionHeld3
namespace Go.Proofs.Ytmooblbnkjaenaa
open Go Go.RowKit Pk
set_option maxRecDepth 20000

abbrev nsl : Value := .slice none 0 0
theorem below_alloc (w : World) (o : Obj) : Below w.heap.size w (w.alloc o) := (Below.refl w.heap.size w).alloc (Nat.le_refl _) o
def rcl (r : Ru) : List Value := [.int .u64 (r.s : Int), .int .u64 (r.t : Int), .int .u64 (r.x : Int)]
def rcls (L : List Ru) : List Value := L.flatMap rcl
theorem rcls_len (L : List Ru) : (rcls L).length = L.length * 3 := by
  induction L with
  | nil => rfl
  | cons v L ih => show (rcl v ++ rcls L).length = _; rw [List.length_append, ih, List.length_cons]; simp [rcl]; omega
theorem rcls_app (L M : List Ru) : rcls (L ++ M) = rcls L ++ rcls M := by unfold rcls; rw [List.flatMap_append]
theorem rcls_get (L : List Ru) (i : Nat) (hi : i < L.length) (j : Nat) (hj : j < 3) : (rcls L)[i * 3 + j]? = (rcl (L.getD i rz))[j]? := by
  induction L generalizing i with
  | nil => simp at hi
  | cons v L ih =>
    show (rcl v ++ rcls L)[i * 3 + j]? = _
    have h4 : (rcl v).length = 3 := rfl
    rcases i with _ | i
    · rw [List.getElem?_append_left (by omega)]; simp
    · rw [List.getElem?_append_right (by omega), h4, show (i + 1) * 3 + j - 3 = i * 3 + j by omega, ih i (by simpa using hi)]; simp
/- runs that are read -/
def Rus (w : World) (A : Option Addr) (L : List Ru) : Prop := ∀ i, i < L.length → ∃ b off, A = some ⟨b, off, none⟩ ∧ w.cell? ⟨b, off + i * 3, none⟩ = some (.int .u64 ((L.getD i rz).s : Int)) ∧ w.cell? ⟨b, off + i * 3 + 1, none⟩ = some (.int .u64 ((L.getD i rz).t : Int)) ∧ w.cell? ⟨b, off + i * 3 + 2, none⟩ = some (.int .u64 ((L.getD i rz).x : Int))
theorem Rus.nil (w : World) (A : Option Addr) : Rus w A [] := fun i hi => absurd hi (by simp)
theorem Rus.below {w w' : World} {A : Option Addr} {L : List Ru} (h : Rus w A L) (hb : Below w.heap.size w w') : Rus w' A L := fun i hi => by
  obtain ⟨g, o, e, h0, h1, h2⟩ := h i hi
  have k : ∀ {j v}, w.cell? ⟨g, j, none⟩ = some v → w'.cell? ⟨g, j, none⟩ = some v := fun hc => (hb.cell (World.block_lt_of_cell? _ _ hc)).trans hc
  exact ⟨g, o, e, k h0, k h1, k h2⟩
def OwnRu (w : World) (B : Nat) (v : Value) (L : List Ru) : Prop := w.ownsRow B 43 3 v L.length (rcls L)
theorem OwnRu.nil (w : World) (B : Nat) : OwnRu w B nsl [] := World.ownsRow_nil w B 43 3
theorem OwnRu.same {w w' : World} {B : Nat} {v : Value} {L : List Ru} (h : OwnRu w B v L) (hb : ∀ (k : Nat) (cur : Array Value), B ≤ k → w.heap[k]? = some (Obj.cells cur 43 (0, 0)) → w'.heap[k]? = w.heap[k]?) : OwnRu w' B v L := by
  refine ⟨h.1, ?_⟩
  rcases h.2 with h0 | ⟨g, cap, cur, hv, hg, hh, r⟩
  · exact .inl h0
  · exact .inr ⟨g, cap, cur, hv, hg, by rw [hb g cur hg hh]; exact hh, r⟩
theorem OwnRu.below {w w' : World} {B : Nat} {v : Value} {L : List Ru} (h : OwnRu w B v L) (hb : Below w.heap.size w w') : OwnRu w' B v L :=
  h.same fun k _ _ hk => hb.block k (Array.getElem?_eq_some_iff.1 hk).1
theorem OwnRu.form {w : World} {B : Nat} {v : Value} {L : List Ru} (h : OwnRu w B v L) : ∃ A c, v = .slice A L.length c ∧ Rus w A L ∧ ((A = none ∧ c = 0 ∧ L = []) ∨ ∃ b, A = some ⟨b, 0, none⟩ ∧ B ≤ b ∧ b < w.heap.size ∧ ∀ j, w.frozen? ⟨b, j, none⟩ = false) := by
  rcases h.2 with ⟨rfl, h0⟩ | ⟨g, cap, cur, rfl, hB, hh, _⟩
  · have : L = [] := List.eq_nil_of_length_eq_zero h0
    subst this
    exact ⟨none, 0, rfl, Rus.nil _ _, .inl ⟨rfl, rfl, rfl⟩⟩
  · refine ⟨_, _, rfl, fun i hi => ⟨g, 0, rfl, ?_, ?_, ?_⟩, .inr ⟨g, rfl, hB, (Array.getElem?_eq_some_iff.1 hh).1, fun j => by simp [World.frozen?, hh]⟩⟩
    · have := World.ownsRow.cells h (g := g) rfl (i * 3 + 0) _ (by rw [rcls_get L i hi 0 (by omega)]; rfl)
      rw [add_plain] at this
      simpa using this
    · have := World.ownsRow.cells h (g := g) rfl (i * 3 + 1) _ (by rw [rcls_get L i hi 1 (by omega)]; rfl)
      rw [add_plain] at this
      simpa [Nat.add_assoc] using this
    · have := World.ownsRow.cells h (g := g) rfl (i * 3 + 2) _ (by rw [rcls_get L i hi 2 (by omega)]; rfl)
      rw [add_plain] at this
      simpa [Nat.add_assoc] using this
theorem infoRu : ∃ i z, Try.prog.info? 43 = some i ∧ i.zero = some z ∧ i.size = 3 ∧ i.bytes = 24 ∧ z.cells.size = 3 :=
  ⟨(Try.prog.info? 43).get (by kernel_rfl), .agg #[.int .u64 0, .int .u64 0, .int .u64 0], by kernel_rfl, by kernel_rfl, by kernel_rfl, by kernel_rfl, rfl⟩
theorem wp_appRu {ops : Array Oper} {rest : List Oper} {o : Oper} {a : Act} {Q : Exit → Act → World → Prop} (s x : Operand) (w : World) (hgd : o.guard = none)
    (hop : o.op = .call { callee := .builtin .append, args := #[s, x], argTypes := #[23, 23] })
    (B : Nat) (v : Value) (L : List Ru) (hs : a.eval s = v) (ho : OwnRu w B v L) (b : Nat) (hx : a.eval x = .slice (some ⟨b, 0, none⟩) 1 1) (e : Ru) (hc : w.cell? ⟨b, 0, none⟩ = some (.int .u64 (e.s : Int))) (hc2 : w.cell? ⟨b, 1, none⟩ = some (.int .u64 (e.t : Int))) (hc3 : w.cell? ⟨b, 2, none⟩ = some (.int .u64 (e.x : Int)))
    (hlen : L.length ≤ 100000000) (hB : B ≤ w.heap.size) (k : Nat) (hk : L.length + 1 = k)
    (h : ∀ A' c' w', OwnRu w' B (.slice A' k c') (L ++ [e]) → Below B w w' → wpList Try.prog ops Q rest (a.put o.dst (.slice A' k c')) w') : wpList Try.prog ops Q (o :: rest) a w := by
  refine wpList_plain hgd fun K hK => ?_
  obtain ⟨i, z, hi, hz, hsz, hy, hzs⟩ := infoRu
  obtain ⟨v', w', hrun, r2, r3, _, _⟩ := run_append_own_at (P := Try.prog) w B 23 o.type 43 i z 3 24 Try.underlying23 hi hz hsz hy hzs (by omega) v L.length (rcls L) ho ⟨b, 0, none⟩ 1 1 (rcl e) rfl
    (fun j u hj => by
      rw [add_plain, Nat.zero_add]
      rcases j with _ | _ | _ | j
      · rw [hc]; simpa [rcl] using hj
      · rw [hc2]; simpa [rcl] using hj
      · rw [hc3]; simpa [rcl] using hj
      · simp [rcl] at hj)
    (fun u hu => by simp [rcl] at hu; rcases hu with rfl | rfl | rfl <;> rfl) (by unfold maxLen; omega) (by omega) hB
  have hO : OwnRu w' B v' (L ++ [e]) := by
    unfold OwnRu
    rw [List.length_append, rcls_app]
    simpa [rcls] using r2
  obtain ⟨A', c', rfl, _⟩ := hO.form
  have ek : (L ++ [e]).length = k := by rw [List.length_append, List.length_singleton, hk]
  rw [ek] at hO hrun
  unfold Oper.wp
  simp [execOp, hop, resolve, invoke, builtin, hs, hx, hrun, Result.andThen]
  exact hK _ _ (h A' c' w' hO ((Below.refl _ _).grown r3 hB (fun k hk => (World.ownsRow.lt ho k hk).1)))
theorem row_same {w w' : World} {B : Nat} {ty : TypeId} {sz : Nat} {v : Value} {n : Nat} {cs : List Value} (h : w.ownsRow B ty sz v n cs) (e : ∀ (g : Nat) (cur : Array Value), v.ownBlock = some g → w.heap[g]? = some (.cells cur ty (0, 0)) → w'.heap[g]? = some (.cells cur ty (0, 0))) : w'.ownsRow B ty sz v n cs := by
  refine ⟨h.1, ?_⟩
  rcases h.2 with h0 | ⟨g, cap, cur, hv, hg, hh, r⟩
  · exact .inl h0
  · exact .inr ⟨g, cap, cur, hv, hg, e g cur (by rw [hv]; rfl) hh, r⟩
theorem row_mono {w : World} {B B' : Nat} {ty : TypeId} {sz n : Nat} {v : Value} {cs : List Value} (h : w.ownsRow B ty sz v n cs) (hB : B' ≤ B) : w.ownsRow B' ty sz v n cs := by
  refine ⟨h.1, ?_⟩
  rcases h.2 with h0 | ⟨g, cap, cur, hv, hg, r⟩
  · exact .inl h0
  · exact .inr ⟨g, cap, cur, hv, Nat.le_trans hB hg, r⟩
theorem row_cell {w : World} {B : Nat} {ty : TypeId} {sz n : Nat} {v : Value} {cs : List Value} (h : w.ownsRow B ty sz v n cs) {d : Nat} (hd : d < B) (j : Nat) (x : Value) : (w.setCell ⟨d, j, none⟩ x).ownsRow B ty sz v n cs :=
  row_same h fun g cur hg hh => by rw [heap_setCell_other w ⟨d, j, none⟩ g x (by have := (World.ownsRow.lt h g hg).1; show g ≠ d; omega)]; exact hh
/- a state as a value, in its box -/
abbrev stv (next last : Nat) (fl : Bool) (fat : Nat) (A : Option Addr) (n c : Nat) : Value := .agg #[.int .u64 (next : Int), .int .u64 (last : Int), .bool fl, .int .u64 (fat : Int), .slice A n c]
abbrev sto (next last : Nat) (fl : Bool) (fat : Nat) (A : Option Addr) (n c : Nat) : Obj := .cells #[.int .u64 (next : Int), .int .u64 (last : Int), .bool fl, .int .u64 (fat : Int), .slice A n c] 25
theorem sto_cells {W : World} {g next last : Nat} {fl : Bool} {fat : Nat} {A : Option Addr} {n c : Nat} (h : W.heap[g]? = some (sto next last fl fat A n c)) : W.cell? ⟨g, 0, none⟩ = some (.int .u64 (next : Int)) ∧ W.cell? ⟨g, 1, none⟩ = some (.int .u64 (last : Int)) ∧ W.cell? ⟨g, 2, none⟩ = some (.bool fl) ∧ W.cell? ⟨g, 3, none⟩ = some (.int .u64 (fat : Int)) ∧ W.cell? ⟨g, 4, none⟩ = some (.slice A n c) ∧ ∀ j, W.frozen? ⟨g, j, none⟩ = false := by
  refine ⟨?_, ?_, ?_, ?_, ?_, fun j => by simp [World.frozen?, h]⟩ <;> (rw [cell_of_row W g _ _ _ _ h]; rfl)
/- a reading in a block of its own -/
def Rb (w : World) (r : Nat) (S : Value) (σ : Sg) : Prop := w.heap[r]? = some (.cells #[S, .int .i64 σ.1, .int .i64 (σ.2 : Int)] 45 (0, 0))
theorem Rb.cells {w : World} {r : Nat} {A : Option Addr} {m c : Nat} {σ : Sg} (h : Rb w r (.slice A m c) σ) : w.cell? ⟨r, 0, none⟩ = some (.slice A m c) ∧ w.cell? ⟨r, 1, none⟩ = some (.int .i64 σ.1) ∧ w.cell? ⟨r, 2, none⟩ = some (.int .i64 (σ.2 : Int)) := by
  refine ⟨?_, ?_, ?_⟩ <;> (rw [cell_of_row w r _ _ _ _ h]; rfl)
theorem Rb.free {w : World} {r : Nat} {S : Value} {σ : Sg} (h : Rb w r S σ) (j : Nat) : w.frozen? ⟨r, j, none⟩ = false := by
  simp [World.frozen?, Rb] at h ⊢
  simp [h]
theorem Rb.lt {w : World} {r : Nat} {S : Value} {σ : Sg} (h : Rb w r S σ) : r < w.heap.size := by
  rcases Nat.lt_or_ge r w.heap.size with h1 | h1
  · exact h1
  · unfold Rb at h; rw [Array.getElem?_eq_none h1] at h; cases h
theorem Rb.next {w w' : World} {r : Nat} {S : Value} {σ : Sg} (h : Rb w r S σ) (hb : Below w.heap.size w w') : Rb w' r S σ := by unfold Rb; rw [hb.block r h.lt]; exact h
theorem Rb.at_ {w : World} {r : Nat} {S : Value} {σ : Sg} (h : Rb w r S σ) (j : Int) : Rb (w.setCell ⟨r, 1, none⟩ (.int .i64 j)) r S (j, σ.2) := by
  unfold Rb
  rw [heap_setCell_same w r 1 _ _ _ h]
  rfl
theorem Rb.er {w : World} {r : Nat} {S : Value} {σ : Sg} (h : Rb w r S σ) (e : Nat) : Rb (w.setCell ⟨r, 2, none⟩ (.int .i64 (e : Int))) r S (σ.1, e) := by
  unfold Rb
  rw [heap_setCell_same w r 2 _ _ _ h]
  rfl
/- all but two blocks stay -/
structure Fr (r g : Nat) (w w' : World) : Prop where
  o : Below 0 w w'
  b : ∀ x, x < w.heap.size → x ≠ r → x ≠ g → w'.heap[x]? = w.heap[x]?
theorem Fr.z {r g : Nat} {w w' : World} (h : Fr r g w w') : w.heap.size ≤ w'.heap.size := h.o.size
theorem Fr.of_below {r g : Nat} {w w' : World} (h : Below w.heap.size w w') : Fr r g w w' := ⟨h.mono (Nat.zero_le _), fun x hx _ _ => h.block x hx⟩
theorem Fr.trans {r g : Nat} {a b c : World} (h : Fr r g a b) (k : Fr r g b c) : Fr r g a c := ⟨h.o.trans k.o, fun x hx h1 h2 => by rw [k.b x (Nat.lt_of_lt_of_le hx h.z) h1 h2]; exact h.b x hx h1 h2⟩
theorem Fr.next {r g : Nat} {a b c : World} (h : Fr r g a b) (k : Below b.heap.size b c) : Fr r g a c := h.trans (Fr.of_below k)
theorem Fr.set {r g : Nat} {a w : World} (h : Fr r g a w) (y j : Nat) (v : Value) (hy : y = r ∨ y = g) : Fr r g a (w.setCell ⟨y, j, none⟩ v) :=
  h.trans ⟨(Below.refl 0 w).setCell (p := ⟨y, j, none⟩) (Nat.zero_le _) v, fun x _ h1 h2 => heap_setCell_other w ⟨y, j, none⟩ x v (by rcases hy with rfl | rfl <;> assumption)⟩
theorem Fr.refl (r g : Nat) (w : World) : Fr r g w w := ⟨Below.refl _ _, fun _ _ _ _ => rfl⟩
theorem Fr.wide {r g : Nat} {a b : World} (h : Fr r r a b) : Fr r g a b := ⟨h.o, fun x hx h1 _ => h.b x hx h1 h1⟩
theorem Fr.drop {r g : Nat} {a b : World} (h : Fr r g a b) (hg : a.heap.size ≤ g) : Fr r r a b := ⟨h.o, fun x hx h1 _ => h.b x hx h1 (by omega)⟩
theorem Fr.below {r g B : Nat} {a b : World} (h : Fr r g a b) (h1 : B ≤ r) (h2 : B ≤ g) (h3 : B ≤ a.heap.size) : Below B a b := ⟨h.o.os, h.o.tape, h.o.output, h.o.size, fun x hx => h.b x (by omega) (by omega) (by omega)⟩
end Go.Proofs.Ytmooblbnkjaenaa
