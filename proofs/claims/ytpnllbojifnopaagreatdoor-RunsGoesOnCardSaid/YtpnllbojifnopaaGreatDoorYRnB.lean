/- Rows of runs; rows of one's own, grown by one, beside rows of another type. -/
import Derived.Test.YtpnllbojifnopaaGreatDoorYB4
import Derived.Test.YtpnllbojifnopaaGreatDoorYMLV
namespace Go.Proofs.YtpnllbojifnopaaGreatDoor
open Go Go.RowKit Go.Maps Pk Rl
set_option maxRecDepth 20000
def Kt (T : TypeId) (w w' : World) : Prop := ∀ (b : Nat) (cur : Array Value) (S : TypeId) (fr : Nat × Nat), w.heap[b]? = some (Obj.cells cur S fr) → S ≠ T → w'.heap[b]? = w.heap[b]?
theorem Kt.grown {w w' : World} {g : Nat} {cur : Array Value} {T : TypeId} {fr : Nat × Nat} (h : w.grownBy w' (some g)) (hg : w.heap[g]? = some (Obj.cells cur T fr)) : Kt T w w' := fun b c S f hb hS => by
  refine h.block b (Array.getElem?_eq_some_iff.1 hb).1 (fun e => ?_)
  injection e with e
  subst e
  rw [hg] at hb
  injection hb with hb
  injection hb with _ e2
  exact hS e2.symm
theorem Kt.grown0 {T : TypeId} {w w' : World} (h : w.grownBy w' none) : Kt T w w' := fun b c S f hb _ => h.block b (Array.getElem?_eq_some_iff.1 hb).1 (fun e => by cases e)
structure Ru where
  s : Nat
  t : Nat
  x : Nat
abbrev rz : Ru := ⟨0, 0, 0⟩
def rcl (r : Ru) : List Value := [.int .u64 (r.s : Int), .int .u64 (r.t : Int), .int .u64 (r.x : Int)]
def rcls (L : List Ru) : List Value := L.flatMap rcl
theorem rcls_len (L : List Ru) : (rcls L).length = L.length * 3 := by
  induction L with
  | nil => rfl
  | cons v L ih => show (rcl v ++ rcls L).length = _; rw [List.length_append, ih, List.length_cons]; simp [rcl]; omega
theorem rcls_app (L M : List Ru) : rcls (L ++ M) = rcls L ++ rcls M := by unfold rcls; rw [List.flatMap_append]
theorem rcls_get (L : List Ru) (i : Nat) (hi : i < L.length) (j : Nat) (hj : j < 3) : (rcls L)[i * 3 + j]? = (rcl (L.getD i rz))[j]? := by
  induction L generalizing i with
  | nil => simp at hi
  | cons v L ih =>
    show (rcl v ++ rcls L)[i * 3 + j]? = _
    have h4 : (rcl v).length = 3 := rfl
    rcases i with _ | i
    · rw [List.getElem?_append_left (by omega)]; simp
    · rw [List.getElem?_append_right (by omega), h4, show (i + 1) * 3 + j - 3 = i * 3 + j by omega, ih i (by simpa using hi)]; simp
def Rus (w : World) (A : Option Addr) (L : List Ru) : Prop := ∀ i, i < L.length → ∃ b off, A = some ⟨b, off, none⟩ ∧ w.cell? ⟨b, off + i * 3, none⟩ = some (.int .u64 ((L.getD i rz).s : Int)) ∧ w.cell? ⟨b, off + i * 3 + 1, none⟩ = some (.int .u64 ((L.getD i rz).t : Int)) ∧ w.cell? ⟨b, off + i * 3 + 2, none⟩ = some (.int .u64 ((L.getD i rz).x : Int))
theorem Rus.nil (w : World) (A : Option Addr) : Rus w A [] := fun i hi => absurd hi (by simp)
theorem Rus.below {w w' : World} {A : Option Addr} {L : List Ru} (h : Rus w A L) (hb : Below w.heap.size w w') : Rus w' A L := fun i hi => by
  obtain ⟨g, o, e, h0, h1, h2⟩ := h i hi
  have k : ∀ {j v}, w.cell? ⟨g, j, none⟩ = some v → w'.cell? ⟨g, j, none⟩ = some v := fun hc => (hb.cell (World.block_lt_of_cell? _ _ hc)).trans hc
  exact ⟨g, o, e, k h0, k h1, k h2⟩
def OwnRu (w : World) (B : Nat) (v : Value) (L : List Ru) : Prop := w.ownsRow B 96 3 v L.length (rcls L)
theorem OwnRu.nil (w : World) (B : Nat) : OwnRu w B nsl [] := World.ownsRow_nil w B 96 3
theorem OwnRu.same {w w' : World} {B : Nat} {v : Value} {L : List Ru} (h : OwnRu w B v L) (hb : ∀ (k : Nat) (cur : Array Value), B ≤ k → w.heap[k]? = some (Obj.cells cur 96 (0, 0)) → w'.heap[k]? = w.heap[k]?) : OwnRu w' B v L := by
  refine ⟨h.1, ?_⟩
  rcases h.2 with h0 | ⟨g, cap, cur, hv, hg, hh, r⟩
  · exact .inl h0
  · exact .inr ⟨g, cap, cur, hv, hg, by rw [hb g cur hg hh]; exact hh, r⟩
theorem OwnRu.below {w w' : World} {B : Nat} {v : Value} {L : List Ru} (h : OwnRu w B v L) (hb : Below w.heap.size w w') : OwnRu w' B v L :=
  h.same fun k _ _ hk => hb.block k (Array.getElem?_eq_some_iff.1 hk).1
theorem OwnRu.form {w : World} {B : Nat} {v : Value} {L : List Ru} (h : OwnRu w B v L) : ∃ A c, v = .slice A L.length c ∧ Rus w A L ∧ ((A = none ∧ c = 0 ∧ L = []) ∨ ∃ b, A = some ⟨b, 0, none⟩ ∧ B ≤ b ∧ b < w.heap.size ∧ ∀ j, w.frozen? ⟨b, j, none⟩ = false) := by
  rcases h.2 with ⟨rfl, h0⟩ | ⟨g, cap, cur, rfl, hB, hh, _⟩
  · have : L = [] := List.eq_nil_of_length_eq_zero h0
    subst this
    exact ⟨none, 0, rfl, Rus.nil _ _, .inl ⟨rfl, rfl, rfl⟩⟩
  · refine ⟨_, _, rfl, fun i hi => ⟨g, 0, rfl, ?_, ?_, ?_⟩, .inr ⟨g, rfl, hB, (Array.getElem?_eq_some_iff.1 hh).1, fun j => by simp [World.frozen?, hh]⟩⟩
    · have := World.ownsRow.cells h (g := g) rfl (i * 3 + 0) _ (by rw [rcls_get L i hi 0 (by omega)]; rfl)
      rw [add_plain] at this
      simpa using this
    · have := World.ownsRow.cells h (g := g) rfl (i * 3 + 1) _ (by rw [rcls_get L i hi 1 (by omega)]; rfl)
      rw [add_plain] at this
      simpa [Nat.add_assoc] using this
    · have := World.ownsRow.cells h (g := g) rfl (i * 3 + 2) _ (by rw [rcls_get L i hi 2 (by omega)]; rfl)
      rw [add_plain] at this
      simpa [Nat.add_assoc] using this
theorem infoRu : ∃ i z, Tryz.prog.info? 96 = some i ∧ i.zero = some z ∧ i.size = 3 ∧ i.bytes = 24 ∧ z.cells.size = 3 :=
  ⟨(Tryz.prog.info? 96).get (by kernel_rfl), .agg #[.int .u64 0, .int .u64 0, .int .u64 0], by kernel_rfl, by kernel_rfl, by kernel_rfl, by kernel_rfl, rfl⟩
structure Gr (v v' : Value) (w w' : World) : Prop where
  g : w.grownBy w' v.ownBlock
  b : v'.ownBlock = v.ownBlock ∨ v'.ownBlock = some w.heap.size
theorem wp_appRu {ops : Array Oper} {rest : List Oper} {o : Oper} {a : Act} {Q : Exit → Act → World → Prop} (s x : Operand) (w : World) (hgd : o.guard = none)
    (hop : o.op = .call { callee := .builtin .append, args := #[s, x], argTypes := #[89, 89] })
    (B : Nat) (v : Value) (L : List Ru) (hs : a.eval s = v) (ho : OwnRu w B v L) (b : Nat) (hx : a.eval x = .slice (some ⟨b, 0, none⟩) 1 1) (e : Ru) (hc : w.cell? ⟨b, 0, none⟩ = some (.int .u64 (e.s : Int))) (hc2 : w.cell? ⟨b, 1, none⟩ = some (.int .u64 (e.t : Int))) (hc3 : w.cell? ⟨b, 2, none⟩ = some (.int .u64 (e.x : Int)))
    (hlen : L.length ≤ 100000000) (hB : B ≤ w.heap.size) (k : Nat) (hk : L.length + 1 = k)
    (h : ∀ A' c' w', OwnRu w' B (.slice A' k c') (L ++ [e]) → Gr v (.slice A' k c') w w' → Kt 96 w w' → Below B w w' → wpList Tryz.prog ops Q rest (a.put o.dst (.slice A' k c')) w') : wpList Tryz.prog ops Q (o :: rest) a w := by
  refine wpList_plain hgd fun K hK => ?_
  obtain ⟨i, z, hi, hz, hsz, hy, hzs⟩ := infoRu
  obtain ⟨v', w', hrun, r2, r3, _, r5⟩ := run_append_own_at (P := Tryz.prog) w B 89 o.type 96 i z 3 24 Tryz.underlying89 hi hz hsz hy hzs (by omega) v L.length (rcls L) ho ⟨b, 0, none⟩ 1 1 (rcl e) rfl
    (fun j u hj => by
      rw [add_plain, Nat.zero_add]
      rcases j with _ | _ | _ | j
      · rw [hc]; simpa [rcl] using hj
      · rw [hc2]; simpa [rcl] using hj
      · rw [hc3]; simpa [rcl] using hj
      · simp [rcl] at hj)
    (fun u hu => by simp [rcl] at hu; rcases hu with rfl | rfl | rfl <;> rfl) (by unfold maxLen; omega) (by omega) hB
  have hO : OwnRu w' B v' (L ++ [e]) := by
    unfold OwnRu
    rw [List.length_append, rcls_app]
    simpa [rcls] using r2
  have hci : Kt 96 w w' := by
    rcases ho.2 with ⟨rfl, _⟩ | ⟨g, cap, cur, rfl, _, hh, _⟩
    · exact Kt.grown0 r3
    · exact Kt.grown r3 hh
  obtain ⟨A', c', rfl, _⟩ := hO.form
  have ek : (L ++ [e]).length = k := by rw [List.length_append, List.length_singleton, hk]
  rw [ek] at hO hrun r5
  unfold Oper.wp
  simp [execOp, hop, resolve, invoke, builtin, hs, hx, hrun, Result.andThen]
  exact hK _ _ (h A' c' w' hO ⟨r3, r5⟩ hci ((Below.refl _ _).grown r3 hB (fun k hk => (World.ownsRow.lt ho k hk).1)))
theorem wp_appMk1 {o : Oper} {a : Act} {K : Act → World → Prop} {Q : Exit → Act → World → Prop} (s x : Operand) (w : World)
    (hop : o.op = .call { callee := .builtin .append, args := #[s, x], argTypes := #[82, 82] })
    (B : Nat) (v : Value) (L : List Mt) (hs : a.eval s = v) (ho : OwnMt w B v L) (b : Nat) (hx : a.eval x = .slice (some ⟨b, 0, none⟩) 1 1) (e : Mt) (hc : w.cell? ⟨b, 0, none⟩ = some (.int .u64 (e.1 : Int))) (hc2 : w.cell? ⟨b, 1, none⟩ = some (.int .u64 (e.2 : Int)))
    (hlen : L.length ≤ 100000000) (hB : B ≤ w.heap.size) (k : Nat) (hk : L.length + 1 = k)
    (h : ∀ A' c' w', OwnMt w' B (.slice A' k c') (L ++ [e]) → Kt 107 w w' → Below B w w' → K (a.put o.dst (.slice A' k c')) w') : Oper.wp Tryz.prog o a w K Q := by
  obtain ⟨i, z, hi, hz, hsz, hy, hzs⟩ := infoM
  obtain ⟨v', w', hrun, r2, r3, _, _⟩ := run_append_own_at (P := Tryz.prog) w B 82 o.type 107 i z 2 16 Tryz.underlying82 hi hz hsz hy hzs (by omega) v L.length (mcls L) ho ⟨b, 0, none⟩ 1 1 (enM e) rfl
    (fun j u hj => by
      rw [add_plain, Nat.zero_add]
      rcases j with _ | _ | j
      · rw [hc]; simpa [enM] using hj
      · rw [hc2]; simpa [enM] using hj
      · simp [enM] at hj)
    (fun u hu => by simp [enM] at hu; rcases hu with rfl | rfl <;> rfl) (by unfold maxLen; omega) (by omega) hB
  have hO : OwnMt w' B v' (L ++ [e]) := by
    unfold OwnMt
    rw [List.length_append, mcls_app]
    simpa [mcls] using r2
  have hci : Kt 107 w w' := by
    rcases ho.2 with ⟨rfl, _⟩ | ⟨g, cap, cur, rfl, _, hh, _⟩
    · exact Kt.grown0 r3
    · exact Kt.grown r3 hh
  obtain ⟨A', c', rfl, _⟩ := hO.form
  have ek : (L ++ [e]).length = k := by rw [List.length_append, List.length_singleton, hk]
  rw [ek] at hO hrun
  unfold Oper.wp
  simp [execOp, hop, resolve, invoke, builtin, hs, hx, hrun, Result.andThen]
  exact (h A' c' w' hO hci ((Below.refl _ _).grown r3 hB (fun k hk => (World.ownsRow.lt ho k hk).1)))
end Go.Proofs.YtpnllbojifnopaaGreatDoor
