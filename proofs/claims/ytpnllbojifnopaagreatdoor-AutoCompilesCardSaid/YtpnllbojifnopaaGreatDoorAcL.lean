/- clear of a list of tests; what stays. -/
import Derived.Test.YtpnllbojifnopaaGreatDoorAcV
import Derived.Lib.SliceRun
namespace Go.Proofs.YtpnllbojifnopaaGreatDoor
open Go Go.RowKit Pk Rl
set_option maxRecDepth 20000

theorem setCells_heap (b : Nat) : ∀ (vs : List Value) (o : Nat) (w : World) (x : Nat), x ≠ b → (w.setCells b o vs).heap[x]? = w.heap[x]?
  | [], _, _, _, _ => rfl
  | v :: r, o, w, x, h => by rw [World.setCells, setCells_heap b r (o + 1) _ x h, heap_setCell_other w ⟨b, o, none⟩ x v h]
theorem setCells_same (b : Nat) (ty : TypeId) : ∀ (vs : List Value) (o : Nat) (w : World) (cur : Array Value), w.heap[b]? = some (.cells cur ty (0, 0)) → ∃ cur', (w.setCells b o vs).heap[b]? = some (.cells cur' ty (0, 0)) ∧ cur'.size = cur.size
  | [], _, w, cur, h => ⟨cur, h, rfl⟩
  | v :: r, o, w, cur, h => by
    have h1 := heap_setCell_same w b o cur ty v h
    obtain ⟨cur', h2, h3⟩ := setCells_same b ty r (o + 1) _ _ h1
    exact ⟨cur', by rw [World.setCells]; exact h2, by rw [h3]; simp⟩
theorem setCells_below (b B : Nat) (hb : B ≤ b) : ∀ (vs : List Value) (o : Nat) (w0 w : World), Below B w0 w → Below B w0 (w.setCells b o vs)
  | [], _, _, _, h => h
  | v :: r, o, w0, w, h => by rw [World.setCells]; exact setCells_below b B hb r (o + 1) w0 _ (h.setCell (p := ⟨b, o, none⟩) hb v)
theorem setCells_size (b : Nat) : ∀ (vs : List Value) (o : Nat) (w : World), (w.setCells b o vs).heap.size = w.heap.size
  | [], _, _ => rfl
  | v :: r, o, w => by rw [World.setCells, setCells_size b r (o + 1)]; simp
/- rows of tests are written, above B, and nothing else -/
structure Sc (B : Nat) (w w' : World) : Prop where
  bel : Below B w w'
  old : ∀ (x : Nat) (o : Obj), w.heap[x]? = some o → (∀ cur, o ≠ .cells cur 171 (0, 0)) → w'.heap[x]? = some o
  tst : ∀ (x : Nat) (cur : Array Value), w.heap[x]? = some (.cells cur 171 (0, 0)) → ∃ cur', w'.heap[x]? = some (.cells cur' 171 (0, 0)) ∧ cur'.size = cur.size
theorem Sc.refl (B : Nat) (w : World) : Sc B w w := ⟨Below.refl _ _, fun _ _ h _ => h, fun _ cur h => ⟨cur, h, rfl⟩⟩
/- a list of tests that may be cleared -/
def Tc (w : World) (B : Nat) (q : Qu) : Prop := q.n = 0 ∨ ∃ g cur, q.a = some ⟨g, 0, none⟩ ∧ B ≤ g ∧ w.heap[g]? = some (.cells cur 171 (0, 0)) ∧ q.n * 6 ≤ cur.size
theorem Qm.tc {w : World} {B : Nat} {q : Qu} (h : Qm w B q) : Tc w B q := by
  rcases h.own.2 with ⟨e, h0⟩ | ⟨g, cap, cur, e, hg, hh, hc, _, hs, _⟩
  · exact .inl (by rw [← h.len]; exact h0)
  · injection e with e1 e2 e3
    refine .inr ⟨g, cur, e1, hg, hh, ?_⟩
    rw [← h.len, hs]
    exact Nat.mul_le_mul hc (Nat.le_refl _)
theorem Tc.sc {w w' : World} {B B' : Nat} {q : Qu} (h : Tc w B q) (hs : Sc B' w w') : Tc w' B q := by
  rcases h with h0 | ⟨g, cur, e, hg, hh, hz⟩
  · exact .inl h0
  · obtain ⟨cur', h1, h2⟩ := hs.tst g cur hh
    exact .inr ⟨g, cur', e, hg, h1, by omega⟩
theorem row_sc {w w' : World} {B B' : Nat} {ty : TypeId} {sz : Nat} {v : Value} {n : Nat} {cs : List Value} (ht : ty ≠ 171) (h : w.ownsRow B ty sz v n cs) (hs : Sc B' w w') : w'.ownsRow B ty sz v n cs :=
  row_same h fun g cur _ hh => hs.old g _ hh (fun cur' e => by injection e with _ e _; exact ht e)
theorem tzero (w : World) : (zeroValue 171).run Tryz.prog w = .ok (tOf tz) w := by kernel_rfl
theorem zc_len (n : Nat) : (Builtin.zeroCells (tOf tz).cells n).toList.length = n * 6 := by
  unfold Builtin.zeroCells
  simp
  rfl
theorem zc_one (n : Nat) : ∀ v ∈ (Builtin.zeroCells (tOf tz).cells n).toList, v.oneCell' = true := by
  intro v hv
  unfold Builtin.zeroCells at hv
  rw [Array.toList_map, List.mem_map] at hv
  obtain ⟨i, _, rfl⟩ := hv
  have h6 : (tOf tz).cells.size = 6 := rfl
  rw [h6]
  have h2 : i % 6 < 6 := Nat.mod_lt _ (by omega)
  have hall : ∀ j : Fin 6, (((tOf tz).cells[j.1]!).oneCell' = true) := by
    intro j
    rcases j with ⟨j, hj⟩
    rcases j with _ | _ | _ | _ | _ | _ | j
    all_goals first | rfl | omega
  exact hall ⟨i % 6, h2⟩
theorem run_clear_t (w : World) (B : Nat) (q : Qu) (h : Tc w B q) : ∃ w', (∀ ty, (Builtin.clear_ #[43] ty #[.slice q.a q.n q.c]).run Tryz.prog w = .ok (.tuple #[]) w') ∧ Sc B w w' := by
  by_cases h0 : q.n = 0
  · refine ⟨w, fun ty => ?_, Sc.refl _ _⟩
    rw [h0]
    cases q.a <;> simp [Builtin.clear_, run_underlying Tryz.underlying43]
  · rcases h with h1 | ⟨g, cur, e, hg, hh, hz⟩
    · exact absurd h1 h0
    · refine ⟨w.setCells g 0 (Builtin.zeroCells (tOf tz).cells q.n).toList, fun ty => ?_, ⟨setCells_below g B hg _ _ _ _ (Below.refl _ _), fun x o hx ht => ?_, fun x cur' hx => ?_⟩⟩
      · rw [e]
        have hst := run_storeCells_cells (P := Tryz.prog) g 0 (Builtin.zeroCells (tOf tz).cells q.n).toList 0 w
          (fun j hj => by
            rw [zc_len] at hj
            rw [show 0 + 0 + j = j by omega, cell_of_row w g j _ _ _ hh, Array.getElem?_eq_getElem (by omega)]
            rfl)
          (fun j _ => by simp [World.frozen?, hh]) (zc_one q.n)
        simp only [Nat.add_zero] at hst
        obtain ⟨m, hm⟩ : ∃ m, q.n = m + 1 := ⟨q.n - 1, by omega⟩
        rw [hm] at hst ⊢
        simp [Builtin.clear_, run_underlying Tryz.underlying43, hst]
      · rw [setCells_heap g _ _ _ x (fun e2 => ht cur (by rw [e2, hh] at hx; injection hx with hx; exact hx.symm))]
        exact hx
      · by_cases c : x = g
        · subst c
          rw [hh] at hx
          injection hx with hx
          injection hx with hx _ _
          subst hx
          exact setCells_same x _ _ _ _ _ hh
        · exact ⟨cur', by rw [setCells_heap g _ _ _ x c]; exact hx, rfl⟩
/- while lists are cleared -/
structure Ci (wb W : World) (g4 B : Nat) (Ap : Option Addr) (kp cp a b : Nat) (Ae : Option Addr) (ke ce : Nat) (Ps : List Qu) (Es : List Ed) : Prop where
  ab : AB W g4 Ap kp cp (a : Int) (b : Int) Ae ke ce
  rp : OwnQ' W B (.slice Ap kp cp) Ps
  re : OwnE W B (.slice Ae ke ce) Es
  tp : ∀ q ∈ Ps, Tc W B q
  te : ∀ d ∈ Es, Tc W B d.g
  bel : Below wb.heap.size wb W
  big : wb.heap.size ≤ B
theorem Ci.step {wb W W' : World} {g4 B : Nat} {Ap : Option Addr} {kp cp a b : Nat} {Ae : Option Addr} {ke ce : Nat} {Ps : List Qu} {Es : List Ed} (h : Ci wb W g4 B Ap kp cp a b Ae ke ce Ps Es) (hs : Sc B W W') : Ci wb W' g4 B Ap kp cp a b Ae ke ce Ps Es :=
  ⟨hs.old g4 _ h.ab (fun cur e => by injection e with _ e _; revert e; decide), row_sc (by decide) h.rp hs, row_sc (by decide) h.re hs, fun q hq => (h.tp q hq).sc hs, fun d hd => (h.te d hd).sc hs, h.bel.trans (hs.bel.mono h.big), h.big⟩
end Go.Proofs.YtpnllbojifnopaaGreatDoor
