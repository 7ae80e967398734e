/- Rows of records of the call's own; whether two rows of records are the same. -/
import Derived.Test.YtcodihgjfhoepaaGreatDoorRcD
import Derived.Test.YtcodihgjfhoepaaGreatDoorRcF
import Derived.Maps.AppendAt
import Derived.BigRegion
import Derived.Deep.RegionLaw
namespace Go.Proofs.YtcodihgjfhoepaaGreatDoor
open Go Go.RowKit Crc
set_option maxRecDepth 20000

def g0 (L : List (List Int)) (i : Nat) : List Int := L.getD i []
theorem g0_app (L : List (List Int)) (l : List Int) (i : Nat) (h : i < L.length) : g0 (L ++ [l]) i = g0 L i := by
  simp [g0, List.getD_eq_getElem?_getD, List.getElem?_append_left h]
theorem g0_last (L : List (List Int)) (l : List Int) : g0 (L ++ [l]) L.length = l := by simp [g0, List.getD_eq_getElem?_getD]
theorem g0_mem (L : List (List Int)) (i : Nat) (h : i < L.length) : g0 L i ∈ L := by
  rw [g0, List.getD_eq_getElem?_getD, List.getElem?_eq_getElem h]; exact List.getElem_mem h
def RS (w : World) (B : Nat) (L : List (List Int)) (cs : List Value) : Prop := cs.length = L.length ∧ ∀ i, i < L.length → ∃ A C, cs[i]? = some (.slice A (g0 L i).length C) ∧ Own w B (.slice A (g0 L i).length C) (g0 L i)
def OwnR (w : World) (B : Nat) (v : Value) (L : List (List Int)) : Prop := ∃ cs, w.ownsRow B 29 1 v L.length cs ∧ RS w B L cs
theorem Own.mono {w : World} {B B' : Nat} {v : Value} {l : List Int} (h : Own w B v l) (hB : B' ≤ B) : Own w B' v l := by
  refine ⟨h.1, ?_⟩
  rcases h.2 with h0 | ⟨g, cap, cur, hv, hg, r⟩
  · exact .inl h0
  · exact .inr ⟨g, cap, cur, hv, Nat.le_trans hB hg, r⟩
theorem rowS_below {w w' : World} {B n : Nat} {v : Value} {cs : List Value} (h : w.ownsRow B 29 1 v n cs) (hb : Below w.heap.size w w') : w'.ownsRow B 29 1 v n cs := by
  refine ⟨h.1, ?_⟩
  rcases h.2 with h0 | ⟨g, cap, cur, hv, hg, hh, r⟩
  · exact .inl h0
  · refine .inr ⟨g, cap, cur, hv, hg, ?_, r⟩
    rw [hb.block g ?_]
    · exact hh
    · rcases Nat.lt_or_ge g w.heap.size with h1 | h1
      · exact h1
      · rw [Array.getElem?_eq_none h1] at hh; cases hh
theorem OwnR.below {w w' : World} {B : Nat} {v : Value} {L : List (List Int)} (h : OwnR w B v L) (hb : Below w.heap.size w w') : OwnR w' B v L := by
  obtain ⟨cs, h1, h2, h3⟩ := h
  refine ⟨cs, rowS_below h1 hb, h2, fun i hi => ?_⟩
  obtain ⟨A, C, e, o⟩ := h3 i hi
  exact ⟨A, C, e, o.below hb⟩
theorem OwnR.nil (w : World) (B : Nat) : OwnR w B (.slice none 0 0) [] := ⟨[], World.ownsRow_nil w B 29 1, rfl, fun i hi => absurd hi (by simp)⟩
theorem OwnR.empty (w : World) : OwnR (w.alloc (.cells #[] 29)) w.heap.size (.slice (some ⟨w.heap.size, 0, none⟩) 0 0) [] :=
  ⟨[], World.ownsRow_made w #[] 0 (Nat.le_refl _) (by decide) rfl, rfl, fun i hi => absurd hi (by simp)⟩
/- bytes of one's own stand when a row of records grows -/
theorem Own.grown {w w' : World} {B n : Nat} {v y : Value} {l : List Int} {cs : List Value} (h : Own w B y l) (hv : w.ownsRow B 29 1 v n cs) (hg : w.grownBy w' v.ownBlock) : Own w' B y l := by
  refine ⟨h.1, ?_⟩
  rcases h.2 with h0 | ⟨g, cap, cur, hy, hgB, hh, r⟩
  · exact .inl h0
  · refine .inr ⟨g, cap, cur, hy, hgB, ?_, r⟩
    have hlt : g < w.heap.size := by
      rcases Nat.lt_or_ge g w.heap.size with h1 | h1
      · exact h1
      · rw [Array.getElem?_eq_none h1] at hh; cases hh
    rw [hg.block g hlt ?_]
    · exact hh
    · intro e
      rcases hv.2 with ⟨hv', _⟩ | ⟨g', cap', cur', hv', _, hh', _⟩
      · rw [hv'] at e; cases e
      · rw [hv'] at e
        have e2 : some g = some g' := e
        injection e2 with e3
        subst e3
        rw [hh] at hh'
        injection hh' with e4
        injection e4 with _ e5 _
        exact absurd e5 (by decide)
theorem infoS : ∃ i, Tryz.prog.info? 29 = some i ∧ i.zero = some (.slice none 0 0) ∧ i.size = 1 ∧ i.bytes = 24 :=
  ⟨(Tryz.prog.info? 29).get (by kernel_rfl), by kernel_rfl, by kernel_rfl, by kernel_rfl, by kernel_rfl⟩
theorem wp_appr {ops : Array Oper} {rest : List Oper} {o : Oper} {a : Act} {Q : Exit → Act → World → Prop} (s x : Operand) (w : World) (hgd : o.guard = none)
    (hop : o.op = .call { callee := .builtin .append, args := #[s, x], argTypes := #[40, 40] })
    (B : Nat) (v : Value) (L : List (List Int)) (hs : a.eval s = v) (ho : OwnR w B v L) (ad : Addr) (hx : a.eval x = .slice (some ad) 1 1) (A : Option Addr) (n C : Nat) (l : List Int) (hn : l.length = n) (hc : w.cell? ad = some (.slice A n C)) (hl : Own w B (.slice A n C) l)
    (hlen : L.length ≤ 100000) (hB : B ≤ w.heap.size)
    (h : ∀ v' w', OwnR w' B v' (L ++ [l]) → Below B w w' → wpList Tryz.prog ops Q rest (a.put o.dst v') w') : wpList Tryz.prog ops Q (o :: rest) a w := by
  refine wpList_plain hgd fun K hK => ?_
  obtain ⟨i, hi, hz, hsz, hy⟩ := infoS
  obtain ⟨cs, h1, h2, h3⟩ := ho
  obtain ⟨v', w', hrun, r2, r3, _, _⟩ := run_append_own_at (P := Tryz.prog) w B 40 o.type 29 i (.slice none 0 0) 1 24 Tryz.underlying40 hi hz hsz hy rfl (by omega) v L.length cs h1 ad 1 1 [.slice A n C] rfl
    (fun j u hj => by
      rcases j with _ | j
      · simp at hj; subst hj
        have : ad.add 0 = ad := by obtain ⟨b, off, sp⟩ := ad; cases sp <;> simp [Addr.add]
        rw [this]; exact hc
      · simp at hj)
    (fun u hu => by simp at hu; subst hu; rfl) (by unfold maxLen; omega) (by omega) hB
  unfold Oper.wp
  simp [execOp, hop, resolve, invoke, builtin, hs, hx, hrun, Result.andThen]
  refine hK _ _ (h v' w' ⟨cs ++ [.slice A n C], by rw [List.length_append]; exact r2, by simp [h2], fun j hj => ?_⟩ ((Below.refl _ _).grown r3 hB (fun k hk => (World.ownsRow.lt h1 k hk).1)))
  rw [List.length_append, List.length_singleton] at hj
  by_cases hjl : j < L.length
  · obtain ⟨A', C', e, o'⟩ := h3 j hjl
    rw [g0_app L l j hjl]
    exact ⟨A', C', by rw [List.getElem?_append_left (by omega)]; exact e, o'.grown h1 r3⟩
  · obtain rfl : j = L.length := by omega
    rw [g0_last, hn]
    exact ⟨A, C, by rw [← h2]; simp, hl.grown h1 r3⟩
/- rows of records, wherever they lie -/
def Rws (w : World) (A : Option Addr) (L : List (List Int)) : Prop := ∀ i, i < L.length → ∃ b off A' C, A = some ⟨b, off, none⟩ ∧ w.cell? ⟨b, off + i, none⟩ = some (.slice A' (g0 L i).length C) ∧ Byt w A' (g0 L i)
theorem OwnR.form {w : World} {B : Nat} {v : Value} {L : List (List Int)} (h : OwnR w B v L) (hr : ∀ l ∈ L, Rng l) : ∃ A c, v = .slice A L.length c ∧ Rws w A L := by
  obtain ⟨cs, h1, h2, h3⟩ := h
  rcases h1.2 with ⟨rfl, h0⟩ | ⟨g, cap, cur, rfl, _⟩
  · have : L = [] := List.eq_nil_of_length_eq_zero h0
    subst this
    exact ⟨none, 0, rfl, fun i hi => absurd hi (by simp)⟩
  · refine ⟨_, _, rfl, fun i hi => ?_⟩
    obtain ⟨A, C, e, o⟩ := h3 i hi
    have := World.ownsRow.cells h1 (g := g) rfl i _ e
    rw [add_plain] at this
    exact ⟨g, 0, A, C, rfl, this, o.byt (hr _ (g0_mem L i hi))⟩
theorem Rws.below {w w' : World} {A : Option Addr} {L : List (List Int)} (h : Rws w A L) (hb : Below w.heap.size w w') : Rws w' A L := fun i hi => by
  obtain ⟨b, off, A', C, e, hc, hy⟩ := h i hi
  exact ⟨b, off, A', C, e, (hb.cell (p := ⟨b, off + i, none⟩) (World.block_lt_of_cell? _ _ hc)).trans hc, hy.below hb⟩
set_option maxHeartbeats 2000000 in
theorem same_eq (A1 A2 : Option Addr) (n c1 c2 : Nat) (L : List (List Int)) (w : World) (hn : L.length = n) (hm : n ≤ 100000) (h1 : Rws w A1 L) (h2 : Rws w A2 L) :
    Calls Tryz.prog 21 #[.slice A1 n c1, .slice A2 n c2] w fun e w' => e = .returned (.bool true) ∧ Below w.heap.size w w' := by
  have HN := Lib.hid hn
  have H1 := Lib.hid h1
  have H2 := Lib.hid h2
  clear hn h1 h2
  go_enter Tryz.func21, Tryz.ntmps21
  go_wp2
  go_loopw [13] (fun i wr => ∃ k : Nat, k ≤ n ∧ i = .int .i64 k ∧ Below w.heap.size w wr) (fun i _ => n - (intOf i).toNat)
  case atStart => exact ⟨0, Nat.zero_le _, rfl, Below.refl _ _⟩
  case round =>
    obtain ⟨k, hk, rfl, hbe⟩ := hrel
    have BE := Lib.hid hbe
    clear hbe
    by_cases hlt : k < n
    · obtain ⟨b1, o1, a1, C1, rfl, q1, y1⟩ := H1.out.below BE.out k (by rw [HN.out]; exact hlt)
      obtain ⟨b2, o2, a2, C2, rfl, q2, y2⟩ := H2.out.below BE.out k (by rw [HN.out]; exact hlt)
      have st1 := run_str wr.drew a1 (g0 L k).length C1 (g0 L k) rfl (y1.below ((Below.refl _ _).drew))
      have st2 := run_str wr.drew a2 (g0 L k).length C2 (g0 L k) rfl (y2.below ((Below.refl _ _).drew))
      have BD := Lib.hid (BE.out.trans ((Below.refl _ _).drew))
      have l1 := World.block_lt_of_cell? _ _ q1
      have l2 := World.block_lt_of_cell? _ _ q2
      clear y1 y2
      generalize strOfNums (g0 L k) = Z at st1 st2
      generalize (g0 L k).length = m at q1 q2 st1 st2
      go_wp2_with fail
      go_region
      all_goals
        go_wp2
        go_roundw
        case rel => exact ⟨k + 1, by omega, by go_num, BD.out⟩
        case measure => simp [intOf]; omega
    · go_wp2
      go_ret
      exact ⟨rfl, BE.out⟩
end Go.Proofs.YtcodihgjfhoepaaGreatDoor
