/- The chapter's example; what came back is the same; topics. -/
import Derived.Test.YtilgoghnoeohnaaDoorCdQ
import Derived.Test.YtilgoghnoeohnaaDoorCdO
import Derived.Test.YtilgoghnoeohnaaDoorMY
namespace Go.Proofs.YtilgoghnoeohnaaDoor
open Go Go.RowKit Pk Rl
set_option maxRecDepth 20000

theorem smt_nt (v : TT) : smt (nt v) v = true := by
  unfold smt
  have := sm_bt v.2.2.1 v.2.2.2.1 v.2.2.2.2.1 v.2.2.2.2.2
  simp only [decide_true, Bool.true_and]
  exact this
theorem psm_nt (x : Bool) (t : Int) (L : List TT) : psm x t (L.map nt) x t L = true := by
  unfold psm
  simp only [List.length_map, decide_true, Bool.true_and]
  rw [List.all_eq_true]
  intro j hj
  have hj' := List.mem_range.1 hj
  have : (L.map nt).getD j tz = nt (L.getD j tz) := by
    rw [List.getD_eq_getElem?_getD, List.getElem?_map, List.getD_eq_getElem?_getD, List.getElem?_eq_getElem hj']; rfl
  unfold TT2
  rw [this]
  exact smt_nt _
theorem sn_zn {d x : Nd} (h : vn d = zn x) : sn d x = true := by
  obtain ⟨dk, ⟨px, pt, pa, pn, pc, pL⟩, dy, ⟨gx, gt, ga, gn, gc, gL⟩, lo, hi, s⟩ := d
  obtain ⟨xk, ⟨qx, qt, qa, qn, qc, qL⟩, xy, ⟨hx', ht, ha, hn, hc, hL⟩, lo', hi', s'⟩ := x
  unfold vn zn vq zq at h
  simp only [Prod.mk.injEq] at h
  obtain ⟨rfl, ⟨rfl, rfl, rfl⟩, rfl, ⟨rfl, rfl, rfl⟩, rfl, rfl, rfl⟩ := h
  unfold sn
  simp only [psm_nt, beq_self_eq_true, Bool.and_self]
theorem ssn_zn {D L : List Nd} (h : D.map vn = L.map zn) : ssn D L = true := by
  have hl : D.length = L.length := by have := congrArg List.length h; simpa using this
  refine ssn_yes (n := L.length) hl rfl fun i hi => sn_zn ?_
  have e : (D.map vn)[i]? = (L.map zn)[i]? := by rw [h]
  rw [List.getElem?_map, List.getElem?_map, List.getElem?_eq_getElem (by omega), List.getElem?_eq_getElem hi] at e
  rw [List.getD_eq_getElem?_getD, List.getD_eq_getElem?_getD, List.getElem?_eq_getElem (by omega), List.getElem?_eq_getElem hi]
  simpa using e
theorem tps_of {L D : List Nd} {m : Nat} (h : D.map (cn 10) = (L.take m).map (cn 10)) (hs : Tps L) : Tps D := by
  intro v hv
  have : cn 10 v ∈ (L.take m).map (cn 10) := by rw [← h]; exact List.mem_map.2 ⟨v, hv, rfl⟩
  obtain ⟨u, hu, e⟩ := List.mem_map.1 this
  have hs := hs u (List.mem_of_mem_take hu)
  unfold cn cq at e
  simp only [Prod.mk.injEq] at e
  obtain ⟨_, ⟨_, e1, _⟩, _, ⟨_, e2, _⟩, _⟩ := e
  rw [← e1, ← e2]
  exact hs
theorem csm_of {L D : List Nd} {m : Nat} (h : D.map (cn 10) = (L.take m).map (cn 10)) (hs : ∀ v ∈ L, Sm v) (hl : ∀ v ∈ D, v.p.L.length ≤ 10 ∧ v.g.L.length ≤ 10) : ∀ v ∈ D, Sm v := by
  intro v hv
  have : cn 10 v ∈ (L.take m).map (cn 10) := by rw [← h]; exact List.mem_map.2 ⟨v, hv, rfl⟩
  obtain ⟨u, hu, e⟩ := List.mem_map.1 this
  have hs := hs u (List.mem_of_mem_take hu)
  unfold cn cq at e
  simp only [Prod.mk.injEq] at e
  obtain ⟨_, ⟨_, _, e1⟩, _, ⟨_, _, e2⟩, _⟩ := e
  have hl := hl v hv
  rw [List.take_of_length_le hl.1] at e1
  rw [List.take_of_length_le hl.2] at e2
  refine ⟨fun t ht => hs.1 t ?_, fun t ht => hs.2 t ?_⟩
  · rw [← e1] at ht; exact List.mem_of_mem_take ht
  · rw [← e2] at ht; exact List.mem_of_mem_take ht
theorem mp_one0 : mp [one 3] 5 = 0 := by
  unfold mp
  rw [if_neg (by decide), if_neg (by rw [frn_one, fmd_one 32]; simp), if_neg (by decide), dpt_one 32, plc_one 32]; decide
theorem cwr_one : cwr [one 3] 5 = [5, 1, 0, 3] := by
  unfold cwr
  rw [wrt_lo 5 (by omega)]
  show [((5 : Nat) : Int)] ++ wL [one 3] 1 = _
  rw [wL_succ, wL_zero]
  show [((5 : Nat) : Int)] ++ ([] ++ nbs (one 3) (pts [one 3]).length) = _
  rw [pts_one]
  rfl
set_option maxHeartbeats 2000000 in
theorem cfixed_any (w : World) (hT : Tab w) : Calls Tryd.prog 6 #[] w fun e w' => e = .returned (.bool true) ∧ Below w.heap.size w w' := by
  have b1 := below_alloc w (nobj (one 3))
  have hn : Nds (w.alloc (nobj (one 3))) (some ⟨w.heap.size, 0, none⟩) [one 3] := by
    obtain ⟨A', c', e, hn, _⟩ := (RowN.one w w.heap.size (Nat.le_refl _) (one 3)).form
    injection e with e1 e2 e3
    rw [e1]; exact hn
  have CP := cput_any (some ⟨w.heap.size, 0, none⟩) 1 1 [one 3] 5 (w.alloc (nobj (one 3))) ((show Pln [one 3] from fun v hv => by simp only [List.mem_cons, List.not_mem_nil, or_false] at hv; subst hv; exact pln_one 3).pt rfl (by omega) (by omega) hn) (hT.below b1)
    (fun v hv => by simp only [List.mem_cons, List.not_mem_nil, or_false] at hv; subst hv; exact ⟨⟨by decide, by decide⟩, by decide, by decide⟩) (by omega)
  rw [show ((5 : Nat) : Int) = 5 from rfl, mp_one0, if_pos rfl, cwr_one] at CP
  have C := Lib.hid CP
  have B1 := Lib.hid b1
  clear CP b1 hn hT
  go_enter Tryd.func6, Tryd.ntmps6
  go_wp2_with fail
  refine C.out.mono ?_
  rintro e w2 ⟨⟨A, k, c, rfl, hk, ho⟩, hb⟩
  have B2 := Lib.hid (below_go B1.out hb)
  have s := ho.str (by decide) hk
  rw [show strOfNums [5, 1, 0, 3] = (⟨#[5, 1, 0, 3]⟩ : ByteArray) by rfl] at s
  clear ho hk hb C
  go_wp2_with fail
  go_ret
  exact ⟨rfl, B2.out⟩
end Go.Proofs.YtilgoghnoeohnaaDoor
