/- asItsKind: whether a node has what its kind names. -/
import Derived.Test.YtnjndlbhnkhlhaaDoorTrB
namespace Go.Proofs.YtnjndlbhnkhlhaaDoor
open Go Go.RowKit Pk Rl
set_option maxRecDepth 20000

theorem Nok.box {w : World} {n : Nd} (h : Nok w n) (o : Obj) : Nok (w.alloc o) n := h.below (below_alloc w o)
theorem Atn.alloc (w : World) (n : Nd) : Atn (w.alloc (nobj n)) w.heap.size 0 n := by refine ⟨?_, ?_, ?_, ?_, ?_, ?_, ?_, ?_, ?_, ?_, ?_⟩ <;> simp [go_sem]
/- a node in a box of its own, in some world behind one -/
structure Nbx (w W : World) (g : Nat) (n : Nd) : Prop where
  at_ : Atn W g 0 n
  bel : Below w.heap.size w W
theorem Nbx.next {w W W' : World} {g : Nat} {n : Nd} (h : Nbx w W g n) (hb : Below W.heap.size W W') : Nbx w W' g n := ⟨h.at_.below hb h.at_.lt, below_go h.bel hb⟩
set_option maxHeartbeats 2000000 in
theorem kind_one (n : Nd) (m : Nat) (w : World) (h : Nok w n) (_hm : m ≤ 1000) (hk : n.k = 1) :
    Calls Tryd.prog 40 #[nOf n, .int .i64 (m : Int)] w fun e w' => e = .returned (.bool (kd n m)) ∧ Below w.heap.size w w' := by
  have K0 := Lib.hid (show Nbx w (w.alloc (nobj n)) w.heap.size n from ⟨Atn.alloc w n, below_alloc w _⟩)
  have MP := Lib.hid (fun W (hb : Below w.heap.size w W) => nothing_any n.p W (h.p.below hb))
  have MG := Lib.hid (fun W (hb : Below w.heap.size w W) => nothing_any n.g W (h.g.below hb))
  have E : kd n m = (decide (m = 0) && !n.y && qno n.g && decide (n.lo = 0) && decide (n.hi = 0)) := by unfold kd; rw [if_pos hk]
  rw [E]
  clear E h
  generalize qno n.p = A at MP
  generalize qno n.g = B at MG
  obtain ⟨k, ⟨x, t, a, q, c, L⟩, y, ⟨x', t', a', q', c', L'⟩, lo, hi, s⟩ := n
  simp only at hk MP MG
  subst hk
  have KK := K0.out.at_
  obtain ⟨q0, q1, q2, q3, q4, q5, q6, q7, q8, q9, q10⟩ := KK
  go_enter Tryd.func40, Tryd.ntmps40
  go_wp2_with fail
  refine (MP.out _ K0.out.bel).mono ?_
  rintro e w2 ⟨rfl, hb⟩
  have K1 := Lib.hid (K0.out.next hb)
  clear hb K0 q0 q1 q2 q3 q4 q5 q6 q7 q8 q9 q10
  obtain ⟨q0, q1, q2, q3, q4, q5, q6, q7, q8, q9, q10⟩ := K1.out.at_
  go_wp2_with fail
  refine (MG.out _ K1.out.bel).mono ?_
  rintro e w3 ⟨rfl, hb⟩
  have K2 := Lib.hid (K1.out.next hb)
  clear hb K1 q0 q1 q2 q3 q4 q5 q6 q7 q8 q9 q10
  obtain ⟨q0, q1, q2, q3, q4, q5, q6, q7, q8, q9, q10⟩ := K2.out.at_
  go_wp2_with fail
  all_goals (go_ret; refine ⟨ret_bool ?_, K2.out.bel⟩; (try simp_all); (try (rw [Bool.eq_iff_iff]; simp)); (try (intros; omega)))
set_option maxHeartbeats 2000000 in
theorem kind_two (n : Nd) (m : Nat) (w : World) (h : Nok w n) (_hm : m ≤ 1000) (hk : n.k = 2) :
    Calls Tryd.prog 40 #[nOf n, .int .i64 (m : Int)] w fun e w' => e = .returned (.bool (kd n m)) ∧ Below w.heap.size w w' := by
  have K0 := Lib.hid (show Nbx w (w.alloc (nobj n)) w.heap.size n from ⟨Atn.alloc w n, below_alloc w _⟩)
  have MP := Lib.hid (fun W (hb : Below w.heap.size w W) => nothing_any n.p W (h.p.below hb))
  have MG := Lib.hid (fun W (hb : Below w.heap.size w W) => nothing_any n.g W (h.g.below hb))
  have E : kd n m = (decide (2 ≤ m) && qno n.p && (n.y || qno n.g) && decide (n.lo = 0) && decide (n.hi = 0)) := by unfold kd; rw [if_neg (by omega), if_pos hk]
  rw [E]
  clear E h
  generalize qno n.p = A at MP
  generalize qno n.g = B at MG
  obtain ⟨k, ⟨x, t, a, q, c, L⟩, y, ⟨x', t', a', q', c', L'⟩, lo, hi, s⟩ := n
  simp only at hk MP MG
  subst hk
  have KK := K0.out.at_
  obtain ⟨q0, q1, q2, q3, q4, q5, q6, q7, q8, q9, q10⟩ := KK
  go_enter Tryd.func40, Tryd.ntmps40
  go_wp2_with fail
  refine (MP.out _ K0.out.bel).mono ?_
  rintro e w2 ⟨rfl, hb⟩
  have K1 := Lib.hid (K0.out.next hb)
  clear hb K0 q0 q1 q2 q3 q4 q5 q6 q7 q8 q9 q10
  obtain ⟨q0, q1, q2, q3, q4, q5, q6, q7, q8, q9, q10⟩ := K1.out.at_
  go_wp2_with fail
  refine (MG.out _ K1.out.bel).mono ?_
  rintro e w3 ⟨rfl, hb⟩
  have K2 := Lib.hid (K1.out.next hb)
  clear hb K1 q0 q1 q2 q3 q4 q5 q6 q7 q8 q9 q10
  obtain ⟨q0, q1, q2, q3, q4, q5, q6, q7, q8, q9, q10⟩ := K2.out.at_
  go_wp2_with fail
  all_goals (go_ret; refine ⟨ret_bool ?_, K2.out.bel⟩; (try simp_all); (try (rw [Bool.eq_iff_iff]; simp)); (try (intros; omega)))
set_option maxHeartbeats 2000000 in
theorem kind_three (n : Nd) (m : Nat) (w : World) (h : Nok w n) (_hm : m ≤ 1000) (hk : n.k = 3) :
    Calls Tryd.prog 40 #[nOf n, .int .i64 (m : Int)] w fun e w' => e = .returned (.bool (kd n m)) ∧ Below w.heap.size w w' := by
  have K0 := Lib.hid (show Nbx w (w.alloc (nobj n)) w.heap.size n from ⟨Atn.alloc w n, below_alloc w _⟩)
  have MP := Lib.hid (fun W (hb : Below w.heap.size w W) => nothing_any n.p W (h.p.below hb))
  have MG := Lib.hid (fun W (hb : Below w.heap.size w W) => nothing_any n.g W (h.g.below hb))
  have E : kd n m = (decide (2 ≤ m) && qno n.p && !n.y && qno n.g && decide (n.lo = 0) && decide (n.hi = 0)) := by unfold kd; rw [if_neg (by omega), if_neg (by omega), if_pos hk]
  rw [E]
  clear E h
  generalize qno n.p = A at MP
  generalize qno n.g = B at MG
  obtain ⟨k, ⟨x, t, a, q, c, L⟩, y, ⟨x', t', a', q', c', L'⟩, lo, hi, s⟩ := n
  simp only at hk MP MG
  subst hk
  have KK := K0.out.at_
  obtain ⟨q0, q1, q2, q3, q4, q5, q6, q7, q8, q9, q10⟩ := KK
  go_enter Tryd.func40, Tryd.ntmps40
  go_wp2_with fail
  refine (MP.out _ K0.out.bel).mono ?_
  rintro e w2 ⟨rfl, hb⟩
  have K1 := Lib.hid (K0.out.next hb)
  clear hb K0 q0 q1 q2 q3 q4 q5 q6 q7 q8 q9 q10
  obtain ⟨q0, q1, q2, q3, q4, q5, q6, q7, q8, q9, q10⟩ := K1.out.at_
  go_wp2_with fail
  refine (MG.out _ K1.out.bel).mono ?_
  rintro e w3 ⟨rfl, hb⟩
  have K2 := Lib.hid (K1.out.next hb)
  clear hb K1 q0 q1 q2 q3 q4 q5 q6 q7 q8 q9 q10
  obtain ⟨q0, q1, q2, q3, q4, q5, q6, q7, q8, q9, q10⟩ := K2.out.at_
  go_wp2_with fail
  all_goals (go_ret; refine ⟨ret_bool ?_, K2.out.bel⟩; (try simp_all); (try (rw [Bool.eq_iff_iff]; simp)); (try (intros; omega)))
set_option maxHeartbeats 2000000 in
theorem kind_four (n : Nd) (m : Nat) (w : World) (h : Nok w n) (_hm : m ≤ 1000) (hk : n.k = 4) :
    Calls Tryd.prog 40 #[nOf n, .int .i64 (m : Int)] w fun e w' => e = .returned (.bool (kd n m)) ∧ Below w.heap.size w w' := by
  have K0 := Lib.hid (show Nbx w (w.alloc (nobj n)) w.heap.size n from ⟨Atn.alloc w n, below_alloc w _⟩)
  have MP := Lib.hid (fun W (hb : Below w.heap.size w W) => nothing_any n.p W (h.p.below hb))
  have MG := Lib.hid (fun W (hb : Below w.heap.size w W) => nothing_any n.g W (h.g.below hb))
  have E : kd n m = (decide (m = 1) && qno n.p && (n.y || qno n.g) && decide (1 ≤ n.lo) && decide (n.lo ≤ n.hi) && decide (n.hi ≤ 8)) := by unfold kd; rw [if_neg (by omega), if_neg (by omega), if_neg (by omega), if_pos hk]
  rw [E]
  clear E h
  generalize qno n.p = A at MP
  generalize qno n.g = B at MG
  obtain ⟨k, ⟨x, t, a, q, c, L⟩, y, ⟨x', t', a', q', c', L'⟩, lo, hi, s⟩ := n
  simp only at hk MP MG
  subst hk
  have KK := K0.out.at_
  obtain ⟨q0, q1, q2, q3, q4, q5, q6, q7, q8, q9, q10⟩ := KK
  go_enter Tryd.func40, Tryd.ntmps40
  go_wp2_with fail
  refine (MP.out _ K0.out.bel).mono ?_
  rintro e w2 ⟨rfl, hb⟩
  have K1 := Lib.hid (K0.out.next hb)
  clear hb K0 q0 q1 q2 q3 q4 q5 q6 q7 q8 q9 q10
  obtain ⟨q0, q1, q2, q3, q4, q5, q6, q7, q8, q9, q10⟩ := K1.out.at_
  go_wp2_with fail
  refine (MG.out _ K1.out.bel).mono ?_
  rintro e w3 ⟨rfl, hb⟩
  have K2 := Lib.hid (K1.out.next hb)
  clear hb K1 q0 q1 q2 q3 q4 q5 q6 q7 q8 q9 q10
  obtain ⟨q0, q1, q2, q3, q4, q5, q6, q7, q8, q9, q10⟩ := K2.out.at_
  go_wp2_with fail
  all_goals (go_ret; refine ⟨ret_bool ?_, K2.out.bel⟩; (try simp_all); (try (rw [Bool.eq_iff_iff]; simp)); (try (intros; omega)))
set_option maxHeartbeats 2000000 in
theorem kind_none (n : Nd) (m : Nat) (w : World) (h : Nok w n) (_hm : m ≤ 1000) (k1 : ¬ n.k = 1) (k2 : ¬ n.k = 2) (k3 : ¬ n.k = 3) (k4 : ¬ n.k = 4) :
    Calls Tryd.prog 40 #[nOf n, .int .i64 (m : Int)] w fun e w' => e = .returned (.bool (kd n m)) ∧ Below w.heap.size w w' := by
  have K0 := Lib.hid (show Nbx w (w.alloc (nobj n)) w.heap.size n from ⟨Atn.alloc w n, below_alloc w _⟩)
  have MP := Lib.hid (fun W (hb : Below w.heap.size w W) => nothing_any n.p W (h.p.below hb))
  have MG := Lib.hid (fun W (hb : Below w.heap.size w W) => nothing_any n.g W (h.g.below hb))
  have E : kd n m = false := by unfold kd; rw [if_neg k1, if_neg k2, if_neg k3, if_neg k4]
  rw [E]
  clear E h
  generalize qno n.p = A at MP
  generalize qno n.g = B at MG
  obtain ⟨k, ⟨x, t, a, q, c, L⟩, y, ⟨x', t', a', q', c', L'⟩, lo, hi, s⟩ := n
  simp only at k1 k2 k3 k4 MP MG
  have e1 := ne_beq k1
  have e2 := ne_beq k2
  have e3 := ne_beq k3
  have e4 := ne_beq k4
  clear k1 k2 k3 k4
  have KK := K0.out.at_
  obtain ⟨q0, q1, q2, q3, q4, q5, q6, q7, q8, q9, q10⟩ := KK
  go_enter Tryd.func40, Tryd.ntmps40
  go_wp2_with fail
  refine (MP.out _ K0.out.bel).mono ?_
  rintro e w2 ⟨rfl, hb⟩
  have K1 := Lib.hid (K0.out.next hb)
  clear hb K0 q0 q1 q2 q3 q4 q5 q6 q7 q8 q9 q10
  obtain ⟨q0, q1, q2, q3, q4, q5, q6, q7, q8, q9, q10⟩ := K1.out.at_
  go_wp2_with fail
  refine (MG.out _ K1.out.bel).mono ?_
  rintro e w3 ⟨rfl, hb⟩
  have K2 := Lib.hid (K1.out.next hb)
  clear hb K1 q0 q1 q2 q3 q4 q5 q6 q7 q8 q9 q10
  obtain ⟨q0, q1, q2, q3, q4, q5, q6, q7, q8, q9, q10⟩ := K2.out.at_
  go_wp2_with fail
  all_goals (go_ret; refine ⟨ret_bool ?_, K2.out.bel⟩; (try simp_all); (try (rw [Bool.eq_iff_iff]; simp)); (try (intros; omega)))
theorem kind_any (n : Nd) (m : Nat) (w : World) (h : Nok w n) (hm : m ≤ 1000) :
    Calls Tryd.prog 40 #[nOf n, .int .i64 (m : Int)] w fun e w' => e = .returned (.bool (kd n m)) ∧ Below w.heap.size w w' := by
  by_cases k1 : n.k = 1
  · exact kind_one n m w h hm k1
  · by_cases k2 : n.k = 2
    · exact kind_two n m w h hm k2
    · by_cases k3 : n.k = 3
      · exact kind_three n m w h hm k3
      · by_cases k4 : n.k = 4
        · exact kind_four n m w h hm k4
        · exact kind_none n m w h hm k1 k2 k3 k4
end Go.Proofs.YtnjndlbhnkhlhaaDoor
