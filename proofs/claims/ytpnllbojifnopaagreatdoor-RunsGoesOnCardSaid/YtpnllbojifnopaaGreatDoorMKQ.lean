/- Contracts, joined: MK, MO, TrF, MQ. -/
import Derived.Test.YtpnllbojifnopaaGreatDoorMF
import Derived.Maps.AppendAt
import Derived.Lib.MinMax
/- Contracts, joined: TrB, TrC. -/
/- front: the pattern of a row's first node; what is asked of a node. -/
namespace Go.Proofs.YtpnllbojifnopaaGreatDoor
open Go Go.RowKit Pk Rl
set_option maxRecDepth 20000

theorem elemN : Tryz.prog.elem 26 = 57 := by kernel_rfl
theorem tsN : Tryz.t57.size = 11 := by kernel_rfl
theorem run_fromN (a : Option Addr) (len cap k : Nat) (hk : k ≤ len) (w : World) :
    (Instr.slice 26 (.slice a len cap) (some (.int .i64 (k : Int))) none none).run Tryz.prog w = .ok (sliced a k len cap 11) w := by
  rw [run_slice_l (P := Tryz.prog) (w := w) 26 a len cap (by rw [elemN]; exact Tryz.underlying26) .i64 (k : Int) (by omega) (by omega), elemN]
  simp [sizeOf, go_sem, tsN]
theorem run_upto (b off len cap k : Nat) (hk : k ≤ cap) (w : World) :
    (Instr.slice 26 (.slice (some ⟨b, off, none⟩) len cap) none (some (.int .i64 (k : Int))) (some (.int .i64 (k : Int)))).run Tryz.prog w = .ok (.slice (some ⟨b, off, none⟩) k k) w := by
  rw [run_slice_hm (P := Tryz.prog) (w := w) 26 (some ⟨b, off, none⟩) len cap (by rw [elemN]; exact Tryz.underlying26) .i64 .i64 (k : Int) (k : Int) (by omega) (by omega) (by omega), elemN]
  simp [sizeOf, go_sem, tsN, sliced]
theorem Pt.from {w : World} {a : Option Addr} {n c : Nat} {L : List Nd} (h : Pt w a n c L) (k : Nat) (hk : k ≤ n) :
    ∃ A, (∀ W, (Instr.slice 26 (.slice a n c) (some (.int .i64 (k : Int))) none none).run Tryz.prog W = .ok (.slice A (n - k) (c - k)) W) ∧ ∀ w, Pt w a n c L → Pt w A (n - k) (c - k) (L.drop k) := by
  have hl := h.len
  have hc := h.cap
  have hf := h.few
  have hl2 : (L.drop k).length = n - k := by rw [List.length_drop, hl]
  clear h
  refine ⟨if c = k then a else a.map (·.add (k * 11)), fun W => ?_, fun w h => ?_⟩
  · rw [run_fromN a n c k hk W]; rfl
  · have hok : ∀ v ∈ L.drop k, Nok w v := fun v hv => h.ok v (List.mem_of_mem_drop hv)
    refine ⟨hl2, by omega, by omega, ?_, hok⟩
    by_cases hck : c = k
    · have : L.drop k = [] := List.eq_nil_of_length_eq_zero (by omega)
      rw [this]; exact Nds.nil _ _
    · rw [if_neg hck]
      by_cases hn : n = 0
      · have : L.drop k = [] := List.eq_nil_of_length_eq_zero (by omega)
        rw [this]; exact Nds.nil _ _
      · obtain ⟨b, off, rfl, _⟩ := h.row 0 (by omega)
        have := h.row.drop k
        show Nds w (some ((⟨b, off, none⟩ : Addr).add (k * 11))) _
        rw [add_plain]
        exact this
set_option maxHeartbeats 1000000 in
theorem front_any (a : Option Addr) (n c : Nat) (L : List Nd) (w : World) (h : Pt w a n c L) :
    Calls Tryz.prog 75 #[.slice a n c] w fun e w' => (∃ A C, e = .returned (.slice A (frn L).length C) ∧ ∀ w, Pt w a n c L → Pt w A (frn L).length C (frn L)) ∧ w = w' := by
  rcases L with _ | ⟨nd, r⟩
  · have h0 := h.len
    simp only [List.length_nil] at h0
    subst h0
    clear h
    go_enter Tryz.func75, Tryz.ntmps75
    go_wp2_with fail
    go_ret
    exact ⟨⟨none, 0, rfl, fun _ _ => Pt.nil _ _ _⟩, rfl⟩
  · have hl := h.len
    obtain ⟨b, off, rfl, q0, q1, q2, q3, q4, q5, q6, q7, q8, q9, q10⟩ := h.row 0 (by simp)
    simp only [Nat.zero_mul, Nat.add_zero, List.getD_cons_zero] at q10
    have hs := h.ok nd (by simp)
    have s0 := hs.s0
    have s1 := hs.s1
    have hcap := h.cap
    have hfew := h.few
    clear q0 q1 q2 q3 q4 q5 q6 q7 q8 q9 hs
    simp only [List.length_cons] at hl
    have n0 : ((n : Int) == 0) = false := by simp; omega
    by_cases c1 : nd.s < 0
    · have e : frn (nd :: r) = [] := by rw [frn_cons, if_pos (.inl c1)]
      rw [e]
      clear h e
      generalize nd.s = s at *
      go_enter Tryz.func75, Tryz.ntmps75
      go_wp2_with fail
      go_ret
      exact ⟨⟨none, 0, rfl, fun _ _ => Pt.nil _ _ _⟩, rfl⟩
    · by_cases c2 : (n : Int) ≤ nd.s
      · have e : frn (nd :: r) = [] := by rw [frn_cons, if_pos (.inr (by omega))]
        rw [e]
        clear h e
        generalize nd.s = s at *
        go_enter Tryz.func75, Tryz.ntmps75
        go_wp2_with fail
        go_ret
        exact ⟨⟨none, 0, rfl, fun _ _ => Pt.nil _ _ _⟩, rfl⟩
      · have e : frn (nd :: r) = nd :: r.take nd.s.toNat := by rw [frn_cons, if_neg (by omega)]
        obtain ⟨k, hk⟩ : ∃ k : Nat, nd.s = (k : Int) := ⟨nd.s.toNat, by omega⟩
        have e2 : (frn (nd :: r)).length = k + 1 := by rw [e, List.length_cons, List.length_take, Nat.min_eq_left (by omega)]; omega
        have P : ∀ w, Pt w (some ⟨b, off, none⟩) n c (nd :: r) → Pt w (some ⟨b, off, none⟩) (k + 1) (k + 1) (frn (nd :: r)) := by
          intro w h
          have e3 := frn_take (nd :: r) (by rw [e]; simp)
          rw [e2] at e3
          refine ⟨e2, by omega, Nat.le_refl _, ?_, fun v hv => ?_⟩
          · rw [e3]; exact h.row.take _
          · rw [e3] at hv; exact h.ok v (List.mem_of_mem_take hv)
        have PP := Lib.hid P
        rw [e2]
        have R := run_upto b off n c (k + 1) (by omega)
        rw [show ((k + 1 : Nat) : Int) = (k : Int) + 1 by omega] at R
        rw [hk] at q10 c2
        clear h e e2 P hk s0 s1 c1
        generalize frn (nd :: r) = F at *
        have c3 : ¬ (n : Int) ≤ (k : Int) := by omega
        have c4 : ¬ (k : Int) < 0 := by omega
        clear c2
        go_enter Tryz.func75, Tryz.ntmps75
        go_wp2_with fail
        go_ret
        exact ⟨⟨_, _, rfl, PP.out⟩, rfl⟩
theorem psm_no (q : Qu) (h : q.L.length = q.n) : psm q.x q.t q.L false 0 [] = qno q := by
  obtain ⟨x, t, a, n, c, L⟩ := q
  simp only at h
  unfold psm qno
  simp only [h, List.length_nil]
  by_cases hn : n = 0
  · subst hn
    simp only [List.range_zero, List.all_nil, Bool.and_true, decide_true]
    cases x <;> simp
  · simp [hn]
set_option maxHeartbeats 1000000 in
theorem nothing_any (q : Qu) (w : World) (h : Qok w q) :
    Calls Tryz.prog 132 #[qv q] w fun e w' => e = .returned (.bool (qno q)) ∧ Below w.heap.size w w' := by
  have B0 := Lib.hid (below_alloc w (pcells q.x q.t q.a q.n q.c))
  have hq := h.below B0.out
  have M := Lib.hid (psame_any q.x q.t q.a q.n q.c q.L false 0 none 0 0 [] (w.alloc (pcells q.x q.t q.a q.n q.c)) hq.len rfl (by have := hq.few; omega) hq.row (Tsts.nil _ _) hq.ok (by simp))
  rw [psm_no q h.len] at M
  clear h hq
  generalize qno q = R at M
  obtain ⟨x, t, a, n, c, L⟩ := q
  simp only at M
  go_enter Tryz.func132, Tryz.ntmps132
  go_wp2_with fail
  refine M.out.mono ?_
  rintro e w2 ⟨rfl, hb⟩
  have B2 := Lib.hid (below_go B0.out hb)
  clear hb
  go_wp2_with fail
  go_ret
  exact ⟨rfl, B2.out⟩
end Go.Proofs.YtpnllbojifnopaaGreatDoor

/- asItsKind: whether a node has what its kind names. -/
namespace Go.Proofs.YtpnllbojifnopaaGreatDoor
open Go Go.RowKit Pk Rl
set_option maxRecDepth 20000

theorem Nok.box {w : World} {n : Nd} (h : Nok w n) (o : Obj) : Nok (w.alloc o) n := h.below (below_alloc w o)
theorem Atn.alloc (w : World) (n : Nd) : Atn (w.alloc (nobj n)) w.heap.size 0 n := by refine ⟨?_, ?_, ?_, ?_, ?_, ?_, ?_, ?_, ?_, ?_, ?_⟩ <;> simp [go_sem]
/- a node in a box of its own, in some world behind one -/
structure Nbx (w W : World) (g : Nat) (n : Nd) : Prop where
  at_ : Atn W g 0 n
  bel : Below w.heap.size w W
theorem Nbx.next {w W W' : World} {g : Nat} {n : Nd} (h : Nbx w W g n) (hb : Below W.heap.size W W') : Nbx w W' g n := ⟨h.at_.below hb h.at_.lt, below_go h.bel hb⟩
set_option maxHeartbeats 2000000 in
theorem kind_one (n : Nd) (m : Nat) (w : World) (h : Nok w n) (_hm : m ≤ 1000) (hk : n.k = 1) :
    Calls Tryz.prog 108 #[nOf n, .int .i64 (m : Int)] w fun e w' => e = .returned (.bool (kd n m)) ∧ Below w.heap.size w w' := by
  have K0 := Lib.hid (show Nbx w (w.alloc (nobj n)) w.heap.size n from ⟨Atn.alloc w n, below_alloc w _⟩)
  have MP := Lib.hid (fun W (hb : Below w.heap.size w W) => nothing_any n.p W (h.p.below hb))
  have MG := Lib.hid (fun W (hb : Below w.heap.size w W) => nothing_any n.g W (h.g.below hb))
  have E : kd n m = (decide (m = 0) && !n.y && qno n.g && decide (n.lo = 0) && decide (n.hi = 0)) := by unfold kd; rw [if_pos hk]
  rw [E]
  clear E h
  generalize qno n.p = A at MP
  generalize qno n.g = B at MG
  obtain ⟨k, ⟨x, t, a, q, c, L⟩, y, ⟨x', t', a', q', c', L'⟩, lo, hi, s⟩ := n
  simp only at hk MP MG
  subst hk
  have KK := K0.out.at_
  obtain ⟨q0, q1, q2, q3, q4, q5, q6, q7, q8, q9, q10⟩ := KK
  go_enter Tryz.func108, Tryz.ntmps108
  go_wp2_with fail
  refine (MP.out _ K0.out.bel).mono ?_
  rintro e w2 ⟨rfl, hb⟩
  have K1 := Lib.hid (K0.out.next hb)
  clear hb K0 q0 q1 q2 q3 q4 q5 q6 q7 q8 q9 q10
  obtain ⟨q0, q1, q2, q3, q4, q5, q6, q7, q8, q9, q10⟩ := K1.out.at_
  go_wp2_with fail
  refine (MG.out _ K1.out.bel).mono ?_
  rintro e w3 ⟨rfl, hb⟩
  have K2 := Lib.hid (K1.out.next hb)
  clear hb K1 q0 q1 q2 q3 q4 q5 q6 q7 q8 q9 q10
  obtain ⟨q0, q1, q2, q3, q4, q5, q6, q7, q8, q9, q10⟩ := K2.out.at_
  go_wp2_with fail
  all_goals (go_ret; refine ⟨ret_bool ?_, K2.out.bel⟩; (try simp_all); (try (rw [Bool.eq_iff_iff]; simp)); (try (intros; omega)))
set_option maxHeartbeats 2000000 in
theorem kind_two (n : Nd) (m : Nat) (w : World) (h : Nok w n) (_hm : m ≤ 1000) (hk : n.k = 2) :
    Calls Tryz.prog 108 #[nOf n, .int .i64 (m : Int)] w fun e w' => e = .returned (.bool (kd n m)) ∧ Below w.heap.size w w' := by
  have K0 := Lib.hid (show Nbx w (w.alloc (nobj n)) w.heap.size n from ⟨Atn.alloc w n, below_alloc w _⟩)
  have MP := Lib.hid (fun W (hb : Below w.heap.size w W) => nothing_any n.p W (h.p.below hb))
  have MG := Lib.hid (fun W (hb : Below w.heap.size w W) => nothing_any n.g W (h.g.below hb))
  have E : kd n m = (decide (2 ≤ m) && qno n.p && (n.y || qno n.g) && decide (n.lo = 0) && decide (n.hi = 0)) := by unfold kd; rw [if_neg (by omega), if_pos hk]
  rw [E]
  clear E h
  generalize qno n.p = A at MP
  generalize qno n.g = B at MG
  obtain ⟨k, ⟨x, t, a, q, c, L⟩, y, ⟨x', t', a', q', c', L'⟩, lo, hi, s⟩ := n
  simp only at hk MP MG
  subst hk
  have KK := K0.out.at_
  obtain ⟨q0, q1, q2, q3, q4, q5, q6, q7, q8, q9, q10⟩ := KK
  go_enter Tryz.func108, Tryz.ntmps108
  go_wp2_with fail
  refine (MP.out _ K0.out.bel).mono ?_
  rintro e w2 ⟨rfl, hb⟩
  have K1 := Lib.hid (K0.out.next hb)
  clear hb K0 q0 q1 q2 q3 q4 q5 q6 q7 q8 q9 q10
  obtain ⟨q0, q1, q2, q3, q4, q5, q6, q7, q8, q9, q10⟩ := K1.out.at_
  go_wp2_with fail
  refine (MG.out _ K1.out.bel).mono ?_
  rintro e w3 ⟨rfl, hb⟩
  have K2 := Lib.hid (K1.out.next hb)
  clear hb K1 q0 q1 q2 q3 q4 q5 q6 q7 q8 q9 q10
  obtain ⟨q0, q1, q2, q3, q4, q5, q6, q7, q8, q9, q10⟩ := K2.out.at_
  go_wp2_with fail
  all_goals (go_ret; refine ⟨ret_bool ?_, K2.out.bel⟩; (try simp_all); (try (rw [Bool.eq_iff_iff]; simp)); (try (intros; omega)))
set_option maxHeartbeats 2000000 in
theorem kind_three (n : Nd) (m : Nat) (w : World) (h : Nok w n) (_hm : m ≤ 1000) (hk : n.k = 3) :
    Calls Tryz.prog 108 #[nOf n, .int .i64 (m : Int)] w fun e w' => e = .returned (.bool (kd n m)) ∧ Below w.heap.size w w' := by
  have K0 := Lib.hid (show Nbx w (w.alloc (nobj n)) w.heap.size n from ⟨Atn.alloc w n, below_alloc w _⟩)
  have MP := Lib.hid (fun W (hb : Below w.heap.size w W) => nothing_any n.p W (h.p.below hb))
  have MG := Lib.hid (fun W (hb : Below w.heap.size w W) => nothing_any n.g W (h.g.below hb))
  have E : kd n m = (decide (2 ≤ m) && qno n.p && !n.y && qno n.g && decide (n.lo = 0) && decide (n.hi = 0)) := by unfold kd; rw [if_neg (by omega), if_neg (by omega), if_pos hk]
  rw [E]
  clear E h
  generalize qno n.p = A at MP
  generalize qno n.g = B at MG
  obtain ⟨k, ⟨x, t, a, q, c, L⟩, y, ⟨x', t', a', q', c', L'⟩, lo, hi, s⟩ := n
  simp only at hk MP MG
  subst hk
  have KK := K0.out.at_
  obtain ⟨q0, q1, q2, q3, q4, q5, q6, q7, q8, q9, q10⟩ := KK
  go_enter Tryz.func108, Tryz.ntmps108
  go_wp2_with fail
  refine (MP.out _ K0.out.bel).mono ?_
  rintro e w2 ⟨rfl, hb⟩
  have K1 := Lib.hid (K0.out.next hb)
  clear hb K0 q0 q1 q2 q3 q4 q5 q6 q7 q8 q9 q10
  obtain ⟨q0, q1, q2, q3, q4, q5, q6, q7, q8, q9, q10⟩ := K1.out.at_
  go_wp2_with fail
  refine (MG.out _ K1.out.bel).mono ?_
  rintro e w3 ⟨rfl, hb⟩
  have K2 := Lib.hid (K1.out.next hb)
  clear hb K1 q0 q1 q2 q3 q4 q5 q6 q7 q8 q9 q10
  obtain ⟨q0, q1, q2, q3, q4, q5, q6, q7, q8, q9, q10⟩ := K2.out.at_
  go_wp2_with fail
  all_goals (go_ret; refine ⟨ret_bool ?_, K2.out.bel⟩; (try simp_all); (try (rw [Bool.eq_iff_iff]; simp)); (try (intros; omega)))
set_option maxHeartbeats 2000000 in
theorem kind_four (n : Nd) (m : Nat) (w : World) (h : Nok w n) (_hm : m ≤ 1000) (hk : n.k = 4) :
    Calls Tryz.prog 108 #[nOf n, .int .i64 (m : Int)] w fun e w' => e = .returned (.bool (kd n m)) ∧ Below w.heap.size w w' := by
  have K0 := Lib.hid (show Nbx w (w.alloc (nobj n)) w.heap.size n from ⟨Atn.alloc w n, below_alloc w _⟩)
  have MP := Lib.hid (fun W (hb : Below w.heap.size w W) => nothing_any n.p W (h.p.below hb))
  have MG := Lib.hid (fun W (hb : Below w.heap.size w W) => nothing_any n.g W (h.g.below hb))
  have E : kd n m = (decide (m = 1) && qno n.p && (n.y || qno n.g) && decide (1 ≤ n.lo) && decide (n.lo ≤ n.hi) && decide (n.hi ≤ 8)) := by unfold kd; rw [if_neg (by omega), if_neg (by omega), if_neg (by omega), if_pos hk]
  rw [E]
  clear E h
  generalize qno n.p = A at MP
  generalize qno n.g = B at MG
  obtain ⟨k, ⟨x, t, a, q, c, L⟩, y, ⟨x', t', a', q', c', L'⟩, lo, hi, s⟩ := n
  simp only at hk MP MG
  subst hk
  have KK := K0.out.at_
  obtain ⟨q0, q1, q2, q3, q4, q5, q6, q7, q8, q9, q10⟩ := KK
  go_enter Tryz.func108, Tryz.ntmps108
  go_wp2_with fail
  refine (MP.out _ K0.out.bel).mono ?_
  rintro e w2 ⟨rfl, hb⟩
  have K1 := Lib.hid (K0.out.next hb)
  clear hb K0 q0 q1 q2 q3 q4 q5 q6 q7 q8 q9 q10
  obtain ⟨q0, q1, q2, q3, q4, q5, q6, q7, q8, q9, q10⟩ := K1.out.at_
  go_wp2_with fail
  refine (MG.out _ K1.out.bel).mono ?_
  rintro e w3 ⟨rfl, hb⟩
  have K2 := Lib.hid (K1.out.next hb)
  clear hb K1 q0 q1 q2 q3 q4 q5 q6 q7 q8 q9 q10
  obtain ⟨q0, q1, q2, q3, q4, q5, q6, q7, q8, q9, q10⟩ := K2.out.at_
  go_wp2_with fail
  all_goals (go_ret; refine ⟨ret_bool ?_, K2.out.bel⟩; (try simp_all); (try (rw [Bool.eq_iff_iff]; simp)); (try (intros; omega)))
set_option maxHeartbeats 2000000 in
theorem kind_none (n : Nd) (m : Nat) (w : World) (h : Nok w n) (_hm : m ≤ 1000) (k1 : ¬ n.k = 1) (k2 : ¬ n.k = 2) (k3 : ¬ n.k = 3) (k4 : ¬ n.k = 4) :
    Calls Tryz.prog 108 #[nOf n, .int .i64 (m : Int)] w fun e w' => e = .returned (.bool (kd n m)) ∧ Below w.heap.size w w' := by
  have K0 := Lib.hid (show Nbx w (w.alloc (nobj n)) w.heap.size n from ⟨Atn.alloc w n, below_alloc w _⟩)
  have MP := Lib.hid (fun W (hb : Below w.heap.size w W) => nothing_any n.p W (h.p.below hb))
  have MG := Lib.hid (fun W (hb : Below w.heap.size w W) => nothing_any n.g W (h.g.below hb))
  have E : kd n m = false := by unfold kd; rw [if_neg k1, if_neg k2, if_neg k3, if_neg k4]
  rw [E]
  clear E h
  generalize qno n.p = A at MP
  generalize qno n.g = B at MG
  obtain ⟨k, ⟨x, t, a, q, c, L⟩, y, ⟨x', t', a', q', c', L'⟩, lo, hi, s⟩ := n
  simp only at k1 k2 k3 k4 MP MG
  have e1 := ne_beq k1
  have e2 := ne_beq k2
  have e3 := ne_beq k3
  have e4 := ne_beq k4
  clear k1 k2 k3 k4
  have KK := K0.out.at_
  obtain ⟨q0, q1, q2, q3, q4, q5, q6, q7, q8, q9, q10⟩ := KK
  go_enter Tryz.func108, Tryz.ntmps108
  go_wp2_with fail
  refine (MP.out _ K0.out.bel).mono ?_
  rintro e w2 ⟨rfl, hb⟩
  have K1 := Lib.hid (K0.out.next hb)
  clear hb K0 q0 q1 q2 q3 q4 q5 q6 q7 q8 q9 q10
  obtain ⟨q0, q1, q2, q3, q4, q5, q6, q7, q8, q9, q10⟩ := K1.out.at_
  go_wp2_with fail
  refine (MG.out _ K1.out.bel).mono ?_
  rintro e w3 ⟨rfl, hb⟩
  have K2 := Lib.hid (K1.out.next hb)
  clear hb K1 q0 q1 q2 q3 q4 q5 q6 q7 q8 q9 q10
  obtain ⟨q0, q1, q2, q3, q4, q5, q6, q7, q8, q9, q10⟩ := K2.out.at_
  go_wp2_with fail
  all_goals (go_ret; refine ⟨ret_bool ?_, K2.out.bel⟩; (try simp_all); (try (rw [Bool.eq_iff_iff]; simp)); (try (intros; omega)))
theorem kind_any (n : Nd) (m : Nat) (w : World) (h : Nok w n) (hm : m ≤ 1000) :
    Calls Tryz.prog 108 #[nOf n, .int .i64 (m : Int)] w fun e w' => e = .returned (.bool (kd n m)) ∧ Below w.heap.size w w' := by
  by_cases k1 : n.k = 1
  · exact kind_one n m w h hm k1
  · by_cases k2 : n.k = 2
    · exact kind_two n m w h hm k2
    · by_cases k3 : n.k = 3
      · exact kind_three n m w h hm k3
      · by_cases k4 : n.k = 4
        · exact kind_four n m w h hm k4
        · exact kind_none n m w h hm k1 k2 k3 k4
end Go.Proofs.YtpnllbojifnopaaGreatDoor

/- Contracts, joined: TrD, TrE. -/
/- ofParts: the parts of a pattern, and what is asked of each. -/
namespace Go.Proofs.YtpnllbojifnopaaGreatDoor
open Go Go.RowKit Pk Rl
set_option maxRecDepth 20000

def nlen : Value → Nat
  | .slice _ n _ => n
  | _ => 0
theorem spl_one {R : List Nd} (h : R ≠ []) (hf : frn R ≠ []) : spl R = (spl (R.drop (frn R).length)).map (frn R :: ·) := by rw [spl_cons R h, if_neg hf]
theorem spl_no {R : List Nd} (h : R ≠ []) (hf : frn R = []) : spl R = none := by rw [spl_cons R h, if_pos hf]
/- how the loop stands: D done, R left -/
def Sp (F : List Nd → Bool) (T R : List Nd) (D : List (List Nd)) : Prop := D.all F = true ∧ spl T = (spl R).map (D ++ ·)
theorem Sp.start (F : List Nd → Bool) (T : List Nd) : Sp F T T [] := ⟨rfl, by cases spl T <;> simp⟩
theorem Sp.step {F : List Nd → Bool} {T R : List Nd} {D : List (List Nd)} (h : Sp F T R D) (hR : R ≠ []) (hf : frn R ≠ []) (hF : F (frn R) = true) : Sp F T (R.drop (frn R).length) (D ++ [frn R]) := by
  refine ⟨by rw [List.all_append, h.1]; simp [hF], ?_⟩
  rw [h.2, spl_one hR hf]
  cases spl (R.drop (frn R).length) <;> simp
/- what ofp comes to, of a row whose front is this -/
theorem ofp_cons {F : List Nd → Bool} {l : List Nd} (h : frn l ≠ []) : ofp F l = match spl (frn l).tail with
    | none => false
    | some ps => ps.all F := by
  unfold ofp
  rcases hf : frn l with _ | ⟨n, r⟩
  · exact absurd hf h
  · rfl
theorem ofp_nil {F : List Nd → Bool} {l : List Nd} (h : frn l = []) : ofp F l = false := by unfold ofp; rw [h]
theorem Sp.none {F : List Nd → Bool} {l R : List Nd} {D : List (List Nd)} (h : Sp F (frn l).tail R D) (hR : R ≠ []) (hf : frn R = []) : ofp F l = false := by
  by_cases h0 : frn l = []
  · exact ofp_nil h0
  · rw [ofp_cons h0, h.2, spl_no hR hf]; rfl
theorem Sp.no {F : List Nd → Bool} {l R : List Nd} {D : List (List Nd)} (h : Sp F (frn l).tail R D) (hR : R ≠ []) (hf : frn R ≠ []) (hF : F (frn R) = false) : ofp F l = false := by
  by_cases h0 : frn l = []
  · exact ofp_nil h0
  · rw [ofp_cons h0, h.2, spl_one hR hf]
    cases spl (R.drop (frn R).length) <;> simp [hF]
theorem Sp.done {F : List Nd → Bool} {l : List Nd} {D : List (List Nd)} (h : Sp F (frn l).tail [] D) (h0 : frn l ≠ []) : ofp F l = true ∧ pts l = D := by
  have e : spl (frn l).tail = some D := by rw [h.2, spl_nil]; simp
  refine ⟨by rw [ofp_cons h0, e]; exact h.1, by unfold pts; rw [e]; rfl⟩
set_option maxHeartbeats 2000000 in
theorem ofp_formed (F : List Nd → Bool) (J : World → List (List Nd) → Prop) (w0 w1 : World) (H01 : Below w0.heap.size w0 w1) (g M : Nat)
    (C : Hid (∀ D p A n c W, J W D → Pt w0 A n c p → p ≠ [] → n < M → D.length ≤ 1000 → Below w1.heap.size w1 W → Calls Tryz.prog 107 #[.slice A n c, .pointer (some ⟨g, 0, none⟩)] W fun e w' => e = .returned (.bool (F p)) ∧ (F p = true → J w' (D ++ [p])) ∧ Below w1.heap.size w1 w'))
    (a : Option Addr) (n c : Nat) (L : List Nd) (w : World) (hP : Pt w0 a n c L) (hM : n ≤ M) (hJ : J w []) (hB : Below w1.heap.size w1 w) :
    Calls Tryz.prog 106 #[.slice a n c, .func (.func 107) #[] #[.pointer (some ⟨g, 0, none⟩)]] w fun e w' => e = .returned (.bool (ofp F L)) ∧ (ofp F L = true → J w' (pts L)) ∧ Below w1.heap.size w1 w' := by
  have HF := Lib.hid (front_any a n c L w (hP.below (below_go H01 hB)))
  have HP := Lib.hid hP
  have HJ := Lib.hid hJ
  have HB := Lib.hid hB
  have hfl := frn_len L
  have hll := hP.len
  have hfew := hP.few
  obtain ⟨r, hr⟩ : ∃ r, ofp F L = r := ⟨_, rfl⟩
  rw [hr]
  have HR := Lib.hid hr

  clear hP hJ hB hr
  go_enter Tryz.func106, Tryz.ntmps106
  go_wp2_with fail
  refine HF.out.mono ?_
  rintro e w' ⟨⟨A, K, rfl, hF⟩, rfl⟩
  have PF := Lib.hid (hF w0 HP.out)
  clear hF HF
  obtain ⟨q, hq⟩ : ∃ q, (frn L).length = q := ⟨_, rfl⟩
  rw [hq] at PF hfl ⊢
  have HQ := Lib.hid hq
  clear hq
  by_cases cq : q = 0
  · subst cq
    go_wp2_with fail
    go_ret
    have : r = false := by rw [← HR.out]; exact ofp_nil (List.eq_nil_of_length_eq_zero HQ.out)
    subst this
    exact ⟨rfl, fun h => (nomatch h), HB.out⟩
  · have q0 : ((q : Int) == 0) = false := by simp; omega
    obtain ⟨A1, hrun, hA1⟩ := PF.out.from 1 (by omega)
    have P1 := Lib.hid (hA1 w0 PF.out)
    rw [show ((1 : Nat) : Int) = 1 from rfl] at hrun
    rw [show (frn L).drop 1 = (frn L).tail by cases frn L <;> rfl] at P1
    have NE := Lib.hid (show frn L ≠ [] from fun e => by have := HQ.out; rw [e] at this; simp at this; omega)
    have S0 := Lib.hid (Sp.start F (frn L).tail)
    obtain ⟨n1, hn1⟩ : ∃ n1, q - 1 = n1 := ⟨_, rfl⟩
    obtain ⟨c1, hc1⟩ : ∃ c1, K - 1 = c1 := ⟨_, rfl⟩
    rw [hn1, hc1] at hrun P1
    have N1 : Hid (n1 < M ∧ n1 ≤ 1000) := Lib.hid (by omega)
    clear hA1 PF hn1 hc1 hfl hll hfew hM
    go_wp2_with fail
    go_loopw [6] (fun v6 W => ∃ (A' : Option Addr) (n' c' : Nat) (R : List Nd) (D : List (List Nd)), v6 = .slice A' n' c' ∧ Hid (Pt w0 A' n' c' R ∧ J W D ∧ D.length + n' ≤ n1 ∧ Sp F (frn L).tail R D ∧ Below w1.heap.size w1 W)) (fun v6 _ => nlen v6)
    case atStart => exact ⟨A1, n1, c1, _, [], rfl, Lib.hid ⟨P1.out, HJ.out, by simp, S0.out, HB.out⟩⟩
    case round =>
      obtain ⟨A', n', c', R, D, rfl, H⟩ := hrel
      have HP2 := Lib.hid H.out.1
      have HJ2 := Lib.hid H.out.2.1
      have HD2 := Lib.hid H.out.2.2.1
      have HS2 := Lib.hid H.out.2.2.2.1
      have HB2 := Lib.hid H.out.2.2.2.2
      clear H HJ P1 S0
      by_cases c0 : n' = 0
      · subst c0
        have e0 : R = [] := List.eq_nil_of_length_eq_zero HP2.out.len
        subst e0
        have HE := Lib.hid (HS2.out.done NE.out)
        have e1 : r = true := by rw [← HR.out]; exact HE.out.1
        subst e1
        have JJ := Lib.hid (show J wr (pts L) by rw [HE.out.2]; exact HJ2.out)
        go_wp2_with fail
        go_ret
        exact ⟨rfl, JJ.out, HB2.out⟩
      · have c2 : (0 : Int) < (n' : Int) := by omega
        have RN := Lib.hid (show R ≠ [] from fun e => by have := HP2.out.len; rw [e] at this; simp at this; omega)
        have F2 := Lib.hid (front_any A' n' c' R wr (HP2.out.below (below_go H01 HB2.out)))
        go_wp2_with fail
        refine F2.out.mono ?_
        rintro e w' ⟨⟨A3, K3, rfl, hF3⟩, rfl⟩
        have P3 := Lib.hid (hF3 w0 HP2.out)
        clear hF3 F2
        have HL3 := Lib.hid (frn_len R)
        obtain ⟨p, hp⟩ : ∃ p, frn R = p := ⟨_, rfl⟩
        have EP := Lib.hid hp
        rw [hp] at P3 HL3 ⊢
        clear hp
        obtain ⟨m, hm⟩ : ∃ m, p.length = m := ⟨_, rfl⟩
        rw [hm] at P3 HL3 ⊢
        have HM := Lib.hid hm
        clear hm
        by_cases cm : m = 0
        · subst cm
          have e1 : r = false := by rw [← HR.out]; exact HS2.out.none RN.out (by rw [EP.out]; exact List.eq_nil_of_length_eq_zero HM.out)
          subst e1
          go_wp2_with fail
          go_ret
          exact ⟨rfl, fun h => (nomatch h), HB2.out⟩
        · have m0 : ((m : Int) == 0) = false := by simp; omega
          have PN := Lib.hid (show p ≠ [] from fun e => by have := HM.out; rw [e] at this; simp at this; omega)
          have HM2 := Lib.hid (show m ≤ n' by have := HL3.out; rw [HP2.out.len] at this; exact this)
          have C2 := Lib.hid (C.out D p A3 m K3 wr HJ2.out P3.out PN.out (by have := HM2.out; have := HD2.out; have := N1.out; omega) (by have := HD2.out; have := N1.out; omega) HB2.out)
          obtain ⟨b, hb⟩ : ∃ b, F p = b := ⟨_, rfl⟩
          have EB := Lib.hid hb
          rw [hb] at C2
          clear hb
          obtain ⟨A4, hrun4, hA4⟩ := HP2.out.from m HM2.out
          have P4 := Lib.hid (hA4 w0 HP2.out)
          clear hA4
          obtain ⟨n4, hn4⟩ : ∃ n4, n' - m = n4 := ⟨_, rfl⟩
          obtain ⟨c4, hc4⟩ : ∃ c4, c' - m = c4 := ⟨_, rfl⟩
          rw [hn4, hc4] at hrun4 P4
          have HN4 := Lib.hid hn4
          clear hn4 hc4
          go_wp2_with fail
          refine C2.out.mono ?_
          rintro e w4 ⟨rfl, hJ4, hB4⟩
          have HJ4 := Lib.hid hJ4
          have HB4 := Lib.hid hB4
          clear hJ4 hB4 C2
          cases b
          · have e1 : r = false := by rw [← HR.out]; exact HS2.out.no RN.out (by rw [EP.out]; exact PN.out) (by rw [EP.out]; exact EB.out)
            subst e1
            go_wp2_with fail
            go_ret
            exact ⟨rfl, fun h => (nomatch h), HB4.out⟩
          · have S4 := Lib.hid (HS2.out.step RN.out (by rw [EP.out]; exact PN.out) (by rw [EP.out]; exact EB.out))
            rw [EP.out, HM.out] at S4
            go_wp2_with fail
            go_roundw
            case rel => exact ⟨A4, n4, c4, _, D ++ [p], rfl, Lib.hid ⟨P4.out, HJ4.out (by first | rfl | trivial), by rw [List.length_append]; have := HN4.out; have := HD2.out; have := HM2.out; simp; omega, S4.out, HB4.out⟩⟩
            case measure => show n4 < n'; have := HN4.out; have := HM2.out; omega
set_option maxHeartbeats 2000000 in
theorem ofp_parts (F : List Nd → Bool) (J : World → List (List Nd) → Prop) (w0 w1 : World) (H01 : Below w0.heap.size w0 w1) (g M : Nat)
    (C : Hid (∀ D p A n c W, J W D → Pt w0 A n c p → p ≠ [] → n < M → D.length ≤ 1000 → Below w1.heap.size w1 W → Calls Tryz.prog 111 #[.slice A n c, .pointer (some ⟨g, 0, none⟩)] W fun e w' => e = .returned (.bool (F p)) ∧ (F p = true → J w' (D ++ [p])) ∧ Below w1.heap.size w1 w'))
    (a : Option Addr) (n c : Nat) (L : List Nd) (w : World) (hP : Pt w0 a n c L) (hM : n ≤ M) (hJ : J w []) (hB : Below w1.heap.size w1 w) :
    Calls Tryz.prog 106 #[.slice a n c, .func (.func 111) #[] #[.pointer (some ⟨g, 0, none⟩)]] w fun e w' => e = .returned (.bool (ofp F L)) ∧ (ofp F L = true → J w' (pts L)) ∧ Below w1.heap.size w1 w' := by
  have HF := Lib.hid (front_any a n c L w (hP.below (below_go H01 hB)))
  have HP := Lib.hid hP
  have HJ := Lib.hid hJ
  have HB := Lib.hid hB
  have hfl := frn_len L
  have hll := hP.len
  have hfew := hP.few
  obtain ⟨r, hr⟩ : ∃ r, ofp F L = r := ⟨_, rfl⟩
  rw [hr]
  have HR := Lib.hid hr

  clear hP hJ hB hr
  go_enter Tryz.func106, Tryz.ntmps106
  go_wp2_with fail
  refine HF.out.mono ?_
  rintro e w' ⟨⟨A, K, rfl, hF⟩, rfl⟩
  have PF := Lib.hid (hF w0 HP.out)
  clear hF HF
  obtain ⟨q, hq⟩ : ∃ q, (frn L).length = q := ⟨_, rfl⟩
  rw [hq] at PF hfl ⊢
  have HQ := Lib.hid hq
  clear hq
  by_cases cq : q = 0
  · subst cq
    go_wp2_with fail
    go_ret
    have : r = false := by rw [← HR.out]; exact ofp_nil (List.eq_nil_of_length_eq_zero HQ.out)
    subst this
    exact ⟨rfl, fun h => (nomatch h), HB.out⟩
  · have q0 : ((q : Int) == 0) = false := by simp; omega
    obtain ⟨A1, hrun, hA1⟩ := PF.out.from 1 (by omega)
    have P1 := Lib.hid (hA1 w0 PF.out)
    rw [show ((1 : Nat) : Int) = 1 from rfl] at hrun
    rw [show (frn L).drop 1 = (frn L).tail by cases frn L <;> rfl] at P1
    have NE := Lib.hid (show frn L ≠ [] from fun e => by have := HQ.out; rw [e] at this; simp at this; omega)
    have S0 := Lib.hid (Sp.start F (frn L).tail)
    obtain ⟨n1, hn1⟩ : ∃ n1, q - 1 = n1 := ⟨_, rfl⟩
    obtain ⟨c1, hc1⟩ : ∃ c1, K - 1 = c1 := ⟨_, rfl⟩
    rw [hn1, hc1] at hrun P1
    have N1 : Hid (n1 < M ∧ n1 ≤ 1000) := Lib.hid (by omega)
    clear hA1 PF hn1 hc1 hfl hll hfew hM
    go_wp2_with fail
    go_loopw [6] (fun v6 W => ∃ (A' : Option Addr) (n' c' : Nat) (R : List Nd) (D : List (List Nd)), v6 = .slice A' n' c' ∧ Hid (Pt w0 A' n' c' R ∧ J W D ∧ D.length + n' ≤ n1 ∧ Sp F (frn L).tail R D ∧ Below w1.heap.size w1 W)) (fun v6 _ => nlen v6)
    case atStart => exact ⟨A1, n1, c1, _, [], rfl, Lib.hid ⟨P1.out, HJ.out, by simp, S0.out, HB.out⟩⟩
    case round =>
      obtain ⟨A', n', c', R, D, rfl, H⟩ := hrel
      have HP2 := Lib.hid H.out.1
      have HJ2 := Lib.hid H.out.2.1
      have HD2 := Lib.hid H.out.2.2.1
      have HS2 := Lib.hid H.out.2.2.2.1
      have HB2 := Lib.hid H.out.2.2.2.2
      clear H HJ P1 S0
      by_cases c0 : n' = 0
      · subst c0
        have e0 : R = [] := List.eq_nil_of_length_eq_zero HP2.out.len
        subst e0
        have HE := Lib.hid (HS2.out.done NE.out)
        have e1 : r = true := by rw [← HR.out]; exact HE.out.1
        subst e1
        have JJ := Lib.hid (show J wr (pts L) by rw [HE.out.2]; exact HJ2.out)
        go_wp2_with fail
        go_ret
        exact ⟨rfl, JJ.out, HB2.out⟩
      · have c2 : (0 : Int) < (n' : Int) := by omega
        have RN := Lib.hid (show R ≠ [] from fun e => by have := HP2.out.len; rw [e] at this; simp at this; omega)
        have F2 := Lib.hid (front_any A' n' c' R wr (HP2.out.below (below_go H01 HB2.out)))
        go_wp2_with fail
        refine F2.out.mono ?_
        rintro e w' ⟨⟨A3, K3, rfl, hF3⟩, rfl⟩
        have P3 := Lib.hid (hF3 w0 HP2.out)
        clear hF3 F2
        have HL3 := Lib.hid (frn_len R)
        obtain ⟨p, hp⟩ : ∃ p, frn R = p := ⟨_, rfl⟩
        have EP := Lib.hid hp
        rw [hp] at P3 HL3 ⊢
        clear hp
        obtain ⟨m, hm⟩ : ∃ m, p.length = m := ⟨_, rfl⟩
        rw [hm] at P3 HL3 ⊢
        have HM := Lib.hid hm
        clear hm
        by_cases cm : m = 0
        · subst cm
          have e1 : r = false := by rw [← HR.out]; exact HS2.out.none RN.out (by rw [EP.out]; exact List.eq_nil_of_length_eq_zero HM.out)
          subst e1
          go_wp2_with fail
          go_ret
          exact ⟨rfl, fun h => (nomatch h), HB2.out⟩
        · have m0 : ((m : Int) == 0) = false := by simp; omega
          have PN := Lib.hid (show p ≠ [] from fun e => by have := HM.out; rw [e] at this; simp at this; omega)
          have HM2 := Lib.hid (show m ≤ n' by have := HL3.out; rw [HP2.out.len] at this; exact this)
          have C2 := Lib.hid (C.out D p A3 m K3 wr HJ2.out P3.out PN.out (by have := HM2.out; have := HD2.out; have := N1.out; omega) (by have := HD2.out; have := N1.out; omega) HB2.out)
          obtain ⟨b, hb⟩ : ∃ b, F p = b := ⟨_, rfl⟩
          have EB := Lib.hid hb
          rw [hb] at C2
          clear hb
          obtain ⟨A4, hrun4, hA4⟩ := HP2.out.from m HM2.out
          have P4 := Lib.hid (hA4 w0 HP2.out)
          clear hA4
          obtain ⟨n4, hn4⟩ : ∃ n4, n' - m = n4 := ⟨_, rfl⟩
          obtain ⟨c4, hc4⟩ : ∃ c4, c' - m = c4 := ⟨_, rfl⟩
          rw [hn4, hc4] at hrun4 P4
          have HN4 := Lib.hid hn4
          clear hn4 hc4
          go_wp2_with fail
          refine C2.out.mono ?_
          rintro e w4 ⟨rfl, hJ4, hB4⟩
          have HJ4 := Lib.hid hJ4
          have HB4 := Lib.hid hB4
          clear hJ4 hB4 C2
          cases b
          · have e1 : r = false := by rw [← HR.out]; exact HS2.out.no RN.out (by rw [EP.out]; exact PN.out) (by rw [EP.out]; exact EB.out)
            subst e1
            go_wp2_with fail
            go_ret
            exact ⟨rfl, fun h => (nomatch h), HB4.out⟩
          · have S4 := Lib.hid (HS2.out.step RN.out (by rw [EP.out]; exact PN.out) (by rw [EP.out]; exact EB.out))
            rw [EP.out, HM.out] at S4
            go_wp2_with fail
            go_roundw
            case rel => exact ⟨A4, n4, c4, _, D ++ [p], rfl, Lib.hid ⟨P4.out, HJ4.out (by first | rfl | trivial), by rw [List.length_append]; have := HN4.out; have := HD2.out; have := HM2.out; simp; omega, S4.out, HB4.out⟩⟩
            case measure => show n4 < n'; have := HN4.out; have := HM2.out; omega
end Go.Proofs.YtpnllbojifnopaaGreatDoor

/- formed: whether a pattern's nodes are as their kinds say. -/
namespace Go.Proofs.YtpnllbojifnopaaGreatDoor
open Go Go.RowKit Pk Rl
set_option maxRecDepth 20000

/- a number in a box of its own -/
def Box (w : World) (g : Nat) (v : Int) : Prop := w.heap[g]? = some (.cells #[.int .i64 v] 3 (0, 0))
theorem Box.cell {w : World} {g : Nat} {v : Int} (h : Box w g v) : w.cell? ⟨g, 0, none⟩ = some (.int .i64 v) := by rw [cell_of_row w g 0 _ _ _ h]; rfl
theorem Box.free {w : World} {g : Nat} {v : Int} (h : Box w g v) (j : Nat) : w.frozen? ⟨g, j, none⟩ = false := by
  simp [World.frozen?, Box] at h ⊢
  simp [h]
theorem Box.lt {w : World} {g : Nat} {v : Int} (h : Box w g v) : g < w.heap.size := World.block_lt_of_cell? _ _ h.cell
theorem Box.next {w w' : World} {g : Nat} {v : Int} (h : Box w g v) (hb : Below w.heap.size w w') : Box w' g v := by unfold Box; rw [hb.block g h.lt]; exact h
theorem Box.set {w : World} {g : Nat} {v : Int} (h : Box w g v) (v' : Int) : Box (w.setCell ⟨g, 0, none⟩ (.int .i64 v')) g v' := by
  unfold Box
  rw [heap_setCell_same w g 0 _ _ _ h]
  rfl
theorem Box.start (w : World) (v : Int) : Box (w.alloc (.cells #[.int .i64 v] 3)) w.heap.size v := heap_alloc_new w _
set_option maxHeartbeats 1000000 in
theorem formed1_any (k : Nat) (IH : Hid (∀ a n c L w, n < k → Pt w a n c L → Calls Tryz.prog 76 #[.slice a n c] w fun e w' => e = .returned (.bool (fmd k L)) ∧ Below w.heap.size w w'))
    (w0 : World) (g d : Nat) (hd : d ≤ 1000) (p : List Nd) (A : Option Addr) (n c : Nat) (w : World) (hbox : Box w g (d : Int)) (hP : Pt w0 A n c p) (hn : n < k) (hB : Below w0.heap.size w0 w) (hg : w0.heap.size ≤ g) :
    Calls Tryz.prog 107 #[.slice A n c, .pointer (some ⟨g, 0, none⟩)] w fun e w' => e = .returned (.bool (fmd k p)) ∧ (fmd k p = true → Box w' g ((d + 1 : Nat) : Int)) ∧ Below w0.heap.size w0 w' := by
  have B1 := Lib.hid (show Below w0.heap.size w0 (w.setCell ⟨g, 0, none⟩ (.int .i64 ((d + 1 : Nat) : Int))) from hB.setCell (by exact hg) _)
  have X1 := Lib.hid (hbox.set ((d + 1 : Nat) : Int))
  have I := Lib.hid (IH.out A n c p _ hn (hP.below B1.out))
  have hc := hbox.cell
  have hfr := hbox.free 0
  have hlt := hbox.lt
  rw [show ((d + 1 : Nat) : Int) = (d : Int) + 1 by omega] at B1 X1 I ⊢
  generalize fmd k p = b at I
  clear IH hP hB hbox hn
  go_enter Tryz.func107, Tryz.ntmps107
  go_wp2_with fail
  refine I.out.mono ?_
  rintro e w2 ⟨rfl, hb⟩
  have X2 := Lib.hid (X1.out.next hb)
  have B2 := Lib.hid (B1.out.trans (hb.mono (B1.out.size)))
  clear hb
  go_wp2_with fail
  go_ret
  exact ⟨rfl, fun _ => X2.out, B2.out⟩
theorem ofp_ne {F : List Nd → Bool} {l : List Nd} (h : ofp F l = true) : l ≠ [] := fun e => by subst e; simp [ofp, frn] at h
theorem spl_len {l : List Nd} {ps : List (List Nd)} (h : spl l = some ps) : ps.length ≤ l.length := by
  generalize hk : l.length = k
  induction k using Nat.strongRecOn generalizing l ps with
  | _ k ih =>
    by_cases hl : l = []
    · subst hl; rw [spl_nil] at h; injection h with h; subst h; simp
    · rw [spl_cons l hl] at h
      by_cases hf : frn l = []
      · rw [if_pos hf] at h; cases h
      · rw [if_neg hf] at h
        obtain ⟨qs, hq, rfl⟩ := Option.map_eq_some_iff.1 h
        have hlt := drop_lt l hl hf
        have := ih _ (by omega) hq rfl
        rw [List.length_cons]
        omega
theorem pts_len (l : List Nd) : (pts l).length ≤ l.length := by
  unfold pts
  have h1 := frn_len l
  rcases hs : spl (frn l).tail with _ | ps
  · simp
  · have := spl_len hs
    rw [List.length_tail] at this
    simp only [Option.getD_some]
    omega
abbrev Nh (w0 W : World) (b off : Nat) (nd : Nd) (g m : Nat) : Prop :=
  W.cell? ⟨b, off, none⟩ = some (.int .u8 nd.k) ∧ W.cell? ⟨b, off + 1, none⟩ = some (.bool nd.p.x) ∧ W.cell? ⟨b, off + 2, none⟩ = some (.int .u8 nd.p.t) ∧ W.cell? ⟨b, off + 3, none⟩ = some (.slice nd.p.a nd.p.n nd.p.c) ∧
  W.cell? ⟨b, off + 4, none⟩ = some (.bool nd.y) ∧ W.cell? ⟨b, off + 5, none⟩ = some (.bool nd.g.x) ∧ W.cell? ⟨b, off + 6, none⟩ = some (.int .u8 nd.g.t) ∧ W.cell? ⟨b, off + 7, none⟩ = some (.slice nd.g.a nd.g.n nd.g.c) ∧
  W.cell? ⟨b, off + 8, none⟩ = some (.int .u8 nd.lo) ∧ W.cell? ⟨b, off + 9, none⟩ = some (.int .u8 nd.hi) ∧ W.cell? ⟨b, off + 10, none⟩ = some (.int .i64 nd.s) ∧ W.cell? ⟨g, 0, none⟩ = some (.int .i64 (m : Int)) ∧
  Hid (Below w0.heap.size w0 W ∧ Box W g (m : Int) ∧ Atn W b off nd)
theorem nh_of {w0 W : World} {b off : Nat} {nd : Nd} {g m : Nat} (h1 : Below w0.heap.size w0 W) (h2 : Box W g (m : Int)) (h3 : Atn W b off nd) : Nh w0 W b off nd g m := by
  have h := h3
  obtain ⟨q0, q1, q2, q3, q4, q5, q6, q7, q8, q9, q10⟩ := h
  exact ⟨q0, q1, q2, q3, q4, q5, q6, q7, q8, q9, q10, h2.cell, Lib.hid ⟨h1, h2, h3⟩⟩
theorem nh_next {w0 W W' : World} {b off : Nat} {nd : Nd} {g m : Nat} (hb : Below W.heap.size W W') (h : Nh w0 W b off nd g m) : Nh w0 W' b off nd g m := by
  obtain ⟨_, _, _, _, _, _, _, _, _, _, _, _, H⟩ := h
  obtain ⟨h1, h2, h3⟩ := H.out
  exact nh_of (below_go h1 hb) (h2.next hb) (h3.below hb h3.lt)
set_option maxHeartbeats 2000000 in
theorem formed_any (k : Nat) : ∀ (a : Option Addr) (n c : Nat) (L : List Nd) (w : World), n < k → Pt w a n c L →
    Calls Tryz.prog 76 #[.slice a n c] w fun e w' => e = .returned (.bool (fmd k L)) ∧ Below w.heap.size w w' := by
  induction k with
  | zero => intro a n c L w h; exact absurd h (by omega)
  | succ k ih =>
    intro a n c L w hn hP
    have IH := Lib.hid ih
    clear ih
    have B0 := Lib.hid (below_alloc w (.cells #[.int .i64 0] 3))
    have O := Lib.hid (ofp_formed (fmd k) (fun W D => Box W w.heap.size (D.length : Int)) w w (Below.refl _ _) w.heap.size n
      (Lib.hid fun D p A n' c' W hJ hPp _ hnn hD hB => by
        have := formed1_any k IH w w.heap.size D.length hD p A n' c' W hJ hPp (by omega) hB (Nat.le_refl _)
        refine this.mono ?_
        rintro e w' ⟨rfl, h2, h3⟩
        exact ⟨rfl, fun h => by rw [List.length_append, List.length_singleton]; exact h2 h, h3⟩)
      a n c L _ hP (Nat.le_refl _) (Box.start w 0) B0.out)
    have E : fmd (k + 1) L = (ofp (fmd k) L && kd (L.headD nz) (pts L).length) := rfl
    rw [E]
    have HN := Lib.hid (fun h => ofp_ne (F := fmd k) (l := L) h)
    have HP := Lib.hid hP
    have HL := Lib.hid (pts_len L)
    obtain ⟨m, hm⟩ : ∃ m, (pts L).length = m := ⟨_, rfl⟩
    rw [hm] at HL ⊢
    have HM := Lib.hid hm
    obtain ⟨R, hR⟩ : ∃ R, kd (L.headD nz) m = R := ⟨_, rfl⟩
    rw [hR]
    have HR := Lib.hid hR
    clear E IH hP hn hm hR
    generalize ofp (fmd k) L = b at O HN
    cases b
    · go_enter Tryz.func76, Tryz.ntmps76
      go_wp2_with fail
      refine O.out.mono ?_
      rintro e w2 ⟨rfl, hJ, hB⟩
      have B2 := Lib.hid hB
      clear hJ hB O
      go_wp2_with fail
      go_quiet (fail)
      go_wp2_with fail
      go_ret
      exact ⟨rfl, by first | exact B2.out.drewN _ | exact below_go B2.out (below_drewN _ _ _)⟩
    · rcases L with _ | ⟨nd, r⟩
      · exact absurd rfl (HN.out rfl)
      · obtain ⟨b, off, rfl, hat⟩ := HP.out.row 0 (by simp)
        simp only [Nat.zero_mul, Nat.add_zero, List.getD_cons_zero] at hat
        have hml : m ≤ 1000 := by have := HL.out; have := HP.out.few; have := HP.out.len; omega
        have l1 : (0 : Int) < (n : Int) := by have := HP.out.len; simp at this; omega
        have l2 : 0 < n := by omega
        have HA := Lib.hid hat
        clear hat
        have M := Lib.hid (fun W (hW : Below w.heap.size w W) => kind_any nd m W ((HP.out.ok nd (by simp)).below hW) hml)
        rw [show kd nd m = R from HR.out] at M
        have NN := Lib.hid (fun W (h1 : Below w.heap.size w W) (h2 : Box W w.heap.size (m : Int)) => nh_of h1 h2 (HA.out.below h1 HA.out.lt))
        have MM := Lib.hid (show (pts (nd :: r)).length = m from HM.out)
        clear hml HP HL HN HA HM HR
        go_enter Tryz.func76, Tryz.ntmps76
        go_wp2_with fail
        refine O.out.mono ?_
        rintro e w2 ⟨rfl, hJ, hB⟩
        have N2 := NN.out w2 hB (by rw [← MM.out]; exact hJ (by first | rfl | trivial))
        clear hJ hB O NN MM
        have KD := Lib.hid (nh_next (Below.refl _ _).drew N2)
        obtain ⟨k', ⟨x, t, a', q, c', L'⟩, y, ⟨x2, t2, a2, q2, c2, L2⟩, lo, hi, s⟩ := nd
        obtain ⟨q0, q1, q2', q3, q4, q5, q6, q7, q8, q9, q10, q11, _⟩ := N2
        go_wp2_with fail
        go_region_held3 (fun W => Nh w W b off ⟨k', ⟨x, t, a', q, c', L'⟩, y, ⟨x2, t2, a2, q2, c2, L2⟩, lo, hi, s⟩ w.heap.size m)
          (first | (with_reducible assumption) | (with_reducible exact KD.out) | (with_reducible exact nh_next b1 (by assumption)))
          (first | (go_at_call 108; (with_reducible refine Calls.mono (M.out _ ?_) ?_); (exact (by assumption : Nh w _ b off _ w.heap.size m).2.2.2.2.2.2.2.2.2.2.2.2.out.1); rintro e w' ⟨rfl, b1⟩))
        rename_i hHeld
        go_wp2_with fail
        go_ret
        exact ⟨rfl, hHeld.2.2.2.2.2.2.2.2.2.2.2.2.out.1⟩
end Go.Proofs.YtpnllbojifnopaaGreatDoor

/- Parts, depth and places of a pattern's nodes: the program's. -/
namespace Go.Proofs.YtpnllbojifnopaaGreatDoor
open Go Go.RowKit Pk Rl
set_option maxRecDepth 20000

theorem pgetD_mem (L : List (List Nd)) (k : Nat) (h : k < L.length) : L.getD k [] ∈ L := by
  rw [List.getD_eq_getElem?_getD, List.getElem?_eq_getElem h]; exact List.getElem_mem _
theorem ptake_snoc (L : List (List Nd)) (j : Nat) (h : j < L.length) : L.take (j + 1) = L.take j ++ [L.getD j []] := by
  rw [List.take_succ_eq_append_getElem h, List.getD_eq_getElem?_getD, List.getElem?_eq_getElem h]; rfl
theorem pgetD_app (L : List (List Nd)) (l : List Nd) (i : Nat) (h : i < L.length) : (L ++ [l]).getD i [] = L.getD i [] := by
  simp [List.getD_eq_getElem?_getD, List.getElem?_append_left h]
theorem pgetD_last (L : List (List Nd)) (l : List Nd) : (L ++ [l]).getD L.length [] = l := by simp [List.getD_eq_getElem?_getD]
/- a slice in a box of its own -/
def SBox (w : World) (g : Nat) (v : Value) : Prop := w.heap[g]? = some (.cells #[v] 178 (0, 0))
theorem SBox.cell {w : World} {g : Nat} {v : Value} (h : SBox w g v) : w.cell? ⟨g, 0, none⟩ = some v := by rw [cell_of_row w g 0 _ _ _ h]; rfl
theorem SBox.free {w : World} {g : Nat} {v : Value} (h : SBox w g v) (j : Nat) : w.frozen? ⟨g, j, none⟩ = false := by
  simp [World.frozen?, SBox] at h ⊢
  simp [h]
theorem SBox.lt {w : World} {g : Nat} {v : Value} (h : SBox w g v) : g < w.heap.size := World.block_lt_of_cell? _ _ h.cell
theorem SBox.below {B : Nat} {w w' : World} {g : Nat} {v : Value} (h : SBox w g v) (hb : Below B w w') (hB : g < B) : SBox w' g v := by unfold SBox; rw [hb.block g hB]; exact h
theorem SBox.set {w : World} {g : Nat} {v : Value} (h : SBox w g v) (v' : Value) : SBox (w.setCell ⟨g, 0, none⟩ v') g v' := by
  unfold SBox
  rw [heap_setCell_same w g 0 _ _ _ h]
  rfl
theorem SBox.start (w : World) (v : Value) : SBox (w.alloc (.cells #[v] 178)) w.heap.size v := heap_alloc_new w _
/- rows of parts: each is a slice of the pattern's own nodes -/
def PS (w0 : World) (L : List (List Nd)) (cs : List Value) : Prop := cs.length = L.length ∧ ∀ i, i < L.length → ∃ A C, cs[i]? = some (.slice A (L.getD i []).length C) ∧ Pt w0 A (L.getD i []).length C (L.getD i [])
def OwnP (w0 w : World) (B : Nat) (v : Value) (L : List (List Nd)) : Prop := ∃ cs, w.ownsRow B 26 1 v L.length cs ∧ PS w0 L cs
theorem rowP_below {w w' : World} {B n : Nat} {v : Value} {cs : List Value} (h : w.ownsRow B 26 1 v n cs) (hb : Below w.heap.size w w') : w'.ownsRow B 26 1 v n cs := by
  refine ⟨h.1, ?_⟩
  rcases h.2 with h0 | ⟨g, cap, cur, hv, hg, hh, r⟩
  · exact .inl h0
  · refine .inr ⟨g, cap, cur, hv, hg, ?_, r⟩
    rw [hb.block g ?_]
    · exact hh
    · rcases Nat.lt_or_ge g w.heap.size with h1 | h1
      · exact h1
      · rw [Array.getElem?_eq_none h1] at hh; cases hh
theorem rowP_set {w : World} {B n : Nat} {v : Value} {cs : List Value} (h : w.ownsRow B 26 1 v n cs) (g : Nat) (hg : g < B) (x : Value) : (w.setCell ⟨g, 0, none⟩ x).ownsRow B 26 1 v n cs := by
  refine ⟨h.1, ?_⟩
  rcases h.2 with h0 | ⟨r, cap, cur, hv, hr, hh, t⟩
  · exact .inl h0
  · refine .inr ⟨r, cap, cur, hv, hr, ?_, t⟩
    rw [heap_setCell_other w ⟨g, 0, none⟩ r x (by show r ≠ g; omega)]
    exact hh
theorem OwnP.below {w0 w w' : World} {B : Nat} {v : Value} {L : List (List Nd)} (h : OwnP w0 w B v L) (hb : Below w.heap.size w w') : OwnP w0 w' B v L := by
  obtain ⟨cs, h1, h2⟩ := h
  exact ⟨cs, rowP_below h1 hb, h2⟩
theorem OwnP.set {w0 w : World} {B : Nat} {v : Value} {L : List (List Nd)} (h : OwnP w0 w B v L) (g : Nat) (hg : g < B) (x : Value) : OwnP w0 (w.setCell ⟨g, 0, none⟩ x) B v L := by
  obtain ⟨cs, h1, h2⟩ := h
  exact ⟨cs, rowP_set h1 g hg x, h2⟩
theorem OwnP.nil (w0 w : World) (B : Nat) : OwnP w0 w B (.slice none 0 0) [] := ⟨[], World.ownsRow_nil w B 26 1, rfl, fun i hi => absurd hi (by simp)⟩
theorem infoP : ∃ i, Tryz.prog.info? 26 = some i ∧ i.zero = some (.slice none 0 0) ∧ i.size = 1 ∧ i.bytes = 24 :=
  ⟨(Tryz.prog.info? 26).get (by kernel_rfl), by kernel_rfl, by kernel_rfl, by kernel_rfl, by kernel_rfl⟩
/- rows of parts, wherever they lie -/
def Prow (w0 w : World) (A : Option Addr) (L : List (List Nd)) : Prop := ∀ i, i < L.length → ∃ b off A' C, A = some ⟨b, off, none⟩ ∧ w.cell? ⟨b, off + i, none⟩ = some (.slice A' (L.getD i []).length C) ∧ Pt w0 A' (L.getD i []).length C (L.getD i [])
theorem Prow.below {w0 w w' : World} {A : Option Addr} {L : List (List Nd)} (h : Prow w0 w A L) (hb : Below w.heap.size w w') : Prow w0 w' A L := fun i hi => by
  obtain ⟨b, off, A', C, e, hc, hy⟩ := h i hi
  exact ⟨b, off, A', C, e, (hb.cell (p := ⟨b, off + i, none⟩) (World.block_lt_of_cell? _ _ hc)).trans hc, hy⟩
theorem OwnP.form {w0 w : World} {B : Nat} {v : Value} {L : List (List Nd)} (h : OwnP w0 w B v L) : ∃ A c, v = .slice A L.length c ∧ Prow w0 w A L := by
  obtain ⟨cs, h1, h2, h3⟩ := h
  rcases h1.2 with ⟨rfl, h0⟩ | ⟨g, cap, cur, rfl, _⟩
  · have : L = [] := List.eq_nil_of_length_eq_zero h0
    subst this
    exact ⟨none, 0, rfl, fun i hi => absurd hi (by simp)⟩
  · refine ⟨_, _, rfl, fun i hi => ?_⟩
    obtain ⟨A, C, e, o⟩ := h3 i hi
    have := World.ownsRow.cells h1 (g := g) rfl i _ e
    rw [add_plain] at this
    exact ⟨g, 0, A, C, rfl, this, o⟩
theorem wp_appp {ops : Array Oper} {rest : List Oper} {o : Oper} {a : Act} {Q : Exit → Act → World → Prop} (s x : Operand) (w0 w : World) (hgd : o.guard = none)
    (hop : o.op = .call { callee := .builtin .append, args := #[s, x], argTypes := #[178, 178] })
    (B : Nat) (v : Value) (L : List (List Nd)) (hs : a.eval s = v) (ho : OwnP w0 w B v L) (ad : Addr) (hx : a.eval x = .slice (some ad) 1 1) (A : Option Addr) (n C : Nat) (l : List Nd) (hc : w.cell? ad = some (.slice A n C)) (hl : Pt w0 A n C l)
    (hlen : L.length ≤ 100000) (hB : B ≤ w.heap.size)
    (k : Nat) (hk : L.length + 1 = k)
    (h : ∀ A' c' w', OwnP w0 w' B (.slice A' k c') (L ++ [l]) → Below B w w' → wpList Tryz.prog ops Q rest (a.put o.dst (.slice A' k c')) w') : wpList Tryz.prog ops Q (o :: rest) a w := by
  refine wpList_plain hgd fun K hK => ?_
  obtain ⟨i, hi, hz, hsz, hy⟩ := infoP
  obtain ⟨cs, h1, h2, h3⟩ := ho
  obtain ⟨v', w', hrun, r2, r3, _, _⟩ := run_append_own_at (P := Tryz.prog) w B 178 o.type 26 i (.slice none 0 0) 1 24 Tryz.underlying178 hi hz hsz hy rfl (by omega) v L.length cs h1 ad 1 1 [.slice A n C] rfl
    (fun j u hj => by
      rcases j with _ | j
      · simp at hj; subst hj
        have : ad.add 0 = ad := by obtain ⟨b, off, sp⟩ := ad; cases sp <;> simp [Addr.add]
        rw [this]; exact hc
      · simp at hj)
    (fun u hu => by simp at hu; subst hu; rfl) (by unfold maxLen; omega) (by omega) hB
  have hO : OwnP w0 w' B v' (L ++ [l]) := by
    refine ⟨cs ++ [.slice A n C], by rw [List.length_append]; exact r2, by simp [h2], fun j hj => ?_⟩
    rw [List.length_append, List.length_singleton] at hj
    by_cases hjl : j < L.length
    · obtain ⟨A', C', e, o'⟩ := h3 j hjl
      rw [pgetD_app L l j hjl]
      exact ⟨A', C', by rw [List.getElem?_append_left (by omega)]; exact e, o'⟩
    · obtain rfl : j = L.length := by omega
      rw [pgetD_last, hl.len]
      exact ⟨A, C, by rw [← h2]; simp, hl⟩
  obtain ⟨A', c', rfl, _⟩ := hO.form
  have ek : (L ++ [l]).length = k := by rw [List.length_append, List.length_singleton, hk]
  rw [ek] at hO hrun
  unfold Oper.wp
  simp [execOp, hop, resolve, invoke, builtin, hs, hx, hrun, Result.andThen]
  exact hK _ _ (h A' c' w' hO ((Below.refl _ _).grown r3 hB (fun k hk => (World.ownsRow.lt h1 k hk).1)))
set_option maxHeartbeats 2000000 in
theorem parts1_any (w0 w1 : World) (g : Nat) (D : List (List Nd)) (hd : D.length ≤ 1000) (p : List Nd) (A : Option Addr) (n c : Nat) (v : Value) (w : World) (hbox : SBox w g v) (hO : OwnP w0 w (g + 1) v D) (hP : Pt w0 A n c p) (hB : Below w1.heap.size w1 w) (hg : w1.heap.size ≤ g) :
    Calls Tryz.prog 111 #[.slice A n c, .pointer (some ⟨g, 0, none⟩)] w fun e w' => e = .returned (.bool true) ∧ (∃ v', SBox w' g v' ∧ OwnP w0 w' (g + 1) v' (D ++ [p])) ∧ Below w1.heap.size w1 w' := by
  have hc := hbox.cell
  have hlt := hbox.lt
  have HX := Lib.hid (hbox.below (below_alloc w (.cells #[.slice A n c] 26)) hlt)
  have HO := Lib.hid (hO.below (below_alloc w (.cells #[.slice A n c] 26)))
  have HB := Lib.hid (show Below w1.heap.size w1 (w.alloc (.cells #[.slice A n c] 26)) from hB.alloc hB.size _)
  have HP := Lib.hid hP
  have hcell : (w.alloc (.cells #[.slice A n c] 26)).cell? ⟨w.heap.size, 0, none⟩ = some (.slice A n c) := by simp [go_sem]
  have HC := Lib.hid hcell
  clear hbox hO hP hB hcell
  go_enter Tryz.func111, Tryz.ntmps111
  go_wp2_with (at_builtin; refine wp_appp (.tmp 4) (.tmp 6) w0 _ (by rfl) (by rfl) (g + 1) v D (by rfl) HO.out _ (by rfl) A n c p HC.out HP.out (by omega) (by rw [World.size_alloc]; omega) (D.length + 1) rfl ?_; intro A1 c1 w' hO' hb'; have X2 := Lib.hid (HX.out.below hb' (by omega)); have O2 := Lib.hid (hO'.set g (by omega) (.slice A1 (D.length + 1) c1)); have B2 := Lib.hid ((HB.out.trans (hb'.mono (by omega))).setCell (p := ⟨g, 0, none⟩) (by exact hg) (.slice A1 (D.length + 1) c1)); have fr := X2.out.free 0; have lt2 := X2.out.lt; have c2 := X2.out.cell; clear hO' hb')
  go_ret
  exact ⟨rfl, ⟨_, X2.out.set _, O2.out⟩, B2.out⟩
set_option maxHeartbeats 2000000 in
theorem parts_any (w0 : World) (a : Option Addr) (n c : Nat) (L : List Nd) (w : World) (hP : Pt w0 a n c L) (h01 : Below w0.heap.size w0 w) :
    Calls Tryz.prog 81 #[.slice a n c] w fun e w' => (∃ A C, e = .returned (.slice A (pts L).length C) ∧ Prow w0 w' A (pts L)) ∧ Below w.heap.size w w' := by
  have B0 := Lib.hid (below_alloc w (.cells #[.slice none 0 0] 178))
  have O := Lib.hid (ofp_parts (fun _ => true) (fun W D => ∃ v, SBox W w.heap.size v ∧ OwnP w0 W (w.heap.size + 1) v D) w0 w h01 w.heap.size n
    (Lib.hid fun D p A n' c' W hJ hPp _ hnn hD hB => by
      obtain ⟨v, h1, h2⟩ := hJ
      refine (parts1_any w0 w w.heap.size D hD p A n' c' v W h1 h2 hPp hB (Nat.le_refl _)).mono ?_
      rintro e w' ⟨rfl, h2, h3⟩
      exact ⟨rfl, fun _ => h2, h3⟩)
    a n c L _ hP (Nat.le_refl _) ⟨_, SBox.start w _, OwnP.nil _ _ _⟩ B0.out)
  have HE := Lib.hid (show ofp (fun _ => true) L = false → pts L = [] from fun h => by
    by_cases h0 : frn L = []
    · unfold pts; rw [h0, List.tail_nil, spl_nil]; rfl
    · rw [ofp_cons h0] at h
      unfold pts
      rcases hs : spl (frn L).tail with _ | ps
      · rfl
      · rw [hs] at h; simp at h)
  generalize ofp (fun _ => true) L = b at O HE
  clear hP
  generalize pts L = R at O HE
  go_enter Tryz.func81, Tryz.ntmps81
  go_wp2_with fail
  refine O.out.mono ?_
  rintro e w2 ⟨rfl, hJ, hB⟩
  have HJ := Lib.hid hJ
  have B2 := Lib.hid hB
  clear hJ hB O
  cases b
  · have e0 : R = [] := HE.out (by first | rfl | trivial)
    subst e0
    go_wp2_with fail
    go_ret
    exact ⟨⟨none, 0, rfl, fun i hi => absurd hi (by simp)⟩, B2.out⟩
  · obtain ⟨v, h1, h2⟩ := HJ.out (by first | rfl | trivial)
    obtain ⟨A, C, rfl, h3⟩ := h2.form
    have c1 := h1.cell
    have H3 := Lib.hid h3
    clear h1 h2 h3 HE HJ
    go_wp2_with fail
    go_ret
    exact ⟨⟨A, C, rfl, H3.out⟩, B2.out⟩
set_option maxHeartbeats 2000000 in
theorem depth_any (k : Nat) (hk : k ≤ 2000) : ∀ (a : Option Addr) (n c : Nat) (L : List Nd) (w : World), n < k → Pt w a n c L →
    Calls Tryz.prog 79 #[.slice a n c] w fun e w' => e = .returned (.int .i64 (dpt k L)) ∧ Below w.heap.size w w' := by
  induction k with
  | zero => intro a n c L w h; exact absurd h (by omega)
  | succ k ih =>
    intro a n c L w hn hP
    have IH := Lib.hid (ih (by omega))
    clear ih
    have PA := Lib.hid (parts_any w a n c L w hP (Below.refl _ _))
    have MEM := Lib.hid (show ∀ p ∈ pts L, p.length < k from fun p hp => by have := (pts_mem p hp).2.2.1; have := hP.len; omega)
    have PL := Lib.hid (show (pts L).length ≤ 1000 by have := pts_len L; have := hP.len; have := hP.few; omega)
    have HB := Lib.hid (fun p => dpt_pos k p)
    have E : dpt (k + 1) L = (pts L).foldl (fun m p => max m (1 + dpt k p)) 0 := rfl
    rw [E]
    clear E hP hn
    generalize pts L = R at PA MEM PL
    obtain ⟨q, hq⟩ : ∃ q, R.length = q := ⟨_, rfl⟩
    obtain ⟨r, hr⟩ : ∃ r, R.foldl (fun m p => max m (1 + dpt k p)) 0 = r := ⟨_, rfl⟩
    rw [hr]
    rw [hq] at PA PL
    have HQ := Lib.hid hq
    have HR := Lib.hid hr
    clear hq hr
    go_enter Tryz.func79, Tryz.ntmps79
    go_wp2_with fail
    refine PA.out.mono ?_
    rintro e w2 ⟨⟨A, C, rfl, hr⟩, hb⟩
    have HW := Lib.hid hr
    have B2 := Lib.hid hb
    have hql := PL.out
    clear hr hb PA
    go_wp2_with fail
    go_loopw [3, 9] (fun v3 v9 W => ∃ (m : Int) (i : Nat), v3 = .int .i64 m ∧ v9 = .int .i64 (i : Int) ∧ i ≤ q ∧ Hid (m = (R.take i).foldl (fun m p => max m (1 + dpt k p)) 0 ∧ Prow w W A R ∧ Below w.heap.size w W)) (fun _ v9 _ => q - (intOf v9).toNat)
    case atStart => exact ⟨0, 0, rfl, rfl, by omega, Lib.hid ⟨rfl, HW.out, B2.out⟩⟩
    case round =>
      obtain ⟨m, i, rfl, rfl, hi, H⟩ := hrel
      have HM := Lib.hid H.out.1
      have HW1 := Lib.hid H.out.2.1
      have B1 := Lib.hid H.out.2.2
      clear H HW B2
      by_cases ci : i < q
      · obtain ⟨b, off, A', C', rfl, hcell, hpt⟩ := HW1.out i (by have := HQ.out; omega)
        have HG := Lib.hid (show (R.getD i []).length < k from MEM.out _ (pgetD_mem R i (by have := HQ.out; omega)))
        have TS := Lib.hid (ptake_snoc R i (by have := HQ.out; omega))
        obtain ⟨p, hp⟩ : ∃ p, R.getD i [] = p := ⟨_, rfl⟩
        rw [hp] at hcell hpt HG TS
        clear hp
        obtain ⟨pl, hpl⟩ : ∃ pl, p.length = pl := ⟨_, rfl⟩
        rw [hpl] at hcell hpt HG
        have I := Lib.hid (IH.out A' pl C' p wr HG.out (hpt.below B1.out))
        obtain ⟨x, hx⟩ : ∃ x, dpt k p = x := ⟨_, rfl⟩
        have HX := Lib.hid (HB.out p)
        have TX := Lib.hid (show (R.take (i + 1)).foldl (fun m p => max m (1 + dpt k p)) 0 = max m (1 + x) by rw [TS.out, List.foldl_append, List.foldl_cons, List.foldl_nil, ← HM.out, hx])
        rw [hx] at I HX
        clear hx hpt hpl TS HM
        have x0 : 0 ≤ x := HX.out.1
        have x1 : x ≤ 2000 := by have := HX.out.2; omega
        go_wp2_with fail
        refine I.out.mono ?_
        rintro e w3 ⟨rfl, hb⟩
        have B3 := Lib.hid (below_go B1.out hb)
        have HW3 := Lib.hid (HW1.out.below hb)
        clear hb I HW1 B1 hcell
        go_wp2_with fail
        go_roundw
        case rel => exact ⟨_, i + 1, rfl, by go_num, by omega, Lib.hid ⟨TX.out.symm, HW3.out, B3.out⟩⟩
        case measure => simp [intOf]; omega
      · obtain rfl : i = q := by omega
        have EM := Lib.hid (show m = r by rw [HM.out, ← HR.out, List.take_of_length_le (by have := HQ.out; omega)])
        have em := EM.out
        subst em
        go_wp2_with fail
        go_ret
        exact ⟨rfl, B1.out⟩
end Go.Proofs.YtpnllbojifnopaaGreatDoor

/- Contracts, joined: TrG, TrH. -/
/- places, asksWrong, ContainsFunc: the program's. -/
namespace Go.Proofs.YtpnllbojifnopaaGreatDoor
open Go Go.RowKit Pk Rl
set_option maxRecDepth 20000

set_option maxHeartbeats 2000000 in
theorem places_any (k : Nat) : ∀ (a : Option Addr) (n c : Nat) (L : List Nd) (w : World), n < k → L ≠ [] → Pt w a n c L →
    Calls Tryz.prog 80 #[.slice a n c] w fun e w' => e = .returned (.int .i64 (plc k L)) ∧ Below w.heap.size w w' := by
  induction k with
  | zero => intro a n c L w h; exact absurd h (by omega)
  | succ k ih =>
    intro a n c L w hn hne hP
    rcases L with _ | ⟨nd, r0⟩
    · exact absurd rfl hne
    · have IH := Lib.hid ih
      clear ih
      obtain ⟨b, off, rfl, hat⟩ := hP.row 0 (by simp)
      simp only [Nat.zero_mul, Nat.add_zero, List.getD_cons_zero] at hat
      have PA := Lib.hid (fun W (hW : Below w.heap.size w W) => parts_any w (some ⟨b, off, none⟩) n c (nd :: r0) W hP hW)
      have l1 : (0 : Int) < (n : Int) := by have := hP.len; simp at this; omega
      have l2 : 0 < n := by omega
      have MEM := Lib.hid (show ∀ p ∈ pts (nd :: r0), p.length < k ∧ p ≠ [] from fun p hp => by have := (pts_mem p hp).2.2.1; have := hP.len; exact ⟨by omega, (pts_mem p hp).1⟩)
      have PL := Lib.hid (show (pts (nd :: r0)).length ≤ 1000 by have := pts_len (nd :: r0); have := hP.len; have := hP.few; omega)
      have NK := hP.ok nd (by simp)
      have hk0 := NK.k0
      have hk1 := NK.k1
      have hh0 := NK.h0
      have hh1 := NK.h1
      have A1 := Lib.hid (Atn.alloc w nd)
      have B1 := Lib.hid (below_alloc w (nobj nd))
      obtain ⟨r, hr⟩ : ∃ r, plc (k + 1) (nd :: r0) = r := ⟨_, rfl⟩
      rw [hr]
      have HR : Hid ((if nd.k = 1 then (1 : Int) else if nd.k = 4 then wrap64 ((pts (nd :: r0)).foldl (fun m p => wrap64 (m + plc k p)) 0 * nd.hi) else (pts (nd :: r0)).foldl (fun m p => wrap64 (m + plc k p)) 0) = r) := Lib.hid hr
      clear hr hP hn hne NK
      generalize pts (nd :: r0) = R at PA MEM PL HR
      obtain ⟨q, hq⟩ : ∃ q, R.length = q := ⟨_, rfl⟩
      rw [hq] at PA PL
      have HQ := Lib.hid hq
      clear hq
      obtain ⟨f, hf⟩ : ∃ f, R.foldl (fun m p => wrap64 (m + plc k p)) 0 = f := ⟨_, rfl⟩
      rw [hf] at HR
      have HF := Lib.hid hf
      clear hf
      obtain ⟨kk, ⟨x, t, a', qn, c', L'⟩, y, ⟨x2, t2, a2, q2, c2, L2⟩, lo, hi, s⟩ := nd
      simp only at HR hk0 hk1 hh0 hh1 hat
      obtain ⟨e0, e1, e2, e3, e4, e5, e6, e7, e8, e9, e10⟩ := hat
      simp only at e0 e1 e2 e3 e4 e5 e6 e7 e8 e9 e10
      by_cases k1 : kk = 1
      · subst k1
        have HR1 := HR.out
        rw [if_pos rfl] at HR1
        subst HR1
        clear IH PA MEM PL HF
        go_enter Tryz.func80, Tryz.ntmps80
        go_wp2_with fail
        go_ret
        exact ⟨rfl, B1.out⟩
      · have kb1 := ne_beq k1
        have HR2 := Lib.hid (HR.out)
        rw [if_neg k1] at HR2
        clear HR
        have kz : ∃ z, (kk == 4) = z := ⟨_, rfl⟩
        obtain ⟨z, hz⟩ := kz
        have HZ := Lib.hid (show (if z = true then wrap64 (f * hi) else f) = r by
          rw [← HR2.out]
          by_cases k4 : kk = 4
          · rw [if_pos k4, if_pos (by rw [← hz]; simp [k4])]
          · rw [if_neg k4, if_neg (by rw [← hz]; simp [k4])])
        clear HR2 k1
        go_enter Tryz.func80, Tryz.ntmps80
        go_wp2_with fail
        refine (PA.out _ B1.out).mono ?_
        rintro e w2 ⟨⟨A, C, rfl, hr⟩, hb⟩
        have HW := Lib.hid hr
        have B2 := Lib.hid (below_go B1.out hb)
        have A2 := Lib.hid (A1.out.below hb A1.out.lt)
        have hql := PL.out
        clear hr hb PA e0 e1 e2 e3 e4 e5 e6 e7 e8 e9 e10
        go_wp2_with fail
        go_loopw [4, 16] (fun v4 v16 W => ∃ (m : Int) (i : Nat), v4 = .int .i64 m ∧ v16 = .int .i64 (i : Int) ∧ i ≤ q ∧ Hid (m = (R.take i).foldl (fun m p => wrap64 (m + plc k p)) 0 ∧ Prow w W A R ∧ Below w.heap.size w W ∧ Atn W w.heap.size 0 ⟨kk, ⟨x, t, a', qn, c', L'⟩, y, ⟨x2, t2, a2, q2, c2, L2⟩, lo, hi, s⟩)) (fun _ v16 _ => q - (intOf v16).toNat)
        case atStart => exact ⟨0, 0, rfl, rfl, by omega, Lib.hid ⟨rfl, HW.out, B2.out, A2.out⟩⟩
        case round =>
          obtain ⟨m, i, rfl, rfl, hi', H⟩ := hrel
          have HM := Lib.hid H.out.1
          have HW1 := Lib.hid H.out.2.1
          have B1' := Lib.hid H.out.2.2.1
          have A1' := Lib.hid H.out.2.2.2
          clear H HW B2 A2 A1 B1
          by_cases ci : i < q
          · obtain ⟨b', off', A', C', rfl, hcell, hpt⟩ := HW1.out i (by have := HQ.out; omega)
            have HG := Lib.hid (MEM.out _ (pgetD_mem R i (by have := HQ.out; omega)))
            have TS := Lib.hid (ptake_snoc R i (by have := HQ.out; omega))
            obtain ⟨p, hp⟩ : ∃ p, R.getD i [] = p := ⟨_, rfl⟩
            rw [hp] at hcell hpt HG TS
            clear hp
            obtain ⟨pl, hpl⟩ : ∃ pl, p.length = pl := ⟨_, rfl⟩
            rw [hpl] at hcell hpt HG
            have I := Lib.hid (IH.out A' pl C' p wr HG.out.1 HG.out.2 (hpt.below B1'.out))
            obtain ⟨u, hu⟩ : ∃ u, plc k p = u := ⟨_, rfl⟩
            have TX := Lib.hid (show (R.take (i + 1)).foldl (fun m p => wrap64 (m + plc k p)) 0 = wrap64 (m + u) by rw [TS.out, List.foldl_append, List.foldl_cons, List.foldl_nil, ← HM.out, hu])
            rw [hu] at I
            clear hu hpt hpl TS HM
            go_wp2_with fail
            refine I.out.mono ?_
            rintro e w3 ⟨rfl, hb⟩
            have B3 := Lib.hid (below_go B1'.out hb)
            have HW3 := Lib.hid (HW1.out.below hb)
            have A3 := Lib.hid (A1'.out.below hb A1'.out.lt)
            clear hb I HW1 B1' A1' hcell
            go_wp2_with fail
            go_roundw
            case rel => exact ⟨_, i + 1, rfl, by go_num, by omega, Lib.hid ⟨TX.out.symm, HW3.out, B3.out, A3.out⟩⟩
            case measure => simp [intOf]; omega
          · obtain rfl : i = q := by omega
            have EM := Lib.hid (show m = f by rw [HM.out, ← HF.out, List.take_of_length_le (by have := HQ.out; omega)])
            have em := EM.out
            subst em
            obtain ⟨e0, e1, e2, e3, e4, e5, e6, e7, e8, e9, e10⟩ := A1'.out
            simp only at e0 e9
            have HZ1 := HZ.out
            clear HZ e1 e2 e3 e4 e5 e6 e7 e8 e10 HM HW1 EM
            cases z
            · rw [if_neg (by simp)] at HZ1
              subst HZ1
              go_wp2_with fail
              go_ret
              exact ⟨rfl, B1'.out⟩
            · rw [if_pos rfl] at HZ1
              subst HZ1
              go_wp2_with fail
              go_ret
              exact ⟨rfl, B1'.out⟩
end Go.Proofs.YtpnllbojifnopaaGreatDoor

/- May, Places, Depth: the program's. -/
namespace Go.Proofs.YtpnllbojifnopaaGreatDoor
open Go Go.RowKit Pk Rl
set_option maxRecDepth 20000

def bad (n : Nd) : Bool := !pmay n.p.x n.p.t n.p.L || !pmay n.g.x n.g.t n.g.L
set_option maxHeartbeats 1000000 in
theorem asks_any (nd : Nd) (w : World) (h : Nok w nd) (hT : Tab w) :
    Calls Tryz.prog 78 #[nOf nd] w fun e w' => e = .returned (.bool (bad nd)) ∧ Below w.heap.size w w' := by
  have A0 := Lib.hid (Atn.alloc w nd)
  have B0 := Lib.hid (below_alloc w (nobj nd))
  have M1 := Lib.hid (fun W (hW : Below w.heap.size w W) => pmay_any nd.p.x nd.p.t nd.p.a nd.p.n nd.p.c nd.p.L W h.p.len (by have := h.p.few; omega) (h.p.row.below hW) h.p.ok (hT.below hW))
  have M2 := Lib.hid (fun W (hW : Below w.heap.size w W) => pmay_any nd.g.x nd.g.t nd.g.a nd.g.n nd.g.c nd.g.L W h.g.len (by have := h.g.few; omega) (h.g.row.below hW) h.g.ok (hT.below hW))
  unfold bad
  clear h hT
  generalize pmay nd.p.x nd.p.t nd.p.L = r1 at M1
  generalize pmay nd.g.x nd.g.t nd.g.L = r2 at M2
  obtain ⟨kk, ⟨x, t, a', qn, c', L'⟩, y, ⟨x2, t2, a2, q2, c2, L2⟩, lo, hi, s⟩ := nd
  go_enter Tryz.func78, Tryz.ntmps78
  go_wp2_with fail
  refine (M1.out _ B0.out).mono ?_
  rintro e w2 ⟨rfl, hb⟩
  have B2 := Lib.hid (below_go B0.out hb)
  obtain ⟨e0, e1, e2, e3, e4, e5, e6, e7, e8, e9, e10⟩ := A0.out.below hb A0.out.lt
  simp only at e5 e6 e7
  clear hb e0 e1 e2 e3 e4 e8 e9 e10 M1 A0 B0
  cases r1
  · go_wp2_with fail
    go_ret
    exact ⟨rfl, B2.out⟩
  · go_wp2_with fail
    refine (M2.out _ B2.out).mono ?_
    rintro e w3 ⟨rfl, hb⟩
    have B3 := Lib.hid (below_go B2.out hb)
    clear hb
    go_wp2_with fail
    go_ret
    exact ⟨rfl, B3.out⟩
set_option maxHeartbeats 2000000 in
theorem index_any (a : Option Addr) (n c : Nat) (L : List Nd) (w : World) (hP : Pt w a n c L) (hT : Tab w) :
    Calls Tryz.prog 109 #[.slice a n c, .func (.func 78) #[] #[]] w fun e w' => (∃ i : Int, e = .returned (.int .i64 i) ∧ decide (0 ≤ i) = L.any bad) ∧ Below w.heap.size w w' := by
  have HP := Lib.hid hP
  have HT := Lib.hid hT
  have hfew := hP.few
  clear hP hT
  go_enter Tryz.func109, Tryz.ntmps109
  go_wp2_with fail
  go_loopw [8] (fun v8 W => ∃ (i : Nat), v8 = .int .i64 (i : Int) ∧ i ≤ n ∧ Hid (Below w.heap.size w W ∧ (L.take i).any bad = false)) (fun v8 _ => n - (intOf v8).toNat)
  case atStart => exact ⟨0, rfl, by omega, Lib.hid ⟨Below.refl _ _, rfl⟩⟩
  case round =>
    obtain ⟨i, rfl, hi, H⟩ := hrel
    have B1 := Lib.hid H.out.1
    have HD := Lib.hid H.out.2
    clear H
    by_cases ci : i < n
    · obtain ⟨b, off, rfl, hat⟩ := (HP.out.row.below B1.out) i (by have := HP.out.len; omega)
      have S := Lib.hid (asks_any (L.getD i nz) wr ((HP.out.ok _ (ngetD_mem L i (by have := HP.out.len; omega))).below B1.out) (HT.out.below B1.out))
      have TS := Lib.hid (show L.take (i + 1) = L.take i ++ [L.getD i nz] by
        rw [List.take_succ_eq_append_getElem (by have := HP.out.len; omega), List.getD_eq_getElem?_getD, List.getElem?_eq_getElem (by have := HP.out.len; omega)]; rfl)
      have ME := Lib.hid (ngetD_mem L i (by have := HP.out.len; omega))
      obtain ⟨nd, hnd⟩ : ∃ nd, L.getD i nz = nd := ⟨_, rfl⟩
      rw [hnd] at S hat TS ME
      obtain ⟨z, hz⟩ : ∃ z, bad nd = z := ⟨_, rfl⟩
      rw [hz] at S
      have HZ := Lib.hid hz
      clear hnd hz
      have TA := Lib.hid (show z = false → (L.take (i + 1)).any bad = false from fun h => by rw [TS.out, List.any_append, HD.out, List.any_cons, HZ.out, h]; rfl)
      have TB := Lib.hid (show z = true → L.any bad = true from fun h => List.any_eq_true.2 ⟨nd, ME.out, by rw [HZ.out, h]⟩)
      obtain ⟨kk, ⟨x, t, a', qn, c', L'⟩, y, ⟨x2, t2, a2, q2, c2, L2⟩, lo, hi', s⟩ := nd
      obtain ⟨e0, e1, e2, e3, e4, e5, e6, e7, e8, e9, e10⟩ := hat
      simp only at e0 e1 e2 e3 e4 e5 e6 e7 e8 e9 e10
      clear TS HD
      go_wp2_with fail
      refine S.out.mono ?_
      rintro e w2 ⟨rfl, hb⟩
      have B2 := Lib.hid (below_go B1.out hb)
      clear hb e0 e1 e2 e3 e4 e5 e6 e7 e8 e9 e10 S B1
      cases z
      · go_wp2_with fail
        go_roundw
        case rel => exact ⟨i + 1, by go_num, by omega, Lib.hid ⟨B2.out, TA.out (by first | rfl | trivial)⟩⟩
        case measure => simp [intOf]; omega
      · go_wp2_with fail
        go_ret
        exact ⟨⟨_, rfl, by rw [TB.out (by first | rfl | trivial)]; simp⟩, B2.out⟩
    · obtain rfl : i = n := by omega
      have E := Lib.hid (show L.any bad = false by have := HD.out; rwa [List.take_of_length_le (by have := HP.out.len; omega)] at this)
      go_wp2_with fail
      go_ret
      exact ⟨⟨_, rfl, by rw [E.out]; rfl⟩, B1.out⟩
set_option maxHeartbeats 1000000 in
theorem contains_any (a : Option Addr) (n c : Nat) (L : List Nd) (w : World) (hP : Pt w a n c L) (hT : Tab w) :
    Calls Tryz.prog 77 #[.slice a n c, .func (.func 78) #[] #[]] w fun e w' => e = .returned (.bool (L.any bad)) ∧ Below w.heap.size w w' := by
  have I := Lib.hid (index_any a n c L w hP hT)
  generalize L.any bad = r at I
  clear hP hT
  go_enter Tryz.func77, Tryz.ntmps77
  go_wp2_with fail
  refine I.out.mono ?_
  rintro e w2 ⟨⟨i, rfl, hi⟩, hb⟩
  have HI := Lib.hid hi
  have B2 := Lib.hid hb
  clear hi hb
  go_wp2_with fail
  go_ret
  exact ⟨ret_bool HI.out, B2.out⟩
def mp (L : List Nd) (win : Int) : Int :=
  if 32 < L.length then 12
  else if (frn L).length < L.length ∨ fmd 33 L = false then 2
  else if L.any bad = true then 1
  else if 8 < dpt 33 L then 16
  else if win < 1 ∨ 1048576 < win then 5
  else if 32 < plc 33 L then 4
  else 0
theorem fmd_ne {k : Nat} {l : List Nd} (h : fmd k l = true) : l ≠ [] := fun e => by
  subst e
  cases k with
  | zero => simp [fmd] at h
  | succ k => simp [fmd, ofp, frn] at h
abbrev ptv (a : Option Addr) (n c : Nat) (win : Int) : Value := .agg #[.slice a n c, .int .u64 win]
abbrev ptobj (a : Option Addr) (n c : Nat) (win : Int) : Obj := .cells #[.slice a n c, .int .u64 win] 28
/- a pattern in a box of its own -/
structure Pbx (w W : World) (g : Nat) (a : Option Addr) (n c : Nat) (win : Int) : Prop where
  c0 : W.cell? ⟨g, 0, none⟩ = some (.slice a n c)
  c1 : W.cell? ⟨g, 1, none⟩ = some (.int .u64 win)
  bel : Below w.heap.size w W
theorem Pbx.next {w W W' : World} {g : Nat} {a : Option Addr} {n c : Nat} {win : Int} (h : Pbx w W g a n c win) (hb : Below W.heap.size W W') : Pbx w W' g a n c win :=
  ⟨by rw [hb.cell (World.block_lt_of_cell? _ _ h.c0)]; exact h.c0, by rw [hb.cell (World.block_lt_of_cell? _ _ h.c1)]; exact h.c1, below_go h.bel hb⟩
theorem Pbx.start (w : World) (a : Option Addr) (n c : Nat) (win : Int) : Pbx w (w.alloc (ptobj a n c win)) w.heap.size a n c win := ⟨by simp [go_sem], by simp [go_sem], below_alloc w _⟩
set_option maxHeartbeats 4000000 in
theorem tmay_any (a : Option Addr) (n c : Nat) (L : List Nd) (win : Int) (w : World) (hP : Pt w a n c L) (hT : Tab w) :
    Calls Tryz.prog 43 #[ptv a n c win] w fun e w' => e = .returned (.int .i64 (mp L win)) ∧ Below w.heap.size w w' := by
  have K0 := Lib.hid (Pbx.start w a n c win)
  have HN := Lib.hid hP.len
  have hfl := frn_len L
  have hll := hP.len
  have C1 := Lib.hid (fun W (hW : Below w.heap.size w W) => front_any a n c L W (hP.below hW))
  have C2 := Lib.hid (fun W (hW : Below w.heap.size w W) (h : n < 33) => formed_any 33 a n c L W h (hP.below hW))
  have C3 := Lib.hid (fun W (hW : Below w.heap.size w W) => contains_any a n c L W (hP.below hW) (hT.below hW))
  have C4 := Lib.hid (fun W (hW : Below w.heap.size w W) (h : n < 33) => depth_any 33 (by omega) a n c L W h (hP.below hW))
  have C5 := Lib.hid (fun W (hW : Below w.heap.size w W) (h : n < 33) (hne : L ≠ []) => places_any 33 a n c L W h hne (hP.below hW))
  have NE := Lib.hid (fun h : fmd 33 L = true => fmd_ne h)
  obtain ⟨r, hr⟩ : ∃ r, mp L win = r := ⟨_, rfl⟩
  rw [hr]
  unfold mp at hr
  rw [hll] at hr hfl
  obtain ⟨q, hq⟩ : ∃ q, (frn L).length = q := ⟨_, rfl⟩
  rw [hq] at hr hfl
  have HQ := Lib.hid hq
  have HR := Lib.hid hr
  clear hr hP hT hll hq
  generalize fmd 33 L = z1 at C2 HR NE
  generalize L.any bad = z2 at C3 HR
  generalize dpt 33 L = d at C4 HR
  generalize plc 33 L = pl at C5 HR
  by_cases c1 : 32 < n
  · have HR1 := HR.out
    rw [if_pos c1] at HR1
    subst HR1
    have c1' : (32 : Int) < (n : Int) := by omega
    clear C1 C2 C3 C4 C5 HR
    go_enter Tryz.func43, Tryz.ntmps43
    go_wp2_with fail
    go_ret
    exact ⟨rfl, K0.out.bel⟩
  · rw [if_neg c1] at HR
    have c1' : ¬ (32 : Int) < (n : Int) := by omega
    have n33 : Hid (n < 33) := Lib.hid (by omega)
    by_cases c2 : q < n
    · have HR1 := HR.out
      rw [if_pos (.inl c2)] at HR1
      subst HR1
      have c2' : (q : Int) < (n : Int) := by omega
      clear C2 C3 C4 C5 HR
      go_enter Tryz.func43, Tryz.ntmps43
      go_wp2_with fail
      refine (C1.out _ K0.out.bel).mono ?_
      rintro e w2 ⟨⟨A, C, rfl, _⟩, rfl⟩
      rw [HQ.out]
      go_wp2_with fail
      go_ret
      exact ⟨rfl, K0.out.bel⟩
    · have c2' : ¬ (q : Int) < (n : Int) := by omega
      go_enter Tryz.func43, Tryz.ntmps43
      go_wp2_with fail
      refine (C1.out _ K0.out.bel).mono ?_
      rintro e w2 ⟨⟨A, C, rfl, _⟩, rfl⟩
      rw [HQ.out]
      go_wp2_with fail
      refine (C2.out _ K0.out.bel n33.out).mono ?_
      rintro e w2 ⟨rfl, hb⟩
      have K2 := Lib.hid (K0.out.next hb)
      clear hb K0 C1 C2
      cases z1
      · have HR1 := HR.out
        rw [if_pos (.inr rfl)] at HR1
        subst HR1
        go_wp2_with fail
        go_ret
        exact ⟨rfl, K2.out.bel⟩
      · rw [if_neg (by simp [c2])] at HR
        go_wp2_with fail
        refine (C3.out _ K2.out.bel).mono ?_
        rintro e w3 ⟨rfl, hb⟩
        have K3 := Lib.hid (K2.out.next hb)
        clear hb K2 C3
        cases z2
        · rw [if_neg (by simp)] at HR
          go_wp2_with fail
          refine (C4.out _ K3.out.bel n33.out).mono ?_
          rintro e w4 ⟨rfl, hb⟩
          have K4 := Lib.hid (K3.out.next hb)
          clear hb K3 C4
          by_cases c4 : 8 < d
          · have HR1 := HR.out
            rw [if_pos c4] at HR1
            subst HR1
            go_wp2_with fail
            go_ret
            exact ⟨rfl, K4.out.bel⟩
          · rw [if_neg c4] at HR
            have g1 := K4.out.c1
            by_cases c5 : win < 1
            · have HR1 := HR.out
              rw [if_pos (.inl c5)] at HR1
              subst HR1
              go_wp2_with fail
              go_ret
              exact ⟨rfl, K4.out.bel⟩
            · by_cases c6 : 1048576 < win
              · have HR1 := HR.out
                rw [if_pos (.inr c6)] at HR1
                subst HR1
                go_wp2_with fail
                go_ret
                exact ⟨rfl, K4.out.bel⟩
              · rw [if_neg (by omega)] at HR
                have LN := Lib.hid (NE.out (by first | rfl | trivial))
                go_wp2_with fail
                refine (C5.out _ K4.out.bel n33.out LN.out).mono ?_
                rintro e w5 ⟨rfl, hb⟩
                have K5 := Lib.hid (K4.out.next hb)
                clear hb K4 C5
                by_cases c7 : 32 < pl
                · have HR1 := HR.out
                  rw [if_pos c7] at HR1
                  subst HR1
                  go_wp2_with fail
                  go_ret
                  exact ⟨rfl, K5.out.bel⟩
                · have HR1 := HR.out
                  rw [if_neg c7] at HR1
                  subst HR1
                  go_wp2_with fail
                  go_ret
                  exact ⟨rfl, K5.out.bel⟩
        · have HR1 := HR.out
          rw [if_pos rfl] at HR1
          subst HR1
          go_wp2_with fail
          go_ret
          exact ⟨rfl, K3.out.bel⟩
end Go.Proofs.YtpnllbojifnopaaGreatDoor
