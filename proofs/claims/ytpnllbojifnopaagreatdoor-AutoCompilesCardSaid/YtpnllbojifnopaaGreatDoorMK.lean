/- Contracts, joined: TrB, TrC. -/
import Derived.Test.YtpnllbojifnopaaGreatDoorMF
/- front: the pattern of a row's first node; what is asked of a node. -/
namespace Go.Proofs.YtpnllbojifnopaaGreatDoor
open Go Go.RowKit Pk Rl
set_option maxRecDepth 20000

theorem elemN : Tryz.prog.elem 26 = 57 := by kernel_rfl
theorem tsN : Tryz.t57.size = 11 := by kernel_rfl
theorem run_fromN (a : Option Addr) (len cap k : Nat) (hk : k ≤ len) (w : World) :
    (Instr.slice 26 (.slice a len cap) (some (.int .i64 (k : Int))) none none).run Tryz.prog w = .ok (sliced a k len cap 11) w := by
  rw [run_slice_l (P := Tryz.prog) (w := w) 26 a len cap (by rw [elemN]; exact Tryz.underlying26) .i64 (k : Int) (by omega) (by omega), elemN]
  simp [sizeOf, go_sem, tsN]
theorem run_upto (b off len cap k : Nat) (hk : k ≤ cap) (w : World) :
    (Instr.slice 26 (.slice (some ⟨b, off, none⟩) len cap) none (some (.int .i64 (k : Int))) (some (.int .i64 (k : Int)))).run Tryz.prog w = .ok (.slice (some ⟨b, off, none⟩) k k) w := by
  rw [run_slice_hm (P := Tryz.prog) (w := w) 26 (some ⟨b, off, none⟩) len cap (by rw [elemN]; exact Tryz.underlying26) .i64 .i64 (k : Int) (k : Int) (by omega) (by omega) (by omega), elemN]
  simp [sizeOf, go_sem, tsN, sliced]
theorem Pt.from {w : World} {a : Option Addr} {n c : Nat} {L : List Nd} (h : Pt w a n c L) (k : Nat) (hk : k ≤ n) :
    ∃ A, (∀ W, (Instr.slice 26 (.slice a n c) (some (.int .i64 (k : Int))) none none).run Tryz.prog W = .ok (.slice A (n - k) (c - k)) W) ∧ ∀ w, Pt w a n c L → Pt w A (n - k) (c - k) (L.drop k) := by
  have hl := h.len
  have hc := h.cap
  have hf := h.few
  have hl2 : (L.drop k).length = n - k := by rw [List.length_drop, hl]
  clear h
  refine ⟨if c = k then a else a.map (·.add (k * 11)), fun W => ?_, fun w h => ?_⟩
  · rw [run_fromN a n c k hk W]; rfl
  · have hok : ∀ v ∈ L.drop k, Nok w v := fun v hv => h.ok v (List.mem_of_mem_drop hv)
    refine ⟨hl2, by omega, by omega, ?_, hok⟩
    by_cases hck : c = k
    · have : L.drop k = [] := List.eq_nil_of_length_eq_zero (by omega)
      rw [this]; exact Nds.nil _ _
    · rw [if_neg hck]
      by_cases hn : n = 0
      · have : L.drop k = [] := List.eq_nil_of_length_eq_zero (by omega)
        rw [this]; exact Nds.nil _ _
      · obtain ⟨b, off, rfl, _⟩ := h.row 0 (by omega)
        have := h.row.drop k
        show Nds w (some ((⟨b, off, none⟩ : Addr).add (k * 11))) _
        rw [add_plain]
        exact this
set_option maxHeartbeats 1000000 in
theorem front_any (a : Option Addr) (n c : Nat) (L : List Nd) (w : World) (h : Pt w a n c L) :
    Calls Tryz.prog 75 #[.slice a n c] w fun e w' => (∃ A C, e = .returned (.slice A (frn L).length C) ∧ ∀ w, Pt w a n c L → Pt w A (frn L).length C (frn L)) ∧ w = w' := by
  rcases L with _ | ⟨nd, r⟩
  · have h0 := h.len
    simp only [List.length_nil] at h0
    subst h0
    clear h
    go_enter Tryz.func75, Tryz.ntmps75
    go_wp2_with fail
    go_ret
    exact ⟨⟨none, 0, rfl, fun _ _ => Pt.nil _ _ _⟩, rfl⟩
  · have hl := h.len
    obtain ⟨b, off, rfl, q0, q1, q2, q3, q4, q5, q6, q7, q8, q9, q10⟩ := h.row 0 (by simp)
    simp only [Nat.zero_mul, Nat.add_zero, List.getD_cons_zero] at q10
    have hs := h.ok nd (by simp)
    have s0 := hs.s0
    have s1 := hs.s1
    have hcap := h.cap
    have hfew := h.few
    clear q0 q1 q2 q3 q4 q5 q6 q7 q8 q9 hs
    simp only [List.length_cons] at hl
    have n0 : ((n : Int) == 0) = false := by simp; omega
    by_cases c1 : nd.s < 0
    · have e : frn (nd :: r) = [] := by rw [frn_cons, if_pos (.inl c1)]
      rw [e]
      clear h e
      generalize nd.s = s at *
      go_enter Tryz.func75, Tryz.ntmps75
      go_wp2_with fail
      go_ret
      exact ⟨⟨none, 0, rfl, fun _ _ => Pt.nil _ _ _⟩, rfl⟩
    · by_cases c2 : (n : Int) ≤ nd.s
      · have e : frn (nd :: r) = [] := by rw [frn_cons, if_pos (.inr (by omega))]
        rw [e]
        clear h e
        generalize nd.s = s at *
        go_enter Tryz.func75, Tryz.ntmps75
        go_wp2_with fail
        go_ret
        exact ⟨⟨none, 0, rfl, fun _ _ => Pt.nil _ _ _⟩, rfl⟩
      · have e : frn (nd :: r) = nd :: r.take nd.s.toNat := by rw [frn_cons, if_neg (by omega)]
        obtain ⟨k, hk⟩ : ∃ k : Nat, nd.s = (k : Int) := ⟨nd.s.toNat, by omega⟩
        have e2 : (frn (nd :: r)).length = k + 1 := by rw [e, List.length_cons, List.length_take, Nat.min_eq_left (by omega)]; omega
        have P : ∀ w, Pt w (some ⟨b, off, none⟩) n c (nd :: r) → Pt w (some ⟨b, off, none⟩) (k + 1) (k + 1) (frn (nd :: r)) := by
          intro w h
          have e3 := frn_take (nd :: r) (by rw [e]; simp)
          rw [e2] at e3
          refine ⟨e2, by omega, Nat.le_refl _, ?_, fun v hv => ?_⟩
          · rw [e3]; exact h.row.take _
          · rw [e3] at hv; exact h.ok v (List.mem_of_mem_take hv)
        have PP := Lib.hid P
        rw [e2]
        have R := run_upto b off n c (k + 1) (by omega)
        rw [show ((k + 1 : Nat) : Int) = (k : Int) + 1 by omega] at R
        rw [hk] at q10 c2
        clear h e e2 P hk s0 s1 c1
        generalize frn (nd :: r) = F at *
        have c3 : ¬ (n : Int) ≤ (k : Int) := by omega
        have c4 : ¬ (k : Int) < 0 := by omega
        clear c2
        go_enter Tryz.func75, Tryz.ntmps75
        go_wp2_with fail
        go_ret
        exact ⟨⟨_, _, rfl, PP.out⟩, rfl⟩
theorem psm_no (q : Qu) (h : q.L.length = q.n) : psm q.x q.t q.L false 0 [] = qno q := by
  obtain ⟨x, t, a, n, c, L⟩ := q
  simp only at h
  unfold psm qno
  simp only [h, List.length_nil]
  by_cases hn : n = 0
  · subst hn
    simp only [List.range_zero, List.all_nil, Bool.and_true, decide_true]
    cases x <;> simp
  · simp [hn]
set_option maxHeartbeats 1000000 in
theorem nothing_any (q : Qu) (w : World) (h : Qok w q) :
    Calls Tryz.prog 132 #[qv q] w fun e w' => e = .returned (.bool (qno q)) ∧ Below w.heap.size w w' := by
  have B0 := Lib.hid (below_alloc w (pcells q.x q.t q.a q.n q.c))
  have hq := h.below B0.out
  have M := Lib.hid (psame_any q.x q.t q.a q.n q.c q.L false 0 none 0 0 [] (w.alloc (pcells q.x q.t q.a q.n q.c)) hq.len rfl (by have := hq.few; omega) hq.row (Tsts.nil _ _) hq.ok (by simp))
  rw [psm_no q h.len] at M
  clear h hq
  generalize qno q = R at M
  obtain ⟨x, t, a, n, c, L⟩ := q
  simp only at M
  go_enter Tryz.func132, Tryz.ntmps132
  go_wp2_with fail
  refine M.out.mono ?_
  rintro e w2 ⟨rfl, hb⟩
  have B2 := Lib.hid (below_go B0.out hb)
  clear hb
  go_wp2_with fail
  go_ret
  exact ⟨rfl, B2.out⟩
end Go.Proofs.YtpnllbojifnopaaGreatDoor

/- asItsKind: whether a node has what its kind names. -/
namespace Go.Proofs.YtpnllbojifnopaaGreatDoor
open Go Go.RowKit Pk Rl
set_option maxRecDepth 20000

theorem Nok.box {w : World} {n : Nd} (h : Nok w n) (o : Obj) : Nok (w.alloc o) n := h.below (below_alloc w o)
theorem Atn.alloc (w : World) (n : Nd) : Atn (w.alloc (nobj n)) w.heap.size 0 n := by refine ⟨?_, ?_, ?_, ?_, ?_, ?_, ?_, ?_, ?_, ?_, ?_⟩ <;> simp [go_sem]
/- a node in a box of its own, in some world behind one -/
structure Nbx (w W : World) (g : Nat) (n : Nd) : Prop where
  at_ : Atn W g 0 n
  bel : Below w.heap.size w W
theorem Nbx.next {w W W' : World} {g : Nat} {n : Nd} (h : Nbx w W g n) (hb : Below W.heap.size W W') : Nbx w W' g n := ⟨h.at_.below hb h.at_.lt, below_go h.bel hb⟩
set_option maxHeartbeats 2000000 in
theorem kind_one (n : Nd) (m : Nat) (w : World) (h : Nok w n) (_hm : m ≤ 1000) (hk : n.k = 1) :
    Calls Tryz.prog 108 #[nOf n, .int .i64 (m : Int)] w fun e w' => e = .returned (.bool (kd n m)) ∧ Below w.heap.size w w' := by
  have K0 := Lib.hid (show Nbx w (w.alloc (nobj n)) w.heap.size n from ⟨Atn.alloc w n, below_alloc w _⟩)
  have MP := Lib.hid (fun W (hb : Below w.heap.size w W) => nothing_any n.p W (h.p.below hb))
  have MG := Lib.hid (fun W (hb : Below w.heap.size w W) => nothing_any n.g W (h.g.below hb))
  have E : kd n m = (decide (m = 0) && !n.y && qno n.g && decide (n.lo = 0) && decide (n.hi = 0)) := by unfold kd; rw [if_pos hk]
  rw [E]
  clear E h
  generalize qno n.p = A at MP
  generalize qno n.g = B at MG
  obtain ⟨k, ⟨x, t, a, q, c, L⟩, y, ⟨x', t', a', q', c', L'⟩, lo, hi, s⟩ := n
  simp only at hk MP MG
  subst hk
  have KK := K0.out.at_
  obtain ⟨q0, q1, q2, q3, q4, q5, q6, q7, q8, q9, q10⟩ := KK
  go_enter Tryz.func108, Tryz.ntmps108
  go_wp2_with fail
  refine (MP.out _ K0.out.bel).mono ?_
  rintro e w2 ⟨rfl, hb⟩
  have K1 := Lib.hid (K0.out.next hb)
  clear hb K0 q0 q1 q2 q3 q4 q5 q6 q7 q8 q9 q10
  obtain ⟨q0, q1, q2, q3, q4, q5, q6, q7, q8, q9, q10⟩ := K1.out.at_
  go_wp2_with fail
  refine (MG.out _ K1.out.bel).mono ?_
  rintro e w3 ⟨rfl, hb⟩
  have K2 := Lib.hid (K1.out.next hb)
  clear hb K1 q0 q1 q2 q3 q4 q5 q6 q7 q8 q9 q10
  obtain ⟨q0, q1, q2, q3, q4, q5, q6, q7, q8, q9, q10⟩ := K2.out.at_
  go_wp2_with fail
  all_goals (go_ret; refine ⟨ret_bool ?_, K2.out.bel⟩; (try simp_all); (try (rw [Bool.eq_iff_iff]; simp)); (try (intros; omega)))
set_option maxHeartbeats 2000000 in
theorem kind_two (n : Nd) (m : Nat) (w : World) (h : Nok w n) (_hm : m ≤ 1000) (hk : n.k = 2) :
    Calls Tryz.prog 108 #[nOf n, .int .i64 (m : Int)] w fun e w' => e = .returned (.bool (kd n m)) ∧ Below w.heap.size w w' := by
  have K0 := Lib.hid (show Nbx w (w.alloc (nobj n)) w.heap.size n from ⟨Atn.alloc w n, below_alloc w _⟩)
  have MP := Lib.hid (fun W (hb : Below w.heap.size w W) => nothing_any n.p W (h.p.below hb))
  have MG := Lib.hid (fun W (hb : Below w.heap.size w W) => nothing_any n.g W (h.g.below hb))
  have E : kd n m = (decide (2 ≤ m) && qno n.p && (n.y || qno n.g) && decide (n.lo = 0) && decide (n.hi = 0)) := by unfold kd; rw [if_neg (by omega), if_pos hk]
  rw [E]
  clear E h
  generalize qno n.p = A at MP
  generalize qno n.g = B at MG
  obtain ⟨k, ⟨x, t, a, q, c, L⟩, y, ⟨x', t', a', q', c', L'⟩, lo, hi, s⟩ := n
  simp only at hk MP MG
  subst hk
  have KK := K0.out.at_
  obtain ⟨q0, q1, q2, q3, q4, q5, q6, q7, q8, q9, q10⟩ := KK
  go_enter Tryz.func108, Tryz.ntmps108
  go_wp2_with fail
  refine (MP.out _ K0.out.bel).mono ?_
  rintro e w2 ⟨rfl, hb⟩
  have K1 := Lib.hid (K0.out.next hb)
  clear hb K0 q0 q1 q2 q3 q4 q5 q6 q7 q8 q9 q10
  obtain ⟨q0, q1, q2, q3, q4, q5, q6, q7, q8, q9, q10⟩ := K1.out.at_
  go_wp2_with fail
  refine (MG.out _ K1.out.bel).mono ?_
  rintro e w3 ⟨rfl, hb⟩
  have K2 := Lib.hid (K1.out.next hb)
  clear hb K1 q0 q1 q2 q3 q4 q5 q6 q7 q8 q9 q10
  obtain ⟨q0, q1, q2, q3, q4, q5, q6, q7, q8, q9, q10⟩ := K2.out.at_
  go_wp2_with fail
  all_goals (go_ret; refine ⟨ret_bool ?_, K2.out.bel⟩; (try simp_all); (try (rw [Bool.eq_iff_iff]; simp)); (try (intros; omega)))
set_option maxHeartbeats 2000000 in
theorem kind_three (n : Nd) (m : Nat) (w : World) (h : Nok w n) (_hm : m ≤ 1000) (hk : n.k = 3) :
    Calls Tryz.prog 108 #[nOf n, .int .i64 (m : Int)] w fun e w' => e = .returned (.bool (kd n m)) ∧ Below w.heap.size w w' := by
  have K0 := Lib.hid (show Nbx w (w.alloc (nobj n)) w.heap.size n from ⟨Atn.alloc w n, below_alloc w _⟩)
  have MP := Lib.hid (fun W (hb : Below w.heap.size w W) => nothing_any n.p W (h.p.below hb))
  have MG := Lib.hid (fun W (hb : Below w.heap.size w W) => nothing_any n.g W (h.g.below hb))
  have E : kd n m = (decide (2 ≤ m) && qno n.p && !n.y && qno n.g && decide (n.lo = 0) && decide (n.hi = 0)) := by unfold kd; rw [if_neg (by omega), if_neg (by omega), if_pos hk]
  rw [E]
  clear E h
  generalize qno n.p = A at MP
  generalize qno n.g = B at MG
  obtain ⟨k, ⟨x, t, a, q, c, L⟩, y, ⟨x', t', a', q', c', L'⟩, lo, hi, s⟩ := n
  simp only at hk MP MG
  subst hk
  have KK := K0.out.at_
  obtain ⟨q0, q1, q2, q3, q4, q5, q6, q7, q8, q9, q10⟩ := KK
  go_enter Tryz.func108, Tryz.ntmps108
  go_wp2_with fail
  refine (MP.out _ K0.out.bel).mono ?_
  rintro e w2 ⟨rfl, hb⟩
  have K1 := Lib.hid (K0.out.next hb)
  clear hb K0 q0 q1 q2 q3 q4 q5 q6 q7 q8 q9 q10
  obtain ⟨q0, q1, q2, q3, q4, q5, q6, q7, q8, q9, q10⟩ := K1.out.at_
  go_wp2_with fail
  refine (MG.out _ K1.out.bel).mono ?_
  rintro e w3 ⟨rfl, hb⟩
  have K2 := Lib.hid (K1.out.next hb)
  clear hb K1 q0 q1 q2 q3 q4 q5 q6 q7 q8 q9 q10
  obtain ⟨q0, q1, q2, q3, q4, q5, q6, q7, q8, q9, q10⟩ := K2.out.at_
  go_wp2_with fail
  all_goals (go_ret; refine ⟨ret_bool ?_, K2.out.bel⟩; (try simp_all); (try (rw [Bool.eq_iff_iff]; simp)); (try (intros; omega)))
set_option maxHeartbeats 2000000 in
theorem kind_four (n : Nd) (m : Nat) (w : World) (h : Nok w n) (_hm : m ≤ 1000) (hk : n.k = 4) :
    Calls Tryz.prog 108 #[nOf n, .int .i64 (m : Int)] w fun e w' => e = .returned (.bool (kd n m)) ∧ Below w.heap.size w w' := by
  have K0 := Lib.hid (show Nbx w (w.alloc (nobj n)) w.heap.size n from ⟨Atn.alloc w n, below_alloc w _⟩)
  have MP := Lib.hid (fun W (hb : Below w.heap.size w W) => nothing_any n.p W (h.p.below hb))
  have MG := Lib.hid (fun W (hb : Below w.heap.size w W) => nothing_any n.g W (h.g.below hb))
  have E : kd n m = (decide (m = 1) && qno n.p && (n.y || qno n.g) && decide (1 ≤ n.lo) && decide (n.lo ≤ n.hi) && decide (n.hi ≤ 8)) := by unfold kd; rw [if_neg (by omega), if_neg (by omega), if_neg (by omega), if_pos hk]
  rw [E]
  clear E h
  generalize qno n.p = A at MP
  generalize qno n.g = B at MG
  obtain ⟨k, ⟨x, t, a, q, c, L⟩, y, ⟨x', t', a', q', c', L'⟩, lo, hi, s⟩ := n
  simp only at hk MP MG
  subst hk
  have KK := K0.out.at_
  obtain ⟨q0, q1, q2, q3, q4, q5, q6, q7, q8, q9, q10⟩ := KK
  go_enter Tryz.func108, Tryz.ntmps108
  go_wp2_with fail
  refine (MP.out _ K0.out.bel).mono ?_
  rintro e w2 ⟨rfl, hb⟩
  have K1 := Lib.hid (K0.out.next hb)
  clear hb K0 q0 q1 q2 q3 q4 q5 q6 q7 q8 q9 q10
  obtain ⟨q0, q1, q2, q3, q4, q5, q6, q7, q8, q9, q10⟩ := K1.out.at_
  go_wp2_with fail
  refine (MG.out _ K1.out.bel).mono ?_
  rintro e w3 ⟨rfl, hb⟩
  have K2 := Lib.hid (K1.out.next hb)
  clear hb K1 q0 q1 q2 q3 q4 q5 q6 q7 q8 q9 q10
  obtain ⟨q0, q1, q2, q3, q4, q5, q6, q7, q8, q9, q10⟩ := K2.out.at_
  go_wp2_with fail
  all_goals (go_ret; refine ⟨ret_bool ?_, K2.out.bel⟩; (try simp_all); (try (rw [Bool.eq_iff_iff]; simp)); (try (intros; omega)))
set_option maxHeartbeats 2000000 in
theorem kind_none (n : Nd) (m : Nat) (w : World) (h : Nok w n) (_hm : m ≤ 1000) (k1 : ¬ n.k = 1) (k2 : ¬ n.k = 2) (k3 : ¬ n.k = 3) (k4 : ¬ n.k = 4) :
    Calls Tryz.prog 108 #[nOf n, .int .i64 (m : Int)] w fun e w' => e = .returned (.bool (kd n m)) ∧ Below w.heap.size w w' := by
  have K0 := Lib.hid (show Nbx w (w.alloc (nobj n)) w.heap.size n from ⟨Atn.alloc w n, below_alloc w _⟩)
  have MP := Lib.hid (fun W (hb : Below w.heap.size w W) => nothing_any n.p W (h.p.below hb))
  have MG := Lib.hid (fun W (hb : Below w.heap.size w W) => nothing_any n.g W (h.g.below hb))
  have E : kd n m = false := by unfold kd; rw [if_neg k1, if_neg k2, if_neg k3, if_neg k4]
  rw [E]
  clear E h
  generalize qno n.p = A at MP
  generalize qno n.g = B at MG
  obtain ⟨k, ⟨x, t, a, q, c, L⟩, y, ⟨x', t', a', q', c', L'⟩, lo, hi, s⟩ := n
  simp only at k1 k2 k3 k4 MP MG
  have e1 := ne_beq k1
  have e2 := ne_beq k2
  have e3 := ne_beq k3
  have e4 := ne_beq k4
  clear k1 k2 k3 k4
  have KK := K0.out.at_
  obtain ⟨q0, q1, q2, q3, q4, q5, q6, q7, q8, q9, q10⟩ := KK
  go_enter Tryz.func108, Tryz.ntmps108
  go_wp2_with fail
  refine (MP.out _ K0.out.bel).mono ?_
  rintro e w2 ⟨rfl, hb⟩
  have K1 := Lib.hid (K0.out.next hb)
  clear hb K0 q0 q1 q2 q3 q4 q5 q6 q7 q8 q9 q10
  obtain ⟨q0, q1, q2, q3, q4, q5, q6, q7, q8, q9, q10⟩ := K1.out.at_
  go_wp2_with fail
  refine (MG.out _ K1.out.bel).mono ?_
  rintro e w3 ⟨rfl, hb⟩
  have K2 := Lib.hid (K1.out.next hb)
  clear hb K1 q0 q1 q2 q3 q4 q5 q6 q7 q8 q9 q10
  obtain ⟨q0, q1, q2, q3, q4, q5, q6, q7, q8, q9, q10⟩ := K2.out.at_
  go_wp2_with fail
  all_goals (go_ret; refine ⟨ret_bool ?_, K2.out.bel⟩; (try simp_all); (try (rw [Bool.eq_iff_iff]; simp)); (try (intros; omega)))
theorem kind_any (n : Nd) (m : Nat) (w : World) (h : Nok w n) (hm : m ≤ 1000) :
    Calls Tryz.prog 108 #[nOf n, .int .i64 (m : Int)] w fun e w' => e = .returned (.bool (kd n m)) ∧ Below w.heap.size w w' := by
  by_cases k1 : n.k = 1
  · exact kind_one n m w h hm k1
  · by_cases k2 : n.k = 2
    · exact kind_two n m w h hm k2
    · by_cases k3 : n.k = 3
      · exact kind_three n m w h hm k3
      · by_cases k4 : n.k = 4
        · exact kind_four n m w h hm k4
        · exact kind_none n m w h hm k1 k2 k3 k4
end Go.Proofs.YtpnllbojifnopaaGreatDoor
