/- Contracts, joined: DnI, DnR, DnO. -/
import Derived.Test.YtccjflioaajgiaaGreatDoorMM
import Derived.Deep.RegionHeldLaw
import Derived.Test.YtccjflioaajgiaaGreatDoorDnLay
import Derived.Laws.CopyOwn
import Derived.Deep.RegionLaw
import Derived.Test.YtccjflioaajgiaaGreatDoorML
import Derived.BigQuiet
/- The search's look and endsFrom: by the node's kind, and once for each node and place. -/
namespace Go.Proofs.YtccjflioaajgiaaGreatDoor
open Go Go.RowKit Go.Maps Pk Rl
set_option maxRecDepth 20000

def repn (h : Nat) (L : List Nat) : List Nat := (List.replicate h L).flatten
theorem rs_repn (S : Sea) (h : Nat) (L : List Nat) : S.rs (repn h L) = reps h (S.rs L) := by
  unfold Sea.rs repn reps
  rw [List.map_flatten, List.map_replicate]
theorem repn_mem {h : Nat} {L : List Nat} {p : Nat} (hp : p ∈ repn h L) : p ∈ L := by
  obtain ⟨l, hl, h1⟩ := List.mem_flatten.1 hp
  rw [List.eq_of_mem_replicate hl] at h1
  exact h1
theorem repn_len (h : Nat) (L : List Nat) : (repn h L).length = h * L.length := by
  unfold repn
  induction h with
  | zero => simp
  | succ h ih => rw [List.replicate_succ, List.flatten_cons, List.length_append, ih, Nat.succ_mul]; omega
theorem Sea.en_eq (S : Sea) (hL : S.L.length ≤ 50) (n i : Nat) (hn : n < S.L.length) : S.en n i =
    if (S.L.getD n nz).k = 2 then rng (S.ov i) (anyc S.R.length (gd (hq S.R) (S.L.getD n nz)) (S.rs (pos S.L n)) (pos S.L n).length i)
    else if (S.L.getD n nz).k = 3 then uni (S.ov i) ((pos S.L n).map fun p => S.en p i).flatten
    else if (S.L.getD n nz).k = 4 then rng (S.ov i) (anyc S.R.length (gd (hq S.R) (S.L.getD n nz)) (S.rs (repn (S.L.getD n nz).hi.toNat (pos S.L n))) (S.L.getD n nz).lo.toNat i)
    else rng (S.ov i) (fun j => decide (i = j) && decide (i < S.R.length) && hq S.R (S.L.getD n nz).p i) := by
  show rng (S.ov i) (rn (hq S.R) S.R.length S.L n i) = _
  rw [rn_eq (hq S.R) S.R.length S.L hL n hn]
  split
  · have e : (pos S.L n).length = (S.rs (pos S.L n)).length := (S.rs_len _).symm
    rw [e, anyc_all]; rfl
  split
  · rw [show (fun p => S.en p i) = (fun p => rng (S.ov i) (rn (hq S.R) S.R.length S.L p i)) from rfl, ← alt_eq (S.ov i) i ((pos S.L n).map (rn (hq S.R) S.R.length S.L)), List.map_map]; rfl
  split
  · rw [rs_repn]; rfl
  · rfl
theorem rng_self (o i N : Nat) (h : i < o) (hN : i < N) (b : Bool) : rng o (fun j => decide (i = j) && decide (i < N) && b) = if b then [i] else [] := by
  have e1 : rng o (fun j => decide (i = j) && decide (i < N) && b) = rng o (fun j => decide (i = j) && b) := rng_congr fun j _ => by simp [hN]
  rw [e1]
  cases b
  · simp only [Bool.and_false, Bool.false_eq_true, if_false]
    refine List.eq_nil_iff_forall_not_mem.2 fun x hx => ?_
    have := (mem_rng.1 hx).2
    cases this
  · simp only [Bool.and_true, if_true]
    induction o with
    | zero => omega
    | succ o ih =>
      rw [rng_next]
      by_cases c : i = o
      · subst c
        rw [if_pos (by simp)]
        have : rng i (fun j => decide (i = j)) = [] := List.eq_nil_iff_forall_not_mem.2 fun x hx => by
          obtain ⟨h1, h2⟩ := mem_rng.1 hx
          simp at h2
          omega
        rw [this]; rfl
      · rw [if_neg (by simp; exact c)]
        exact ih (by omega) (by rw [rng_congr]; intro j _; simp [hN])
end Go.Proofs.YtccjflioaajgiaaGreatDoor

/- The contract of slices.Repeat of numbers. -/
namespace Go.Proofs.YtccjflioaajgiaaGreatDoor
open Go Go.RowKit Go.Maps Pk Rl
set_option maxRecDepth 20000

theorem mul_any (x y : Nat) (h : x * y < 18446744073709551616) (hx : x < 18446744073709551616) (hy : y < 18446744073709551616) (w : World) :
    Calls Tryz.prog 101 #[.int .u64 (x : Int), .int .u64 (y : Int)] w fun e w' => e = .returned (.tuple #[.int .u64 0, .int .u64 ((x * y : Nat) : Int)]) ∧ w' = w := by
  have := Any.bits_Mul Tryz.mul x y hx hy w
  change Calls Tryz.prog 101 _ _ _ at this
  rw [Nat.div_eq_of_lt h, Nat.mod_eq_of_lt h] at this
  exact this
def rwl (R : List Nat) (m T : Nat) : List Value := ics (R.take m) ++ List.replicate (T - m) (.int .i64 0)
theorem rwl_len (R : List Nat) (m T : Nat) (h : m ≤ T) (hT : R.length = T) : (rwl R m T).length = T := by simp [rwl]; omega
def Rwl (w : World) (g : Nat) (R : List Nat) (m T : Nat) : Prop := w.heap[g]? = some (.cells (rwl R m T).toArray 3 (0, 0))
theorem Rwl.start (w : World) (R : List Nat) (T : Nat) : Rwl (w.alloc (.cells (madeCells #[.int .i64 0] T) 3)) w.heap.size R 0 T := by
  unfold Rwl
  rw [heap_alloc_new w _]
  congr 2
  refine Array.ext' ?_
  simp only [rwl, madeCells, List.take_zero, List.map_nil, List.nil_append, Nat.sub_zero]
  refine List.ext_getElem (by simp) fun j h1 h2 => ?_
  simp [Nat.mod_one]
theorem Rwl.cell {w : World} {g : Nat} {R : List Nat} {m T : Nat} (h : Rwl w g R m T) (hT : R.length = T) (hm : m ≤ T) (j : Nat) (hj : j < m) : w.cell? ⟨g, j, none⟩ = some (.int .i64 ((R.getD j 0 : Nat) : Int)) := by
  rw [cell_of_row w g j _ _ _ h]
  have hr : j < R.length := by omega
  rw [List.getElem?_toArray]
  unfold rwl
  rw [List.getElem?_append_left (by simp; omega), List.getElem?_map, List.getElem?_take_of_lt hj, List.getElem?_eq_getElem hr, List.getD_eq_getElem?_getD, List.getElem?_eq_getElem hr]
  rfl
theorem Rwl.sl {w : World} {g : Nat} {R : List Nat} {T : Nat} (h : Rwl w g R T T) (hT : R.length = T) : Sl w (.slice (some ⟨g, 0, none⟩) T T) R := by
  refine ⟨some ⟨g, 0, none⟩, T, by rw [hT], ⟨(fun e => by cases e), by omega⟩, fun i hi => ⟨g, 0, rfl, by rw [Nat.zero_add]; exact h.cell hT (Nat.le_refl _) i (by omega), _, _, h⟩⟩
theorem repn_drop (h a : Nat) (L : List Nat) (ha : a ≤ h) : (repn h L).drop (a * L.length) = repn (h - a) L := by
  have : h = a + (h - a) := by omega
  conv => lhs; rw [this]
  unfold repn
  rw [← List.replicate_append_replicate, List.flatten_append]
  have hl : (List.replicate a L).flatten.length = a * L.length := repn_len a L
  rw [← hl, List.drop_left]
theorem repn_pre (h a : Nat) (L : List Nat) (ha : a ≤ h) (q : Nat) (hq : q ≤ (h - a) * L.length) : (repn (h - a) L).take q = (repn h L).take q := by
  have : h = (h - a) + a := by omega
  conv => rhs; rw [this]
  unfold repn
  rw [← List.replicate_append_replicate, List.flatten_append]
  have hl : (List.replicate (h - a) L).flatten.length = (h - a) * L.length := repn_len (h - a) L
  rw [List.take_append_of_le_length (by rw [hl]; exact hq)]
theorem repn_step (h a : Nat) (L : List Nat) (ha : a ≤ h) (q : Nat) (hq : a * L.length + q ≤ h * L.length) : (repn h L).take (a * L.length + q) = (repn h L).take (a * L.length) ++ (repn h L).take q := by
  rw [List.take_add, repn_drop h a L ha, repn_pre h a L ha q (by rw [Nat.sub_mul]; omega)]
theorem rwl_step (R : List Nat) (m q T : Nat) (hT : R.length = T) (h : m + q ≤ T) (hR : R.take (m + q) = R.take m ++ R.take q) : (rwl R m T).take m ++ (ics (R.take q) ++ (rwl R m T).drop (m + q)) = rwl R (m + q) T := by
  have hl : (ics (R.take m)).length = m := by simp; omega
  unfold rwl
  rw [hR, ← ics_app, List.append_assoc]
  congr 1
  · rw [List.take_append_of_le_length (by omega), List.take_of_length_le (by omega)]
  congr 1
  rw [List.drop_append, List.drop_of_length_le (by omega), List.nil_append, hl, List.drop_replicate]
  congr 1
  omega
theorem isz1 : (Tryz.prog.info? 3).map (·.size) = some 1 := by kernel_rfl
theorem run_mki (w : World) (d : Nat) (hd : d ≤ 1000000) : (Instr.makeSlice 89 (.int .i64 (d : Int)) (.int .i64 (d : Int))).run Tryz.prog w = .ok (.slice (some ⟨w.heap.size, 0, none⟩) d d) (w.alloc (.cells (madeCells #[.int .i64 0] d) 3)) := by
  obtain ⟨i, hi, hz, hs, hy⟩ := infoZ
  have := run_make (P := Tryz.prog) w 89 3 i (.int .i64 0) Tryz.underlying89 hi hz .i64 .i64 d d (by omega) (by omega) (by rw [hy]; omega) (by omega)
  rw [hs] at this
  simpa [Value.cells] using this
set_option maxHeartbeats 4000000 in
theorem repeat_any (A : Option Addr) (n c : Nat) (L : List Nat) (h : Nat) (w : World) (hn : L.length = n) (hm : n ≤ 1000) (hh : h ≤ 255) (hL : Its w A L) (_hc : n ≤ c) :
    Calls Tryz.prog 78 #[.slice A n c, .int .i64 (h : Int)] w fun e w' => (∃ v, e = .returned v ∧ Sl w' v (repn h L)) ∧ Below w.heap.size w w' := by
  have hT0 : n * h ≤ 1000 * 255 := Nat.mul_le_mul hm hh
  have RL : Hid ((repn h L).length = n * h) := Lib.hid (by rw [repn_len, hn, Nat.mul_comm])
  have M := Lib.hid (mul_any n h (by omega) (by omega) (by omega))
  have R := run_mki w (n * h) (by omega)
  have T0 := Lib.hid (Rwl.start w (repn h L) (n * h))
  have B0 := Lib.hid (bal w (.cells (madeCells #[.int .i64 0] (n * h)) 3))
  have Z0 : Hid (w.heap.size < (w.alloc (.cells (madeCells #[.int .i64 0] (n * h)) 3)).heap.size) := Lib.hid (by simp)
  generalize w.alloc (.cells (madeCells #[.int .i64 0] (n * h)) 3) = w1 at R T0 B0 Z0
  have I1 := Lib.hid (hL.ci (Ci.of_below B0.out))
  have HN := Lib.hid hn
  have ST := Lib.hid (fun a q (ha : a ≤ h) (hq : a * n + q ≤ n * h) => (by have := repn_step h a L ha q (by rw [hn, Nat.mul_comm h n]; exact hq); rwa [hn] at this : (repn h L).take (a * n + q) = (repn h L).take (a * n) ++ (repn h L).take q))
  have T1 := Lib.hid (show 1 ≤ h → (repn h L).take n = L from fun h1 => by
    have e : repn h L = L ++ repn (h - 1) L := by
      unfold repn
      conv => lhs; rw [show h = (h - 1) + 1 by omega, List.replicate_succ, List.flatten_cons]
    rw [e, ← hn, List.take_left])
  have TN := Lib.hid (Nat.mul_comm n h)
  generalize hQ : repn h L = Q at *
  generalize hTT : n * h = T at *
  clear hn hL
  go_enter Tryz.func78, Tryz.ntmps78
  go_wp2_with fail
  refine (M.out _).mono ?_
  rintro e w' ⟨rfl, hw⟩
  obtain rfl : w = w' := hw.symm
  obtain ⟨m0, hm0⟩ : ∃ m0, min n T = m0 := ⟨_, rfl⟩
  have hm1 : Hid ((h = 0 ∧ m0 = 0 ∧ T = 0) ∨ (1 ≤ h ∧ m0 = n ∧ n ≤ T)) := Lib.hid (by
    rcases Nat.eq_zero_or_pos h with h0 | h0
    · subst h0
      rw [Nat.mul_zero] at hTT
      exact .inl ⟨rfl, by omega, by omega⟩
    · have : n * 1 ≤ n * h := Nat.mul_le_mul_left n h0
      exact .inr ⟨h0, by omega, by omega⟩)
  have hm2 : m0 ≤ T := by omega
  have CO := Lib.hid (show (ics (Q.take m0)).length = Nat.min n T by rw [List.length_map, List.length_take, RL.out]; show min m0 T = min n T; omega)
  have HP1 := Lib.hid (show 0 < (ics (Q.take m0)).length → ∃ ad, A = some ad ∧ ∀ j v, (ics (Q.take m0))[j]? = some v → w1.cell? (ad.add j) = some v from fun hp => by
    rcases hm1.out with ⟨_, e, _⟩ | ⟨h1, e, _⟩
    · rw [e] at hp; simp at hp
    · rw [e, T1.out h1] at hp ⊢
      rw [List.length_map] at hp
      obtain ⟨b, off, ea, _⟩ := I1.out 0 hp
      refine ⟨_, ea, fun j v hj => ?_⟩
      have hjl : j < L.length := by have := (List.getElem?_eq_some_iff.1 hj).1; simpa using this
      obtain ⟨b', off', ea', hc', _⟩ := I1.out j hjl
      rw [ea] at ea'
      injection ea' with ea'
      injection ea' with e1 e2
      subst e1 e2
      rw [add_plain, hc', ← hj, List.getElem?_map, List.getElem?_eq_getElem hjl, List.getD_eq_getElem?_getD, List.getElem?_eq_getElem hjl]
      rfl)
  have SP : Hid (splice (rwl Q 0 T) 0 (ics (Q.take m0)) = rwl Q m0 T) := Lib.hid (by
    have := rwl_step Q 0 m0 T RL.out (by omega) (by simp)
    rw [Nat.zero_add] at this
    rw [← this]
    have hl : (ics (Q.take m0)).length = m0 := by simp; rw [RL.out]; omega
    simp only [splice, hl, Nat.zero_add])
  have HF := Lib.hid (show 0 + (ics (Q.take m0)).length ≤ (rwl Q 0 T).length by rw [rwl_len Q 0 T (by omega) RL.out]; simp; rw [RL.out]; omega)
  have ON := Lib.hid (ics_one (Q.take m0))
  have CL : Hid ((ics (Q.take m0)).length = m0) := Lib.hid (by simp; rw [RL.out]; omega)
  have T0' := Lib.hid (show w1.heap[w.heap.size]? = some (.cells (rwl Q 0 T).toArray 3 (0, 0)) from T0.out)
  generalize ics (Q.take m0) = CS at CO HP1 SP HF ON CL
  generalize rwl Q 0 T = CU at SP HF T0'
  have hCL : CS.length = m0 := CL.out
  clear hm0
  go_wp2_with ((with_reducible show wpList _ _ _ (Oper.mk (some 33) _ _ _ _ _ :: _) _ _); refine wpList_copy_splice rfl (.tmp 31) (.tmp 32) 89 89 rfl 3 Tryz.underlying89 isz1 _ _ T T n c rfl rfl w.heap.size 0 CU 3 T0'.out CS CO.out (fun hp => ⟨rfl, HP1.out hp⟩) HF.out ON.out w.heap.size w B0.out (Nat.le_refl _) ?_; intro w2 hg hb; have G2 := Lib.hid (show Rwl w2 w.heap.size Q m0 T by have h8 := hg.out; rw [SP.out] at h8; exact h8); have B2 := Lib.hid hb; clear hg hb)
  go_loopw [8] (fun t W => ∃ (m a : Nat), m = a * n ∧ a ≤ h ∧ m ≤ T ∧ (m < T → 1 ≤ a) ∧ t = .int .i64 m ∧ Hid (Rwl W w.heap.size Q m T ∧ Below w.heap.size w W)) (fun t _ => T - (intOf t).toNat)
  case atStart =>
    rcases hm1.out with ⟨h0, e, e2⟩ | ⟨h1, e, e2⟩
    · exact ⟨m0, 0, by omega, by omega, by omega, fun hc => by omega, rfl, Lib.hid ⟨G2.out, B2.out⟩⟩
    · exact ⟨m0, 1, by omega, h1, by omega, fun _ => Nat.le_refl _, rfl, Lib.hid ⟨G2.out, B2.out⟩⟩
  case round =>
    obtain ⟨m, a, hma, hah, hmT, ha1, rfl, H⟩ := hrel
    by_cases hlt : m < T
    · have hpos : 1 ≤ m := by
        have h1 := ha1 hlt
        rcases Nat.eq_zero_or_pos n with h0 | h0
        · subst h0; simp at hTT; omega
        · have : 1 * n ≤ a * n := Nat.mul_le_mul_right n h1
          omega
      obtain ⟨q, hq⟩ : ∃ q, min m (T - m) = q := ⟨_, rfl⟩
      have hq1 : 1 ≤ q := by omega
      have hq2 : m + q ≤ T := by omega
      have NX : Hid (∃ a', m + q = a' * n ∧ a' ≤ h ∧ 1 ≤ a') := Lib.hid (by
        by_cases hc : m ≤ T - m
        · refine ⟨2 * a, ?_, ?_, by have := ha1 hlt; omega⟩
          · rw [Nat.mul_assoc, ← hma]; omega
          · rcases Nat.eq_zero_or_pos n with h0 | h0
            · subst h0; simp at hTT; omega
            · have : (2 * a) * n ≤ h * n := by rw [Nat.mul_assoc, ← hma, Nat.mul_comm h n, hTT]; omega
              exact Nat.le_of_mul_le_mul_right this h0
        · exact ⟨h, by rw [Nat.mul_comm h n, hTT]; omega, Nat.le_refl _, by have := ha1 hlt; omega⟩)
      have STq := Lib.hid (ST.out a q hah (by rw [← hma]; omega))
      rw [← hma] at STq
      have CO3 := Lib.hid (show (ics (Q.take q)).length = Nat.min m (T - m) by rw [List.length_map, List.length_take, RL.out]; show min q T = min m (T - m); omega)
      have CL3 : Hid ((ics (Q.take q)).length = q) := Lib.hid (by simp; rw [RL.out]; omega)
      have HP3 := Lib.hid (show 0 < (ics (Q.take q)).length → ∀ j v, (ics (Q.take q))[j]? = some v → wr.cell? ((⟨w.heap.size, 0, none⟩ : Addr).add j) = some v from fun _ j v hj => by
        have hjl : j < q := by have := (List.getElem?_eq_some_iff.1 hj).1; simp at this; omega
        rw [add_plain, Nat.zero_add, H.out.1.cell RL.out hmT j (by omega), ← hj, List.getElem?_map, List.getElem?_take_of_lt hjl, List.getD_eq_getElem?_getD, List.getElem?_eq_getElem (by rw [RL.out]; omega)]
        rfl)
      have SP3 : Hid (splice (rwl Q m T) m (ics (Q.take q)) = rwl Q (m + q) T) := Lib.hid (by
        have := rwl_step Q m q T RL.out hq2 STq.out
        rw [← this]
        simp only [splice, CL3.out])
      have HF3 := Lib.hid (show m + (ics (Q.take q)).length ≤ (rwl Q m T).length by rw [rwl_len Q m T hmT RL.out, CL3.out]; omega)
      have ON3 := Lib.hid (ics_one (Q.take q))
      have T3 := Lib.hid (show wr.heap[w.heap.size]? = some (.cells (rwl Q m T).toArray 3 (0, 0)) from H.out.1)
      have BW := Lib.hid H.out.2
      generalize ics (Q.take q) = CS3 at CO3 HP3 SP3 HF3 ON3 CL3
      generalize rwl Q m T = CU3 at SP3 HF3 T3
      have hCL3 : CS3.length = q := CL3.out
      clear H hma ha1 hq
      have RN : ∀ ty, (Builtin.copy_ #[89, 89] ty #[.slice (some ⟨w.heap.size, m, none⟩) (T - m) (T - m), .slice (some ⟨w.heap.size, 0, none⟩) m T]).run Tryz.prog wr.drew = .ok (.int .i64 (q : Int)) (wr.drew.setRow w.heap.size (splice CU3 m CS3).toArray) := fun ty => by
        have := run_copy_row (P := Tryz.prog) wr.drew 89 89 ty 3 w.heap.size m (T - m) (T - m) ⟨w.heap.size, 0, none⟩ m T CU3.toArray 3 CS3 Tryz.underlying89 isz1 T3.out CO3.out (HP3.out (by rw [CL3.out]; omega)) (by have := HF3.out; simpa using this) ON3.out
        rw [this, CL3.out]
        simp [splice, goInt, CL3.out]
      rw [SP3.out] at RN
      have B4 : Hid (Below w.heap.size w (wr.drew.setRow w.heap.size (rwl Q (m + q) T).toArray)) := Lib.hid (below_setRow (BW.out.trans (Below.refl _ _).drew) (Nat.le_refl _) _)
      have G4 : Hid (Rwl (wr.drew.setRow w.heap.size (rwl Q (m + q) T).toArray) w.heap.size Q (m + q) T) := Lib.hid (setRow_heap wr.drew w.heap.size _ _ 3 _ T3.out)
      generalize wr.drew.setRow w.heap.size (rwl Q (m + q) T).toArray = w4 at RN B4 G4
      go_wp2_with fail
      go_region
      go_wp2_with fail
      obtain ⟨a', f1, f2, f3⟩ := NX.out
      exact ⟨⟨m + q, a', f1, f2, hq2, fun _ => f3, by go_num, Lib.hid ⟨G4.out, B4.out⟩⟩, by simp [intOf]; omega⟩
    · obtain rfl : m = T := by omega
      go_wp2_with fail
      go_ret
      exact ⟨⟨_, rfl, H.out.1.sl RL.out⟩, H.out.2⟩
end Go.Proofs.YtccjflioaajgiaaGreatDoor

/- Of each place the first one behind it that is out of the window. -/
namespace Go.Proofs.YtccjflioaajgiaaGreatDoor
open Go Go.RowKit Go.Maps Pk Rl
set_option maxRecDepth 20000

/- a row of numbers that is written from the front on -/
def wrl (f : Nat → Nat) (k N : Nat) : List Value := (List.range N).map fun j => Value.int .i64 (((if j < k then f j else 0) : Nat) : Int)
def Wrl (w : World) (g : Nat) (f : Nat → Nat) (k N : Nat) : Prop := w.heap[g]? = some (.cells (wrl f k N).toArray 3 (0, 0))
theorem Wrl.start (w : World) (f : Nat → Nat) (N : Nat) : Wrl (w.alloc (.cells (madeCells #[.int .i64 0] N) 3)) w.heap.size f 0 N := by
  unfold Wrl
  rw [heap_alloc_new w _]
  congr 2
  refine Array.ext' ?_
  simp only [wrl, madeCells]
  refine List.ext_getElem (by simp) fun j h1 h2 => ?_
  simp [Nat.mod_one]
theorem wrl_set (f : Nat → Nat) (k N : Nat) : (wrl f k N).set k (.int .i64 (f k : Int)) = wrl f (k + 1) N := by
  refine List.ext_getElem (by simp [wrl]) fun j h1 h2 => ?_
  rw [List.getElem_set]
  simp only [wrl, List.getElem_map, List.getElem_range]
  by_cases e : k = j
  · subst e
    rw [if_pos rfl, if_pos (by omega)]
  · rw [if_neg e]
    by_cases h : j < k
    · rw [if_pos h, if_pos (by omega)]
    · rw [if_neg h, if_neg (by omega)]
theorem Wrl.cell {w : World} {g : Nat} {f : Nat → Nat} {k N : Nat} (h : Wrl w g f k N) (j : Nat) (hj : j < N) : w.cell? ⟨g, j, none⟩ = some (.int .i64 (((if j < k then f j else 0) : Nat) : Int)) := by
  rw [cell_of_row w g j _ _ _ h]
  simp [wrl, hj]
theorem Wrl.free {w : World} {g : Nat} {f : Nat → Nat} {k N : Nat} (h : Wrl w g f k N) (j : Nat) : w.frozen? ⟨g, j, none⟩ = false := by
  unfold Wrl at h
  simp [World.frozen?, h]
theorem Wrl.set {w : World} {g : Nat} {f : Nat → Nat} {k N : Nat} (h : Wrl w g f k N) : Wrl (w.setCell ⟨g, k, none⟩ (.int .i64 (f k : Int))) g f (k + 1) N := by
  unfold Wrl
  rw [heap_setCell_same w g _ _ _ _ h]
  simp only [List.setIfInBounds_toArray, wrl_set f k N]
theorem Wrl.below {w w' : World} {B g : Nat} {f : Nat → Nat} {k N : Nat} (h : Wrl w g f k N) (hb : Below B w w') (hg : g < B) : Wrl w' g f k N := by
  unfold Wrl
  rw [hb.block g hg]
  exact h
theorem Wrl.its {w : World} {g : Nat} {f : Nat → Nat} {N : Nat} (h : Wrl w g f N N) : Its w (some ⟨g, 0, none⟩) ((List.range N).map f) := fun i hi => by
  have hi : i < N := by simpa using hi
  refine ⟨g, 0, rfl, ?_, _, _, h⟩
  rw [Nat.zero_add, h.cell i hi]
  simp [List.getD_eq_getElem?_getD, hi]
/- where the next place's search goes on -/
def Pre (R : List Lg) (W k o : Nat) : Prop := k ≤ o ∧ o ≤ R.length ∧ ∀ j, k ≤ j → j < o → lat R j - lat R k ≤ W
theorem Pre.next {R : List Lg} (hr : Rise R) {W k : Nat} (hk : k < R.length) : Pre R W (k + 1) (ovr R.length (lat R) W k) := by
  have h1 := ovr_gt (N := R.length) (at_ := lat R) (W := W) hk
  have h2 := ovr_le R.length (lat R) W k
  refine ⟨h1, h2, fun j hj hjo => ?_⟩
  have h3 := ovr_in (N := R.length) (at_ := lat R) (W := W) (i := k) (by omega) hjo
  have h4 := hr k (k + 1) (by omega) (by omega)
  omega
set_option maxHeartbeats 4000000 in
theorem overs_any (rA : Option Addr) (rN rC : Nat) (R : List Lg) (W : Nat) (w : World) (hR : Lr w rA R) (hn : R.length = rN) (hm : rN ≤ 1000) (hr : Rise R) (hW : W < 18446744073709551616) :
    Calls Tryz.prog 50 #[.slice rA rN rC, .int .u64 (W : Int)] w fun e w' => e = .returned (.slice (some ⟨w.heap.size, 0, none⟩) rN rN) ∧ Its w' (some ⟨w.heap.size, 0, none⟩) ((List.range rN).map (ovr rN (lat R) W)) ∧ Below w.heap.size w w' := by
  have RM := run_mki w rN (by omega)
  have T0 := Lib.hid (Wrl.start w (ovr rN (lat R) W) rN)
  have B0 := Lib.hid (bal w (.cells (madeCells #[.int .i64 0] rN) 3))
  have Z0 : Hid (w.heap.size < (w.alloc (.cells (madeCells #[.int .i64 0] rN) 3)).heap.size) := Lib.hid (by simp)
  generalize w.alloc (.cells (madeCells #[.int .i64 0] rN) 3) = w1 at RM T0 B0 Z0
  have HR := Lib.hid hR
  have HN := Lib.hid hn
  have HI := Lib.hid hr
  have PN := Lib.hid (fun k (hk : k < rN) => (by have := Pre.next hr (W := W) (k := k) (by omega); rwa [hn] at this : Pre R W (k + 1) (ovr rN (lat R) W k)))
  have UQ := Lib.hid (fun k o (h1 : k ≤ o) (h2 : o ≤ rN) (h3 : ∀ j, k ≤ j → j < o → lat R j - lat R k ≤ W) (h4 : o < rN → W < lat R o - lat R k) => (ovr_uniq h1 h2 h3 h4 : o = ovr rN (lat R) W k))
  clear hR hn hr
  go_enter Tryz.func50, Tryz.ntmps50
  go_wp2_with fail
  go_loopw [6, 14] (fun ov t W' => ∃ (k o : Nat), k ≤ rN ∧ o ≤ rN ∧ k ≤ o ∧ ov = .int .i64 (o : Int) ∧ t = .int .i64 (k : Int) ∧ Hid (Pre R W k o ∧ Wrl W' w.heap.size (ovr rN (lat R) W) k rN ∧ Below w.heap.size w W')) (fun _ t _ => rN - (intOf t).toNat)
  case atStart => exact ⟨0, 0, Nat.zero_le _, Nat.zero_le _, Nat.zero_le _, rfl, rfl, Lib.hid ⟨⟨Nat.zero_le _, Nat.zero_le _, fun j h1 h2 => by omega⟩, T0.out, B0.out⟩⟩
  case round =>
    obtain ⟨k, o, hk, hoN, hko, rfl, rfl, H⟩ := hrel
    by_cases hlt : k < rN
    · have L1 := HR.out.ck (Ck.of_below H.out.2.2)
      obtain ⟨b, off, rfl, g0, g1, g2, g3, g4⟩ := (L1.row k (by rw [HN.out]; exact hlt))
      have OK := Lib.hid (L1.ok _ (lgetD_mem R k (by rw [HN.out]; exact hlt)))
      have hxl : Hid (lat R k = (R.getD k lz).at_) := Lib.hid rfl
      generalize R.getD k lz = x at g0 g1 g2 g3 g4 OK hxl
      have hx64 := OK.out.at64
      have PR := Lib.hid H.out.1
      have BW := Lib.hid H.out.2.2
      have WR := Lib.hid H.out.2.1
      have BX := Lib.hid (BW.out.trans ((bal wr (lobj x)).mono BW.out.size))
      have ZW : Hid (w.heap.size < wr.heap.size) := Lib.hid (by have := WR.out; unfold Wrl at this; exact (Array.getElem?_eq_some_iff.1 this).1)
      have A5 : Hid ((wr.alloc (lobj x)).cell? ⟨wr.heap.size, 2, none⟩ = some (.int .u64 (x.at_ : Int))) := Lib.hid (by simp [go_sem])
      have WX := Lib.hid (WR.out.below (bal wr (lobj x)) ZW.out)
      have PK := Lib.hid (PN.out k hlt)
      have UK := Lib.hid (UQ.out k)
      obtain ⟨w2, hw2⟩ : ∃ W, wr.alloc (lobj x) = W := ⟨_, rfl⟩
      rw [hw2] at BX A5 WX
      clear H L1
      go_wp2_with fail
      rename World => wi
      go_loopw [6] (fun ov W2 => ∃ (o : Nat), o ≤ rN ∧ k ≤ o ∧ ov = .int .i64 (o : Int) ∧ Hid ((∀ j, k ≤ j → j < o → lat R j - lat R k ≤ W) ∧ Below wi.heap.size wi W2)) (fun ov _ => rN - (intOf ov).toNat)
      case atStart => exact ⟨o, hoN, hko, rfl, Lib.hid ⟨PR.out.2.2, Below.refl _ _⟩⟩
      case round =>
        obtain ⟨o, hoN, hko, rfl, H⟩ := hrel
        have B7 := Lib.hid (BX.out.trans (H.out.2.mono BX.out.size))
        have a5 := Ck.of_below H.out.2 _ _ _ A5.out
        have a6 : ∀ j, (wr.drewN j).cell? ⟨_, 2, none⟩ = some (.int .u64 (x.at_ : Int)) := fun j => Ck.of_below (below_drewN wr.heap.size wr j) _ _ _ a5
        have W7 := Lib.hid (WX.out.below H.out.2 (by have := BX.out.size; have := WX.out; unfold Wrl at this; exact (Array.getElem?_eq_some_iff.1 this).1))
        have w6 : ∀ j, (wr.drewN j).cell? ⟨w.heap.size, k, none⟩ = some (.int .i64 (((if k < k then ovr rN (lat R) W k else 0) : Nat) : Int)) := fun j => Ck.of_below (below_drewN wr.heap.size wr j) _ _ _ (W7.out.cell k hlt)
        have w7 : ∀ j, (wr.drewN j).frozen? ⟨w.heap.size, k, none⟩ = false := fun j => (W7.out.below (below_drewN wr.heap.size wr j) (by have := W7.out; unfold Wrl at this; exact (Array.getElem?_eq_some_iff.1 this).1)).free k
        have WS : Hid (∀ j, o = ovr rN (lat R) W k → Wrl ((wr.drewN j).setCell ⟨w.heap.size, k, none⟩ (.int .i64 (o : Int))) w.heap.size (ovr rN (lat R) W) (k + 1) rN ∧ Below w.heap.size w ((wr.drewN j).setCell ⟨w.heap.size, k, none⟩ (.int .i64 (o : Int)))) := Lib.hid (fun j ho => by
          have h8 := (W7.out.below (below_drewN wr.heap.size wr j) (by have := W7.out; unfold Wrl at this; exact (Array.getElem?_eq_some_iff.1 this).1))
          refine ⟨by rw [ho]; exact h8.set, ?_⟩
          exact (B7.out.trans (below_drewN _ wr j)).setCell (Nat.le_refl _) _)
        by_cases hlo : o < rN
        · have L7 := HR.out.ck (Ck.of_below B7.out)
          obtain ⟨b2, off2, e2, _, _, h2, _, _⟩ := (L7.row o (by rw [HN.out]; exact hlo))
          injection e2 with e2
          injection e2 with e21 e22
          subst e21 e22
          have OK2 := (L7.ok _ (lgetD_mem R o (by rw [HN.out]; exact hlo))).at64
          have hol : Hid (lat R o = (R.getD o lz).at_) := Lib.hid rfl
          have hrs := HI.out k o hko (by rw [HN.out]; exact hlo)
          rw [hol.out, hxl.out] at hrs
          generalize R.getD o lz = z at h2 OK2 hol hrs
          obtain ⟨d, hd⟩ : ∃ d, z.at_ = x.at_ + d := ⟨z.at_ - x.at_, by omega⟩
          have hz : Hid (lat R o - lat R k = d) := Lib.hid (by rw [hol.out, hxl.out]; omega)
          rw [hd] at h2 OK2
          have h3 : ∀ j, (wr.drewN j).cell? ⟨b, off + o * 5 + 2, none⟩ = some (.int .u64 ((x.at_ + d : Nat) : Int)) := fun j => Ck.of_below (below_drewN wr.heap.size wr j) _ _ _ h2
          clear hd hrs
          by_cases hin : d ≤ W
          · have NN : Hid (∀ j, k ≤ j → j < o + 1 → lat R j - lat R k ≤ W) := Lib.hid (fun j h1 h2 => by
              by_cases c : j = o
              · subst c; rw [hz.out]; exact hin
              · exact H.out.1 j h1 (by omega))
            have tt : decide ((x.at_ : Int) + (d : Int) - (x.at_ : Int) ≤ (W : Int)) = true := decide_eq_true (by omega)
            go_wp2_with fail
            go_quiet (fail)
            go_wp2_with fail
            exact ⟨⟨o + 1, by omega, by omega, by go_num, Lib.hid ⟨NN.out, H.out.2.trans (below_drewN _ wr _)⟩⟩, by simp [intOf]; omega⟩
          · have EO := Lib.hid (UK.out o hko hoN H.out.1 (fun _ => by rw [hz.out]; omega))
            have tt : decide ((x.at_ : Int) + (d : Int) - (x.at_ : Int) ≤ (W : Int)) = false := decide_eq_false (by omega)
            have KO : Hid (k < o) := Lib.hid (by rw [EO.out]; exact PK.out.1)
            go_wp2_with fail
            go_quiet (fail)
            go_wp2_with fail
            exact ⟨⟨k + 1, o, by omega, hoN, KO.out, rfl, by go_num, Lib.hid ⟨by rw [EO.out]; exact PK.out, (WS.out _ EO.out).1, (WS.out _ EO.out).2⟩⟩, by simp [intOf]; omega⟩
        · obtain rfl : o = rN := by omega
          have EO := Lib.hid (UK.out o hko hoN H.out.1 (fun h => by omega))
          go_wp2_with fail
          go_quiet (fail)
          go_wp2_with fail
          exact ⟨⟨k + 1, o, by omega, by omega, by omega, rfl, by go_num, Lib.hid ⟨by have := PK.out; rw [← EO.out] at this; exact this, (WS.out _ EO.out).1, (WS.out _ EO.out).2⟩⟩, by simp [intOf]; omega⟩
    · obtain rfl : k = rN := by omega
      go_wp2_with fail
      go_ret
      exact ⟨rfl, H.out.2.1.its, H.out.2.2⟩
end Go.Proofs.YtccjflioaajgiaaGreatDoor
