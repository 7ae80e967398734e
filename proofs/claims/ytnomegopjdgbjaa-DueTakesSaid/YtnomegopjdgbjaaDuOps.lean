/- A list of dues: made, asked, cut from, set. -/
import Derived.Test.YtnomegopjdgbjaaDuRem
import Derived.Carry
namespace Go.Proofs.Ytnomegopjdgbjaa
open Go Go.RowKit
set_option maxRecDepth 20000

def cutL (L : List E) (k : Nat) : List E := L.filter (fun e => e.1 != k)
theorem cutL_none {L : List E} {k : Nat} (h : ∀ e ∈ L, e.1 ≠ k) : cutL L k = L := List.filter_eq_self.2 (fun e he => by simpa using h e he)
theorem cutL_perm {L L' : List E} (h : L.Perm L') (k : Nat) : (cutL L k).Perm (cutL L' k) := h.filter _
theorem cutL_not {L : List E} {k : Nat} : ∀ e ∈ cutL L k, e.1 ≠ k := fun e he => by simpa using (List.mem_filter.1 he).2
theorem once_split {L : List E} {k a : Nat} (h : Once L) (hm : (k, a) ∈ L) : L.Perm (cutL L k ++ [(k, a)]) := by
  induction L with
  | nil => cases hm
  | cons x L ih =>
    obtain ⟨h1, h2⟩ := List.pairwise_cons.1 h
    rcases List.mem_cons.1 hm with e | hm
    · subst e
      have : cutL ((k, a) :: L) k = L := by
        unfold cutL
        rw [List.filter_cons_of_neg (by simp)]
        exact cutL_none (fun e he => Ne.symm (h1 e he))
      rw [this]
      exact (List.perm_append_singleton _ _).symm
    · have hx : x.1 ≠ k := h1 _ hm
      have : cutL (x :: L) k = x :: cutL L k := List.filter_cons_of_pos (by simpa using hx)
      rw [this]
      exact (ih h2 hm).cons x
theorem cutL_set {L : List E} {p k a : Nat} (hp : p < L.length) (hk : (g L p).1 = k) : cutL (L.set p (k, a)) k = cutL L k := by
  induction L generalizing p with
  | nil => simp at hp
  | cons x L ih =>
    rcases p with _ | p
    · have hx : x.1 = k := by simpa [g] using hk
      unfold cutL
      rw [List.set_cons_zero, List.filter_cons_of_neg (by simp), List.filter_cons_of_neg (by simp [hx])]
    · rw [List.set_cons_succ]
      have := ih (p := p) (by simpa using hp) (by simpa [g] using hk)
      unfold cutL at *
      by_cases c : x.1 = k
      · rw [List.filter_cons_of_neg (by simp [c]), List.filter_cons_of_neg (by simp [c]), this]
      · rw [List.filter_cons_of_pos (by simp [c]), List.filter_cons_of_pos (by simp [c]), this]
theorem left_cut {L L2 : List E} {e : E} (h : (L2 ++ [e]).Perm L) (ho : Once L) : L2.Perm (cutL L e.1) := by
  have h1 := cutL_perm h e.1
  have h2 : ∀ x ∈ L2, x.1 ≠ e.1 := fun x hx => by
    have := ho.perm h.symm
    exact (List.pairwise_append.1 this).2.2 x hx e (by simp)
  have : cutL (L2 ++ [e]) e.1 = L2 := by
    unfold cutL
    rw [List.filter_append, List.filter_cons_of_neg (by simp), List.filter_nil, List.append_nil]
    exact cutL_none h2
  rw [this] at h1
  exact h1
theorem set_cut {L : List E} {M : Nat → Option Nat} (hp : Pos M L) {p : Nat} (hl : p < L.length) (a : Nat) : (L.set p ((g L p).1, a)).Perm (cutL L (g L p).1 ++ [((g L p).1, a)]) := by
  have h := (hp.set hl a).once
  have hm : ((g L p).1, a) ∈ L.set p ((g L p).1, a) := List.mem_set hl _
  have := once_split h hm
  rw [cutL_set hl rfl] at this
  exact this
abbrev nilp : Value := .pointer none
theorem new_any (w : World) : Calls Try.prog 7 #[] w fun e w' => e = .returned (ptr (w.heap.size + 1)) ∧ Dl w' (w.heap.size + 1) w.heap.size (.slice none 0 0) [] ∧ Below w.heap.size w w' ∧ w'.heap.size = w.heap.size + 2 := by
  have hmm := @run_makeMap Try.prog
  have hD : Dl ((w.alloc (.map #[] 0)).alloc (.cells #[.slice none 0 0, .map (some w.heap.size)] 54)) (w.heap.size + 1) w.heap.size (.slice none 0 0) [] := by
    refine ⟨⟨fun _ => none, ⟨?_, OwnE.nil _ _ _, ?_, by simp⟩, ⟨fun i hi => absurd hi (by simp), fun k i h => by cases h⟩⟩, fun k h0 h1 => absurd h1 (by simp)⟩
    · have := heap_alloc_new (w.alloc (.map #[] 0)) (.cells #[.slice none 0 0, .map (some w.heap.size)] 54)
      rwa [World.size_alloc] at this
    · exact (Mp.new w).same (Below.heap_alloc _ _ _ (by simp))
  have HD := Lib.hid hD
  have hb : Below w.heap.size w ((w.alloc (.map #[] 0)).alloc (.cells #[.slice none 0 0, .map (some w.heap.size)] 54)) := ((Below.refl _ _).alloc (Nat.le_refl _) _).alloc (by simp) _
  have HB := Lib.hid hb
  clear hD hb
  go_enter Try.func7, Try.ntmps7
  go_wp2
  go_ret
  exact ⟨rfl, HD.out, HB.out, by simp⟩
theorem len_nil (w : World) : Calls Try.prog 13 #[nilp] w fun e w' => e = .returned (.int .i64 0) ∧ w' = w := by
  go_enter Try.func13, Try.ntmps13
  go_wp2
  go_ret
  exact ⟨rfl, rfl⟩
theorem len_any {w : World} {d m : Nat} {v : Value} {L : List E} (h : Dl w d m v L) : Calls Try.prog 13 #[ptr d] w fun e w' => e = .returned (.int .i64 (L.length : Int)) ∧ w' = w := by
  obtain ⟨⟨M, h1, _⟩, _⟩ := h
  have C := Lib.hid (klen_any h1)
  clear h1
  generalize L.length = n at *
  go_enter Try.func13, Try.ntmps13
  go_wp2_with fail
  refine C.out.mono ?_
  rintro e w1 ⟨rfl, rfl⟩
  clear C
  go_wp2_with fail
  go_ret
  exact ⟨rfl, rfl⟩
abbrev two (a : Nat) (b : Bool) : Value := .tuple #[.int .u64 (a : Int), .bool b]
theorem next_nil (w : World) : Calls Try.prog 11 #[nilp] w fun e w' => e = .returned (two 0 false) ∧ w' = w := by
  have C := Lib.hid (len_nil w)
  go_enter Try.func11, Try.ntmps11
  go_wp2_with fail
  refine C.out.mono ?_
  rintro e w1 ⟨rfl, rfl⟩
  clear C
  go_wp2_with fail
  go_ret2
  exact ⟨rfl, rfl⟩
theorem next_none {w : World} {d m : Nat} {v : Value} (h : Dl w d m v []) : Calls Try.prog 11 #[ptr d] w fun e w' => e = .returned (two 0 false) ∧ w' = w := by
  have C := Lib.hid (len_any h)
  clear h
  go_enter Try.func11, Try.ntmps11
  go_wp2_with fail
  refine C.out.mono ?_
  rintro e w1 ⟨rfl, rfl⟩
  clear C
  go_wp2_with fail
  go_ret2
  exact ⟨rfl, rfl⟩
theorem Du.cellsAt {w : World} {d m : Nat} {v : Value} {L : List E} {N : Nat} {M : Nat → Option Nat} (h : Du w d m v L N M) (i : Nat) (hi : i < L.length) : ∃ b c cur, v = .slice (some ⟨b, 0, none⟩) L.length c ∧ w.heap[b]? = some (.cells cur 61 (0, 0)) ∧
    w.cell? ⟨b, i * 2, none⟩ = some (.int .u64 ((g L i).1 : Int)) ∧ w.cell? ⟨b, i * 2 + 1, none⟩ = some (.int .u64 ((g L i).2 : Int)) := by
  obtain ⟨b, c, cur, rfl, _, hh, hc⟩ := h.row.block (by omega)
  obtain ⟨A, c', e, hpr, _⟩ := h.row.form
  injection e with e ea eb
  subst e
  obtain ⟨b', off', e', ci, di⟩ := hpr i hi
  injection e' with e'
  injection e' with e1 e2
  subst e1 e2
  simp only [Nat.zero_add] at ci di
  exact ⟨b, c, cur, rfl, hh, ci, di⟩
theorem next_some {w : World} {d m : Nat} {v : Value} {L : List E} (h : Dl w d m v L) (hl : 0 < L.length) : Calls Try.prog 11 #[ptr d] w fun e w' => e = .returned (two (g L 0).2 true) ∧ w' = w := by
  have C := Lib.hid (len_any h)
  obtain ⟨⟨M, h1, _⟩, _⟩ := h
  obtain ⟨b, c, cur, rfl, _, _, di⟩ := h1.cellsAt 0 hl
  simp only [Nat.zero_mul, Nat.zero_add] at di
  have c0 := h1.c0
  clear h1
  generalize (g L 0).2 = a at *
  generalize hn : L.length = n at *
  clear hn
  have hl' : (0 : Int) < (n : Int) := by omega
  have ht : ¬ ((n : Int) = 0) := by omega
  go_enter Try.func11, Try.ntmps11
  go_wp2_with fail
  refine C.out.mono ?_
  rintro e w1 ⟨rfl, rfl⟩
  clear C
  go_wp2_with fail
  go_ret2
  exact ⟨rfl, rfl⟩
theorem at_nil (w : World) (k : Int) : Calls Try.prog 15 #[nilp, .int .u64 k] w fun e w' => e = .returned (two 0 false) ∧ w' = w := by
  go_enter Try.func15, Try.ntmps15
  go_wp2
  go_ret2
  exact ⟨rfl, rfl⟩
theorem at_none {w : World} {d m : Nat} {v : Value} {L : List E} (h : Dl w d m v L) (k : Nat) (hk : k < 18446744073709551616) (hn : ∀ e ∈ L, e.1 ≠ k) : Calls Try.prog 15 #[ptr d, .int .u64 (k : Int)] w fun e w' => e = .returned (two 0 false) ∧ w' = w := by
  obtain ⟨⟨M, h1, h2⟩, _⟩ := h
  have hM : M k = none := by
    cases c : M k with
    | none => rfl
    | some i =>
      obtain ⟨a, b⟩ := h2.of_ k i c
      exact absurd b (hn _ (g_mem L i a))
  have lk := h1.mp.look hk
  rw [hM] at lk
  simp only [Option.getD_none, Option.isSome_none] at lk
  have c1 := h1.c1
  clear h1 h2 hn hM
  go_enter Try.func15, Try.ntmps15
  go_wp2
  go_ret2
  exact ⟨rfl, rfl⟩
theorem at_some {w : World} {d m : Nat} {v : Value} {L : List E} (h : Dl w d m v L) (k a : Nat) (hm : (k, a) ∈ L) : Calls Try.prog 15 #[ptr d, .int .u64 (k : Int)] w fun e w' => e = .returned (two a true) ∧ w' = w := by
  have hk := (h.ok _ hm).1
  obtain ⟨⟨M, h1, h2⟩, _⟩ := h
  obtain ⟨i, hM, hg⟩ := h2.mem hm
  have hi := (h2.of_ _ _ hM).1
  have lk := h1.mp.look hk
  simp only at hM
  rw [hM] at lk
  simp only [Option.getD_some, Option.isSome_some] at lk
  obtain ⟨b, c, cur, rfl, _, _, di⟩ := h1.cellsAt i hi
  rw [hg] at di
  simp only at di
  have c0 := h1.c0
  have c1 := h1.c1
  have hi' : (i : Int) < (L.length : Int) := by omega
  have hi0 : (0 : Int) ≤ (i : Int) := by omega
  clear h1 h2 hM hg hm
  generalize hn : L.length = n at *
  clear hn
  go_enter Try.func15, Try.ntmps15
  go_wp2
  go_ret2
  exact ⟨rfl, rfl⟩
end Go.Proofs.Ytnomegopjdgbjaa
