/- A list of dues: cut from, set. -/
import Derived.Test.YtnomegopjdgbjaaDuOps
namespace Go.Proofs.Ytnomegopjdgbjaa
open Go Go.RowKit
set_option maxRecDepth 20000

theorem Dl.miss {w : World} {d m : Nat} {v : Value} {L : List E} (h : Dl w d m v L) {k : Nat} (hn : ∀ e ∈ L, e.1 ≠ k) : ∃ M, Du w d m v L L.length M ∧ Pos M L ∧ M k = none := by
  obtain ⟨⟨M, h1, h2⟩, _⟩ := h
  refine ⟨M, h1, h2, ?_⟩
  cases c : M k with
  | none => rfl
  | some i =>
    obtain ⟨a, b⟩ := h2.of_ k i c
    exact absurd b (hn _ (g_mem L i a))
theorem cut_nil (w : World) (k : Int) : Calls Try.prog 17 #[nilp, .int .u64 k] w fun e w' => e = .returned (.bool false) ∧ w' = w := by
  go_enter Try.func17, Try.ntmps17
  go_wp2
  go_ret
  exact ⟨rfl, rfl⟩
theorem cut_none {w : World} {d m : Nat} {v : Value} {L : List E} (h : Dl w d m v L) (k : Nat) (hk : k < 18446744073709551616) (hn : ∀ e ∈ L, e.1 ≠ k) : Calls Try.prog 17 #[ptr d, .int .u64 (k : Int)] w fun e w' => e = .returned (.bool false) ∧ w' = w := by
  obtain ⟨M, h1, h2, hM⟩ := h.miss hn
  have lk := h1.mp.look hk
  rw [hM] at lk
  simp only [Option.getD_none, Option.isSome_none] at lk
  have c1 := h1.c1
  clear h1 h2 hn hM h
  go_enter Try.func17, Try.ntmps17
  go_wp2
  go_ret
  exact ⟨rfl, rfl⟩
theorem cut_some {w : World} {d m : Nat} {v : Value} {L : List E} (h : Dl w d m v L) (k a : Nat) (hm : (k, a) ∈ L) (hlen : L.length ≤ 90000) : Calls Try.prog 17 #[ptr d, .int .u64 (k : Int)] w fun e w' => e = .returned (.bool true) ∧
      ∃ v' L2, Dl w' d m v' L2 ∧ L2.Perm (cutL L k) ∧ Keep (Fp d m v) w w' ∧ v'.ownBlock = v.ownBlock := by
  have hk := (h.ok _ hm).1
  have ho := h.once
  have h0 := h
  obtain ⟨⟨M, h1, h2⟩, _⟩ := h
  obtain ⟨i, hM, hg⟩ := h2.mem hm
  have hi := (h2.of_ _ _ hM).1
  have lk := h1.mp.look hk
  simp only at hM
  rw [hM] at lk
  simp only [Option.getD_some, Option.isSome_some] at lk
  have C := Lib.hid (remove_any h0 i hi hlen)
  rw [hg] at C
  have c1 := h1.c1
  have HO := Lib.hid ho
  clear h1 h2 hM hg hm h0 ho
  go_enter Try.func17, Try.ntmps17
  go_wp2_with fail
  refine C.out.mono ?_
  rintro e w1 ⟨rfl, v', L2, h3, h4, h5, h6⟩
  have H := Lib.hid (And.intro h3 (And.intro h4 (And.intro h5 h6)))
  clear h3 h4 h5 h6 C lk c1
  go_wp2_with fail
  go_ret
  exact ⟨rfl, v', L2, H.out.1, left_cut H.out.2.1 HO.out, H.out.2.2.1, H.out.2.2.2⟩
theorem set_nil (w : World) (k a : Int) : Calls Try.prog 16 #[nilp, .int .u64 k, .int .u64 a] w fun e w' => e = .returned (.tuple #[]) ∧ w' = w := by
  go_enter Try.func16, Try.ntmps16
  go_wp2
  go_returns
  exact ⟨rfl, rfl⟩
theorem set_none {w : World} {d m : Nat} {v : Value} {L : List E} (h : Dl w d m v L) (k a : Nat) (hk : k < 18446744073709551616) (ha : a < 18446744073709551616) (hn : ∀ e ∈ L, e.1 ≠ k) (hlen : L.length ≤ 80000) :
    Calls Try.prog 16 #[ptr d, .int .u64 (k : Int), .int .u64 (a : Int)] w fun e w' => e = .returned (.tuple #[]) ∧
      ∃ v' L2, Dl w' d m v' L2 ∧ L2.Perm (cutL L k ++ [(k, a)]) ∧ Keep (Fp d m v) w w' ∧ (∀ x, v'.ownBlock = some x → v.ownBlock = some x ∨ w.heap.size ≤ x) := by
  obtain ⟨M, h1, h2, hM⟩ := h.miss hn
  have C := Lib.hid (hpush_any h1 h2 k a hk ha hM h.hp (by omega) (by omega))
  have lk := h1.mp.look hk
  rw [hM] at lk
  simp only [Option.getD_none, Option.isSome_none] at lk
  have c1 := h1.c1
  have HC := Lib.hid (cutL_none hn)
  clear h1 h2 hn hM h
  go_enter Try.func16, Try.ntmps16
  go_wp2_with fail
  refine C.out.mono ?_
  rintro e w1 ⟨rfl, v', L2, M2, h3, h4, h5, h6, h7, h8⟩
  have hl : L2.length = L.length + 1 := by rw [h5.length_eq]; simp
  have H := Lib.hid (And.intro h3 (And.intro h4 (And.intro h5 (And.intro h6 (And.intro h7 (And.intro h8 hl))))))
  clear h3 h4 h5 h6 h7 h8 C lk c1 hl
  go_wp2_with fail
  go_end0
  obtain ⟨h3, h4, h5, h6, h7, h8, hl⟩ := H.out
  rw [HC.out]
  exact ⟨rfl, v', L2, ⟨⟨M2, by rw [hl]; exact h3, h4⟩, h6⟩, h5, h7, h8⟩
theorem Du.setAt {w : World} {d m b n c : Nat} {L : List E} {N : Nat} {M : Nat → Option Nat} (h : Du w d m (.slice (some ⟨b, 0, none⟩) n c) L N M) (i a : Nat) (hi : i < L.length) (ha : a < 18446744073709551616) :
    Du (w.setCell ⟨b, i * 2 + 1, none⟩ (.int .u64 (a : Int))) d m (.slice (some ⟨b, 0, none⟩) n c) (L.set i ((g L i).1, a)) N M := by
  obtain ⟨hb1, hb2⟩ := h.ned (b := b) rfl
  refine ⟨(Below.heap_setCell _ _ _ _ (Ne.symm hb1)).trans h.blk, h.row.setAt hi a, h.mp.same (Below.heap_setCell _ _ _ _ (Ne.symm hb2)), fun e he => ?_⟩
  rcases List.mem_or_eq_of_mem_set he with h1 | h1
  · exact h.ok e h1
  · subst h1
    exact ⟨(h.ok _ (g_mem L i hi)).1, ha⟩
theorem set_some {w : World} {d m : Nat} {v : Value} {L : List E} (h : Dl w d m v L) (k a a0 : Nat) (hm : (k, a0) ∈ L) (ha : a < 18446744073709551616) (hlen : L.length ≤ 80000) :
    Calls Try.prog 16 #[ptr d, .int .u64 (k : Int), .int .u64 (a : Int)] w fun e w' => e = .returned (.tuple #[]) ∧
      ∃ v' L2, Dl w' d m v' L2 ∧ L2.Perm (cutL L k ++ [(k, a)]) ∧ Keep (Fp d m v) w w' ∧ (∀ x, v'.ownBlock = some x → v.ownBlock = some x ∨ w.heap.size ≤ x) := by
  have hk := (h.ok _ hm).1
  obtain ⟨⟨M, h1, h2⟩, h3⟩ := h
  obtain ⟨i, hM, hg⟩ := h2.mem hm
  have hi := (h2.of_ _ _ hM).1
  have lk := h1.mp.look hk
  simp only at hM
  rw [hM] at lk
  simp only [Option.getD_some, Option.isSome_some] at lk
  obtain ⟨b, c, cur, rfl, hh, ci, di⟩ := h1.cellsAt i hi
  have hu := h1.setAt i a hi ha
  have hP := set_cut h2 hi a
  have hll : (L.set i ((g L i).1, a)).length = L.length := List.length_set
  have C := Lib.hid (fix_any hu (h2.set hi a) i (by rw [hll]; exact set_dn h3 hi) (by rw [hll]; exact hi) (by rw [hll]; omega) (by omega))
  rw [hg] at C hP hll di
  simp only at C hP hll di
  have c0 := h1.c0
  have c1 := h1.c1
  have fi : w.frozen? ⟨b, i * 2 + 1, none⟩ = false := OwnE.free hh
  have hdb := (h1.ned (b := b) rfl).1
  have hi' : (i : Int) < (L.length : Int) := by omega
  have hi0 : (0 : Int) ≤ (i : Int) := by omega
  have HP := Lib.hid hP
  have HLL := Lib.hid hll
  have KS := Lib.hid (Keep.set (Fp d m (.slice (some ⟨b, 0, none⟩) L.length c)) w ⟨b, i * 2 + 1, none⟩ (.int .u64 (a : Int)) (.inr (.inr rfl)))
  clear h1 h2 h3 hM hg hm hu hP hll hh ci
  generalize hn : L.length = n at *
  have HN := Lib.hid hn
  clear hn
  go_enter Try.func16, Try.ntmps16
  go_wp2_with fail
  refine C.out.mono ?_
  rintro e w1 ⟨rfl, L2, h5, h6⟩
  have H := Lib.hid (And.intro h5 h6)
  clear h5 h6 C lk c1 c0
  go_wp2_with fail
  go_returns
  obtain ⟨h5, h6⟩ := H.out
  obtain ⟨M2, h7, h8⟩ := h5.du
  have hl : L2.length = n := by rw [h5.len, HLL.out]
  refine ⟨rfl, _, L2, ⟨⟨M2, by rw [hl]; exact h7, h8⟩, by rw [hl, ← HLL.out]; exact h6⟩, h5.perm.trans HP.out, KS.out.tr h5.keep, fun x hx => .inl hx⟩
/- whatever there is -/
theorem set_any {w : World} {d m : Nat} {v : Value} {L : List E} (h : Dl w d m v L) (k a : Nat) (hk : k < 18446744073709551616) (ha : a < 18446744073709551616) (hlen : L.length ≤ 80000) :
    Calls Try.prog 16 #[ptr d, .int .u64 (k : Int), .int .u64 (a : Int)] w fun e w' => e = .returned (.tuple #[]) ∧
      ∃ v' L2, Dl w' d m v' L2 ∧ L2.Perm (cutL L k ++ [(k, a)]) ∧ Keep (Fp d m v) w w' ∧ (∀ x, v'.ownBlock = some x → v.ownBlock = some x ∨ w.heap.size ≤ x) := by
  by_cases c : ∃ a0, (k, a0) ∈ L
  · obtain ⟨a0, hm⟩ := c
    exact set_some h k a a0 hm ha hlen
  · exact set_none h k a hk ha (fun e he e1 => c ⟨e.2, by rw [← e1]; exact he⟩) hlen
end Go.Proofs.Ytnomegopjdgbjaa
