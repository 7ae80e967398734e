/- The chapter's example; what the statements' walks share. -/
import Derived.Test.YtjpdnojkgadklaaEvSame
import Derived.Test.YtjpdnojkgadklaaEvRPut
import Derived.Test.YtjpdnojkgadklaaEvRGet
import Derived.Test.YtjpdnojkgadklaaEvOwn
namespace Go.Proofs.Ytjpdnojkgadklaa
open Go Go.RowKit Pk Rl
set_option maxRecDepth 20000

set_option maxHeartbeats 1000000 in
theorem fixed_any (w : World) : Calls Try.prog 10 #[] w fun e w' => e = .returned (.bool true) ∧ Below w.heap.size w w' := by
  have P := Lib.hid (eput_any none 0 0 [] 3 none 0 0 [] w rfl (by omega) (fun _ => rfl) (Byt.nil w) (by omega) rfl (Vals.nil _ _) (by simp) rfl)
  have R := Lib.hid (show ∀ c ∈ ([] : List Int) ++ wev 3 [], 0 ≤ c ∧ c < 256 from wev_range 3 (by omega) [] rfl)
  have S := Lib.hid (show strOfNums (([] : List Int) ++ wev 3 []) = ⟨#[3, 0]⟩ from rfl)
  generalize ([] : List Int) ++ wev 3 [] = q at P R S
  go_enter Try.func10, Try.ntmps10
  go_wp2_with fail
  refine P.out.mono ?_
  rintro e w1 ⟨A, k, c, rfl, hk, ho, hb⟩
  have s1 := ho.str R.out hk
  rw [S.out] at s1
  have B1 := Lib.hid hb
  clear hk ho hb P R S
  go_wp2_with fail
  go_ret
  exact ⟨rfl, B1.out⟩

theorem esm_self (t : Int) (L : List VV) : esm t L t L = true := by
  unfold esm
  rw [decide_eq_true rfl, decide_eq_true rfl, Bool.true_and, Bool.true_and, List.all_eq_true]
  intro j _
  exact sm_self _ _ _ _
theorem esm_nb (t : Int) (L : List VV) : esm t (L.map nb) t L = true := by
  unfold esm
  rw [decide_eq_true rfl, decide_eq_true (by simp), Bool.true_and, Bool.true_and, List.all_eq_true]
  intro j hj
  rw [List.length_map, List.mem_range] at hj
  show smv ((L.map nb).getD j vz) (L.getD j vz) = true
  rw [List.getD_eq_getElem?_getD, List.getD_eq_getElem?_getD, List.getElem?_map, List.getElem?_eq_getElem hj]
  exact sm_bt _ _ _ _
theorem ok_nb {L : List VV} (h : ∀ v ∈ L, Okv v) : ∀ v ∈ L.map nb, Okv v := by
  intro v hv
  obtain ⟨u, hu, rfl⟩ := List.mem_map.1 hv
  have := h u hu
  exact ⟨this.k0, this.k1, this.n0, this.n1, bt_lt _ this.re⟩
theorem eg_bad (l : List Int) (p : Int) (h : (eg l p).e ≠ 0) : (eg l p).fs = [] := by
  unfold eg at h ⊢
  by_cases c : p < 0 ∨ (l.length : Int) < p + 2
  · rw [if_pos c]
  rw [if_neg c] at h ⊢
  by_cases c8 : 8 < l.getD (p + 1).toNat 0
  · rw [if_pos c8]
  rw [if_neg c8] at h ⊢
  split at h
  · exact absurd rfl h
  · rename_i hh; rw [if_neg hh]
theorem eg_len (l : List Int) (p : Int) (hr : ∀ c ∈ l, 0 ≤ c ∧ c < 256) (hlen : l.length ≤ 100000) : (eg l p).fs.length ≤ 8 := by
  by_cases h : (eg l p).e = 0
  · obtain ⟨_, _, _, _, _, _, _, hm, _⟩ := eg_only l p hr hlen h
    exact emay_len hm
  · rw [eg_bad l p h]; simp
end Go.Proofs.Ytjpdnojkgadklaa
