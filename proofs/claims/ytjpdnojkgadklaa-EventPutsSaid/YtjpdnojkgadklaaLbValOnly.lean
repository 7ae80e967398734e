/- What is got may be, and stands as it is written; a value is the same as itself. -/
import Derived.Test.YtjpdnojkgadklaaLbValSays
import Derived.Test.YtjpdnojkgadklaaLbValSame
namespace Go.Proofs.Ytjpdnojkgadklaa
open Go Go.RowKit Pk Rl
set_option maxRecDepth 20000

theorem sm_bt (k n : Int) (r : Nat) (s : ByteArray) : sm k n (bt r) s k n r s = true := by
  unfold sm smB
  rw [if_pos rfl, bt_bt]
  simp
theorem sm_self (k n : Int) (r : Nat) (s : ByteArray) : sm k n r s k n r s = true := by
  unfold sm smB
  rw [if_pos rfl]
  simp
theorem vg_bad (l : List Int) (p : Int) (h : (vg l p).2.2 ≠ 0) : (vg l p).1 = vz := by
  unfold vg at h ⊢
  by_cases c : p < 0 ∨ (l.length : Int) ≤ p
  · rw [if_pos c]
  rw [if_neg c] at h ⊢
  by_cases k0 : l.getD p.toNat 0 = 0
  · rw [if_pos k0]
  rw [if_neg k0] at h ⊢
  by_cases k1 : l.getD p.toNat 0 = 1
  · rw [if_pos k1] at h ⊢
    split at h
    · exact absurd rfl h
    · rename_i e; rw [if_neg e]
  rw [if_neg k1] at h ⊢
  by_cases k2 : l.getD p.toNat 0 = 2
  · rw [if_pos k2] at h ⊢
    split at h
    · exact absurd rfl h
    · rename_i e; rw [if_neg e]
  rw [if_neg k2] at h ⊢
  by_cases k3 : l.getD p.toNat 0 = 3
  · rw [if_pos k3] at h ⊢
    split at h
    · exact absurd rfl h
    · rename_i e; rw [if_neg e]
  rw [if_neg k3]

structure Only (l : List Int) (q K : Nat) (v : VV) : Prop where
  le : q ≤ K
  top : K ≤ l.length
  cut : (l.drop q).take (K - q) = wv v.1 v.2.1 v.2.2.1 v.2.2.2
  mayb : may v.1 v.2.1 v.2.2.1 v.2.2.2 = true
  lo : -9223372036854775808 ≤ v.2.1
  hi : v.2.1 ≤ 9223372036854775807
  re : v.2.2.1 < 18446744073709551616
theorem cut_cons (l : List Int) (q K : Nat) (k : Int) (t : List Int) (hq : q < l.length) (hk : l.getD q 0 = k) (hK : q + 1 ≤ K) (h : (l.drop (q + 1)).take (K - (q + 1)) = t) : (l.drop q).take (K - q) = [k] ++ t := by
  rw [drop_cons l q hq, hk, show K - q = (K - (q + 1)) + 1 by omega, List.take_succ_cons, h]
  rfl
theorem t_size (l : List Int) (p m : Int) (hr : ∀ c ∈ l, 0 ≤ c ∧ c < 256) (h : tE l p m = 0) : ((strOfNums (tL l p m)).size : Int) ≤ max m 0 := by
  have hg : gE l p = 0 := by
    by_cases c : gE l p = 0
    · exact c
    · unfold tE at h; rw [if_pos c] at h; exact absurd h c
  have c2 : ¬ max m 0 < (gN l p : Int) := by
    intro c
    unfold tE at h
    rw [if_neg (by omega), if_pos c] at h
    omega
  have hr2 : ∀ c ∈ tL l p m, 0 ≤ c ∧ c < 256 := fun c hc => by
    unfold tL at hc
    rw [if_pos h] at hc
    exact hr c (List.mem_of_mem_drop (List.mem_of_mem_take hc))
  have e1 : (strOfNums (tL l p m)).size = (tL l p m).length := by rw [← txt_length, txt_str _ hr2]
  have e2 : (tL l p m).length ≤ gN l p := by unfold tL; rw [if_pos h, List.length_take]; omega
  rw [e1]
  omega
theorem vg_only (l : List Int) (p : Int) (hr : ∀ c ∈ l, 0 ≤ c ∧ c < 256) (hlen : l.length ≤ 100000) (h : (vg l p).2.2 = 0) : ∃ q K : Nat, p = (q : Int) ∧ (vg l p).2.1 = (K : Int) ∧ Only l q K (vg l p).1 := by
  unfold vg at h ⊢
  by_cases c : p < 0 ∨ (l.length : Int) ≤ p
  · rw [if_pos c] at h; exact absurd h (by decide)
  rw [if_neg c] at h ⊢
  obtain ⟨q, rfl⟩ : ∃ q : Nat, p = (q : Int) := ⟨p.toNat, by omega⟩
  have hq : q < l.length := by omega
  rw [Int.toNat_natCast] at h ⊢
  by_cases k0 : l.getD q 0 = 0
  · rw [if_pos k0]
    exact ⟨q, q + 1, rfl, by simp, by omega, by omega, cut_cons l q (q + 1) 0 [] hq k0 (by omega) (by simp), (by decide +kernel : may 0 0 0 ⟨#[]⟩ = true), (by decide : (-9223372036854775808 : Int) ≤ 0), (by decide : (0 : Int) ≤ 9223372036854775807), (by decide : 0 < 18446744073709551616)⟩
  rw [if_neg k0] at h ⊢
  by_cases k1 : l.getD q 0 = 1
  · rw [if_pos k1] at h ⊢
    by_cases e : gE l ((q : Int) + 1) = 0
    · rw [if_pos e]
      obtain ⟨q1, K, e1, e2, l1, l2, l3, l4⟩ := f_get l _ hr e
      obtain rfl : q1 = q + 1 := by omega
      obtain ⟨b1, b2⟩ := sg_bounds _ l4
      refine ⟨q, K, rfl, e2, by omega, l2, ?_, ?_, b1, b2, by show 0 < _; omega⟩
      · show _ = wv 1 (sg (gN l ((q : Int) + 1))) 0 ⟨#[]⟩
        rw [cut_cons l q K 1 _ hq k1 (by omega) l3]
        simp [wv, zig_sg]
      · show may 1 (sg (gN l ((q : Int) + 1))) 0 ⟨#[]⟩ = true
        simp only [may, mayB]; simp; rfl
    · rw [if_neg e] at h; exact absurd h e
  rw [if_neg k1] at h ⊢
  by_cases k2 : l.getD q 0 = 2
  · rw [if_pos k2] at h ⊢
    by_cases e : rE l ((q : Int) + 1) = 0
    · rw [if_pos e]
      obtain ⟨q1, e1, e2, l2, l3, l4⟩ := f_real l _ hr e
      obtain rfl : q1 = q + 1 := by omega
      refine ⟨q, q + 1 + 8, rfl, e2, by omega, l2, ?_, ?_, by show _ ≤ (0 : Int); omega, by show (0 : Int) ≤ _; omega, l4⟩
      · show _ = wv 2 0 (rB l ((q : Int) + 1)) ⟨#[]⟩
        rw [cut_cons l q (q + 1 + 8) 2 (w8 (bt (rB l ((q : Int) + 1)))) hq k2 (by omega) (by rw [show q + 1 + 8 - (q + 1) = 8 by omega]; exact l3)]
        simp [wv]
      · show may 2 0 (rB l ((q : Int) + 1)) ⟨#[]⟩ = true
        simp only [may, mayB]; simp; rfl
    · rw [if_neg e] at h; exact absurd h e
  rw [if_neg k2] at h ⊢
  by_cases k3 : l.getD q 0 = 3
  · rw [if_pos k3] at h ⊢
    by_cases e : tE l ((q : Int) + 1) 255 = 0
    · rw [if_pos e]
      obtain ⟨q1, K, e1, e2, l1, l2, l3, l4⟩ := f_text l _ 255 hr hlen e
      obtain rfl : q1 = q + 1 := by omega
      have ts := t_size l _ 255 hr e
      generalize strOfNums (tL l ((q : Int) + 1) 255) = t at l3 l4 ts
      refine ⟨q, K, rfl, e2, by omega, l2, ?_, ?_, by show _ ≤ (0 : Int); omega, by show (0 : Int) ≤ _; omega, by show 0 < _; omega⟩
      · show _ = wv 3 0 0 t
        rw [cut_cons l q K 3 _ hq k3 (by omega) l3]
        simp [wv]
      · show may 3 0 0 t = true
        have : t.size ≤ 255 := by omega
        simp [may, mayB, this]
    · rw [if_neg e] at h; exact absurd h e
  rw [if_neg k3] at h
  exact absurd h (by decide)
end Go.Proofs.Ytjpdnojkgadklaa
