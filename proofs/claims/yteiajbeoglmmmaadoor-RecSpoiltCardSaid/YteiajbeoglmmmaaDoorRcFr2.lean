/- Plain facts: a frame of whose sum, or of whose record, some bytes in a row of four are other ones. -/
import Derived.Test.YteiajbeoglmmmaaDoorRcFr
namespace Go.Proofs.YteiajbeoglmmmaaDoor.Crc

theorem xor_same (b x e : Int) (hx : 0 ≤ x ∧ x < 256) (h : bo e = bo b ^^^ bo x) (he : e = b) : x = 0 := by
  subst he
  have h2 := congrArg (bo e ^^^ ·) h
  simp only [BitVec.xor_self, ← BitVec.xor_assoc, BitVec.zero_xor] at h2
  exact zero_of_bits x hx.1 hx.2 fun i _ => by rw [← h2]; simp
theorem spoilt_found (r P S : List Int) (b0 b1 b2 b3 x0 x1 x2 x3 e0 e1 e2 e3 : Int) (hl : r.length ≤ 65536) (hr : Rng r) (hcut : fr r = P ++ ([b0, b1, b2, b3] ++ S)) (hP : P.length = 4 ∨ 8 ≤ P.length)
    (g0 : 0 ≤ e0 ∧ e0 < 256) (g1 : 0 ≤ e1 ∧ e1 < 256) (g2 : 0 ≤ e2 ∧ e2 < 256) (g3 : 0 ≤ e3 ∧ e3 < 256)
    (h0 : bo e0 = bo b0 ^^^ bo x0) (h1 : bo e1 = bo b1 ^^^ bo x1) (h2 : bo e2 = bo b2 ^^^ bo x2) (h3 : bo e3 = bo b3 ^^^ bo x3)
    (hx0 : 0 ≤ x0 ∧ x0 < 256) (hx1 : 0 ≤ x1 ∧ x1 < 256) (hx2 : 0 ≤ x2 ∧ x2 < 256) (hx3 : 0 ≤ x3 ∧ x3 < 256) (hne : ¬ (x0 = 0 ∧ x1 = 0 ∧ x2 = 0 ∧ x3 = 0)) :
    fE (P ++ ([e0, e1, e2, e3] ++ S)) = 6 := by
  have hlen : (P ++ ([e0, e1, e2, e3] ++ S)).length = 8 + r.length := by
    rw [← fr_len, hcut]; simp
  have key : ∀ (m q : List Int) (s : Nat), P ++ ([e0, e1, e2, e3] ++ S) = by4 r.length ++ (m ++ q) → m.length = 4 → q.length = r.length → nm (m ++ q) = s → s ≠ sm (by4 r.length) q → fE (P ++ ([e0, e1, e2, e3] ++ S)) = 6 := by
    intro m q s e hm hq hs hn
    unfold fE
    rw [hlen, e]
    have n1 : nm (by4 r.length ++ (m ++ q)) = r.length := nm_by4 _ _ (by omega)
    rw [n1, if_neg (by omega), if_neg (by omega), if_neg (by omega), List.drop_left' (by4_len _), List.take_left' (by4_len _)]
    have d8 : (by4 r.length ++ (m ++ q)).drop 8 = q := by
      rw [show 8 = 4 + 4 from rfl, ← List.drop_drop, List.drop_left' (by4_len _), List.drop_left' hm]
    rw [d8, List.take_of_length_le (by omega), hs, if_neg hn]
  rcases hP with hP | hP
  · have hc := hcut
    unfold fr at hc
    obtain ⟨hp, hc2⟩ := List.append_inj hc (by rw [by4_len, hP])
    obtain ⟨hp2, hc3⟩ := List.append_inj hc2 (by rw [by4_len]; rfl)
    refine key [e0, e1, e2, e3] S (nm ([e0, e1, e2, e3] ++ S)) (by rw [hp]) rfl (by rw [hc3]) rfl ?_
    intro h
    rw [← hc3] at h
    have rg : Rng ([e0, e1, e2, e3] ++ r) := Rng.app (by intro c hc; simp at hc; omega) hr
    have e := by4_nm ([e0, e1, e2, e3] ++ r) (by simp) rg
    rw [h, hp2] at e
    simp at e
    obtain ⟨q0, q1, q2, q3⟩ := e
    exact hne ⟨xor_same b0 x0 e0 hx0 h0 q0.symm, xor_same b1 x1 e1 hx1 h1 q1.symm, xor_same b2 x2 e2 hx2 h2 q2.symm, xor_same b3 x3 e3 hx3 h3 q3.symm⟩
  · have c8 : (fr r).take 8 = by4 r.length ++ by4 (sm (by4 r.length) r) := by
      unfold fr
      rw [← List.append_assoc, List.take_left' (by simp [by4_len])]
    have d8 : (fr r).drop 8 = r := by
      unfold fr
      rw [← List.append_assoc, List.drop_left' (by simp [by4_len])]
    have p8 : P.take 8 = by4 r.length ++ by4 (sm (by4 r.length) r) := by
      rw [← c8, hcut, List.take_append_of_le_length hP]
    have r8 : r = P.drop 8 ++ ([b0, b1, b2, b3] ++ S) := by
      rw [← List.drop_append_of_le_length hP, ← hcut, d8]
    have eP : P = by4 r.length ++ (by4 (sm (by4 r.length) r) ++ P.drop 8) := by
      conv => lhs; rw [← List.take_append_drop 8 P, p8]
      rw [List.append_assoc]
    refine key (by4 (sm (by4 r.length) r)) (P.drop 8 ++ ([e0, e1, e2, e3] ++ S)) (sm (by4 r.length) r) ?_ (by4_len _) ?_ (nm_by4 _ _ (sm_lt _ _)) ?_
    · conv => lhs; rw [eP]
      simp only [List.append_assoc]
    · conv => rhs; rw [r8]
      simp
    · intro h
      unfold sm at h
      have h' := BitVec.eq_of_toNat_eq h
      have bb : ∀ c ∈ [b0, b1, b2, b3], 0 ≤ c ∧ c < 256 := fun c hc => hr c (by rw [r8]; simp only [List.mem_append]; exact .inr (.inl hc))
      have t1 := bb b1 (by simp)
      have t2 := bb b2 (by simp)
      have t3 := bb b3 (by simp)
      refine spoilt_row 0#32 (by4 r.length ++ P.drop 8) S b0 b1 b2 b3 x0 x1 x2 x3 e0 e1 e2 e3 (by omega) (by omega) (by omega) (by omega) (by omega) (by omega) h0 h1 h2 h3 hx0 hx1 hx2 hx3 hne ?_
      have E1 : by4 r.length ++ P.drop 8 ++ [e0, e1, e2, e3] ++ S = by4 r.length ++ (P.drop 8 ++ ([e0, e1, e2, e3] ++ S)) := by simp
      have E2 : by4 r.length ++ P.drop 8 ++ [b0, b1, b2, b3] ++ S = by4 r.length ++ r := by
        rw [List.append_assoc, List.append_assoc, ← r8]
      rw [E1, E2]
      exact h'.symm
theorem cut4 (l : List Int) (k : Nat) (h : k + 4 ≤ l.length) : ∃ p b0 b1 b2 b3 s, l = p ++ ([b0, b1, b2, b3] ++ s) ∧ p.length = k := by
  have hd : 4 ≤ (l.drop k).length := by rw [List.length_drop]; omega
  match hq : l.drop k, hd with
  | b0 :: b1 :: b2 :: b3 :: s, _ =>
    refine ⟨l.take k, b0, b1, b2, b3, s, ?_, by rw [List.length_take]; omega⟩
    have := List.take_append_drop k l
    rw [hq] at this
    exact this.symm
end Go.Proofs.YteiajbeoglmmmaaDoor.Crc
