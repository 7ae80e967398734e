/- What stands at a place, as a plain function, and that what was put is got. -/
import Derived.Test.YtmooblbnkjaenaaLbOwn
import Derived.Test.YtmooblbnkjaenaaLbPackMath
namespace Go.Proofs.Ytmooblbnkjaenaa
open Go Go.RowKit Pk
set_option maxRecDepth 20000


/- what stands at a place: the number, where it ends, the error -/
def gv (l : List Int) (p : Int) : Nat × Nat × Nat := if p < 0 ∨ (l.length : Int) < p then (0, 0, 3) else gt (l.drop p.toNat) 0 0
def gN (l : List Int) (p : Int) : Nat := (gv l p).1
def gK (l : List Int) (p : Int) : Int := if (gv l p).2.2 = 0 then p + ((gv l p).2.1 : Int) else 0
def gE (l : List Int) (p : Int) : Nat := (gv l p).2.2

theorem g_err (l : List Int) (p : Int) (h : gE l p ≠ 0) : gN l p = 0 ∧ gK l p = 0 := by
  unfold gE at h
  unfold gN gK
  rw [if_neg h]
  refine ⟨?_, rfl⟩
  unfold gv at h ⊢
  split
  · rfl
  · rename_i c
    rw [if_neg c] at h
    exact (gt_err _ _ _ h).1

theorem g_ok (l : List Int) (p : Int) (hr : ∀ c ∈ l, 0 ≤ c ∧ c < 256) (h : gE l p = 0) : 0 ≤ p ∧ p < gK l p ∧ gK l p ≤ (l.length : Int) ∧ (l.drop p.toNat).take (gK l p - p).toNat = wrt (gN l p) ∧ gN l p < 18446744073709551616 := by
  unfold gE at h
  unfold gN gK
  rw [if_pos h]
  unfold gv at h ⊢
  by_cases c : p < 0 ∨ (l.length : Int) < p
  · rw [if_pos c] at h; simp at h
  · rw [if_neg c] at h ⊢
    obtain ⟨q, rfl⟩ : ∃ q : Nat, p = (q : Int) := ⟨p.toNat, by omega⟩
    rw [Int.toNat_natCast] at h ⊢
    have hr2 : ∀ c ∈ l.drop q, 0 ≤ c ∧ c < 256 := fun c hc => hr c (List.mem_of_mem_drop hc)
    rcases e : gt (l.drop q) 0 0 with ⟨n, k, z⟩
    rw [e] at h
    simp only at h ⊢
    subst h
    obtain ⟨m, h1, h2, h3, h4, _⟩ := gt_only _ 0 0 n k hr2 e
    have h5 := gt_room _ 0 0 n k hr2 (by omega) (by simp) e
    rw [List.length_drop] at h3
    refine ⟨by omega, by omega, by omega, ?_, h5⟩
    rw [show ((q : Int) + (k : Int) - (q : Int)).toNat = k - 0 by omega, h4, h1]
    simp

theorem g_lt (l : List Int) (p : Int) (hr : ∀ c ∈ l, 0 ≤ c ∧ c < 256) : gN l p < 18446744073709551616 := by
  by_cases h : gE l p = 0
  · exact (g_ok l p hr h).2.2.2.2
  · rw [(g_err l p h).1]; omega


/- ### what was put is got -/
theorem got (pre post : List Int) (n : Nat) (hn : n < 18446744073709551616) (L : List Int) (hL : L = pre ++ (wrt n ++ post)) (p : Int) (hp : p = (pre.length : Int)) :
    gN L p = n ∧ gK L p = p + ((wrt n).length : Int) ∧ gE L p = 0 := by
  have e : gv L p = (n, (wrt n).length, 0) := by
    unfold gv
    rw [if_neg (by rw [hL, hp, List.length_append]; omega), hp, Int.toNat_natCast, hL, List.drop_left, gt_wrt post n 0 0 (by simpa using hn) (.inl rfl)]
    simp
  unfold gN gK gE
  rw [e]
  exact ⟨rfl, rfl, rfl⟩


theorem f_get (l : List Int) (p : Int) (hr : ∀ c ∈ l, 0 ≤ c ∧ c < 256) (h : gE l p = 0) : ∃ q K : Nat, p = (q : Int) ∧ gK l p = (K : Int) ∧ q < K ∧ K ≤ l.length ∧ (l.drop q).take (K - q) = wrt (gN l p) ∧ gN l p < 18446744073709551616 := by
  obtain ⟨o1, o2, o3, o4, o5⟩ := g_ok l p hr h
  refine ⟨p.toNat, (gK l p).toNat, by omega, by omega, by omega, by omega, ?_, o5⟩
  rw [← o4]
  congr 1
  omega

/- the text at a place -/
def tE (l : List Int) (p m : Int) : Nat := if gE l p ≠ 0 then gE l p else if max m 0 < (gN l p : Int) then 4 else if (l.length : Int) - gK l p < (gN l p : Int) then 3 else 0
def tK (l : List Int) (p m : Int) : Int := if tE l p m = 0 then gK l p + (gN l p : Int) else 0
def tL (l : List Int) (p m : Int) : List Int := if tE l p m = 0 then (l.drop (gK l p).toNat).take (gN l p) else []
theorem t_bad (l : List Int) (p m : Int) (e : Nat) (h : tE l p m = e) (h0 : e ≠ 0) : tK l p m = 0 ∧ tL l p m = [] := by
  unfold tK tL
  rw [if_neg (by omega), if_neg (by omega)]
  exact ⟨rfl, rfl⟩

theorem gotText (pre post : List Int) (s : ByteArray) (hs : s.size < 9223372036854775808) (L : List Int) (hL : L = pre ++ (wrt s.size ++ (txt s ++ post))) (p : Int) (hp : p = (pre.length : Int)) :
    tL L p (s.size : Int) = txt s ∧ tK L p (s.size : Int) = p + ((wrt s.size).length : Int) + (s.size : Int) ∧ tE L p (s.size : Int) = 0 := by
  obtain ⟨g1, g2, g3⟩ := got pre (txt s ++ post) s.size (by omega) L hL p hp
  have hlen : (L.length : Int) = (pre.length : Int) + ((wrt s.size).length : Int) + (s.size : Int) + (post.length : Int) := by
    rw [hL, List.length_append, List.length_append, List.length_append, txt_length]; omega
  have e : tE L p (s.size : Int) = 0 := by
    unfold tE
    rw [g1, g2, g3, if_neg (by omega), if_neg (by omega), if_neg (by omega)]
  unfold tL tK
  rw [if_pos e, if_pos e, g1, g2]
  refine ⟨?_, rfl, e⟩
  rw [hp, show ((pre.length : Int) + ((wrt s.size).length : Int)).toNat = (pre ++ wrt s.size).length by rw [List.length_append]; omega, hL, ← List.append_assoc, List.drop_left, ← txt_length, List.take_left]

theorem f_text (l : List Int) (p m : Int) (hr : ∀ c ∈ l, 0 ≤ c ∧ c < 256) (hlen : l.length ≤ 100000) (h : tE l p m = 0) : ∃ q K : Nat, p = (q : Int) ∧ tK l p m = (K : Int) ∧ q < K ∧ K ≤ l.length ∧ (l.drop q).take (K - q) = wrt (strOfNums (tL l p m)).size ++ txt (strOfNums (tL l p m)) ∧ (strOfNums (tL l p m)).size ≤ 100000 := by
  have hg : gE l p = 0 := by
    by_cases c : gE l p = 0
    · exact c
    · unfold tE at h; rw [if_pos c] at h; exact h
  have c3 : ¬ (l.length : Int) - gK l p < (gN l p : Int) := by
    intro c
    unfold tE at h
    rw [if_neg (by omega)] at h
    split at h
    · omega
    · omega
  obtain ⟨q, K, rfl, e1, k1, k2, k3, k4⟩ := f_get l p hr hg
  have eL : tL l (q : Int) m = (l.drop K).take (gN l q) := by unfold tL; rw [if_pos h, e1]; rfl
  have eK : tK l (q : Int) m = ((K + gN l q : Nat) : Int) := by unfold tK; rw [if_pos h, e1]; omega
  have hr2 : ∀ c ∈ tL l (q : Int) m, 0 ≤ c ∧ c < 256 := fun c hc => by rw [eL] at hc; exact hr c (List.mem_of_mem_drop (List.mem_of_mem_take hc))
  have es : (strOfNums (tL l (q : Int) m)).size = gN l q := by rw [← txt_length, txt_str _ hr2, eL, cut_len _ _ _ (by omega)]
  refine ⟨q, K + gN l q, rfl, eK, by omega, by omega, ?_, by omega⟩
  rw [es, txt_str _ hr2, eL, ← k3]
  conv => lhs; rw [show K + gN l q - q = (K - q) + gN l q by omega, List.take_add, List.drop_drop, show q + (K - q) = K by omega]
theorem place_lt (acc d k : Nat) (ha : acc < 128 ^ k) (hd : d < 128) : acc + d * 128 ^ k < 128 ^ (k + 1) := by
  have : d * 128 ^ k ≤ 127 * 128 ^ k := Nat.mul_le_mul_right _ (by omega)
  rw [Nat.pow_succ]; omega
theorem place_room (acc d k : Nat) (h9 : k ≤ 9) (ha : acc < 128 ^ k) (hd : d < 128) (h : k = 9 → d ≤ 1) : acc + d * 128 ^ k < 18446744073709551616 := by
  by_cases e : k = 9
  · subst e
    have := h rfl
    have : d * 128 ^ 9 ≤ 1 * 128 ^ 9 := Nat.mul_le_mul_right _ this
    omega
  · have := place_lt acc d k ha hd
    have : 128 ^ (k + 1) ≤ 128 ^ 9 := Nat.pow_le_pow_right (by omega) (by omega)
    omega
theorem ret_get {x a b : Int} {e : Value} (h : a = b) : Ending.returned (.tuple #[.int .u64 x, .int .i64 a, e]) = .returned (.tuple #[.int .u64 x, .int .i64 b, e]) := by rw [h]
end Go.Proofs.Ytmooblbnkjaenaa
