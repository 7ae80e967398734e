/- Which event stands at a place, as a plain function; that what is put is got, and what is got is put as it stood. -/
import Derived.Test.YtjpdnojkgadklaaEvPut
namespace Go.Proofs.Ytjpdnojkgadklaa
open Go Go.RowKit Pk Rl
set_option maxRecDepth 20000

/- so many values from a place on, behind those that are there already -/
def gf (l : List Int) : Nat → Int → List VV → List VV × Int × Nat
  | 0, p, acc => (acc, p, 0)
  | n + 1, p, acc => if (vg l p).2.2 = 0 then gf l n (vg l p).2.1 (acc ++ [(vg l p).1]) else ([], 0, (vg l p).2.2)
structure EG where
  t : Int
  fs : List VV
  k : Int
  e : Nat
def eg (l : List Int) (p : Int) : EG :=
  if p < 0 ∨ (l.length : Int) < p + 2 then ⟨0, [], 0, 3⟩
  else if 8 < l.getD (p + 1).toNat 0 then ⟨0, [], 0, 12⟩
  else if (gf l (l.getD (p + 1).toNat 0).toNat (p + 2) []).2.2 = 0 then ⟨l.getD p.toNat 0, (gf l (l.getD (p + 1).toNat 0).toNat (p + 2) []).1, (gf l (l.getD (p + 1).toNat 0).toNat (p + 2) []).2.1, 0⟩
  else ⟨0, [], 0, (gf l (l.getD (p + 1).toNat 0).toNat (p + 2) []).2.2⟩
theorem gf_zero (l : List Int) (p : Int) (acc : List VV) : gf l 0 p acc = (acc, p, 0) := rfl
theorem gf_good (l : List Int) (n : Nat) (p : Int) (acc : List VV) (h : (vg l p).2.2 = 0) : gf l (n + 1) p acc = gf l n (vg l p).2.1 (acc ++ [(vg l p).1]) := by rw [gf, if_pos h]
theorem gf_bad (l : List Int) (n : Nat) (p : Int) (acc : List VV) (h : (vg l p).2.2 ≠ 0) : gf l (n + 1) p acc = ([], 0, (vg l p).2.2) := by rw [gf, if_neg h]

theorem vg_ok (l : List Int) (p : Int) (hr : ∀ c ∈ l, 0 ≤ c ∧ c < 256) (hlen : l.length ≤ 100000) (h : (vg l p).2.2 = 0) : Okv (vg l p).1 := by
  obtain ⟨q, K, _, _, o⟩ := vg_only l p hr hlen h
  have := mayv_k (v := (vg l p).1) o.mayb
  exact ⟨this.1, this.2, o.lo, o.hi, o.re⟩
theorem gf_ok (l : List Int) (hr : ∀ c ∈ l, 0 ≤ c ∧ c < 256) (hlen : l.length ≤ 100000) (n : Nat) (p : Int) (acc : List VV) (ha : ∀ v ∈ acc, Okv v) : ∀ v ∈ (gf l n p acc).1, Okv v := by
  induction n generalizing p acc with
  | zero => exact ha
  | succ n ih =>
    by_cases h : (vg l p).2.2 = 0
    · rw [gf_good l n p acc h]
      exact ih _ _ (fun v hv => by
        rcases List.mem_append.1 hv with hv | hv
        · exact ha v hv
        · rw [List.mem_singleton] at hv; subst hv; exact vg_ok l p hr hlen h)
    · rw [gf_bad l n p acc h]
      intro v hv; cases hv
theorem eg_ok (l : List Int) (p : Int) (hr : ∀ c ∈ l, 0 ≤ c ∧ c < 256) (hlen : l.length ≤ 100000) : ∀ v ∈ (eg l p).fs, Okv v := by
  unfold eg
  split
  · intro v hv; cases hv
  · split
    · intro v hv; cases hv
    · split
      · exact gf_ok l hr hlen _ _ _ (fun v hv => by cases hv)
      · intro v hv; cases hv

/- what is put is got -/
abbrev nb (v : VV) : VV := (v.1, v.2.1, bt v.2.2.1, v.2.2.2)
theorem vg_mid (pre post : List Int) (k n : Int) (r : Nat) (s : ByteArray) (hmay : may k n r s = true) (h0 : -9223372036854775808 ≤ n) (h1 : n ≤ 9223372036854775807) (hr : r < 18446744073709551616) :
    vg (pre ++ (wv k n r s ++ post)) (pre.length : Int) = ((k, n, bt r, s), ((pre ++ wv k n r s).length : Int), 0) := by
  have hk : (pre ++ (wv k n r s ++ post)).getD pre.length 0 = k := by
    rw [List.getD_eq_getElem?_getD, List.getElem?_append_right (Nat.le_refl _), Nat.sub_self]
    simp [wv]
  have hlen : ¬ ((pre.length : Int) < 0 ∨ (((pre ++ (wv k n r s ++ post)).length : Nat) : Int) ≤ (pre.length : Int)) := by
    have : 1 ≤ (wv k n r s).length := by unfold wv; simp
    rw [List.length_append, List.length_append]
    omega
  have hp : ((pre.length : Nat) : Int) + 1 = ((pre ++ [k]).length : Int) := by simp
  unfold vg
  rw [if_neg hlen, Int.toNat_natCast, hk]
  have b0 : bt 0 = 0 := by decide
  rcases may_facts hmay with ⟨rfl, rfl, rfl, e⟩ | ⟨rfl, rfl, e⟩ | ⟨rfl, rfl, e⟩ | ⟨rfl, rfl, rfl, e⟩
  · rw [if_pos rfl, empty_of_size e, b0]
    simp [wv]
  · rw [if_neg (by omega), if_pos rfl]
    have hL : pre ++ (wv 1 n 0 s ++ post) = (pre ++ [1]) ++ (wrt (zig n) ++ post) := by simp [wv]
    obtain ⟨g1, g2, g3⟩ := got (pre ++ [1]) post (zig n) (zig_lt n h0 h1) _ hL _ hp
    rw [if_pos g3, g1, g2, sg_zig, empty_of_size e, b0, hp]
    simp [wv]
    omega
  · rw [if_neg (by omega), if_neg (by omega), if_pos rfl]
    have hL : pre ++ (wv 2 0 r s ++ post) = (pre ++ [2]) ++ (w8 (bt r) ++ post) := by simp [wv]
    obtain ⟨g1, g2, g3⟩ := gotReal (pre ++ [2]) post (bt r) (bt_lt r hr) (bt_bt r) _ hL _ hp
    rw [if_pos g3, g1, g2, empty_of_size e, hp]
    simp [wv, show (w8 (bt r)).length = 8 from rfl]
    omega
  · rw [if_neg (by omega), if_neg (by omega), if_neg (by omega), if_pos rfl]
    have hL : pre ++ (wv 3 0 0 s ++ post) = (pre ++ [3]) ++ (wrt s.size ++ (txt s ++ post)) := by simp [wv]
    obtain ⟨g1, g2, g3⟩ := gotText255 (pre ++ [3]) post s e _ hL _ hp
    rw [if_pos g3, g1, g2, str_txt, b0, hp]
    simp [wv, txt_length]
    omega
theorem gf_back (L : List VV) (hm : ∀ v ∈ L, mayv v = true) (hk : ∀ v ∈ L, Okv v) (pre : List Int) (acc : List VV) :
    gf (pre ++ wf L) L.length (pre.length : Int) acc = (acc ++ L.map nb, ((pre ++ wf L).length : Int), 0) := by
  induction L generalizing pre acc with
  | nil => simp [gf, wf]
  | cons v L ih =>
    have o := hk v (by simp)
    have e := vg_mid pre (wf L) _ _ _ _ (hm v (by simp)) o.n0 o.n1 o.re
    have hw : pre ++ wf (v :: L) = pre ++ (wvv v ++ wf L) := rfl
    rw [hw, List.length_cons, gf_good _ _ _ _ (by rw [e]), e]
    have := ih (fun u hu => hm u (by simp [hu])) (fun u hu => hk u (by simp [hu])) (pre ++ wvv v) (acc ++ [nb v])
    rw [List.append_assoc] at this
    rw [this]
    simp
theorem eg_back (l : List Int) (t : Int) (L : List VV) (h : emay L = true) (hk : ∀ v ∈ L, Okv v) : eg (l ++ wev t L) (l.length : Int) = ⟨t, L.map nb, ((l ++ wev t L).length : Int), 0⟩ := by
  have h8 := emay_len h
  have g0 : (l ++ wev t L).getD l.length 0 = t := by
    rw [List.getD_eq_getElem?_getD, List.getElem?_append_right (Nat.le_refl _), Nat.sub_self]; simp [wev]
  have g1 : (l ++ wev t L).getD (l.length + 1) 0 = (L.length : Int) := by
    rw [List.getD_eq_getElem?_getD, List.getElem?_append_right (by omega), show l.length + 1 - l.length = 1 by omega]; simp [wev]
  have hl : (l ++ wev t L).length = l.length + 2 + (wf L).length := by rw [List.length_append, wev, List.length_append]; simp; omega
  have hg := gf_back L (emay_all h) hk (l ++ [t, (L.length : Int)]) []
  have hlw : (l ++ [t, (L.length : Int)]) ++ wf L = l ++ wev t L := by rw [wev, List.append_assoc]
  have hp : (((l ++ [t, (L.length : Int)]).length : Nat) : Int) = (l.length : Int) + 2 := by simp
  rw [hlw, hp, List.nil_append] at hg
  unfold eg
  rw [if_neg (by rw [hl]; omega), show ((l.length : Int) + 1).toNat = l.length + 1 by omega, g1, if_neg (by omega), Int.toNat_natCast, Int.toNat_natCast, hg, if_pos rfl, g0]

/- what is got is put as it stood -/
theorem gf_only (l : List Int) (hr : ∀ c ∈ l, 0 ≤ c ∧ c < 256) (hlen : l.length ≤ 100000) (n q : Nat) (hq : q ≤ l.length) (acc : List VV) (h : (gf l n (q : Int) acc).2.2 = 0) :
    ∃ (K : Nat) (M : List VV), (gf l n (q : Int) acc).2.1 = (K : Int) ∧ q ≤ K ∧ K ≤ l.length ∧ (gf l n (q : Int) acc).1 = acc ++ M ∧ M.length = n ∧ (l.drop q).take (K - q) = wf M ∧ ∀ v ∈ M, mayv v = true := by
  induction n generalizing q acc with
  | zero => exact ⟨q, [], rfl, Nat.le_refl _, hq, by simp [gf], rfl, by simp [wf], by simp⟩
  | succ n ih =>
    by_cases hv : (vg l (q : Int)).2.2 = 0
    · rw [gf_good l n _ acc hv] at h ⊢
      obtain ⟨q', K1, e1, e2, o⟩ := vg_only l _ hr hlen hv
      obtain rfl : q = q' := by omega
      rw [e2] at h ⊢
      obtain ⟨K, M, f1, f2, f3, f4, f5, f6, f7⟩ := ih K1 o.top _ h
      refine ⟨K, (vg l (q : Int)).1 :: M, f1, Nat.le_trans o.le f2, f3, by rw [f4]; simp, by simp [f5], ?_, fun v hv => ?_⟩
      · have := o.le
        rw [show K - q = (K1 - q) + (K - K1) by omega, List.take_add, o.cut, List.drop_drop, show q + (K1 - q) = K1 by omega, f6]
        rfl
      · rcases List.mem_cons.1 hv with rfl | hv
        · exact o.mayb
        · exact f7 v hv
    · rw [gf_bad l n _ acc hv] at h
      exact absurd h hv
theorem eg_only (l : List Int) (p : Int) (hr : ∀ c ∈ l, 0 ≤ c ∧ c < 256) (hlen : l.length ≤ 100000) (h : (eg l p).e = 0) :
    ∃ q K : Nat, p = (q : Int) ∧ (eg l p).k = (K : Int) ∧ q + 2 ≤ K ∧ K ≤ l.length ∧ (l.drop q).take (K - q) = wev (eg l p).t (eg l p).fs ∧ emay (eg l p).fs = true ∧ 0 ≤ (eg l p).t ∧ (eg l p).t < 256 := by
  unfold eg at h ⊢
  by_cases c : p < 0 ∨ (l.length : Int) < p + 2
  · rw [if_pos c] at h; exact absurd h (by simp)
  rw [if_neg c] at h ⊢
  by_cases c8 : 8 < l.getD (p + 1).toNat 0
  · rw [if_pos c8] at h; exact absurd h (by simp)
  rw [if_neg c8] at h ⊢
  obtain ⟨q, rfl⟩ : ∃ q : Nat, p = (q : Int) := ⟨p.toNat, by omega⟩
  rw [show ((q : Int) + 1).toNat = q + 1 by omega] at h c8 ⊢
  rw [show ((q : Int) + 2) = ((q + 2 : Nat) : Int) by omega] at h ⊢
  by_cases cg : (gf l (l.getD (q + 1) 0).toNat ((q + 2 : Nat) : Int) []).2.2 = 0
  · rw [if_pos cg]
    obtain ⟨K, M, f1, f2, f3, f4, f5, f6, f7⟩ := gf_only l hr hlen _ (q + 2) (by omega) [] cg
    have r0 := getD_range l q (by omega) hr
    have r1 := getD_range l (q + 1) (by omega) hr
    rw [List.nil_append] at f4
    refine ⟨q, K, rfl, f1, f2, f3, ?_, ?_, ?_⟩
    · show _ = wev (l.getD (q : Int).toNat 0) (gf l (l.getD (q + 1) 0).toNat ((q + 2 : Nat) : Int) []).1
      rw [f4, Int.toNat_natCast, wev, f5, ← f6, drop_cons l q (by omega), show K - q = (K - (q + 2)) + 1 + 1 by omega, List.take_succ_cons, drop_cons l (q + 1) (by omega), List.take_succ_cons]
      rw [show (((l.getD (q + 1) 0).toNat : Nat) : Int) = l.getD (q + 1) 0 by omega]
      rfl
    · show emay (gf l (l.getD (q + 1) 0).toNat ((q + 2 : Nat) : Int) []).1 = true
      rw [f4, emay, f5, decide_eq_true (by omega), Bool.true_and, List.all_eq_true]
      exact f7
    · show 0 ≤ l.getD (q : Int).toNat 0 ∧ l.getD (q : Int).toNat 0 < 256
      rw [Int.toNat_natCast]; exact r0
  · rw [if_neg cg] at h; exact absurd h cg
end Go.Proofs.Ytjpdnojkgadklaa
