/- Which real number stands at a place, as a plain function. -/
import Derived.Test.YtjpdnojkgadklaaLbGetSays
import Derived.Test.YtjpdnojkgadklaaLbReal
namespace Go.Proofs.Ytjpdnojkgadklaa
open Go Go.RowKit Pk Rl
set_option maxRecDepth 20000


/- the real number at a place -/
def rR (l : List Int) (p : Int) : Nat := be ((l.drop p.toNat).take 8)
def rE (l : List Int) (p : Int) : Nat := if p < 0 ∨ (l.length : Int) < p + 8 then 3 else if bt (rR l p) = rR l p then 0 else 2
def rB (l : List Int) (p : Int) : Nat := if rE l p = 0 then rR l p else 0
def rK (l : List Int) (p : Int) : Int := if rE l p = 0 then p + 8 else 0
theorem be_snoc (l : List Int) (c : Int) : be (l ++ [c]) = be l * 256 + c.toNat := by unfold be; rw [List.foldl_append]; rfl
theorem be_lt' (l : List Int) (hr : ∀ c ∈ l, 0 ≤ c ∧ c < 256) : be l < 256 ^ l.length := by
  have := be_lt l 0 hr
  unfold be
  simpa using this

theorem rR_lt (l : List Int) (p : Int) (hr : ∀ c ∈ l, 0 ≤ c ∧ c < 256) : rR l p < 18446744073709551616 := by
  unfold rR
  have h1 := be_lt' ((l.drop p.toNat).take 8) (fun c hc => hr c (List.mem_of_mem_drop (List.mem_of_mem_take hc)))
  have h2 : 256 ^ ((l.drop p.toNat).take 8).length ≤ 256 ^ 8 := Nat.pow_le_pow_right (by omega) (by rw [List.length_take]; omega)
  omega

theorem part_lt (l : List Int) (q k : Nat) (hr : ∀ c ∈ l, 0 ≤ c ∧ c < 256) (hk : k ≤ 7) : be ((l.drop q).take k) < 72057594037927936 := by
  have h1 := be_lt' ((l.drop q).take k) (fun c hc => hr c (List.mem_of_mem_drop (List.mem_of_mem_take hc)))
  have h2 : 256 ^ ((l.drop q).take k).length ≤ 256 ^ 7 := Nat.pow_le_pow_right (by omega) (by rw [List.length_take]; omega)
  omega

theorem gotReal (pre post : List Int) (r : Nat) (hr : r < 18446744073709551616) (hb : bt r = r) (L : List Int) (hL : L = pre ++ (w8 r ++ post)) (p : Int) (hp : p = (pre.length : Int)) :
    rB L p = r ∧ rK L p = p + 8 ∧ rE L p = 0 := by
  have e1 : rR L p = r := by
    unfold rR
    rw [hp, Int.toNat_natCast, hL, List.drop_left, show 8 = (w8 r).length from rfl, List.take_left, be_w8 r hr]
  have e : rE L p = 0 := by
    unfold rE
    rw [e1, if_neg ?_, if_pos hb]
    rw [hL, hp, List.length_append, List.length_append, show (w8 r).length = 8 from rfl]; omega
  unfold rB rK
  rw [if_pos e, if_pos e]
  exact ⟨e1, rfl, e⟩

theorem f_real (l : List Int) (p : Int) (hr : ∀ c ∈ l, 0 ≤ c ∧ c < 256) (h : rE l p = 0) : ∃ q : Nat, p = (q : Int) ∧ rK l p = ((q + 8 : Nat) : Int) ∧ q + 8 ≤ l.length ∧ (l.drop q).take 8 = w8 (bt (rB l p)) ∧ rB l p < 18446744073709551616 := by
  have c1 : ¬ (p < 0 ∨ (l.length : Int) < p + 8) := by
    intro c
    unfold rE at h
    rw [if_pos c] at h
    omega
  have c2 : bt (rR l p) = rR l p := by
    unfold rE at h
    rw [if_neg c1] at h
    split at h
    · assumption
    · omega
  have e : rB l p = rR l p := by unfold rB; rw [if_pos h]
  refine ⟨p.toNat, by omega, by unfold rK; rw [if_pos h]; omega, by omega, ?_, by rw [e]; exact rR_lt l p hr⟩
  rw [e, c2]
  unfold rR
  rw [w8_be _ (by rw [List.length_take, List.length_drop]; omega) (fun c hc => hr c (List.mem_of_mem_drop (List.mem_of_mem_take hc)))]
end Go.Proofs.Ytjpdnojkgadklaa
