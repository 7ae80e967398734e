/- What automata by value are bounded by. -/
import Derived.Test.YtpnllbojifnopaaGreatDoorAuC
namespace Go.Proofs.YtpnllbojifnopaaGreatDoor
open Go Go.RowKit Pk Rl
set_option maxRecDepth 20000

theorem pow_up {a b c : Nat} (h : a < 2 ^ b) (hb : b ≤ c) : a < 2 ^ c := Nat.lt_of_lt_of_le h (Nat.pow_le_pow_right (by omega) hb)
def Lt2 (n : Nat) (s : Res) : Prop := s.1 < 2 ^ (n + s.2.2.1.length) ∧ s.2.1 < 2 ^ (n + s.2.2.1.length)
theorem ei_lt (f : List Nd → Nat → Res) (n : Nat) (ps : List (List Nd)) (h : ∀ p ∈ ps, ∀ n, Lt2 n (f p n)) : ∀ s : Res, Lt2 n s → Lt2 n (ps.foldl (eis f n) s) := by
  induction ps with
  | nil => intro s hs; exact hs
  | cons p ps ih =>
    intro s hs
    refine ih (fun q hq => h q (List.mem_cons_of_mem _ hq)) _ ?_
    have hp := h p (List.mem_cons_self ..) (n + s.2.2.1.length)
    unfold Lt2 eis at *
    simp only [List.length_append] at *
    rw [← Nat.add_assoc]
    exact ⟨Nat.or_lt_two_pow (pow_up hs.1 (by omega)) hp.1, Nat.or_lt_two_pow (pow_up hs.2 (by omega)) hp.2⟩
theorem ch_lt (f : List Nd → Nat → Res) (n : Nat) (y : Bool) (g : VQ) (least : Nat) (ps : List (List Nd)) (h : ∀ p ∈ ps, ∀ n, Lt2 n (f p n)) : ∀ s : Cs, (s.fi < 2 ^ (n + s.P.length) ∧ s.la < 2 ^ (n + s.P.length)) →
    ((ps.foldl (cst f n y g least) s).fi < 2 ^ (n + (ps.foldl (cst f n y g least) s).P.length) ∧ (ps.foldl (cst f n y g least) s).la < 2 ^ (n + (ps.foldl (cst f n y g least) s).P.length)) := by
  induction ps with
  | nil => intro s hs; exact hs
  | cons p ps ih =>
    intro s hs
    refine ih (fun q hq => h q (List.mem_cons_of_mem _ hq)) _ ?_
    have hp := h p (List.mem_cons_self ..) (n + s.P.length)
    unfold Lt2 at hp
    unfold cst
    simp only [List.length_append]
    rw [← Nat.add_assoc]
    refine ⟨?_, ?_⟩
    · by_cases c : s.i = 0
      · rw [if_pos c]; exact hp.1
      · rw [if_neg c]; exact pow_up hs.1 (by omega)
    · by_cases c : least ≤ s.i + 1
      · rw [if_pos c]; exact Nat.or_lt_two_pow (pow_up hs.2 (by omega)) hp.2
      · rw [if_neg c]; exact pow_up hs.2 (by omega)
theorem au_lt (k : Nat) : ∀ (l : List Nd) (n : Nat), Lt2 n (au k l n) := by
  induction k with
  | zero => intro l n; unfold au Lt2; simp [Nat.two_pow_pos]
  | succ k ih =>
    intro l n
    have h0 : ∀ m : Nat, 0 < 2 ^ m := Nat.two_pow_pos
    unfold au
    split
    · exact ch_lt (au k) n _ _ _ _ (fun p _ n => ih p n) cs0 ⟨h0 _, h0 _⟩
    · split
      · exact ei_lt (au k) n _ (fun p _ n => ih p n) _ ⟨h0 _, h0 _⟩
      · split
        · exact ch_lt (au k) n _ _ _ _ (fun p _ n => ih p n) cs0 ⟨h0 _, h0 _⟩
        · unfold Lt2; simp; exact Nat.pow_lt_pow_right (by omega) (by omega)
theorem au_32 (k : Nat) (l : List Nd) (n : Nat) (h : n + (au k l n).2.2.1.length ≤ 32) : (au k l n).1 < 4294967296 ∧ (au k l n).2.1 < 4294967296 :=
  ⟨pow_up (au_lt k l n).1 h, pow_up (au_lt k l n).2 h⟩
end Go.Proofs.YtpnllbojifnopaaGreatDoor
