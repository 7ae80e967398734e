/- What patterns mean, as relations between places: chains of parts, the places that a search reaches. No program. -/
import Derived.Lib.Hide
namespace Go.Proofs.YtpnllbojifnopaaGreatDoor
set_option maxRecDepth 20000
abbrev Rl2 := Nat → Nat → Bool
def thn (N : Nat) (a b : Rl2) : Rl2 := fun i j => (List.range N).any fun k => a i k && b k j
def gp (g : Nat → Bool) : Rl2 := fun i j => decide (i < j) && (List.range j).all fun k => !(decide (i < k) && g k)
def chn (N : Nat) (g : Rl2) : List Rl2 → Rl2
  | [] => fun _ _ => false
  | r :: rs => rs.foldl (fun a b => thn N (thn N a g) b) r
theorem chn_one (N : Nat) (g r : Rl2) : chn N g [r] = r := rfl
theorem chn_snoc (N : Nat) (g : Rl2) (rs : List Rl2) (h : rs ≠ []) (r : Rl2) : chn N g (rs ++ [r]) = thn N (thn N (chn N g rs) g) r := by
  cases rs with
  | nil => exact absurd rfl h
  | cons a rs => show (rs ++ [r]).foldl _ a = _; rw [List.foldl_append]; rfl
theorem thn_iff {N : Nat} {a b : Rl2} {i j : Nat} : thn N a b i j = true ↔ ∃ k, k < N ∧ a i k = true ∧ b k j = true := by
  unfold thn
  rw [List.any_eq_true]
  constructor
  · rintro ⟨k, hk, h⟩
    rw [Bool.and_eq_true] at h
    exact ⟨k, List.mem_range.1 hk, h⟩
  · rintro ⟨k, hk, h1, h2⟩
    exact ⟨k, List.mem_range.2 hk, by rw [h1, h2]; rfl⟩
theorem gp_iff {g : Nat → Bool} {i j : Nat} : gp g i j = true ↔ i < j ∧ ∀ k, i < k → k < j → g k = false := by
  unfold gp
  rw [Bool.and_eq_true, decide_eq_true_iff, List.all_eq_true]
  constructor
  · rintro ⟨h1, h2⟩
    refine ⟨h1, fun k hk hj => ?_⟩
    have := h2 k (List.mem_range.2 hj)
    simpa [hk] using this
  · rintro ⟨h1, h2⟩
    refine ⟨h1, fun k hk => ?_⟩
    by_cases hi : i < k
    · simp [hi, h2 k hi (List.mem_range.1 hk)]
    · simp [hi]
def rng (o : Nat) (f : Nat → Bool) : List Nat := (List.range o).filter f
theorem take_snoc_r (rs : List Rl2) (k : Nat) (h : k < rs.length) : rs.take (k + 1) = rs.take k ++ [rs.getD k fun _ _ => false] := by
  rw [List.take_succ_eq_append_getElem h, List.getD_eq_getElem?_getD, List.getElem?_eq_getElem h]; rfl
theorem getD_mem_r (rs : List Rl2) (k : Nat) (h : k < rs.length) : rs.getD k (fun _ _ => false) ∈ rs := by
  rw [List.getD_eq_getElem?_getD, List.getElem?_eq_getElem h]; exact List.getElem_mem _
def anyc (N : Nat) (g : Nat → Bool) (rs : List Rl2) (least : Nat) : Rl2 := fun i j => (List.range rs.length).any fun k => decide (least ≤ k + 1) && chn N (gp g) (rs.take (k + 1)) i j
def altr (rs : List Rl2) : Rl2 := fun i j => rs.any fun r => r i j
def ovr (N : Nat) (at_ : Nat → Nat) (W : Nat) (i : Nat) : Nat := ((List.range N).find? fun j => decide (i ≤ j) && decide (W < at_ j - at_ i)).getD N
end Go.Proofs.YtpnllbojifnopaaGreatDoor
