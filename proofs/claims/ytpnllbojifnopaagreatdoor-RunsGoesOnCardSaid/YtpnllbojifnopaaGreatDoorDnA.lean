/- What patterns mean, as relations between places: chains of parts, the places that a search reaches. No program. -/
import Derived.Lib.Hide
namespace Go.Proofs.YtpnllbojifnopaaGreatDoor
set_option maxRecDepth 20000

abbrev Rl2 := Nat → Nat → Bool
/- one, and behind it the other one -/
def thn (N : Nat) (a b : Rl2) : Rl2 := fun i j => (List.range N).any fun k => a i k && b k j
/- from a place to a later one between which a guard holds of nothing -/
def gp (g : Nat → Bool) : Rl2 := fun i j => decide (i < j) && (List.range j).all fun k => !(decide (i < k) && g k)
def chn (N : Nat) (g : Rl2) : List Rl2 → Rl2
  | [] => fun _ _ => false
  | r :: rs => rs.foldl (fun a b => thn N (thn N a g) b) r
theorem chn_one (N : Nat) (g r : Rl2) : chn N g [r] = r := rfl
theorem chn_snoc (N : Nat) (g : Rl2) (rs : List Rl2) (h : rs ≠ []) (r : Rl2) : chn N g (rs ++ [r]) = thn N (thn N (chn N g rs) g) r := by
  cases rs with
  | nil => exact absurd rfl h
  | cons a rs => show (rs ++ [r]).foldl _ a = _; rw [List.foldl_append]; rfl
/- a relation that leads to no earlier place, and out of no row -/
def Fwd (N : Nat) (r : Rl2) : Prop := ∀ i j, r i j = true → i ≤ j ∧ j < N
theorem thn_iff {N : Nat} {a b : Rl2} {i j : Nat} : thn N a b i j = true ↔ ∃ k, k < N ∧ a i k = true ∧ b k j = true := by
  unfold thn
  rw [List.any_eq_true]
  constructor
  · rintro ⟨k, hk, h⟩
    rw [Bool.and_eq_true] at h
    exact ⟨k, List.mem_range.1 hk, h⟩
  · rintro ⟨k, hk, h1, h2⟩
    exact ⟨k, List.mem_range.2 hk, by rw [h1, h2]; rfl⟩
theorem gp_iff {g : Nat → Bool} {i j : Nat} : gp g i j = true ↔ i < j ∧ ∀ k, i < k → k < j → g k = false := by
  unfold gp
  rw [Bool.and_eq_true, decide_eq_true_iff, List.all_eq_true]
  constructor
  · rintro ⟨h1, h2⟩
    refine ⟨h1, fun k hk hj => ?_⟩
    have := h2 k (List.mem_range.2 hj)
    simpa [hk] using this
  · rintro ⟨h1, h2⟩
    refine ⟨h1, fun k hk => ?_⟩
    by_cases hi : i < k
    · simp [hi, h2 k hi (List.mem_range.1 hk)]
    · simp [hi]
theorem Fwd.chn {N : Nat} {g : Nat → Bool} (rs : List Rl2) (h : ∀ r ∈ rs, Fwd N r) : Fwd N (chn N (gp g) rs) := by
  have key : ∀ (rs : List Rl2), (∀ r ∈ rs, Fwd N r) → ∀ a, Fwd N a → Fwd N (rs.foldl (fun a b => thn N (thn N a (gp g)) b) a) := by
    intro rs
    induction rs with
    | nil => intro _ a ha; exact ha
    | cons r rs ih =>
      intro h a ha
      rw [List.foldl_cons]
      refine ih (fun r hr => h r (by simp [hr])) _ fun i j hc => ?_
      obtain ⟨k, hk, h1, h2⟩ := thn_iff.1 hc
      obtain ⟨m, hm, h3, h4⟩ := thn_iff.1 h1
      have a := ha i m h3
      have b := (gp_iff.1 h4).1
      have c := h r (by simp) k j h2
      exact ⟨by omega, c.2⟩
  cases rs with
  | nil => intro i j hc; cases hc
  | cons r rs => exact key rs (fun r hr => h r (by simp [hr])) r (h r (by simp))
/- the places below o of which something holds -/
def rng (o : Nat) (f : Nat → Bool) : List Nat := (List.range o).filter f
theorem mem_rng {o : Nat} {f : Nat → Bool} {j : Nat} : j ∈ rng o f ↔ j < o ∧ f j = true := by
  unfold rng; rw [List.mem_filter, List.mem_range]
theorem rng_congr {o : Nat} {f g : Nat → Bool} (h : ∀ j, j < o → f j = g j) : rng o f = rng o g := List.filter_congr fun j hj => h j (List.mem_range.1 hj)
/- from places on, one part -/
def rch (o : Nat) (r : Rl2) (B : List Nat) : List Nat := rng o fun j => B.any fun b => r b j
/- where it may go on -/
def bhd (o : Nat) (g : Nat → Bool) (E : List Nat) : List Nat := rng o fun a => E.any fun e => gp g e a
theorem any_rng {o : Nat} {f h : Nat → Bool} : (rng o f).any h = true ↔ ∃ k, k < o ∧ f k = true ∧ h k = true := by
  rw [List.any_eq_true]
  constructor
  · rintro ⟨k, hk, h⟩; exact ⟨k, (mem_rng.1 hk).1, (mem_rng.1 hk).2, h⟩
  · rintro ⟨k, hk, h1, h2⟩; exact ⟨k, mem_rng.2 ⟨hk, h1⟩, h2⟩
theorem bhd_rng (N o : Nat) (ho : o ≤ N) (g : Nat → Bool) (a : Rl2) (i : Nat) : bhd o g (rng o (a i)) = rng o (thn N a (gp g) i) := by
  unfold bhd
  refine rng_congr fun j hj => ?_
  rw [Bool.eq_iff_iff, any_rng, thn_iff]
  constructor
  · rintro ⟨k, hk, h1, h2⟩; exact ⟨k, by omega, h1, h2⟩
  · rintro ⟨k, hk, h1, h2⟩; exact ⟨k, by have := (gp_iff.1 h2).1; omega, h1, h2⟩
theorem rch_rng (N o : Nat) (ho : o ≤ N) (a r : Rl2) (hr : Fwd N r) (i : Nat) : rch o r (rng o (a i)) = rng o (thn N a r i) := by
  unfold rch
  refine rng_congr fun j hj => ?_
  rw [Bool.eq_iff_iff, any_rng, thn_iff]
  constructor
  · rintro ⟨k, hk, h1, h2⟩; exact ⟨k, by omega, h1, h2⟩
  · rintro ⟨k, hk, h1, h2⟩; exact ⟨k, by have := (hr k j h2).1; omega, h1, h2⟩
theorem rch_one (o : Nat) (r : Rl2) (i : Nat) : rch o r [i] = rng o (r i) := by
  unfold rch
  exact rng_congr fun j _ => by simp
/- the chain's rows: where the first k parts begin, and end -/
def bgs (o : Nat) (g : Nat → Bool) (i : Nat) (rs : List Rl2) : Nat → List Nat
  | 0 => [i]
  | k + 1 => bhd o g (rch o (rs.getD k fun _ _ => false) (bgs o g i rs k))
def rcd (o : Nat) (g : Nat → Bool) (i : Nat) (rs : List Rl2) (k : Nat) : List Nat := rch o (rs.getD k fun _ _ => false) (bgs o g i rs k)
theorem take_snoc_r (rs : List Rl2) (k : Nat) (h : k < rs.length) : rs.take (k + 1) = rs.take k ++ [rs.getD k fun _ _ => false] := by
  rw [List.take_succ_eq_append_getElem h, List.getD_eq_getElem?_getD, List.getElem?_eq_getElem h]; rfl
theorem getD_mem_r (rs : List Rl2) (k : Nat) (h : k < rs.length) : rs.getD k (fun _ _ => false) ∈ rs := by
  rw [List.getD_eq_getElem?_getD, List.getElem?_eq_getElem h]; exact List.getElem_mem _
theorem rcd_eq (N o : Nat) (ho : o ≤ N) (g : Nat → Bool) (i : Nat) (rs : List Rl2) (h : ∀ r ∈ rs, Fwd N r) (k : Nat) (hk : k < rs.length) : rcd o g i rs k = rng o (chn N (gp g) (rs.take (k + 1)) i) := by
  induction k with
  | zero =>
    unfold rcd
    rw [take_snoc_r rs 0 hk]
    show rch o _ [i] = _
    rw [rch_one]
    rfl
  | succ k ih =>
    have ih := ih (by omega)
    unfold rcd
    show rch o _ (bhd o g (rcd o g i rs k)) = _
    rw [ih, bhd_rng N o ho, rch_rng N o ho _ _ (h _ (getD_mem_r rs _ hk)), take_snoc_r rs (k + 1) hk, chn_snoc]
    intro e
    have := congrArg List.length e
    rw [List.length_take, List.length_nil] at this
    omega
theorem bgs_mem (o : Nat) (g : Nat → Bool) (i : Nat) (rs : List Rl2) (hi : i < o) (N : Nat) (h : ∀ r ∈ rs, Fwd N r) (k : Nat) (hk : k ≤ rs.length) : ∀ b ∈ bgs o g i rs k, i ≤ b ∧ b < o := by
  induction k with
  | zero => intro b hb; simp [bgs] at hb; omega
  | succ k ih =>
    intro b hb
    obtain ⟨h1, h2⟩ := mem_rng.1 hb
    obtain ⟨e, he, h3⟩ := List.any_eq_true.1 h2
    obtain ⟨h4, h5⟩ := mem_rng.1 he
    obtain ⟨c, hc, h6⟩ := List.any_eq_true.1 h5
    have := ih (by omega) c hc
    have := (h _ (getD_mem_r rs k (by omega)) c e h6).1
    have := (gp_iff.1 h3).1
    omega
/- all places of some lists that are below o, and not below i, rising, each once -/
def uni (o : Nat) (l : List Nat) : List Nat := rng o fun j => l.contains j
theorem uni_rng (o : Nat) (l : List Nat) (f : Nat → Bool) (h : ∀ j, j < o → (j ∈ l ↔ f j = true)) : uni o l = rng o f := by
  unfold uni
  refine rng_congr fun j hj => ?_
  rw [Bool.eq_iff_iff, List.contains_iff_mem]
  exact h j hj
/- what the chain answers: the first least of the parts, or more -/
def anyc (N : Nat) (g : Nat → Bool) (rs : List Rl2) (least : Nat) : Rl2 := fun i j => (List.range rs.length).any fun k => decide (least ≤ k + 1) && chn N (gp g) (rs.take (k + 1)) i j
theorem Fwd.anyc {N : Nat} {g : Nat → Bool} {rs : List Rl2} {least : Nat} (h : ∀ r ∈ rs, Fwd N r) : Fwd N (anyc N g rs least) := by
  intro i j hc
  obtain ⟨k, _, h1⟩ := List.any_eq_true.1 hc
  rw [Bool.and_eq_true] at h1
  exact Fwd.chn (rs.take (k + 1)) (fun r hr => h r (List.mem_of_mem_take hr)) i j h1.2
def lrows (o : Nat) (g : Nat → Bool) (i : Nat) (rs : List Rl2) (least : Nat) : Nat → List (List Nat)
  | 0 => []
  | k + 1 => if least ≤ k + 1 then lrows o g i rs least k ++ [rcd o g i rs k] else lrows o g i rs least k
theorem mem_lrows {o : Nat} {g : Nat → Bool} {i : Nat} {rs : List Rl2} {least : Nat} {k : Nat} {l : List Nat} : l ∈ lrows o g i rs least k ↔ ∃ m, m < k ∧ least ≤ m + 1 ∧ l = rcd o g i rs m := by
  induction k with
  | zero => simp [lrows]
  | succ k ih =>
    unfold lrows
    split
    · rename_i hl
      rw [List.mem_append, ih, List.mem_singleton]
      constructor
      · rintro (⟨m, h1, h2⟩ | rfl)
        · exact ⟨m, by omega, h2⟩
        · exact ⟨k, by omega, hl, rfl⟩
      · rintro ⟨m, h1, h2, h3⟩
        by_cases e : m = k
        · subst e; exact .inr h3
        · exact .inl ⟨m, by omega, h2, h3⟩
    · rename_i hl
      rw [ih]
      constructor
      · rintro ⟨m, h1, h2⟩; exact ⟨m, by omega, h2⟩
      · rintro ⟨m, h1, h2, h3⟩
        exact ⟨m, by by_cases e : m = k; (subst e; omega); omega, h2, h3⟩
theorem chain_eq (N o : Nat) (ho : o ≤ N) (g : Nat → Bool) (i : Nat) (rs : List Rl2) (h : ∀ r ∈ rs, Fwd N r) (least : Nat) : uni o (lrows o g i rs least rs.length).flatten = rng o (anyc N g rs least i) := by
  refine uni_rng _ _ _ fun j hj => ?_
  unfold anyc
  rw [List.mem_flatten, List.any_eq_true]
  constructor
  · rintro ⟨l, hl, hjl⟩
    obtain ⟨m, h1, h2, rfl⟩ := mem_lrows.1 hl
    rw [rcd_eq N o ho g i rs h m h1] at hjl
    exact ⟨m, List.mem_range.2 h1, by rw [(mem_rng.1 hjl).2]; simp [h2]⟩
  · rintro ⟨m, h1, h2⟩
    rw [Bool.and_eq_true, decide_eq_true_iff] at h2
    have h1 := List.mem_range.1 h1
    exact ⟨_, mem_lrows.2 ⟨m, h1, h2.1, rfl⟩, by rw [rcd_eq N o ho g i rs h m h1]; exact mem_rng.2 ⟨hj, h2.2⟩⟩
/- an alternative's -/
def altr (rs : List Rl2) : Rl2 := fun i j => rs.any fun r => r i j
theorem Fwd.altr {N : Nat} {rs : List Rl2} (h : ∀ r ∈ rs, Fwd N r) : Fwd N (altr rs) := by
  intro i j hc
  obtain ⟨r, hr, h1⟩ := List.any_eq_true.1 hc
  exact h r hr i j h1
theorem alt_eq (o : Nat) (i : Nat) (rs : List Rl2) : uni o (rs.map fun r => rng o (r i)).flatten = rng o (altr rs i) := by
  refine uni_rng _ _ _ fun j hj => ?_
  unfold altr
  rw [List.mem_flatten, List.any_eq_true]
  constructor
  · rintro ⟨l, hl, hjl⟩
    obtain ⟨r, hr, rfl⟩ := List.mem_map.1 hl
    exact ⟨r, hr, (mem_rng.1 hjl).2⟩
  · rintro ⟨r, hr, h1⟩
    exact ⟨_, List.mem_map.2 ⟨r, hr, rfl⟩, mem_rng.2 ⟨hj, h1⟩⟩
/- the union of what begins lead to -/
theorem rch_uni (o : Nat) (r : Rl2) (B : List Nat) (ov : Nat → Nat) (h : ∀ b ∈ B, o ≤ ov b) : uni o (B.map fun b => rng (ov b) (r b)).flatten = rch o r B := by
  unfold rch
  refine uni_rng _ _ _ fun j hj => ?_
  rw [List.mem_flatten, List.any_eq_true]
  constructor
  · rintro ⟨l, hl, hjl⟩
    obtain ⟨b, hb, rfl⟩ := List.mem_map.1 hl
    exact ⟨b, hb, (mem_rng.1 hjl).2⟩
  · rintro ⟨b, hb, h1⟩
    exact ⟨_, List.mem_map.2 ⟨b, hb, rfl⟩, mem_rng.2 ⟨by have := h b hb; omega, h1⟩⟩
/- of each place the first one behind it that is out of a window from there -/
def ovr (N : Nat) (at_ : Nat → Nat) (W : Nat) (i : Nat) : Nat := ((List.range N).find? fun j => decide (i ≤ j) && decide (W < at_ j - at_ i)).getD N
theorem ovr_le (N : Nat) (at_ : Nat → Nat) (W i : Nat) : ovr N at_ W i ≤ N := by
  unfold ovr
  cases h : (List.range N).find? fun j => decide (i ≤ j) && decide (W < at_ j - at_ i) with
  | none => exact Nat.le_refl _
  | some j => have := List.mem_range.1 (List.mem_of_find?_eq_some h); show j ≤ N; omega
theorem ovr_in {N : Nat} {at_ : Nat → Nat} {W i j : Nat} (hi : i ≤ j) (h : j < ovr N at_ W i) : at_ j - at_ i ≤ W := by
  unfold ovr at h
  cases e : (List.range N).find? fun j => decide (i ≤ j) && decide (W < at_ j - at_ i) with
  | none =>
    rw [e] at h
    have := List.find?_eq_none.1 e j (List.mem_range.2 h)
    simp [hi] at this
    omega
  | some k =>
    rw [e] at h
    simp only [Option.getD_some] at h
    rw [List.find?_range_eq_some] at e
    have := e.2.2 j h
    simp [hi] at this
    omega
theorem ovr_out {N : Nat} {at_ : Nat → Nat} {W i : Nat} (h : ovr N at_ W i < N) : i ≤ ovr N at_ W i ∧ W < at_ (ovr N at_ W i) - at_ i := by
  unfold ovr at h ⊢
  cases e : (List.range N).find? fun j => decide (i ≤ j) && decide (W < at_ j - at_ i) with
  | none => rw [e] at h; exact absurd h (by simp)
  | some k =>
    have := List.find?_some e
    simpa using this
theorem ovr_uniq {N : Nat} {at_ : Nat → Nat} {W i o : Nat} (hi : i ≤ o) (hN : o ≤ N) (h1 : ∀ j, i ≤ j → j < o → at_ j - at_ i ≤ W) (h2 : o < N → W < at_ o - at_ i) : o = ovr N at_ W i := by
  rcases Nat.lt_trichotomy o (ovr N at_ W i) with h | h | h
  · have := ovr_le N at_ W i
    have := h2 (by omega)
    have := ovr_in hi h
    omega
  · exact h
  · have := ovr_out (N := N) (at_ := at_) (W := W) (i := i) (by omega)
    have := h1 _ this.1 h
    omega
theorem ovr_gt {N : Nat} {at_ : Nat → Nat} {W i : Nat} (hi : i < N) : i < ovr N at_ W i := by
  rcases Nat.lt_or_ge (ovr N at_ W i) N with h | h
  · have := ovr_out h
    by_cases e : ovr N at_ W i = i
    · rw [e] at this; omega
    · omega
  · omega
theorem ovr_mono {N : Nat} {at_ : Nat → Nat} {W i k : Nat} (hik : i ≤ k) (hk : k < N) (hm : ∀ a b, a ≤ b → b < N → at_ a ≤ at_ b) : ovr N at_ W i ≤ ovr N at_ W k := by
  rcases Nat.lt_or_ge (ovr N at_ W k) (ovr N at_ W i) with h | h
  · have := ovr_le N at_ W i
    have h1 := ovr_out (N := N) (at_ := at_) (W := W) (i := k) (by omega)
    have h2 := ovr_in (N := N) (at_ := at_) (W := W) (i := i) (by omega) h
    have := hm i k hik hk
    omega
  · exact h
end Go.Proofs.YtpnllbojifnopaaGreatDoor
