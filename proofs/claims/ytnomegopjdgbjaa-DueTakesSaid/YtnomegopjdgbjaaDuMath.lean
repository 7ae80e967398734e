/- Heaps of keys and times, as lists: what moving up and down makes of them, and what is taken. No program. -/
import Derived.KernelRfl
namespace Go.Proofs.Ytnomegopjdgbjaa
set_option maxRecDepth 20000

abbrev E := Nat × Nat
def ez : E := (0, 0)
def lt (a b : E) : Bool := decide (a.2 < b.2) || (decide (a.2 = b.2) && decide (a.1 < b.1))
def g (L : List E) (i : Nat) : E := L.getD i ez
def swp (L : List E) (i j : Nat) : List E := (L.set i (g L j)).set j (g L i)
def par (k : Nat) : Nat := (k - 1) / 2
theorem lt_asymm {a b : E} (h : lt a b = true) : lt b a = false := by
  simp [lt] at *; omega
theorem lt_irr (a : E) : lt a a = false := by simp [lt]
/- 'lt b a = false': a comes first, or is b -/
theorem le_trans {a b c : E} (h : lt b a = false) (k : lt c b = false) : lt c a = false := by
  simp [lt] at *; omega
theorem le_anti {a b : E} (h : lt b a = false) (k : lt a b = false) : a = b := by
  obtain ⟨a1, a2⟩ := a
  obtain ⟨b1, b2⟩ := b
  simp [lt] at *; omega
theorem g_lt (L : List E) (i : Nat) (h : i < L.length) : g L i = L[i] := by unfold g; rw [List.getD_eq_getElem?_getD, List.getElem?_eq_getElem h]; rfl
theorem g_mem (L : List E) (i : Nat) (h : i < L.length) : g L i ∈ L := by rw [g_lt L i h]; exact List.getElem_mem _
theorem mem_g {L : List E} {e : E} (h : e ∈ L) : ∃ i, i < L.length ∧ g L i = e := by
  obtain ⟨i, hi, rfl⟩ := List.getElem_of_mem h
  exact ⟨i, hi, g_lt L i hi⟩
theorem g_set (L : List E) (i : Nat) (e : E) (h : i < L.length) (k : Nat) : g (L.set i e) k = if k = i then e else g L k := by
  unfold g
  rw [List.getD_eq_getElem?_getD, List.getElem?_set]
  by_cases c : i = k
  · subst c; simp [h]
  · simp [c, Ne.symm c]
theorem swp_len (L : List E) (i j : Nat) : (swp L i j).length = L.length := by simp [swp]
theorem g_swp (L : List E) (i j : Nat) (hi : i < L.length) (hj : j < L.length) (k : Nat) : g (swp L i j) k = if k = j then g L i else if k = i then g L j else g L k := by
  unfold swp
  rw [g_set _ _ _ (by simpa using hj), g_set _ _ _ hi]
theorem swp_perm (L : List E) (i j : Nat) (hi : i < L.length) (hj : j < L.length) : (swp L i j).Perm L := by
  have h := Array.swap_perm (xs := L.toArray) (i := i) (j := j) (by simpa using hi) (by simpa using hj)
  have e : (L.toArray.swap i j (by simpa using hi) (by simpa using hj)).toList = swp L i j := by
    simp [Array.swap, swp, g_lt L i hi, g_lt L j hj]
  rw [← e]
  exact Array.perm_iff_toList_perm.1 h
theorem g_app (L M : List E) (i : Nat) (h : i < L.length) : g (L ++ M) i = g L i := by
  unfold g; rw [List.getD_eq_getElem?_getD, List.getD_eq_getElem?_getD, List.getElem?_append_left h]
theorem g_last (L : List E) (e : E) : g (L ++ [e]) L.length = e := by
  unfold g; rw [List.getD_eq_getElem?_getD, List.getElem?_append_right (Nat.le_refl _)]; simp
theorem ext_g {L M : List E} (hl : L.length = M.length) (h : ∀ i, i < L.length → g L i = g M i) : L = M := by
  apply List.ext_getElem hl
  intro i h1 h2
  rw [← g_lt L i h1, ← g_lt M i h2]
  exact h i h1
/- the first n stand as a heap -/
def Hp (n : Nat) (L : List E) : Prop := ∀ k, 0 < k → k < n → lt (g L k) (g L (par k)) = false
def UpOk (n : Nat) (L : List E) (j : Nat) : Prop :=
  (∀ k, 0 < k → k < n → k ≠ j → lt (g L k) (g L (par k)) = false) ∧ (∀ k, 0 < k → k < n → par k = j → 0 < j → lt (g L k) (g L (par j)) = false)
def DnOk (n : Nat) (L : List E) (i : Nat) : Prop :=
  (∀ k, 0 < k → k < n → k ≠ i → par k ≠ i → lt (g L k) (g L (par k)) = false) ∧ (∀ k, 0 < k → k < n → par k = i → 0 < i → lt (g L k) (g L (par i)) = false)
def Dn2 (n : Nat) (L : List E) (i : Nat) : Prop :=
  (∀ k, 0 < k → k < n → par k ≠ i → lt (g L k) (g L (par k)) = false) ∧ (∀ k, 0 < k → k < n → par k = i → 0 < i → lt (g L k) (g L (par i)) = false)
theorem par_lt {k : Nat} (h : 0 < k) : par k < k := by unfold par; omega
theorem Dn2.dn {n : Nat} {L : List E} {i : Nat} (h : Dn2 n L i) : DnOk n L i := ⟨fun k h0 h1 _ h3 => h.1 k h0 h1 h3, h.2⟩
theorem Hp.mono {n m : Nat} {L : List E} (h : Hp n L) (hm : m ≤ n) : Hp m L := fun k h0 h1 => h k h0 (by omega)
theorem Hp.first {n : Nat} {L : List E} (h : Hp n L) : ∀ k, k < n → lt (g L k) (g L 0) = false := by
  intro k
  induction k using Nat.strongRecOn with
  | ind k ih =>
    intro hk
    rcases Nat.eq_zero_or_pos k with rfl | h0
    · exact lt_irr _
    · exact le_trans (ih (par k) (par_lt h0) (by have := par_lt h0; omega)) (h k h0 hk)
theorem up_step {n : Nat} {L : List E} {j : Nat} (h : UpOk n L j) (hj : 0 < j) (hn : j < n) (hl : n ≤ L.length) (hlt : lt (g L j) (g L (par j)) = true) : UpOk n (swp L (par j) j) (par j) := by
  have hp := par_lt hj
  have hs := g_swp L (par j) j (by omega) (by omega)
  refine ⟨fun k h0 h1 hk => ?_, fun k h0 h1 hk hi => ?_⟩
  · have hpk := par_lt h0
    rw [hs k, hs (par k)]
    by_cases c : k = j
    · subst c
      rw [if_pos rfl, if_neg (by omega), if_pos rfl]
      exact lt_asymm hlt
    · rw [if_neg c, if_neg hk]
      by_cases c1 : par k = j
      · rw [if_pos c1]
        exact h.2 k h0 h1 c1 hj
      · rw [if_neg c1]
        by_cases c2 : par k = par j
        · rw [if_pos c2]
          have := h.1 k h0 h1 c
          rw [c2] at this
          exact le_trans (lt_asymm hlt) this
        · rw [if_neg c2]
          exact h.1 k h0 h1 c
  · have hpk := par_lt h0
    have hpp := par_lt hi
    rw [hs k, hs (par (par j)), if_neg (show par (par j) ≠ j by omega), if_neg (show par (par j) ≠ par j by omega)]
    have hi' := h.1 (par j) hi (by omega) (by omega)
    by_cases c : k = j
    · rw [if_pos c]; exact hi'
    · rw [if_neg c, if_neg (by omega)]
      have := h.1 k h0 h1 c
      rw [hk] at this
      exact le_trans hi' this
theorem up_end0 {n : Nat} {L : List E} (h : UpOk n L 0) : Hp n L := fun k h0 h1 => h.1 k h0 h1 (by omega)
theorem up_end {n : Nat} {L : List E} {j : Nat} (h : UpOk n L j) (hlt : lt (g L j) (g L (par j)) = false) : Hp n L := fun k h0 h1 => by
  by_cases c : k = j
  · subst c; exact hlt
  · exact h.1 k h0 h1 c
theorem dn_step {n : Nat} {L : List E} {i j : Nat} (h : DnOk n L i) (hj : par j = i) (h0j : 0 < j) (hn : j < n) (hl : n ≤ L.length) (hlt : lt (g L j) (g L i) = true)
    (hs' : ∀ s, 0 < s → s < n → par s = i → lt (g L s) (g L j) = false) : Dn2 n (swp L i j) j := by
  have hp := par_lt h0j
  rw [hj] at hp
  have hs := g_swp L i j (by omega) (by omega)
  refine ⟨fun k h0 h1 hk => ?_, fun k h0 h1 hk _ => ?_⟩
  · have hpk := par_lt h0
    rw [hs k, hs (par k), if_neg hk]
    by_cases c : k = j
    · subst c
      rw [if_pos rfl, if_pos hj]
      exact lt_asymm hlt
    · rw [if_neg c]
      by_cases c1 : par k = i
      · rw [if_pos c1, if_neg (by omega)]
        exact hs' k h0 h1 c1
      · rw [if_neg c1]
        by_cases c2 : k = i
        · rw [if_pos c2]
          subst c2
          exact h.2 j h0j hn hj h0
        · rw [if_neg c2]
          exact h.1 k h0 h1 c2 c1
  · have hpk := par_lt h0
    rw [hs k, hs (par j), hj, if_neg (by omega), if_neg (by omega), if_neg (by omega), if_pos rfl]
    have := h.1 k h0 h1 (by omega) (by omega)
    rwa [hk] at this
theorem dn_end {n : Nat} {L : List E} {i : Nat} (h : DnOk n L i) (hc : ∀ k, 0 < k → k < n → par k = i → lt (g L k) (g L i) = false) : UpOk n L i :=
  ⟨fun k h0 h1 hk => by
    by_cases c : par k = i
    · rw [c]; exact hc k h0 h1 c
    · exact h.1 k h0 h1 hk c, h.2⟩
theorem dn2_end {n : Nat} {L : List E} {i : Nat} (h : Dn2 n L i) (hc : ∀ k, 0 < k → k < n → par k = i → lt (g L k) (g L i) = false) : Hp n L :=
  fun k h0 h1 => by
    by_cases c : par k = i
    · rw [c]; exact hc k h0 h1 c
    · exact h.1 k h0 h1 c
/- the two children -/
theorem par_kids {k i : Nat} (h : 0 < k) (hp : par k = i) : k = 2 * i + 1 ∨ k = 2 * i + 2 := by unfold par at hp; omega
theorem par_left (i : Nat) : par (2 * i + 1) = i := by unfold par; omega
theorem par_right (i : Nat) : par (2 * i + 2) = i := by unfold par; omega
theorem kids_none {n : Nat} {L : List E} {i : Nat} (h : n ≤ 2 * i + 1) : ∀ k, 0 < k → k < n → par k = i → lt (g L k) (g L i) = false := fun k h0 h1 hk => by
  rcases par_kids h0 hk with rfl | rfl <;> omega
theorem kids_end {n : Nat} {L : List E} {i j : Nat} (hlt : lt (g L j) (g L i) = false) (hs' : ∀ s, 0 < s → s < n → par s = i → lt (g L s) (g L j) = false) : ∀ k, 0 < k → k < n → par k = i → lt (g L k) (g L i) = false :=
  fun k h0 h1 hk => le_trans hlt (hs' k h0 h1 hk)
theorem least_left {n : Nat} {L : List E} {i : Nat} (h : 2 * i + 2 < n → lt (g L (2 * i + 2)) (g L (2 * i + 1)) = false) : ∀ s, 0 < s → s < n → par s = i → lt (g L s) (g L (2 * i + 1)) = false := fun s h0 h1 hs => by
  rcases par_kids h0 hs with rfl | rfl
  · exact lt_irr _
  · exact h h1
theorem least_right {n : Nat} {L : List E} {i : Nat} (h : lt (g L (2 * i + 2)) (g L (2 * i + 1)) = true) : ∀ s, 0 < s → s < n → par s = i → lt (g L s) (g L (2 * i + 2)) = false := fun s h0 h1 hs => by
  rcases par_kids h0 hs with rfl | rfl
  · exact lt_asymm h
  · exact lt_irr _
/- a heap of which one is turned -/
theorem set_dn {n : Nat} {L : List E} {p : Nat} {e : E} (h : Hp n L) (hp : p < L.length) : DnOk n (L.set p e) p := by
  have hs := g_set L p e hp
  refine ⟨fun k h0 h1 hk hpk => ?_, fun k h0 h1 hk h0p => ?_⟩
  · rw [hs k, hs (par k), if_neg hk, if_neg hpk]; exact h k h0 h1
  · have h1' := par_lt h0
    have h2' := par_lt h0p
    rw [hs k, hs (par p), if_neg (by omega), if_neg (by omega)]
    have a := h k h0 h1
    have b := h p h0p (by omega)
    rw [hk] at a
    exact le_trans b a
theorem swp_dn {n : Nat} {L : List E} {i : Nat} (h : Hp (n + 1) L) (hi : i < n) (hl : n < L.length) : DnOk n (swp L i n) i := by
  have hs := g_swp L i n (by omega) hl
  refine ⟨fun k h0 h1 hk hpk => ?_, fun k h0 h1 hk h0i => ?_⟩
  · have := par_lt h0
    rw [hs k, hs (par k), if_neg (by omega), if_neg hk, if_neg (by omega), if_neg hpk]; exact h k h0 (by omega)
  · have h1' := par_lt h0
    have h2' := par_lt h0i
    rw [hs k, hs (par i), if_neg (by omega), if_neg (by omega), if_neg (by omega), if_neg (by omega)]
    have a := h k h0 (by omega)
    have b := h i h0i (by omega)
    rw [hk] at a
    exact le_trans b a
theorem app_up {L : List E} (e : E) (h : Hp L.length L) : UpOk (L.length + 1) (L ++ [e]) L.length := by
  refine ⟨fun k h0 h1 hk => ?_, fun k h0 h1 hk _ => ?_⟩
  · have := par_lt h0
    rw [g_app _ _ _ (by omega), g_app _ _ _ (by omega)]
    exact h k h0 (by omega)
  · have := par_lt h0
    omega
/- of which the first n stay the same ones, whatever stands behind them stays -/
theorem perm_take {n : Nat} {L L' : List E} (hp : L'.Perm L) (hk : ∀ k, n ≤ k → g L' k = g L k) : (L'.take n).Perm (L.take n) := by
  have hl := hp.length_eq
  have hd : L'.drop n = L.drop n := by
    refine ext_g (by simp [hl]) (fun i hi => ?_)
    have h := hk (n + i) (by omega)
    unfold g at *
    simpa [List.getD_eq_getElem?_getD, List.getElem?_drop] using h
  rw [← List.take_append_drop n L', ← List.take_append_drop n L, hd] at hp
  exact (List.perm_append_right_iff _).1 hp
theorem split_last {L : List E} {n : Nat} (h : L.length = n + 1) : L = L.take n ++ [g L n] := by
  refine ext_g (by simp; omega) (fun i hi => ?_)
  rcases Nat.lt_or_ge i n with c | c
  · rw [g_app _ _ _ (by simp; omega)]
    unfold g
    simp [List.getD_eq_getElem?_getD, c]
  · obtain rfl : i = n := by omega
    have : (L.take i).length = i := by simp; omega
    have := g_last (L.take i) (g L i)
    rw [show (L.take i).length = i by simp; omega] at this
    exact this.symm
theorem g_take {L : List E} {n i : Nat} (h : i < n) : g (L.take n) i = g L i := by
  unfold g; simp [List.getD_eq_getElem?_getD, h]
theorem Hp.take {n : Nat} {L : List E} (h : Hp n L) (hn : n ≤ L.length) : Hp (L.take n).length (L.take n) := by
  have hl : (L.take n).length = n := by simp; omega
  rw [hl]
  intro k h0 h1
  have := par_lt h0
  rw [g_take h1, g_take (by omega)]
  exact h k h0 h1
/- where each key stands -/
structure Pos (M : Nat → Option Nat) (L : List E) : Prop where
  at_ : ∀ i, i < L.length → M (g L i).1 = some i
  of_ : ∀ k i, M k = some i → i < L.length ∧ (g L i).1 = k
def upd (M : Nat → Option Nat) (k : Nat) (v : Option Nat) : Nat → Option Nat := fun x => if x = k then v else M x
theorem Pos.inj {M : Nat → Option Nat} {L : List E} (h : Pos M L) {i j : Nat} (hi : i < L.length) (hj : j < L.length) (e : (g L i).1 = (g L j).1) : i = j := by
  have a := h.at_ i hi
  have b := h.at_ j hj
  rw [e, b] at a
  exact (Option.some.inj a).symm
theorem Pos.swp {M : Nat → Option Nat} {L : List E} (h : Pos M L) {i j : Nat} (hi : i < L.length) (hj : j < L.length) (hne : i ≠ j) : Pos (upd (upd M (g L j).1 (some i)) (g L i).1 (some j)) (swp L i j) := by
  have hs := g_swp L i j hi hj
  have hkey : (g L i).1 ≠ (g L j).1 := fun e => hne (h.inj hi hj e)
  refine ⟨fun k hk => ?_, fun x k hk => ?_⟩
  · rw [swp_len] at hk
    rw [hs k]
    unfold upd
    by_cases c : k = j
    · subst c; simp
    · rw [if_neg c]
      by_cases c1 : k = i
      · subst c1
        simp [Ne.symm hkey]
      · have n1 : (g L k).1 ≠ (g L i).1 := fun e => c1 (h.inj hk hi e)
        have n2 : (g L k).1 ≠ (g L j).1 := fun e => c (h.inj hk hj e)
        simp [c1, n1, n2, h.at_ k hk]
  · rw [swp_len]
    unfold upd at hk
    by_cases c : x = (g L i).1
    · subst c
      simp at hk
      subst hk
      exact ⟨hj, by rw [hs]; simp⟩
    · rw [if_neg c] at hk
      by_cases c1 : x = (g L j).1
      · subst c1
        simp at hk
        subst hk
        exact ⟨hi, by rw [hs, if_neg hne]; simp⟩
      · rw [if_neg c1] at hk
        obtain ⟨h1, h2⟩ := h.of_ x k hk
        refine ⟨h1, ?_⟩
        have n1 : k ≠ j := fun e => c1 (by rw [← h2, e])
        have n2 : k ≠ i := fun e => c (by rw [← h2, e])
        rw [hs, if_neg n1, if_neg n2]
        exact h2
theorem Pos.push {M : Nat → Option Nat} {L : List E} (h : Pos M L) (e : E) (hn : M e.1 = none) : Pos (upd M e.1 (some L.length)) (L ++ [e]) := by
  refine ⟨fun i hi => ?_, fun x k hk => ?_⟩
  · rw [List.length_append] at hi
    simp at hi
    rcases Nat.lt_or_ge i L.length with c | c
    · rw [g_app _ _ _ c]
      have hne : (g L i).1 ≠ e.1 := fun e1 => by have := h.at_ i c; rw [e1, hn] at this; cases this
      simp [upd, hne, h.at_ i c]
    · obtain rfl : i = L.length := by omega
      rw [g_last]
      simp [upd]
  · unfold upd at hk
    rw [List.length_append]
    by_cases c : x = e.1
    · rw [if_pos c] at hk
      cases hk
      exact ⟨by simp, by rw [g_last]; exact c.symm⟩
    · rw [if_neg c] at hk
      obtain ⟨h1, h2⟩ := h.of_ x k hk
      exact ⟨by simp; omega, by rw [g_app _ _ _ h1]; exact h2⟩
theorem Pos.pop {M : Nat → Option Nat} {L : List E} {e : E} (h : Pos M (L ++ [e])) : Pos (upd M e.1 none) L := by
  have hl : M e.1 = some L.length := by have := h.at_ L.length (by simp); rwa [g_last] at this
  refine ⟨fun i hi => ?_, fun x k hk => ?_⟩
  · have h1 := h.at_ i (by simp; omega)
    rw [g_app _ _ _ hi] at h1
    have hne : (g L i).1 ≠ e.1 := fun e1 => by rw [e1, hl] at h1; cases h1; omega
    simp [upd, hne, h1]
  · unfold upd at hk
    by_cases c : x = e.1
    · rw [if_pos c] at hk; cases hk
    · rw [if_neg c] at hk
      obtain ⟨h1, h2⟩ := h.of_ x k hk
      have : k < L.length := by
        rcases Nat.lt_or_ge k L.length with c1 | c1
        · exact c1
        · simp at h1
          obtain rfl : k = L.length := by omega
          rw [g_last] at h2
          exact absurd h2.symm c
      exact ⟨this, by rw [g_app _ _ _ this] at h2; exact h2⟩
theorem Pos.set {M : Nat → Option Nat} {L : List E} (h : Pos M L) {p : Nat} (hp : p < L.length) (a : Nat) : Pos M (L.set p ((g L p).1, a)) := by
  have hs := g_set L p ((g L p).1, a) hp
  refine ⟨fun i hi => ?_, fun x k hk => ?_⟩
  · rw [List.length_set] at hi
    rw [hs]
    by_cases c : i = p
    · subst c; simp [h.at_ i hi]
    · rw [if_neg c]; exact h.at_ i hi
  · obtain ⟨h1, h2⟩ := h.of_ x k hk
    rw [List.length_set]
    refine ⟨h1, ?_⟩
    rw [hs]
    by_cases c : k = p
    · subst c; simp [h2]
    · rw [if_neg c]; exact h2
theorem Pos.mem {M : Nat → Option Nat} {L : List E} (h : Pos M L) {e : E} (he : e ∈ L) : ∃ i, M e.1 = some i ∧ g L i = e := by
  obtain ⟨i, hi, rfl⟩ := mem_g he
  exact ⟨i, h.at_ i hi, rfl⟩
theorem Pos.none {M : Nat → Option Nat} {L : List E} (h : Pos M L) {k : Nat} (hk : M k = none) : ∀ e ∈ L, e.1 ≠ k := fun e he e1 => by
  obtain ⟨i, hi, _⟩ := h.mem he
  rw [e1, hk] at hi
  cases hi
/- one key only once -/
def Once (L : List E) : Prop := L.Pairwise (fun a b => a.1 ≠ b.1)
theorem Once.perm {L L' : List E} (h : Once L) (hp : L.Perm L') : Once L' := by
  unfold Once at *
  exact (hp.pairwise_iff (R := fun a b : E => a.1 ≠ b.1) (fun h => Ne.symm h)).1 h
theorem Pos.once {M : Nat → Option Nat} {L : List E} (h : Pos M L) : Once L := by
  unfold Once
  rw [List.pairwise_iff_getElem]
  intro i j hi hj hij e
  rw [← g_lt L i hi, ← g_lt L j hj] at e
  have := h.inj hi hj e
  omega
/- what is taken: some, the earliest first, all of them due by then; what is left is due later -/
def Tk (now : Nat) (L : List E) (ks : List Nat) (R : List E) : Prop :=
  ∃ T : List E, T.map (·.1) = ks ∧ L.Perm (T ++ R) ∧ (∀ e ∈ T, e.2 ≤ now) ∧ (∀ e ∈ R, now < e.2) ∧ T.Pairwise (fun a b => lt b a = false)
theorem Tk.stop {now : Nat} {L : List E} (h : ∀ e ∈ L, now < e.2) : Tk now L [] L := ⟨[], rfl, List.Perm.refl _, by simp, h, List.Pairwise.nil⟩
theorem Tk.step {now : Nat} {L L1 R : List E} {e : E} {ks : List Nat} (hp : L.Perm (e :: L1)) (hn : e.2 ≤ now) (hm : ∀ x ∈ L, lt x e = false) (h : Tk now L1 ks R) : Tk now L (e.1 :: ks) R := by
  obtain ⟨T, rfl, h1, h2, h3, h4⟩ := h
  refine ⟨e :: T, rfl, hp.trans (h1.cons e), fun x hx => ?_, h3, List.pairwise_cons.2 ⟨fun x hx => hm x ?_, h4⟩⟩
  · rcases List.mem_cons.1 hx with rfl | hx
    · exact hn
    · exact h2 x hx
  · exact hp.mem_iff.2 (List.mem_cons_of_mem _ (h1.mem_iff.2 (List.mem_append_left _ hx)))
theorem due_first {now : Nat} {T R : List E} (h1 : ∀ e ∈ T, e.2 ≤ now) (h2 : ∀ e ∈ R, now < e.2) : (T ++ R).filter (fun e => decide (e.2 ≤ now)) = T ∧ (T ++ R).filter (fun e => !decide (e.2 ≤ now)) = R := by
  rw [List.filter_append, List.filter_append]
  have a : T.filter (fun e => decide (e.2 ≤ now)) = T := List.filter_eq_self.2 (fun e he => by simpa using h1 e he)
  have b : R.filter (fun e => decide (e.2 ≤ now)) = [] := List.filter_eq_nil_iff.2 (fun e he => by simpa using h2 e he)
  have c : T.filter (fun e => !decide (e.2 ≤ now)) = [] := List.filter_eq_nil_iff.2 (fun e he => by simpa using h1 e he)
  have d : R.filter (fun e => !decide (e.2 ≤ now)) = R := List.filter_eq_self.2 (fun e he => by simpa using h2 e he)
  rw [a, b, c, d]
  exact ⟨by simp, by simp⟩
theorem Tk.det {now : Nat} {L : List E} {ks : List Nat} {R : List E} (h : Tk now L ks R) {L' : List E} {ks' : List Nat} {R' : List E} (hp : L.Perm L') (h' : Tk now L' ks' R') : ks = ks' ∧ R.Perm R' := by
  obtain ⟨T, rfl, a1, a2, a3, a4⟩ := h
  obtain ⟨T', rfl, b1, b2, b3, b4⟩ := h'
  have hq : (T ++ R).Perm (T' ++ R') := a1.symm.trans (hp.trans b1)
  obtain ⟨c1, c2⟩ := due_first a2 a3
  obtain ⟨d1, d2⟩ := due_first b2 b3
  have e1 := hq.filter (fun e => decide (e.2 ≤ now))
  have e2 := hq.filter (fun e => !decide (e.2 ≤ now))
  rw [c1, d1] at e1
  rw [c2, d2] at e2
  have : T = T' := List.Perm.eq_of_pairwise (fun a b _ _ x y => le_anti x y) a4 b4 e1
  rw [this]
  exact ⟨rfl, e2⟩
theorem Tk.parts {now : Nat} {L : List E} {ks : List Nat} {R : List E} (h : Tk now L ks R) : ∃ T : List E, T.map (·.1) = ks ∧ L.Perm (T ++ R) ∧ (∀ e ∈ T, e.2 ≤ now) ∧ ∀ e ∈ R, now < e.2 := by
  obtain ⟨T, h1, h2, h3, h4, _⟩ := h
  exact ⟨T, h1, h2, h3, h4⟩
theorem Tk.none {now : Nat} {L : List E} {ks : List Nat} {R : List E} (h : Tk now L ks R) (hl : ∀ e ∈ L, now < e.2) : ks = [] ∧ L.Perm R := by
  obtain ⟨T, rfl, h2, h3, _, _⟩ := h
  have : T = [] := by
    rcases T with _ | ⟨e, T⟩
    · rfl
    · have := h3 e (by simp)
      have := hl e (h2.mem_iff.2 (by simp))
      omega
  subst this
  exact ⟨rfl, h2⟩
end Go.Proofs.Ytnomegopjdgbjaa
