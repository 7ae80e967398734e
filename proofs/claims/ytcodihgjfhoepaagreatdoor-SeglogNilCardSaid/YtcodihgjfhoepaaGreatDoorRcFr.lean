/- Plain facts on frames: numbers in four bytes, what a frame is, what is found at the front of bytes, rows of frames. -/
import Derived.Test.YtcodihgjfhoepaaGreatDoorMath2
namespace Go.Proofs.YtcodihgjfhoepaaGreatDoor.Crc

def Rng (l : List Int) : Prop := ∀ c ∈ l, 0 ≤ c ∧ c < 256
theorem Rng.app {a b : List Int} (h : Rng a) (k : Rng b) : Rng (a ++ b) := fun c hc => by
  rcases List.mem_append.1 hc with hc | hc
  · exact h c hc
  · exact k c hc
theorem Rng.take {a : List Int} (h : Rng a) (n : Nat) : Rng (a.take n) := fun c hc => h c (List.mem_of_mem_take hc)
theorem Rng.drop {a : List Int} (h : Rng a) (n : Nat) : Rng (a.drop n) := fun c hc => h c (List.mem_of_mem_drop hc)
def by4 (n : Nat) : List Int := [((n / 16777216 % 256 : Nat) : Int), ((n / 65536 % 256 : Nat) : Int), ((n / 256 % 256 : Nat) : Int), ((n % 256 : Nat) : Int)]
theorem by4_len (n : Nat) : (by4 n).length = 4 := rfl
theorem by4_rng (n : Nat) : Rng (by4 n) := by
  intro c hc
  simp only [by4, List.mem_cons, List.not_mem_nil, or_false] at hc
  omega
def nm (l : List Int) : Nat := (((l.getD 0 0).toNat * 256 + (l.getD 1 0).toNat) * 256 + (l.getD 2 0).toNat) * 256 + (l.getD 3 0).toNat
theorem nm_by4 (n : Nat) (r : List Int) (h : n < 4294967296) : nm (by4 n ++ r) = n := by
  have : nm (by4 n ++ r) = ((n / 16777216 % 256 * 256 + n / 65536 % 256) * 256 + n / 256 % 256) * 256 + n % 256 := by
    simp only [nm, by4, List.cons_append, List.getD_cons_zero, List.getD_cons_succ, Int.toNat_natCast]
  rw [this]; omega
theorem four_of_len (l : List Int) (h : 4 ≤ l.length) : ∃ a b c d r, l = a :: b :: c :: d :: r := by
  match l, h with
  | a :: b :: c :: d :: r, _ => exact ⟨a, b, c, d, r, rfl⟩
theorem by4_nm (l : List Int) (h : 4 ≤ l.length) (hr : Rng l) : by4 (nm l) = l.take 4 := by
  obtain ⟨a, b, c, d, r, rfl⟩ := four_of_len l h
  have ha := hr a (by simp)
  have hb := hr b (by simp)
  have hc := hr c (by simp)
  have hd := hr d (by simp)
  have e : nm (a :: b :: c :: d :: r) = ((a.toNat * 256 + b.toNat) * 256 + c.toNat) * 256 + d.toNat := by simp [nm]
  rw [e]
  simp only [by4, List.take_succ_cons, List.take_zero, List.cons.injEq, and_true]
  refine ⟨?_, ?_, ?_, ?_⟩ <;> omega
theorem nm_lt (l : List Int) (hr : Rng l) : nm l < 4294967296 := by
  have h : ∀ i, (l.getD i 0).toNat < 256 := fun i => by
    rcases Nat.lt_or_ge i l.length with hi | hi
    · rw [List.getD_eq_getElem?_getD, List.getElem?_eq_getElem hi, Option.getD_some]
      have := hr _ (List.getElem_mem hi)
      omega
    · rw [List.getD_eq_getElem?_getD, List.getElem?_eq_none hi]; decide
  have h0 := h 0
  have h1 := h 1
  have h2 := h 2
  have h3 := h 3
  unfold nm
  omega

def sm (a b : List Int) : Nat := (sum 0#32 (a ++ b)).toNat
theorem sm_lt (a b : List Int) : sm a b < 4294967296 := (sum 0#32 (a ++ b)).isLt
/- a record's frame -/
def fr (l : List Int) : List Int := by4 l.length ++ (by4 (sm (by4 l.length) l) ++ l)
theorem fr_len (l : List Int) : (fr l).length = 8 + l.length := by simp [fr, by4_len]; omega
theorem fr_rng (l : List Int) (h : Rng l) : Rng (fr l) := (by4_rng _).app ((by4_rng _).app h)

/- what is found at the front of bytes: the error's number, the record -/
def fE (b : List Int) : Nat :=
  if b.length < 4 then 3 else if 65536 < nm b then 4 else if b.length < 8 + nm b then 3 else
  if nm (b.drop 4) = sm (b.take 4) ((b.drop 8).take (nm b)) then 0 else 6
def fR (b : List Int) : List Int := (b.drop 8).take (nm b)
theorem fE_ok {b : List Int} (h : fE b = 0) : 4 ≤ b.length ∧ nm b ≤ 65536 ∧ 8 + nm b ≤ b.length ∧ nm (b.drop 4) = sm (b.take 4) (fR b) ∧ (fR b).length = nm b := by
  unfold fE at h
  split at h
  · omega
  · split at h
    · omega
    · split at h
      · omega
      · split at h
        · rename_i h1 h2 h3 h4
          refine ⟨by omega, by omega, by omega, h4, ?_⟩
          simp only [fR, List.length_take, List.length_drop]; omega
        · omega
theorem fr_found (l r : List Int) (hl : l.length ≤ 65536) : nm (fr l ++ r) = l.length ∧ fE (fr l ++ r) = 0 ∧ fR (fr l ++ r) = l ∧ (fr l ++ r).drop (8 + l.length) = r := by
  have hn : nm (fr l ++ r) = l.length := by
    unfold fr
    rw [List.append_assoc]
    exact nm_by4 _ _ (by omega)
  have h4 : (fr l ++ r).drop 4 = by4 (sm (by4 l.length) l) ++ (l ++ r) := by
    unfold fr
    rw [List.append_assoc, List.append_assoc, List.drop_left' (by4_len _)]
  have h8 : (fr l ++ r).drop 8 = l ++ r := by
    rw [show 8 = 4 + 4 from rfl, ← List.drop_drop, h4, List.drop_left' (by4_len _)]
  have ht : (fr l ++ r).take 4 = by4 l.length := by
    unfold fr
    rw [List.append_assoc, List.take_left' (by4_len _)]
  have hR : fR (fr l ++ r) = l := by
    unfold fR
    rw [hn, h8, List.take_left' rfl]
  refine ⟨hn, ?_, hR, ?_⟩
  · unfold fE
    have hlen : (fr l ++ r).length = 8 + l.length + r.length := by rw [List.length_append, fr_len]
    rw [if_neg (by omega), hn, if_neg (by omega), if_neg (by omega)]
    rw [show ((fr l ++ r).drop 8).take l.length = l by rw [h8, List.take_left' rfl], h4, nm_by4 _ _ (sm_lt _ _), ht, if_pos rfl]
  · rw [← fr_len, List.drop_left' rfl]
/- the frame of what was found is what stands there -/
theorem fr_back {b : List Int} (hr : Rng b) (h4 : 4 ≤ b.length) (hn : nm b ≤ 65536) (hl : 8 + nm b ≤ b.length) :
    (fr (fR b) = b.take (8 + nm b)) ↔ nm (b.drop 4) = sm (b.take 4) (fR b) := by
  have hf : (fR b).length = nm b := by simp only [fR, List.length_take, List.length_drop]; omega
  have e : b.take (8 + nm b) = b.take 4 ++ ((b.drop 4).take 4 ++ fR b) := by
    unfold fR
    rw [show 8 + nm b = 4 + (4 + nm b) by omega, List.take_add, List.take_add, List.drop_drop]
  have e1 := by4_nm b h4 hr
  have e2 := by4_nm (b.drop 4) (by rw [List.length_drop]; omega) (hr.drop 4)
  rw [e]
  unfold fr
  rw [hf, e1, ← e2]
  constructor
  · intro h
    have h1 := List.append_cancel_left h
    have h2 := List.append_cancel_right h1
    have h3 := congrArg (fun x => nm (x ++ [])) h2
    simp only [nm_by4 _ _ (sm_lt _ _), nm_by4 _ _ (nm_lt _ (hr.drop 4))] at h3
    exact h3.symm
  · intro h
    rw [h]

/- all records from the front on -/
def sc : Nat → List Int → List (List Int) × Nat
  | 0, _ => ([], 0)
  | n + 1, b => if fE b = 0 then (fR b :: (sc n (b.drop (8 + nm b))).1, 8 + nm b + (sc n (b.drop (8 + nm b))).2) else ([], 0)
def scan (b : List Int) : List (List Int) × Nat := sc (b.length + 1) b
theorem sc_step (n : Nat) (b : List Int) (h : fE b = 0) : sc (n + 1) b = (fR b :: (sc n (b.drop (8 + nm b))).1, 8 + nm b + (sc n (b.drop (8 + nm b))).2) := by rw [sc, if_pos h]
theorem sc_stop (n : Nat) (b : List Int) (h : ¬ fE b = 0) : sc (n + 1) b = ([], 0) := by rw [sc, if_neg h]
def rows (L : List (List Int)) : List Int := L.flatMap fr
theorem rows_cons (l : List Int) (L : List (List Int)) : rows (l :: L) = fr l ++ rows L := rfl
/- how many frames are whole within the first k bytes, and where they end -/
def wh : List (List Int) → Nat → Nat × Nat
  | [], _ => (0, 0)
  | l :: L, k => if 8 + l.length ≤ k then ((wh L (k - (8 + l.length))).1 + 1, 8 + l.length + (wh L (k - (8 + l.length))).2) else (0, 0)
theorem short_bad (l r : List Int) (hl : l.length ≤ 65536) (k : Nat) (h : k < 8 + l.length) : ¬ fE ((fr l ++ r).take k) = 0 := by
  have hlen : ((fr l ++ r).take k).length = k := by rw [List.length_take, List.length_append, fr_len]; omega
  intro e
  obtain ⟨h4, h6, h8, _, _⟩ := fE_ok e
  rw [hlen] at h4 h8
  have : nm ((fr l ++ r).take k) = l.length := by
    obtain ⟨j, rfl⟩ : ∃ j, k = 4 + j := ⟨k - 4, by omega⟩
    have : (fr l ++ r).take (4 + j) = by4 l.length ++ ((by4 (sm (by4 l.length) l) ++ l) ++ r).take j := by
      unfold fr
      rw [List.append_assoc, List.take_append, by4_len, show 4 + j - 4 = j by omega, List.take_of_length_le (by rw [by4_len]; omega)]
    rw [this, nm_by4 _ _ (by omega)]
  omega
theorem sc_rows (L : List (List Int)) (hL : ∀ l ∈ L, l.length ≤ 65536) (k : Nat) (n : Nat) (hn : k < n) : sc n ((rows L).take k) = (L.take (wh L k).1, (wh L k).2) := by
  induction L generalizing k n with
  | nil =>
    obtain ⟨m, rfl⟩ : ∃ m, n = m + 1 := ⟨n - 1, by omega⟩
    simp [rows, wh, sc, fE]
  | cons l L ih =>
    obtain ⟨m, rfl⟩ : ∃ m, n = m + 1 := ⟨n - 1, by omega⟩
    have hl := hL l (by simp)
    rw [rows_cons, wh]
    by_cases h : 8 + l.length ≤ k
    · rw [if_pos h]
      have e : (fr l ++ rows L).take k = fr l ++ (rows L).take (k - (8 + l.length)) := by
        rw [List.take_append, fr_len, List.take_of_length_le (by rw [fr_len]; omega)]
      rw [e]
      obtain ⟨f1, f2, f3, f4⟩ := fr_found l ((rows L).take (k - (8 + l.length))) hl
      rw [sc_step _ _ f2, f1, f3, f4, ih (fun x hx => hL x (by simp [hx])) _ m (by omega)]
      simp
    · rw [if_neg h, sc_stop _ _ (short_bad l _ hl k (by omega))]
      simp
theorem rows_len_nil : (rows []).length = 0 := rfl
theorem wh_all (L : List (List Int)) (k : Nat) (h : (rows L).length ≤ k) : wh L k = (L.length, (rows L).length) := by
  induction L generalizing k with
  | nil => rfl
  | cons l L ih =>
    rw [rows_cons, List.length_append, fr_len] at h
    rw [wh, if_pos (by omega), ih _ (by omega), rows_cons, List.length_append, fr_len]
    simp
theorem scan_rows (L : List (List Int)) (hL : ∀ l ∈ L, l.length ≤ 65536) (k : Nat) (hk : k ≤ (rows L).length) : scan ((rows L).take k) = (L.take (wh L k).1, (wh L k).2) := by
  unfold scan
  exact sc_rows L hL k _ (by rw [List.length_take]; omega)
theorem scan_all (L : List (List Int)) (hL : ∀ l ∈ L, l.length ≤ 65536) : scan (rows L) = (L, (rows L).length) := by
  have h := scan_rows L hL _ (Nat.le_refl _)
  rw [List.take_of_length_le (Nat.le_refl _), wh_all L _ (Nat.le_refl _), List.take_of_length_le (Nat.le_refl _)] at h
  exact h
/- ends of frames, counted one by one from the front -/
theorem wh_le (L : List (List Int)) (k : Nat) : (wh L k).1 ≤ L.length ∧ (wh L k).2 = (rows (L.take (wh L k).1)).length ∧ (wh L k).2 ≤ k := by
  induction L generalizing k with
  | nil => simp [wh, rows]
  | cons l L ih =>
    rw [wh]
    by_cases h : 8 + l.length ≤ k
    · rw [if_pos h]
      obtain ⟨h1, h2, h3⟩ := ih (k - (8 + l.length))
      refine ⟨by simp; omega, ?_, by simp only; omega⟩
      simp only [List.take_succ_cons, rows_cons, List.length_append, fr_len]
      omega
    · rw [if_neg h]; simp [rows]
theorem wh_iff (L : List (List Int)) (k j : Nat) (hj : j ≤ L.length) : (rows (L.take j)).length ≤ k ↔ j ≤ (wh L k).1 := by
  induction L generalizing k j with
  | nil => simp at hj; subst hj; simp [rows]
  | cons l L ih =>
    rcases j with _ | j
    · simp [rows]
    · rw [List.take_succ_cons, rows_cons, List.length_append, fr_len, wh]
      have hj' : j ≤ L.length := by simpa using hj
      by_cases h : 8 + l.length ≤ k
      · rw [if_pos h]
        have := ih (k - (8 + l.length)) j hj'
        constructor
        · intro h1
          have := this.1 (by omega)
          simp only; omega
        · intro h1
          have := this.2 (by simp only at h1; omega)
          omega
      · rw [if_neg h]
        constructor
        · intro h1; omega
        · intro h1; simp at h1
end Go.Proofs.YtcodihgjfhoepaaGreatDoor.Crc
