/- Plain facts on rows of 32 bits: one place to the lower side is linear and loses nothing; half a byte at a time, and a product of rows, come to the same. -/
namespace Go.Proofs.YtcodihgjfhoepaaGreatDoor.Crc

def poly : BitVec 32 := 3988292384#32
def st (x : BitVec 32) : BitVec 32 := (x >>> 1) ^^^ (if x.getLsbD 0 then poly else 0#32)
def stn : Nat → BitVec 32 → BitVec 32
  | 0, x => x
  | n + 1, x => stn n (st x)

theorem st_xor (x y : BitVec 32) : st (x ^^^ y) = st x ^^^ st y := by
  unfold st
  rw [BitVec.ushiftRight_xor_distrib, BitVec.getLsbD_xor]
  cases x.getLsbD 0 <;> cases y.getLsbD 0 <;> simp
  · rw [BitVec.xor_assoc]
  · rw [BitVec.xor_assoc, BitVec.xor_comm (y >>> 1), ← BitVec.xor_assoc]
  · rw [BitVec.xor_assoc, BitVec.xor_comm (y >>> 1), ← BitVec.xor_assoc poly, BitVec.xor_self, BitVec.zero_xor]
theorem st_zero : st 0#32 = 0#32 := by decide
theorem stn_xor (n : Nat) (x y : BitVec 32) : stn n (x ^^^ y) = stn n x ^^^ stn n y := by
  induction n generalizing x y with
  | zero => rfl
  | succ n ih => simp only [stn, st_xor, ih]
theorem stn_zero (n : Nat) : stn n 0#32 = 0#32 := by
  induction n with
  | zero => rfl
  | succ n ih => simp only [stn, st_zero, ih]
theorem stn_add (m n : Nat) (x : BitVec 32) : stn (m + n) x = stn n (stn m x) := by
  induction m generalizing x with
  | zero => simp [stn]
  | succ m ih => rw [Nat.succ_add]; simp only [stn, ih]
theorem stn_succ (n : Nat) (x : BitVec 32) : stn (n + 1) x = st (stn n x) := by rw [stn_add]; rfl

/- nothing is lost -/
theorem st_ker (x : BitVec 32) (h : st x = 0#32) : x = 0#32 := by
  unfold st at h
  by_cases h0 : x.getLsbD 0
  · rw [if_pos h0] at h
    have h31 : ((x >>> 1) ^^^ poly).getLsbD 31 = false := by rw [h]; decide
    rw [BitVec.getLsbD_xor, BitVec.getLsbD_ushiftRight] at h31
    have hp : poly.getLsbD 31 = true := by decide
    have hx : x.getLsbD (1 + 31) = false := BitVec.getLsbD_of_ge _ _ (by omega)
    rw [hp, hx] at h31
    simp at h31
  · rw [if_neg h0] at h
    simp only [BitVec.xor_zero] at h
    apply BitVec.eq_of_getLsbD_eq
    intro i hi
    rcases i with _ | i
    · simpa using h0
    · have : (x >>> 1).getLsbD i = false := by rw [h]; simp
      rw [BitVec.getLsbD_ushiftRight, Nat.add_comm] at this
      simpa using this
theorem stn_ker (n : Nat) (x : BitVec 32) (h : stn n x = 0#32) : x = 0#32 := by
  induction n generalizing x with
  | zero => exact h
  | succ n ih => exact st_ker x (ih _ h)

/- up and down again -/
theorem st_shl (z : BitVec 32) (h : z.getLsbD 31 = false) : st (z <<< 1) = z := by
  unfold st
  have h0 : (z <<< 1).getLsbD 0 = false := by simp
  rw [h0]
  simp only [Bool.false_eq_true, if_false, BitVec.xor_zero]
  apply BitVec.eq_of_getLsbD_eq
  intro i hi
  rw [BitVec.getLsbD_ushiftRight, BitVec.getLsbD_shiftLeft]
  by_cases h31 : i = 31
  · subst h31; rw [h]; simp
  · have : 1 + i < 32 := by omega
    simp [this]
theorem stn_shl (n : Nat) (z : BitVec 32) (h : ∀ i, 32 - n ≤ i → i < 32 → z.getLsbD i = false) (hn : n ≤ 32) : stn n (z <<< n) = z := by
  induction n generalizing z with
  | zero => simp [stn]
  | succ n ih =>
    have e : z <<< (n + 1) = (z <<< n) <<< 1 := by rw [BitVec.shiftLeft_add]
    have h31 : (z <<< n).getLsbD 31 = false := by
      rw [BitVec.getLsbD_shiftLeft]
      have := h (31 - n) (by omega) (by omega)
      simp [this]
    rw [stn, e, st_shl _ h31]
    exact ih z (fun i h1 h2 => h i (by omega) h2) (by omega)

/- half a byte at a time -/
def tab : Nat → Nat
  | 0 => 0 | 1 => 498536548 | 2 => 997073096 | 3 => 651767980 | 4 => 1994146192 | 5 => 1802195444 | 6 => 1303535960 | 7 => 1342533948
  | 8 => 3988292384 | 9 => 4027552580 | 10 => 3604390888 | 11 => 3412177804 | 12 => 2607071920 | 13 => 2262029012 | 14 => 2685067896 | _ => 3183342108
theorem tab_lt (i : Nat) : tab i < 4294967296 := by unfold tab; split <;> omega
theorem tab_st (i : Nat) (h : i < 16) : stn 4 (BitVec.ofNat 32 i) = BitVec.ofNat 32 (tab i) := by
  have : ∀ j : Fin 16, stn 4 (BitVec.ofNat 32 j.val) = BitVec.ofNat 32 (tab j.val) := by decide
  exact this ⟨i, h⟩
theorem nib (x : BitVec 32) : (x >>> 4) ^^^ BitVec.ofNat 32 (tab (x.toNat % 16)) = stn 4 x := by
  have e : x = ((x >>> 4) <<< 4) ^^^ BitVec.ofNat 32 (x.toNat % 16) := by
    apply BitVec.eq_of_getLsbD_eq
    intro i hi
    rw [BitVec.getLsbD_xor, BitVec.getLsbD_shiftLeft, BitVec.getLsbD_ushiftRight, BitVec.getLsbD_ofNat]
    rw [show (16 : Nat) = 2 ^ 4 from rfl, Nat.testBit_mod_two_pow]
    by_cases h4 : i < 4
    · simp [h4, hi, BitVec.getLsbD]
    · have : 4 + (i - 4) = i := by omega
      simp [h4, hi, this]
  have h2 := stn_shl 4 (x >>> 4) (fun i h1 h2 => by rw [BitVec.getLsbD_ushiftRight]; exact BitVec.getLsbD_of_ge _ _ (by omega)) (by omega)
  conv => rhs; rw [e]
  rw [stn_xor, h2, tab_st _ (Nat.mod_lt _ (by omega))]

/- bytes put on a row -/
def bo (c : Int) : BitVec 32 := BitVec.ofNat 32 c.toNat
def row (r : BitVec 32) (l : List Int) : BitVec 32 := l.foldl (fun r c => stn 8 (r ^^^ bo c)) r
def sum (r : BitVec 32) (l : List Int) : BitVec 32 := row (r ^^^ 4294967295#32) l ^^^ 4294967295#32
theorem row_append (r : BitVec 32) (l m : List Int) : row r (l ++ m) = row (row r l) m := by simp [row]
theorem row_cons (r : BitVec 32) (c : Int) (m : List Int) : row r (c :: m) = row (stn 8 (r ^^^ bo c)) m := rfl
theorem row_snoc (r : BitVec 32) (l : List Int) (c : Int) : row r (l ++ [c]) = stn 8 (row r l ^^^ bo c) := by rw [row_append]; rfl
theorem sum_append (a b : List Int) : sum (sum 0#32 a) b = sum 0#32 (a ++ b) := by
  unfold sum
  rw [BitVec.xor_assoc (row _ a), BitVec.xor_self, BitVec.xor_zero, row_append]
theorem xswap (a b c : BitVec 32) : a ^^^ b ^^^ c = a ^^^ c ^^^ b := by rw [BitVec.xor_assoc, BitVec.xor_comm b, ← BitVec.xor_assoc]
theorem row_xor (a b : BitVec 32) (l : List Int) : row (a ^^^ b) l = stn (8 * l.length) a ^^^ row b l := by
  induction l generalizing a b with
  | nil => rfl
  | cons c m ih =>
    rw [row_cons, row_cons, BitVec.xor_assoc, stn_xor, ih, List.length_cons, show 8 * (m.length + 1) = 8 + 8 * m.length from by omega, stn_add]
theorem sum_join (a b : List Int) : stn (8 * b.length) (sum 0#32 a) ^^^ sum 0#32 b = sum 0#32 (a ++ b) := by
  rw [← sum_append]
  have h : ∀ x : BitVec 32, sum x b = stn (8 * b.length) x ^^^ row 4294967295#32 b ^^^ 4294967295#32 := fun x => by unfold sum; rw [row_xor]
  rw [h (sum 0#32 a), h 0#32, stn_zero, BitVec.zero_xor, BitVec.xor_assoc]

/- a product of rows: over one that came from the first by places, it is as many places -/
def one : BitVec 32 := 2147483648#32
def tm : Nat → BitVec 32 → BitVec 32 → BitVec 32
  | 0, _, _ => 0#32
  | n + 1, a, b => (if a.getLsbD 31 then b else 0#32) ^^^ tm n (a <<< 1) (st b)
theorem one_top (a : BitVec 32) : (if a.getLsbD 31 then one else 0#32) ^^^ st (a <<< 1) = a := by
  have h : st (a <<< 1) = (a <<< 1) >>> 1 := by unfold st; simp
  rw [h]
  apply BitVec.eq_of_getLsbD_eq
  intro i hi
  rw [BitVec.getLsbD_xor, BitVec.getLsbD_ushiftRight, BitVec.getLsbD_shiftLeft]
  by_cases h31 : i = 31
  · subst h31
    cases a.getLsbD 31 <;> decide
  · have h1 : 1 + i < 32 := by omega
    have h2 : one.getLsbD i = false := by
      have : ∀ j : Fin 31, one.getLsbD j.val = false := by decide
      exact this ⟨i, by omega⟩
    cases a.getLsbD 31 <;> simp [h1, h2]
theorem tm_one (n k : Nat) (a : BitVec 32) (h : ∀ i, i < 32 - n → a.getLsbD i = false) : tm n a (stn k one) = stn k a := by
  induction n generalizing k a with
  | zero =>
    have : a = 0#32 := by
      apply BitVec.eq_of_getLsbD_eq
      intro i hi
      rw [h i (by omega)]; simp
    rw [this, stn_zero]; rfl
  | succ n ih =>
    have h2 : ∀ i, i < 32 - n → (a <<< 1).getLsbD i = false := by
      intro i hi
      rw [BitVec.getLsbD_shiftLeft]
      by_cases h0 : i < 1
      · simp [h0]
      · simp [h (i - 1) (by omega)]
    rw [tm, ← stn_succ, ih (k + 1) _ h2, stn]
    conv => rhs; rw [← one_top a]
    rw [stn_xor]
    cases a.getLsbD 31 <;> simp [stn_zero]

/- four bytes in a row -/
theorem four (r : BitVec 32) (a b c d : Int) (hb : b.toNat < 256) (hc : c.toNat < 256) (hd : d.toNat < 256) :
    row r [a, b, c, d] = stn 32 (r ^^^ bo a ^^^ (bo b <<< 8) ^^^ (bo c <<< 16) ^^^ (bo d <<< 24)) := by
  have up : ∀ (n : Nat) (x : Int), x.toNat < 256 → n ≤ 24 → stn n (bo x <<< n) = bo x := by
    intro n x hx hn
    refine stn_shl n _ (fun i h1 h2 => ?_) (by omega)
    unfold bo
    rw [BitVec.getLsbD_ofNat]
    have : x.toNat.testBit i = false := Nat.testBit_lt_two_pow (Nat.lt_of_lt_of_le hx (by
      have : 2 ^ 8 ≤ 2 ^ i := Nat.pow_le_pow_right (by omega) (by omega)
      omega))
    simp [this]
  have e32 : ∀ y, stn 32 y = stn 8 (stn 24 y) := fun y => stn_add 24 8 y
  have e24 : ∀ y, stn 24 y = stn 8 (stn 16 y) := fun y => stn_add 16 8 y
  have e16 : ∀ y, stn 16 y = stn 8 (stn 8 y) := fun y => stn_add 8 8 y
  rw [e32, stn_xor 24 _ (bo d <<< 24), up 24 d hd (by omega), e24, stn_xor 16 _ (bo c <<< 16), up 16 c hc (by omega), e16, stn_xor 8 _ (bo b <<< 8), up 8 b hb (by omega)]
  rfl
end Go.Proofs.YtcodihgjfhoepaaGreatDoor.Crc
