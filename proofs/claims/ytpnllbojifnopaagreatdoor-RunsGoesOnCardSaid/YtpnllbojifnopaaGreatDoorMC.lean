/- Contracts, joined: LbRealRef, LbValSame, EvVals, EvRow. -/
import Derived.Test.YtpnllbojifnopaaGreatDoorMA
import Derived.Test.YtpnllbojifnopaaGreatDoorMB
import Derived.Deep.RegionHeld3
import Derived.Deep.RegionLaw
/- The document's parts of a number, and their bits. -/
namespace Go.Proofs.YtpnllbojifnopaaGreatDoor
open Go Go.RowKit Rl
set_option maxRecDepth 20000

abbrev pt (s : Bool) (E F : Nat) : Value := .agg #[.bool s, .int .i64 (E : Int), .int .u64 (F : Int)]
def ex (b : Nat) : Nat := b / 4503599627370496 % 2048
def fr (b : Nat) : Nat := b % 4503599627370496
theorem ex_lt (b : Nat) : ex b < 2048 := Nat.mod_lt _ (by omega)
theorem fr_lt (b : Nat) : fr b < 4503599627370496 := Nat.mod_lt _ (by omega)
theorem ef (b : Nat) : ex b * 4503599627370496 + fr b = b % 9223372036854775808 := by unfold ex fr; omega
set_option maxHeartbeats 400000 in
theorem ofBits_any (b : Nat) (h : b < 18446744073709551616) (w : World) :
    Calls Tryz.prog 145 #[.int .u64 (b : Int)] w fun e w' => e = .returned (pt (neg b) (ex b) (fr b)) ∧ Below w.heap.size w w' := by
  have hd : decide ((9223372036854775808 : Int) ≤ (b : Int)) = neg b := by unfold neg; rw [Bool.eq_iff_iff]; simp; omega
  have he : (b : Int) / 4503599627370496 % 2048 = (ex b : Int) := by unfold ex; omega
  have hf : (b : Int) % 4503599627370496 = (fr b : Int) := by unfold fr; omega
  have e1 := ex_lt b
  have f1 := fr_lt b
  generalize neg b = s at hd
  generalize ex b = E at he e1
  generalize fr b = F at hf f1
  go_enter Tryz.func145, Tryz.ntmps145
  go_wp2
  exact bodyPost_ret (v := pt s E F) (by simp [results, Tryz.results145, go_sem]) rfl ⟨rfl, ((Below.refl _ _).alloc (Nat.le_refl _) _)⟩

/- parts that were boxed are there behind a call that only makes memory -/
theorem three (w w1 : World) (s : Bool) (E F : Nat) (hb : Below (w.alloc (.cells #[.bool s, .int .i64 (E : Int), .int .u64 (F : Int)] 222)).heap.size (w.alloc (.cells #[.bool s, .int .i64 (E : Int), .int .u64 (F : Int)] 222)) w1) :
    w1.cell? ⟨w.heap.size, 0, none⟩ = some (.bool s) ∧ w1.cell? ⟨w.heap.size, 1, none⟩ = some (.int .i64 (E : Int)) ∧ w1.cell? ⟨w.heap.size, 2, none⟩ = some (.int .u64 (F : Int)) := by
  refine ⟨?_, ?_, ?_⟩
  · rw [hb.cell (p := ⟨w.heap.size, 0, none⟩) (by simp)]; simp [go_sem]
  · rw [hb.cell (p := ⟨w.heap.size, 1, none⟩) (by simp)]; simp [go_sem]
  · rw [hb.cell (p := ⟨w.heap.size, 2, none⟩) (by simp)]; simp [go_sem]

/- a NaN, by its parts -/
def pn (E F : Nat) : Bool := decide (E = 2047 ∧ F ≠ 0)
set_option maxHeartbeats 400000 in
theorem pnan_any (s : Bool) (E F : Nat) (v : Bool) (hv : pn E F = v) (w : World) :
    Calls Tryz.prog 146 #[pt s E F] w fun e w' => e = .returned (.bool v) ∧ Below w.heap.size w w' := by
  unfold pn at hv
  by_cases c : E = 2047
  · subst c
    by_cases d : F = 0
    · subst d
      obtain rfl : v = false := by rw [← hv]; simp
      clear hv
      go_enter Tryz.func146, Tryz.ntmps146
      go_wp2
      go_ret
      exact ⟨rfl, ((Below.refl _ _).alloc (Nat.le_refl _) _)⟩
    · obtain rfl : v = true := by rw [← hv]; simp [d]
      clear hv
      have hd : ((F : Int) != 0) = true := by simp; omega
      go_enter Tryz.func146, Tryz.ntmps146
      go_wp2
      go_ret
      exact ⟨rfl, ((Below.refl _ _).alloc (Nat.le_refl _) _)⟩
  · obtain rfl : v = false := by rw [← hv]; simp [c]
    clear hv
    have hc : ((E : Int) == 2047) = false := by simp; omega
    go_enter Tryz.func146, Tryz.ntmps146
    go_wp2
    go_ret
    exact ⟨rfl, ((Below.refl _ _).alloc (Nat.le_refl _) _)⟩

def pb (s : Bool) (E F : Nat) : Nat := if pn E F = true then 9221120237041090560 else if s then E * 4503599627370496 + F + 9223372036854775808 else E * 4503599627370496 + F
theorem pn_nan (b : Nat) : pn (ex b) (fr b) = nan b := by
  unfold pn ex fr nan
  rw [Bool.eq_iff_iff, decide_eq_true_iff, decide_eq_true_iff]
  omega

theorem pb_bt (b : Nat) (h : b < 18446744073709551616) : pb (neg b) (ex b) (fr b) = bt b := by
  have e := ef b
  have n := pn_nan b
  generalize ex b = E at e n
  generalize fr b = F at e n
  unfold pb bt
  rw [n]
  cases nan b
  · simp only [Bool.false_eq_true, if_false]
    unfold neg
    by_cases c : 9223372036854775808 ≤ b
    · simp only [c, decide_true, if_true]
      exact (congrArg (fun x => x + 9223372036854775808) e).trans (by clear e n; omega)
    · simp only [c, decide_false, Bool.false_eq_true, if_false]
      exact e.trans (by clear e n; omega)
  · rfl

/- the parts of a number, and their bits -/
set_option maxHeartbeats 400000 in
theorem of_any (b : Nat) (h : b < 18446744073709551616) (w : World) :
    Calls Tryz.prog 126 #[.float .f64 b] w fun e w' => e = .returned (pt (neg b) (ex b) (fr b)) ∧ Below w.heap.size w w' := by
  have H := Lib.hid (fun w => ofBits_any b h w)
  have r13 := run13 b
  generalize neg b = s at H
  generalize ex b = E at H
  generalize fr b = F at H
  have B0 := Lib.hid ((Below.refl w.heap.size w).alloc (Nat.le_refl _) (.cells #[.bool false, .int .i64 0, .int .u64 0] 222))
  go_enter Tryz.func126, Tryz.ntmps126
  go_wp2_with fail
  refine (H.out _).mono ?_
  rintro e w' ⟨rfl, hb⟩
  obtain ⟨c0, c1, c2⟩ := three w w' false 0 0 hb
  have f0 : w'.frozen? ⟨w.heap.size, 0, none⟩ = false := by rw [hb.frozen (p := ⟨w.heap.size, 0, none⟩) (by simp)]; simp [go_sem]
  have f1 : w'.frozen? ⟨w.heap.size, 1, none⟩ = false := by rw [hb.frozen (p := ⟨w.heap.size, 1, none⟩) (by simp)]; simp [go_sem]
  have f2 : w'.frozen? ⟨w.heap.size, 2, none⟩ = false := by rw [hb.frozen (p := ⟨w.heap.size, 2, none⟩) (by simp)]; simp [go_sem]
  have B1 := Lib.hid (B0.out.trans (hb.mono (by simp)))
  clear hb
  go_wp2
  refine bodyPost_ret (v := pt s E F) ?_ rfl ⟨rfl, ((B1.out.setCell (Nat.le_refl _) _).setCell (Nat.le_refl _) _).setCell (Nat.le_refl _) _⟩
  simp [results, Tryz.results126, go_sem, c0, c1, c2]
end Go.Proofs.YtpnllbojifnopaaGreatDoor

/- Values: whether two are the same. The program's and the document's contract. -/
namespace Go.Proofs.YtpnllbojifnopaaGreatDoor
open Go Go.RowKit Rl
set_option maxRecDepth 20000

def smB (k k' : Int) (bi br bs : Bool) : Bool := if k = k' then (if k = 1 then bi else if k = 2 then br else if k = 3 then bs else true) else false
def sm (k n : Int) (r : Nat) (s : ByteArray) (k' n' : Int) (r' : Nat) (s' : ByteArray) : Bool := smB k k' (decide (n = n')) (decide (bt r = bt r')) (decide (s = s'))
theorem toList_eq_dec (s t : ByteArray) : (s.toList == t.toList) = decide (s = t) := by
  rw [ByteArray.toList_eq, ByteArray.toList_eq, Bool.eq_iff_iff, beq_iff_eq, decide_eq_true_iff]
  constructor
  · intro h; cases s; cases t; exact congrArg _ (Array.toList_inj.1 h)
  · intro h; rw [h]

set_option maxHeartbeats 1000000 in
theorem vsame_walk (k n : Int) (r : Nat) (s : ByteArray) (k' n' : Int) (r' : Nat) (s' : ByteArray) (bi br bs : Bool) (hi : (n == n') = bi) (hs : (s.toList == s'.toList) = bs)
    (w : World) (R : Hid (∀ w, Calls Tryz.prog 175 #[.float .f64 r, .float .f64 r'] w fun e w' => e = .returned (.bool br) ∧ w = w')) :
    Calls Tryz.prog 172 #[vl k n r s, vl k' n' r' s'] w fun e w' => e = .returned (.bool (smB k k' bi br bs)) ∧ Below w.heap.size w w' := by
  have T0 := Lib.hid (TwoV.start w k n r s k' n' r' s')
  by_cases h : k = k'
  · subst h
    have hk : (k != k) = false := by simp
    by_cases h1 : k = 1
    · subst h1
      clear R hk
      go_enter Tryz.func172, Tryz.ntmps172
      go_wp2_with fail
      go_ret
      exact ⟨by simp [smB], T0.out.bel⟩
    by_cases h2 : k = 2
    · subst h2
      clear hi hs hk
      go_enter Tryz.func172, Tryz.ntmps172
      go_wp2_with fail
      refine (R.out _).mono ?_
      rintro e w' ⟨rfl, rfl⟩
      go_wp2_with fail
      go_ret
      exact ⟨by simp [smB], T0.out.bel⟩
    by_cases h3 : k = 3
    · subst h3
      clear R hi hk
      go_enter Tryz.func172, Tryz.ntmps172
      go_wp2_with fail
      go_ret
      exact ⟨by simp [smB], T0.out.bel⟩
    have e1 : (k == 1) = false := by simp; omega
    have e2 : (k == 2) = false := by simp; omega
    have e3 : (k == 3) = false := by simp; omega
    have E := Lib.hid (show smB k k bi br bs = true by unfold smB; rw [if_pos rfl, if_neg h1, if_neg h2, if_neg h3])
    rw [E.out]
    clear R hi hs E h1 h2 h3
    go_enter Tryz.func172, Tryz.ntmps172
    go_wp2_with fail
    go_ret
    exact ⟨rfl, T0.out.bel⟩
  · have hk : (k != k') = true := by simp; omega
    have E := Lib.hid (show smB k k' bi br bs = false by unfold smB; rw [if_neg h])
    rw [E.out]
    clear R hi hs E h
    go_enter Tryz.func172, Tryz.ntmps172
    go_wp2_with fail
    go_ret
    exact ⟨rfl, T0.out.bel⟩
theorem vsame_any (k n : Int) (r : Nat) (s : ByteArray) (k' n' : Int) (r' : Nat) (s' : ByteArray) (hr : r < 18446744073709551616) (hr' : r' < 18446744073709551616) (w : World) :
    Calls Tryz.prog 172 #[vl k n r s, vl k' n' r' s'] w fun e w' => e = .returned (.bool (sm k n r s k' n' r' s')) ∧ Below w.heap.size w w' :=
  vsame_walk k n r s k' n' r' s' _ _ _ (by rw [Bool.eq_iff_iff]; simp) (toList_eq_dec s s') w (Lib.hid fun w => same_any r r' hr hr' _ rfl w)

theorem eight_next {w W W' : World} {a m r r' : Nat}
    (h : W.cell? ⟨a, 2, none⟩ = some (.float .f64 r) ∧ W.cell? ⟨a + 1, 2, none⟩ = some (.float .f64 r') ∧ Below m w W ∧ a + 1 < W.heap.size ∧ m ≤ W.heap.size)
    (hb : Below W.heap.size W W') :
    W'.cell? ⟨a, 2, none⟩ = some (.float .f64 r) ∧ W'.cell? ⟨a + 1, 2, none⟩ = some (.float .f64 r') ∧ Below m w W' ∧ a + 1 < W'.heap.size ∧ m ≤ W'.heap.size := by
  obtain ⟨h1, h2, h7, h8, h9⟩ := h
  have z := hb.size
  refine ⟨?_, ?_, h7.trans (hb.mono h9), by omega, by omega⟩
  · rw [hb.cell (p := ⟨a, 2, none⟩) (by simp; omega)]; exact h1
  · rw [hb.cell (p := ⟨a + 1, 2, none⟩) (by simp; omega)]; exact h2

end Go.Proofs.YtpnllbojifnopaaGreatDoor

/- Rows of values in memory: reading them, appending to one's own. -/
namespace Go.Proofs.YtpnllbojifnopaaGreatDoor
open Go Go.RowKit Pk Rl
set_option maxRecDepth 20000

abbrev VV := Int × Int × Nat × ByteArray
abbrev vz : VV := (0, 0, 0, ⟨#[]⟩)
abbrev vlOf (v : VV) : Value := vl v.1 v.2.1 v.2.2.1 v.2.2.2
theorem ne_beq {x : Int} {c : Int} (h : ¬ x = c) : (x == c) = false := by simpa using h
theorem may_facts {k n : Int} {r : Nat} {s : ByteArray} (h : may k n r s = true) : (k = 0 ∧ n = 0 ∧ r = 0 ∧ s.size = 0) ∨ (k = 1 ∧ r = 0 ∧ s.size = 0) ∨ (k = 2 ∧ n = 0 ∧ s.size = 0) ∨ (k = 3 ∧ n = 0 ∧ r = 0 ∧ s.size ≤ 255) := by
  unfold may mayB at h
  by_cases h0 : k = 0
  · rw [if_pos h0] at h; simp at h; exact .inl ⟨h0, h.1.1, h.1.2, by simp [h.2]⟩
  rw [if_neg h0] at h
  by_cases h1 : k = 1
  · rw [if_pos h1] at h; simp at h; exact .inr (.inl ⟨h1, h.1, by simp [h.2]⟩)
  rw [if_neg h1] at h
  by_cases h2 : k = 2
  · rw [if_pos h2] at h; simp at h; exact .inr (.inr (.inl ⟨h2, h.1, by simp [h.2]⟩))
  rw [if_neg h2] at h
  by_cases h3 : k = 3
  · rw [if_pos h3] at h; simp at h; exact .inr (.inr (.inr ⟨h3, h.1.1, h.1.2, h.2⟩))
  rw [if_neg h3] at h
  cases h
theorem sm_bt (k n : Int) (r : Nat) (s : ByteArray) : sm k n (bt r) s k n r s = true := by
  unfold sm smB
  rw [if_pos rfl, bt_bt]
  simp
theorem sm_self (k n : Int) (r : Nat) (s : ByteArray) : sm k n r s k n r s = true := by
  unfold sm smB
  rw [if_pos rfl]
  simp

def vcl (v : VV) : List Value := [.int .u8 v.1, .int .i64 v.2.1, .float .f64 v.2.2.1, .string v.2.2.2]
def vcls (L : List VV) : List Value := L.flatMap vcl
theorem vcls_len (L : List VV) : (vcls L).length = L.length * 4 := by
  induction L with
  | nil => rfl
  | cons v L ih => show (vcl v ++ vcls L).length = _; rw [List.length_append, ih, List.length_cons]; simp [vcl]; omega
theorem vcls_app (L M : List VV) : vcls (L ++ M) = vcls L ++ vcls M := by unfold vcls; rw [List.flatMap_append]
theorem vcls_get (L : List VV) (i : Nat) (hi : i < L.length) (j : Nat) (hj : j < 4) : (vcls L)[i * 4 + j]? = (vcl (L.getD i vz))[j]? := by
  induction L generalizing i with
  | nil => simp at hi
  | cons v L ih =>
    show (vcl v ++ vcls L)[i * 4 + j]? = _
    have h4 : (vcl v).length = 4 := rfl
    rcases i with _ | i
    · rw [List.getElem?_append_left (by omega)]; simp
    · rw [List.getElem?_append_right (by omega), h4, show (i + 1) * 4 + j - 4 = i * 4 + j by omega, ih i (by simpa using hi)]; simp
/- a value that a machine can hold -/
structure Okv (v : VV) : Prop where
  k0 : 0 ≤ v.1
  k1 : v.1 < 256
  n0 : -9223372036854775808 ≤ v.2.1
  n1 : v.2.1 ≤ 9223372036854775807
  re : v.2.2.1 < 18446744073709551616
def Atv (w : World) (b o : Nat) (v : VV) : Prop :=
  w.cell? ⟨b, o, none⟩ = some (.int .u8 v.1) ∧ w.cell? ⟨b, o + 1, none⟩ = some (.int .i64 v.2.1) ∧ w.cell? ⟨b, o + 2, none⟩ = some (.float .f64 v.2.2.1) ∧ w.cell? ⟨b, o + 3, none⟩ = some (.string v.2.2.2)
def Vals (w : World) (a : Option Addr) (L : List VV) : Prop := ∀ i, i < L.length → ∃ b off, a = some ⟨b, off, none⟩ ∧ Atv w b (off + i * 4) (L.getD i vz)
theorem Atv.below {w w' : World} {b o : Nat} {v : VV} (h : Atv w b o v) (hb : Below w.heap.size w w') : Atv w' b o v := by
  obtain ⟨h0, h1, h2, h3⟩ := h
  refine ⟨?_, ?_, ?_, ?_⟩
  · rw [hb.cell (World.block_lt_of_cell? _ _ h0)]; exact h0
  · rw [hb.cell (World.block_lt_of_cell? _ _ h1)]; exact h1
  · rw [hb.cell (World.block_lt_of_cell? _ _ h2)]; exact h2
  · rw [hb.cell (World.block_lt_of_cell? _ _ h3)]; exact h3
theorem Vals.below {w w' : World} {a : Option Addr} {L : List VV} (h : Vals w a L) (hb : Below w.heap.size w w') : Vals w' a L := fun i hi => by
  obtain ⟨b, off, e, h⟩ := h i hi
  exact ⟨b, off, e, h.below hb⟩
theorem Vals.nil (w : World) (a : Option Addr) : Vals w a [] := fun i hi => absurd hi (by simp)
abbrev mayv (v : VV) : Bool := may v.1 v.2.1 v.2.2.1 v.2.2.2
abbrev smv (v u : VV) : Bool := sm v.1 v.2.1 v.2.2.1 v.2.2.2 u.1 u.2.1 u.2.2.1 u.2.2.2
abbrev ev (t : Int) (a : Option Addr) (n c : Nat) : Value := .agg #[.int .u8 t, .slice a n c]
abbrev ecells (t : Int) (a : Option Addr) (n c : Nat) : Obj := .cells #[.int .u8 t, .slice a n c] 79
def Evt (w : World) (g : Nat) (t : Int) (a : Option Addr) (n c : Nat) : Prop := w.cell? ⟨g, 0, none⟩ = some (.int .u8 t) ∧ w.cell? ⟨g, 1, none⟩ = some (.slice a n c)
theorem Evt.next {w w' : World} {g : Nat} {t : Int} {a : Option Addr} {n c : Nat} (h : Evt w g t a n c) (hb : Below w.heap.size w w') : Evt w' g t a n c :=
  ⟨by rw [hb.cell (World.block_lt_of_cell? _ _ h.1)]; exact h.1, by rw [hb.cell (World.block_lt_of_cell? _ _ h.2)]; exact h.2⟩
theorem Evt.alloc (w : World) (t : Int) (a : Option Addr) (n c : Nat) : Evt (w.alloc (ecells t a n c)) w.heap.size t a n c := by refine ⟨?_, ?_⟩ <;> simp [go_sem]
theorem Evt.lt {w : World} {g : Nat} {t : Int} {a : Option Addr} {n c : Nat} (h : Evt w g t a n c) : g < w.heap.size := World.block_lt_of_cell? _ _ h.1
theorem below_alloc (w : World) (o : Obj) : Below w.heap.size w (w.alloc o) := (Below.refl w.heap.size w).alloc (Nat.le_refl _) o
def emay (L : List VV) : Bool := decide (L.length ≤ 8) && L.all mayv
theorem may_v (v : VV) (h : Okv v) (w : World) : Calls Tryz.prog 98 #[vlOf v] w fun e w' => e = .returned (.bool (mayv v)) ∧ Below w.heap.size w w' := may_any _ _ _ _ h.re w
theorem rmay_v (v : VV) (h : Okv v) (w : World) : Calls Tryz.prog 92 #[vlOf v] w fun e w' => e = .returned (.bool (mayv v)) ∧ Below w.heap.size w w' := rmay_any _ _ _ _ h.k0 w
theorem vsame_v (v u : VV) (h : Okv v) (h' : Okv u) (w : World) : Calls Tryz.prog 172 #[vlOf v, vlOf u] w fun e w' => e = .returned (.bool (smv v u)) ∧ Below w.heap.size w w' := vsame_any _ _ _ _ _ _ _ _ h.re h'.re w
theorem vdrop_cons (L : List VV) (k : Nat) (h : k < L.length) : L.drop k = L.getD k vz :: L.drop (k + 1) := by
  rw [List.drop_eq_getElem_cons h, List.getD_eq_getElem?_getD, List.getElem?_eq_getElem h]; rfl
theorem getD_mem (L : List VV) (k : Nat) (h : k < L.length) : L.getD k vz ∈ L := by
  rw [List.getD_eq_getElem?_getD, List.getElem?_eq_getElem h]; exact List.getElem_mem _
end Go.Proofs.YtpnllbojifnopaaGreatDoor

/- Rows of values of the call's own: what they hold, and appending to them. -/
namespace Go.Proofs.YtpnllbojifnopaaGreatDoor
open Go Go.RowKit Pk Rl
set_option maxRecDepth 20000

def OwnV (w : World) (B : Nat) (v : Value) (L : List VV) : Prop := w.ownsRow B 168 4 v L.length (vcls L)
theorem OwnV.nil (w : World) (B : Nat) : OwnV w B (.slice none 0 0) [] := World.ownsRow_nil w B 168 4
theorem OwnV.empty (w : World) : OwnV (w.alloc (.cells #[] 168)) w.heap.size (.slice (some ⟨w.heap.size, 0, none⟩) 0 0) [] :=
  World.ownsRow_made w #[] 0 (Nat.le_refl _) (by decide) rfl
theorem OwnV.form {w : World} {B : Nat} {v : Value} {L : List VV} (h : OwnV w B v L) : ∃ A c, v = .slice A L.length c ∧ Vals w A L := by
  rcases h.2 with ⟨rfl, h0⟩ | ⟨g, cap, cur, rfl, _⟩
  · have : L = [] := List.eq_nil_of_length_eq_zero h0
    subst this
    exact ⟨none, 0, rfl, Vals.nil _ _⟩
  · refine ⟨_, _, rfl, fun i hi => ⟨g, 0, rfl, ?_⟩⟩
    have key : ∀ j u, j < 4 → (vcl (L.getD i vz))[j]? = some u → w.cell? ⟨g, 0 + i * 4 + j, none⟩ = some u := fun j u hj hu => by
      have := World.ownsRow.cells h (g := g) rfl (i * 4 + j) u (by rw [vcls_get L i hi j hj]; exact hu)
      rwa [add_plain, ← Nat.add_assoc] at this
    exact ⟨key 0 _ (by omega) rfl, key 1 _ (by omega) rfl, key 2 _ (by omega) rfl, key 3 _ (by omega) rfl⟩
theorem OwnV.vals {w : World} {B : Nat} {A : Option Addr} {k c : Nat} {L : List VV} (h : OwnV w B (.slice A k c) L) : Vals w A L := by
  obtain ⟨A', c', e, hb⟩ := h.form
  injection e with e1 e2 e3
  subst e1
  exact hb
theorem OwnV.below {w w' : World} {B : Nat} {v : Value} {L : List VV} (h : OwnV w B v L) (hb : Below w.heap.size w w') : OwnV w' B v L := by
  refine ⟨h.1, ?_⟩
  rcases h.2 with h0 | ⟨g, cap, cur, hv, hg, hh, r⟩
  · exact .inl h0
  · refine .inr ⟨g, cap, cur, hv, hg, ?_, r⟩
    rw [hb.block g ?_]
    · exact hh
    · rcases Nat.lt_or_ge g w.heap.size with h1 | h1
      · exact h1
      · rw [Array.getElem?_eq_none h1] at hh; cases hh
theorem OwnV.mono {w : World} {B B' : Nat} {v : Value} {L : List VV} (h : OwnV w B v L) (hB : B' ≤ B) : OwnV w B' v L := by
  refine ⟨h.1, ?_⟩
  rcases h.2 with h0 | ⟨g, cap, cur, hv, hg, r⟩
  · exact .inl h0
  · exact .inr ⟨g, cap, cur, hv, Nat.le_trans hB hg, r⟩
theorem OwnV.capz {w : World} {B : Nat} {A : Option Addr} {k c : Nat} {L : List VV} (h : OwnV w B (.slice A k c) L) (hA : A = none) : c = 0 := by
  rcases h.2 with ⟨h', _⟩ | ⟨g, cap, cur, h', _⟩
  · injection h'
  · injection h' with e1 e2 e3
    rw [hA] at e1
    cases e1
/- a store into a block below the row's -/
theorem OwnV.setCell {w : World} {B : Nat} {v : Value} {L : List VV} (h : OwnV w B v L) (g j : Nat) (hg : g < B) (x : Value) : OwnV (w.setCell ⟨g, j, none⟩ x) B v L := by
  refine ⟨h.1, ?_⟩
  rcases h.2 with h0 | ⟨r, cap, cur, hv, hr, hh, t⟩
  · exact .inl h0
  · refine .inr ⟨r, cap, cur, hv, hr, ?_, t⟩
    rw [heap_setCell_other w ⟨g, j, none⟩ r x (by show r ≠ g; omega)]
    exact hh
theorem infoV : ∃ i, Tryz.prog.info? 168 = some i ∧ i.zero = some (vlOf vz) ∧ i.size = 4 ∧ i.bytes = 40 :=
  ⟨(Tryz.prog.info? 168).get (by kernel_rfl), by kernel_rfl, by kernel_rfl, by kernel_rfl, by kernel_rfl⟩
theorem vcls_one (L : List VV) : ∀ u ∈ vcls L, u.oneCell' = true := by
  intro u hu
  obtain ⟨v, _, h⟩ := List.mem_flatMap.1 hu
  simp only [vcl, List.mem_cons, List.not_mem_nil, or_false] at h
  rcases h with rfl | rfl | rfl | rfl <;> rfl
theorem run_appv (w : World) (B : Nat) (ty : TypeId) (v : Value) (L : List VV) (ho : OwnV w B v L) (A : Option Addr) (m c : Nat) (M : List VV) (hm : M.length = m) (hb : Vals w A M) (hc : A = none → c = 0)
    (hlen : L.length + m ≤ 1000000) (hB : B ≤ w.heap.size) :
    ∃ v' w', (Builtin.append_ #[77, 77] ty #[v, .slice A m c]).run Tryz.prog w = .ok v' w' ∧ OwnV w' B v' (L ++ M) ∧ Below B w w' := by
  obtain ⟨i, hi, hz, hs, hy⟩ := infoV
  rcases A with _ | ad
  · obtain rfl := hc rfl
    have hl : M = [] := by
      rcases M with _ | ⟨x, M⟩
      · rfl
      · obtain ⟨b, off, h, _⟩ := hb 0 (by simp)
        cases h
    subst hl
    subst hm
    exact ⟨v, w, run_append_owned_none (P := Tryz.prog) (w := w) B 77 ty 168 i 4 Tryz.underlying77 hi v _ _ ho, by rw [List.append_nil]; exact ho, Below.refl _ _⟩
  · obtain ⟨v', w', h1, h2, h3, _⟩ := run_append_own (P := Tryz.prog) w B 77 ty 168 i (vlOf vz) 4 40 Tryz.underlying77 hi hz hs hy rfl (by omega) v L.length (vcls L) ho ad m c (vcls M)
      (by rw [vcls_len, hm])
      (fun j u hj => by
        have hjl : j < M.length * 4 := by
          rcases Nat.lt_or_ge j (vcls M).length with h | h
          · rwa [vcls_len] at h
          · rw [List.getElem?_eq_none h] at hj; cases hj
        obtain ⟨b, off, h, c0, c1, c2, c3⟩ := hb (j / 4) (by omega)
        injection h with h
        subst h
        rw [show j = j / 4 * 4 + j % 4 by omega, vcls_get M (j / 4) (by omega) (j % 4) (by omega)] at hj
        rw [add_plain, show off + j = off + j / 4 * 4 + j % 4 by omega]
        have h4 : j % 4 < 4 := by omega
        generalize j % 4 = p at hj h4
        rcases p with _ | _ | _ | _ | p
        · rw [Nat.add_zero, c0]; exact hj
        · rw [c1]; exact hj
        · rw [c2]; exact hj
        · rw [c3]; exact hj
        · omega)
      (vcls_one M)
      (by unfold maxLen; omega) (by omega) hB
    refine ⟨v', w', h1, ?_, (Below.refl _ _).grown h3 hB (fun k hk => (World.ownsRow.lt ho k hk).1)⟩
    have : (L ++ M).length = L.length + m := by rw [List.length_append, hm]
    unfold OwnV
    rw [this, vcls_app]
    exact h2
theorem wp_appv1 {o : Oper} {a : Act} {K : Act → World → Prop} {Q : Exit → Act → World → Prop} (s x : Operand) (w : World)
    (hop : o.op = .call { callee := .builtin .append, args := #[s, x], argTypes := #[77, 77] })
    (B : Nat) (v : Value) (L : List VV) (hs : a.eval s = v) (ho : OwnV w B v L) (A : Option Addr) (m c : Nat) (M : List VV) (hx : a.eval x = .slice A m c) (hm : M.length = m) (hb : Vals w A M) (hc : A = none → c = 0)
    (k : Nat) (hk : (L ++ M).length = k) (hlen : k ≤ 1000000) (hB : B ≤ w.heap.size)
    (h : ∀ A' c' w', OwnV w' B (.slice A' k c') (L ++ M) → Below B w w' → K (a.put o.dst (.slice A' k c')) w') : Oper.wp Tryz.prog o a w K Q := by
  have hlen2 : L.length + m ≤ 1000000 := by rw [List.length_append] at hk; omega
  obtain ⟨v', w', hrun, h2, h3⟩ := run_appv w B o.type v L ho A m c M hm hb hc hlen2 hB
  obtain ⟨A', c', rfl, hby⟩ := h2.form
  rw [hk] at h2 hrun
  unfold Oper.wp
  simp [execOp, hop, resolve, invoke, builtin, hs, hx, hrun, Result.andThen]
  exact h A' c' w' h2 h3
theorem wp_appv {ops : Array Oper} {rest : List Oper} {o : Oper} {a : Act} {Q : Exit → Act → World → Prop} (s x : Operand) (w : World) (hgd : o.guard = none)
    (hop : o.op = .call { callee := .builtin .append, args := #[s, x], argTypes := #[77, 77] })
    (B : Nat) (v : Value) (L : List VV) (hs : a.eval s = v) (ho : OwnV w B v L) (A : Option Addr) (m c : Nat) (M : List VV) (hx : a.eval x = .slice A m c) (hm : M.length = m) (hb : Vals w A M) (hc : A = none → c = 0)
    (k : Nat) (hk : (L ++ M).length = k) (hlen : k ≤ 1000000) (hB : B ≤ w.heap.size)
    (h : ∀ A' c' w', OwnV w' B (.slice A' k c') (L ++ M) → Below B w w' → wpList Tryz.prog ops Q rest (a.put o.dst (.slice A' k c')) w') : wpList Tryz.prog ops Q (o :: rest) a w := by
  refine wpList_plain hgd fun K hK => ?_
  exact wp_appv1 s x w hop B v L hs ho A m c M hx hm hb hc k hk hlen hB fun A' c' w' h2 h3 => hK _ _ (h A' c' w' h2 h3)
theorem step_appv {ops : Array Oper} {o : Oper} {a : Act} {K : Act → World → Prop} {Q : Exit → Act → World → Prop} {E : Prop} (w : World) (hgd : o.guard = none) (s x : Operand)
    (hop : o.op = .call { callee := .builtin .append, args := #[s, x], argTypes := #[77, 77] })
    (B : Nat) (v : Value) (L : List VV) (hs : a.eval s = v) (ho : OwnV w B v L) (A : Option Addr) (m c : Nat) (M : List VV) (hx : a.eval x = .slice A m c) (hm : M.length = m) (hb : Vals w A M) (hc : A = none → c = 0)
    (k : Nat) (hk : (L ++ M).length = k) (hlen : k ≤ 1000000) (hB : B ≤ w.heap.size)
    (h : ∀ A' c' w', OwnV w' B (.slice A' k c') (L ++ M) → Below B w w' → K (a.put o.dst (.slice A' k c')) w') :
    if Region.wanted o (yielded ops a.tmps) = true then Oper.wp Tryz.prog o a w K Q else E := by
  have hw : Region.wanted o (yielded ops a.tmps) = true := by simp [Region.wanted, hgd]
  rw [if_pos hw]
  exact wp_appv1 s x w hop B v L hs ho A m c M hx hm hb hc k hk hlen hB h
/- one value in a block of its own -/
theorem Vals.one (w : World) (v : VV) : Vals (w.alloc (.cells #[.int .u8 v.1, .int .i64 v.2.1, .float .f64 v.2.2.1, .string v.2.2.2] 168)) (some ⟨w.heap.size, 0, none⟩) [v] := fun i hi => by
  have : i = 0 := by simpa using hi
  subst this
  refine ⟨w.heap.size, 0, rfl, ?_, ?_, ?_, ?_⟩ <;> simp [go_sem]
end Go.Proofs.YtpnllbojifnopaaGreatDoor
