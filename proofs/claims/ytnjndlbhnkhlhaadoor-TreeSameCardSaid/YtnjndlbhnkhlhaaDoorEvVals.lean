/- Rows of values in memory: reading them, appending to one's own. -/
import Derived.Test.YtnjndlbhnkhlhaaDoorLbVal
import Derived.Test.YtnjndlbhnkhlhaaDoorLbPackMath
import Derived.Test.YtnjndlbhnkhlhaaDoorLbOwn
import Derived.Test.YtnjndlbhnkhlhaaDoorLbValSame
namespace Go.Proofs.YtnjndlbhnkhlhaaDoor
open Go Go.RowKit Pk Rl
set_option maxRecDepth 20000

abbrev VV := Int × Int × Nat × ByteArray
abbrev vz : VV := (0, 0, 0, ⟨#[]⟩)
abbrev vlOf (v : VV) : Value := vl v.1 v.2.1 v.2.2.1 v.2.2.2
theorem ne_beq {x : Int} {c : Int} (h : ¬ x = c) : (x == c) = false := by simpa using h
theorem may_facts {k n : Int} {r : Nat} {s : ByteArray} (h : may k n r s = true) : (k = 0 ∧ n = 0 ∧ r = 0 ∧ s.size = 0) ∨ (k = 1 ∧ r = 0 ∧ s.size = 0) ∨ (k = 2 ∧ n = 0 ∧ s.size = 0) ∨ (k = 3 ∧ n = 0 ∧ r = 0 ∧ s.size ≤ 255) := by
  unfold may mayB at h
  by_cases h0 : k = 0
  · rw [if_pos h0] at h; simp at h; exact .inl ⟨h0, h.1.1, h.1.2, by simp [h.2]⟩
  rw [if_neg h0] at h
  by_cases h1 : k = 1
  · rw [if_pos h1] at h; simp at h; exact .inr (.inl ⟨h1, h.1, by simp [h.2]⟩)
  rw [if_neg h1] at h
  by_cases h2 : k = 2
  · rw [if_pos h2] at h; simp at h; exact .inr (.inr (.inl ⟨h2, h.1, by simp [h.2]⟩))
  rw [if_neg h2] at h
  by_cases h3 : k = 3
  · rw [if_pos h3] at h; simp at h; exact .inr (.inr (.inr ⟨h3, h.1.1, h.1.2, h.2⟩))
  rw [if_neg h3] at h
  cases h
theorem sm_bt (k n : Int) (r : Nat) (s : ByteArray) : sm k n (bt r) s k n r s = true := by
  unfold sm smB
  rw [if_pos rfl, bt_bt]
  simp
theorem sm_self (k n : Int) (r : Nat) (s : ByteArray) : sm k n r s k n r s = true := by
  unfold sm smB
  rw [if_pos rfl]
  simp

def vcl (v : VV) : List Value := [.int .u8 v.1, .int .i64 v.2.1, .float .f64 v.2.2.1, .string v.2.2.2]
def vcls (L : List VV) : List Value := L.flatMap vcl
theorem vcls_len (L : List VV) : (vcls L).length = L.length * 4 := by
  induction L with
  | nil => rfl
  | cons v L ih => show (vcl v ++ vcls L).length = _; rw [List.length_append, ih, List.length_cons]; simp [vcl]; omega
theorem vcls_app (L M : List VV) : vcls (L ++ M) = vcls L ++ vcls M := by unfold vcls; rw [List.flatMap_append]
theorem vcls_get (L : List VV) (i : Nat) (hi : i < L.length) (j : Nat) (hj : j < 4) : (vcls L)[i * 4 + j]? = (vcl (L.getD i vz))[j]? := by
  induction L generalizing i with
  | nil => simp at hi
  | cons v L ih =>
    show (vcl v ++ vcls L)[i * 4 + j]? = _
    have h4 : (vcl v).length = 4 := rfl
    rcases i with _ | i
    · rw [List.getElem?_append_left (by omega)]; simp
    · rw [List.getElem?_append_right (by omega), h4, show (i + 1) * 4 + j - 4 = i * 4 + j by omega, ih i (by simpa using hi)]; simp
/- a value that a machine can hold -/
structure Okv (v : VV) : Prop where
  k0 : 0 ≤ v.1
  k1 : v.1 < 256
  n0 : -9223372036854775808 ≤ v.2.1
  n1 : v.2.1 ≤ 9223372036854775807
  re : v.2.2.1 < 18446744073709551616
def Atv (w : World) (b o : Nat) (v : VV) : Prop :=
  w.cell? ⟨b, o, none⟩ = some (.int .u8 v.1) ∧ w.cell? ⟨b, o + 1, none⟩ = some (.int .i64 v.2.1) ∧ w.cell? ⟨b, o + 2, none⟩ = some (.float .f64 v.2.2.1) ∧ w.cell? ⟨b, o + 3, none⟩ = some (.string v.2.2.2)
def Vals (w : World) (a : Option Addr) (L : List VV) : Prop := ∀ i, i < L.length → ∃ b off, a = some ⟨b, off, none⟩ ∧ Atv w b (off + i * 4) (L.getD i vz)
theorem Atv.below {w w' : World} {b o : Nat} {v : VV} (h : Atv w b o v) (hb : Below w.heap.size w w') : Atv w' b o v := by
  obtain ⟨h0, h1, h2, h3⟩ := h
  refine ⟨?_, ?_, ?_, ?_⟩
  · rw [hb.cell (World.block_lt_of_cell? _ _ h0)]; exact h0
  · rw [hb.cell (World.block_lt_of_cell? _ _ h1)]; exact h1
  · rw [hb.cell (World.block_lt_of_cell? _ _ h2)]; exact h2
  · rw [hb.cell (World.block_lt_of_cell? _ _ h3)]; exact h3
theorem Vals.below {w w' : World} {a : Option Addr} {L : List VV} (h : Vals w a L) (hb : Below w.heap.size w w') : Vals w' a L := fun i hi => by
  obtain ⟨b, off, e, h⟩ := h i hi
  exact ⟨b, off, e, h.below hb⟩
theorem Vals.nil (w : World) (a : Option Addr) : Vals w a [] := fun i hi => absurd hi (by simp)
abbrev mayv (v : VV) : Bool := may v.1 v.2.1 v.2.2.1 v.2.2.2
abbrev smv (v u : VV) : Bool := sm v.1 v.2.1 v.2.2.1 v.2.2.2 u.1 u.2.1 u.2.2.1 u.2.2.2
abbrev ev (t : Int) (a : Option Addr) (n c : Nat) : Value := .agg #[.int .u8 t, .slice a n c]
def Evt (w : World) (g : Nat) (t : Int) (a : Option Addr) (n c : Nat) : Prop := w.cell? ⟨g, 0, none⟩ = some (.int .u8 t) ∧ w.cell? ⟨g, 1, none⟩ = some (.slice a n c)
theorem Evt.next {w w' : World} {g : Nat} {t : Int} {a : Option Addr} {n c : Nat} (h : Evt w g t a n c) (hb : Below w.heap.size w w') : Evt w' g t a n c :=
  ⟨by rw [hb.cell (World.block_lt_of_cell? _ _ h.1)]; exact h.1, by rw [hb.cell (World.block_lt_of_cell? _ _ h.2)]; exact h.2⟩
theorem Evt.lt {w : World} {g : Nat} {t : Int} {a : Option Addr} {n c : Nat} (h : Evt w g t a n c) : g < w.heap.size := World.block_lt_of_cell? _ _ h.1
theorem below_alloc (w : World) (o : Obj) : Below w.heap.size w (w.alloc o) := (Below.refl w.heap.size w).alloc (Nat.le_refl _) o
def emay (L : List VV) : Bool := decide (L.length ≤ 8) && L.all mayv
theorem may_v (v : VV) (h : Okv v) (w : World) : Calls Tryd.prog 57 #[vlOf v] w fun e w' => e = .returned (.bool (mayv v)) ∧ Below w.heap.size w w' := may_any _ _ _ _ h.re w
theorem rmay_v (v : VV) (h : Okv v) (w : World) : Calls Tryd.prog 47 #[vlOf v] w fun e w' => e = .returned (.bool (mayv v)) ∧ Below w.heap.size w w' := rmay_any _ _ _ _ h.k0 w
theorem vsame_v (v u : VV) (h : Okv v) (h' : Okv u) (w : World) : Calls Tryd.prog 59 #[vlOf v, vlOf u] w fun e w' => e = .returned (.bool (smv v u)) ∧ Below w.heap.size w w' := vsame_any _ _ _ _ _ _ _ _ h.re h'.re w
theorem rvsame_v (v u : VV) (h : Okv v) (h' : Okv u) (w : World) : Calls Tryd.prog 58 #[vlOf v, vlOf u] w fun e w' => e = .returned (.bool (smv v u)) ∧ Below w.heap.size w w' := rvsame_any _ _ _ _ _ _ _ _ h.re h'.re w
theorem vdrop_cons (L : List VV) (k : Nat) (h : k < L.length) : L.drop k = L.getD k vz :: L.drop (k + 1) := by
  rw [List.drop_eq_getElem_cons h, List.getD_eq_getElem?_getD, List.getElem?_eq_getElem h]; rfl
theorem getD_mem (L : List VV) (k : Nat) (h : k < L.length) : L.getD k vz ∈ L := by
  rw [List.getD_eq_getElem?_getD, List.getElem?_eq_getElem h]; exact List.getElem_mem _
end Go.Proofs.YtnjndlbhnkhlhaaDoor
