/- The document's class, order and comparison of parts: their contracts, and that its comparison is the program's. -/
import Derived.Test.YtiddpoihhfphmaaDoorLbRealRef
import Derived.Test.YtiddpoihhfphmaaDoorLbCmp
import Derived.Deep.RegionHeld3
namespace Go.Proofs.YtiddpoihhfphmaaDoor
open Go Go.RowKit Rl
set_option maxRecDepth 20000

set_option maxHeartbeats 400000 in
theorem psize_any (s : Bool) (E F : Nat) (hE : E < 2048) (hF : F < 4503599627370496) (w : World) :
    Calls Tryd.prog 84 #[pt s E F] w fun e w' => e = .returned (.int .u64 ((E * 4503599627370496 + F : Nat) : Int)) ∧ Below w.heap.size w w' := by
  go_enter Tryd.func84, Tryd.ntmps84
  go_wp2
  go_ret
  exact ⟨ret_u64 (by omega), ((Below.refl _ _).alloc (Nat.le_refl _) _)⟩
def At3 (w : World) (n : Nat) (s : Bool) (E F : Nat) : Prop :=
  w.cell? ⟨n, 0, none⟩ = some (.bool s) ∧ w.cell? ⟨n, 1, none⟩ = some (.int .i64 (E : Int)) ∧ w.cell? ⟨n, 2, none⟩ = some (.int .u64 (F : Int))
theorem At3.below {w w' : World} {n : Nat} {s : Bool} {E F B : Nat} (h : At3 w n s E F) (hb : Below B w w') (hn : n < B) : At3 w' n s E F := by
  obtain ⟨a, b, c⟩ := h
  exact ⟨by rw [hb.cell (p := ⟨n, 0, none⟩) hn]; exact a, by rw [hb.cell (p := ⟨n, 1, none⟩) hn]; exact b, by rw [hb.cell (p := ⟨n, 2, none⟩) hn]; exact c⟩
abbrev cells3 (s : Bool) (E F : Nat) : Obj := .cells #[.bool s, .int .i64 (E : Int), .int .u64 (F : Int)] 87
theorem At3.alloc (w : World) (s : Bool) (E F : Nat) : At3 (w.alloc (cells3 s E F)) w.heap.size s E F := by
  refine ⟨?_, ?_, ?_⟩ <;> simp [go_sem]

def pc (E F : Nat) : Int := if E = 2047 then (if F = 0 then 3 else 4) else if E = 0 then (if F = 0 then 0 else 1) else 2
set_option maxHeartbeats 400000 in
theorem pclass_any (s : Bool) (E F : Nat) (w : World) :
    Calls Tryd.prog 65 #[pt s E F] w fun e w' => e = .returned (.int .i64 (pc E F)) ∧ Below w.heap.size w w' := by
  unfold pc
  by_cases c : E = 2047
  · subst c
    rw [if_pos rfl]
    by_cases d : F = 0
    · subst d
      rw [if_pos rfl]
      go_enter Tryd.func65, Tryd.ntmps65
      go_wp2
      go_ret
      exact ⟨rfl, ((Below.refl _ _).alloc (Nat.le_refl _) _)⟩
    · rw [if_neg d]
      have hd : ((F : Int) != 0) = true := by simp; omega
      go_enter Tryd.func65, Tryd.ntmps65
      go_wp2
      go_ret
      exact ⟨rfl, ((Below.refl _ _).alloc (Nat.le_refl _) _)⟩
  · rw [if_neg c]
    have hc : ((E : Int) == 2047) = false := by simp; omega
    by_cases z : E = 0
    · subst z
      rw [if_pos rfl]
      clear c hc
      by_cases d : F = 0
      · subst d
        rw [if_pos rfl]
        go_enter Tryd.func65, Tryd.ntmps65
        go_wp2
        go_ret
        exact ⟨rfl, ((Below.refl _ _).alloc (Nat.le_refl _) _)⟩
      · rw [if_neg d]
        have hd : ((F : Int) != 0) = true := by simp; omega
        go_enter Tryd.func65, Tryd.ntmps65
        go_wp2
        go_ret
        exact ⟨rfl, ((Below.refl _ _).alloc (Nat.le_refl _) _)⟩
    · rw [if_neg z]
      have hz : ((E : Int) == 0) = false := by simp; omega
      go_enter Tryd.func65, Tryd.ntmps65
      go_wp2
      go_ret
      exact ⟨rfl, ((Below.refl _ _).alloc (Nat.le_refl _) _)⟩

def po (s : Bool) (E F : Nat) (t : Bool) (G K : Nat) : Int :=
  if pn E F = true then (if pn G K = true then 0 else 1) else if pn G K = true then -1 else
  if s = t then (if s = true then c3 ((G * 4503599627370496 + K : Nat) : Int) ((E * 4503599627370496 + F : Nat) : Int) else c3 ((E * 4503599627370496 + F : Nat) : Int) ((G * 4503599627370496 + K : Nat) : Int))
  else if s = true then -1 else 1

structure Two (w W : World) (s : Bool) (E F : Nat) (t : Bool) (G K : Nat) : Prop where
  one : At3 W w.heap.size s E F
  two : At3 W (w.heap.size + 1) t G K
  bel : Below w.heap.size w W
  big : w.heap.size + 1 < W.heap.size
theorem Two.start (w : World) (s : Bool) (E F : Nat) (t : Bool) (G K : Nat) : Two w ((w.alloc (cells3 s E F)).alloc (cells3 t G K)) s E F t G K := by
  have h1 := At3.alloc w s E F
  have h2 := At3.alloc (w.alloc (cells3 s E F)) t G K
  have b2 := (Below.refl (w.alloc (cells3 s E F)).heap.size (w.alloc (cells3 s E F))).alloc (Nat.le_refl _) (cells3 t G K)
  refine ⟨h1.below b2 (by simp), ?_, ((Below.refl w.heap.size w).alloc (Nat.le_refl _) _).alloc (by simp) _, by simp⟩
  have : (w.alloc (cells3 s E F)).heap.size = w.heap.size + 1 := by simp
  rw [this] at h2; exact h2
theorem Two.next {w W W' : World} {s : Bool} {E F : Nat} {t : Bool} {G K : Nat} (h : Two w W s E F t G K) (hb : Below W.heap.size W W') : Two w W' s E F t G K :=
  ⟨h.one.below hb (by have := h.big; omega), h.two.below hb h.big, h.bel.trans (hb.mono h.bel.size), Nat.lt_of_lt_of_le h.big hb.size⟩

theorem psize' (s : Bool) (E F X : Nat) (hE : E < 2048) (hF : F < 4503599627370496) (hX : E * 4503599627370496 + F = X) (w : World) :
    Calls Tryd.prog 84 #[pt s E F] w fun e w' => e = .returned (.int .u64 (X : Int)) ∧ Below w.heap.size w w' := by
  subst hX; exact psize_any s E F hE hF w

set_option maxHeartbeats 1000000 in
theorem porder_any (s : Bool) (E F : Nat) (t : Bool) (G K : Nat) (hE : E < 2048) (hF : F < 4503599627370496) (hG : G < 2048) (hK : K < 4503599627370496) (w : World) :
    Calls Tryd.prog 66 #[pt s E F, pt t G K] w fun e w' => e = .returned (.int .i64 (po s E F t G K)) ∧ Below w.heap.size w w' := by
  have T0 := Lib.hid (Two.start w s E F t G K)
  unfold po
  obtain ⟨X, hX⟩ : ∃ X, E * 4503599627370496 + F = X := ⟨_, rfl⟩
  obtain ⟨Y, hY⟩ : ∃ Y, G * 4503599627370496 + K = Y := ⟨_, rfl⟩
  rw [hX, hY]
  have A1 := Lib.hid (fun w => psize' s E F X hE hF hX w)
  have A2 := Lib.hid (fun w => psize' t G K Y hG hK hY w)
  clear hX hY hE hF hG hK
  cases hn : pn E F
  · have N1 := Lib.hid (fun w => pnan_any s E F false hn w)
    clear hn
    cases hm : pn G K
    · have N2 := Lib.hid (fun w => pnan_any t G K false hm w)
      clear hm
      rw [if_neg (by simp), if_neg (by simp)]
      cases s
      · cases t
        · rw [if_pos rfl, if_neg (by simp)]
          unfold c3
          by_cases l : (X : Int) < Y
          · rw [if_pos l]
            have h1 : decide (X < Y) = true := by simp; omega
            go_enter Tryd.func66, Tryd.ntmps66
            go_wp2_with fail
            refine (N1.out _).mono ?_
            rintro e w1 ⟨rfl, b1⟩
            have T1 := Lib.hid (T0.out.next b1)
            clear b1
            obtain ⟨c0, c1, c2⟩ := T1.out.one
            obtain ⟨d0, d1, d2⟩ := T1.out.two
            go_wp2_with fail
            refine (N2.out _).mono ?_
            rintro e w2 ⟨rfl, b1⟩
            have T2 := Lib.hid (T1.out.next b1)
            clear b1 c0 c1 c2 d0 d1 d2
            obtain ⟨c0, c1, c2⟩ := T2.out.one
            obtain ⟨d0, d1, d2⟩ := T2.out.two
            go_wp2_with fail
            refine (A1.out _).mono ?_
            rintro e w3 ⟨rfl, b1⟩
            have T3 := Lib.hid (T2.out.next b1)
            clear b1 c0 c1 c2 d0 d1 d2
            obtain ⟨c0, c1, c2⟩ := T3.out.one
            obtain ⟨d0, d1, d2⟩ := T3.out.two
            go_wp2_with fail
            refine (A2.out _).mono ?_
            rintro e w4 ⟨rfl, b1⟩
            have T4 := Lib.hid (T3.out.next b1)
            clear b1 c0 c1 c2 d0 d1 d2
            obtain ⟨c0, c1, c2⟩ := T4.out.one
            obtain ⟨d0, d1, d2⟩ := T4.out.two
            go_wp2
            go_ret
            exact ⟨rfl, T4.out.bel⟩
          · rw [if_neg l]
            have h1 : decide (X < Y) = false := by simp; omega
            by_cases g : (Y : Int) < X
            · rw [if_pos g]
              have h2 : decide (Y < X) = true := by simp; omega
              go_enter Tryd.func66, Tryd.ntmps66
              go_wp2_with fail
              refine (N1.out _).mono ?_
              rintro e w1 ⟨rfl, b1⟩
              have T1 := Lib.hid (T0.out.next b1)
              clear b1
              obtain ⟨c0, c1, c2⟩ := T1.out.one
              obtain ⟨d0, d1, d2⟩ := T1.out.two
              go_wp2_with fail
              refine (N2.out _).mono ?_
              rintro e w2 ⟨rfl, b1⟩
              have T2 := Lib.hid (T1.out.next b1)
              clear b1 c0 c1 c2 d0 d1 d2
              obtain ⟨c0, c1, c2⟩ := T2.out.one
              obtain ⟨d0, d1, d2⟩ := T2.out.two
              go_wp2_with fail
              refine (A1.out _).mono ?_
              rintro e w3 ⟨rfl, b1⟩
              have T3 := Lib.hid (T2.out.next b1)
              clear b1 c0 c1 c2 d0 d1 d2
              obtain ⟨c0, c1, c2⟩ := T3.out.one
              obtain ⟨d0, d1, d2⟩ := T3.out.two
              go_wp2_with fail
              refine (A2.out _).mono ?_
              rintro e w4 ⟨rfl, b1⟩
              have T4 := Lib.hid (T3.out.next b1)
              clear b1 c0 c1 c2 d0 d1 d2
              obtain ⟨c0, c1, c2⟩ := T4.out.one
              obtain ⟨d0, d1, d2⟩ := T4.out.two
              go_wp2
              go_ret
              exact ⟨rfl, T4.out.bel⟩
            · rw [if_neg g]
              have h2 : decide (Y < X) = false := by simp; omega
              go_enter Tryd.func66, Tryd.ntmps66
              go_wp2_with fail
              refine (N1.out _).mono ?_
              rintro e w1 ⟨rfl, b1⟩
              have T1 := Lib.hid (T0.out.next b1)
              clear b1
              obtain ⟨c0, c1, c2⟩ := T1.out.one
              obtain ⟨d0, d1, d2⟩ := T1.out.two
              go_wp2_with fail
              refine (N2.out _).mono ?_
              rintro e w2 ⟨rfl, b1⟩
              have T2 := Lib.hid (T1.out.next b1)
              clear b1 c0 c1 c2 d0 d1 d2
              obtain ⟨c0, c1, c2⟩ := T2.out.one
              obtain ⟨d0, d1, d2⟩ := T2.out.two
              go_wp2_with fail
              refine (A1.out _).mono ?_
              rintro e w3 ⟨rfl, b1⟩
              have T3 := Lib.hid (T2.out.next b1)
              clear b1 c0 c1 c2 d0 d1 d2
              obtain ⟨c0, c1, c2⟩ := T3.out.one
              obtain ⟨d0, d1, d2⟩ := T3.out.two
              go_wp2_with fail
              refine (A2.out _).mono ?_
              rintro e w4 ⟨rfl, b1⟩
              have T4 := Lib.hid (T3.out.next b1)
              clear b1 c0 c1 c2 d0 d1 d2
              obtain ⟨c0, c1, c2⟩ := T4.out.one
              obtain ⟨d0, d1, d2⟩ := T4.out.two
              go_wp2
              go_ret
              exact ⟨rfl, T4.out.bel⟩
        · rw [if_neg (by simp), if_neg (by simp)]
          go_enter Tryd.func66, Tryd.ntmps66
          go_wp2_with fail
          refine (N1.out _).mono ?_
          rintro e w1 ⟨rfl, b1⟩
          have T1 := Lib.hid (T0.out.next b1)
          clear b1
          obtain ⟨c0, c1, c2⟩ := T1.out.one
          obtain ⟨d0, d1, d2⟩ := T1.out.two
          go_wp2_with fail
          refine (N2.out _).mono ?_
          rintro e w2 ⟨rfl, b1⟩
          have T2 := Lib.hid (T1.out.next b1)
          clear b1 c0 c1 c2 d0 d1 d2
          obtain ⟨c0, c1, c2⟩ := T2.out.one
          obtain ⟨d0, d1, d2⟩ := T2.out.two
          go_wp2
          go_ret
          exact ⟨rfl, T2.out.bel⟩
      · cases t
        · rw [if_neg (by simp), if_pos rfl]
          go_enter Tryd.func66, Tryd.ntmps66
          go_wp2_with fail
          refine (N1.out _).mono ?_
          rintro e w1 ⟨rfl, b1⟩
          have T1 := Lib.hid (T0.out.next b1)
          clear b1
          obtain ⟨c0, c1, c2⟩ := T1.out.one
          obtain ⟨d0, d1, d2⟩ := T1.out.two
          go_wp2_with fail
          refine (N2.out _).mono ?_
          rintro e w2 ⟨rfl, b1⟩
          have T2 := Lib.hid (T1.out.next b1)
          clear b1 c0 c1 c2 d0 d1 d2
          obtain ⟨c0, c1, c2⟩ := T2.out.one
          obtain ⟨d0, d1, d2⟩ := T2.out.two
          go_wp2
          go_ret
          exact ⟨rfl, T2.out.bel⟩
        · rw [if_pos rfl, if_pos rfl]
          unfold c3
          by_cases l : (Y : Int) < X
          · rw [if_pos l]
            have h1 : decide (Y < X) = true := by simp; omega
            go_enter Tryd.func66, Tryd.ntmps66
            go_wp2_with fail
            refine (N1.out _).mono ?_
            rintro e w1 ⟨rfl, b1⟩
            have T1 := Lib.hid (T0.out.next b1)
            clear b1
            obtain ⟨c0, c1, c2⟩ := T1.out.one
            obtain ⟨d0, d1, d2⟩ := T1.out.two
            go_wp2_with fail
            refine (N2.out _).mono ?_
            rintro e w2 ⟨rfl, b1⟩
            have T2 := Lib.hid (T1.out.next b1)
            clear b1 c0 c1 c2 d0 d1 d2
            obtain ⟨c0, c1, c2⟩ := T2.out.one
            obtain ⟨d0, d1, d2⟩ := T2.out.two
            go_wp2_with fail
            refine (A1.out _).mono ?_
            rintro e w3 ⟨rfl, b1⟩
            have T3 := Lib.hid (T2.out.next b1)
            clear b1 c0 c1 c2 d0 d1 d2
            obtain ⟨c0, c1, c2⟩ := T3.out.one
            obtain ⟨d0, d1, d2⟩ := T3.out.two
            go_wp2_with fail
            refine (A2.out _).mono ?_
            rintro e w4 ⟨rfl, b1⟩
            have T4 := Lib.hid (T3.out.next b1)
            clear b1 c0 c1 c2 d0 d1 d2
            obtain ⟨c0, c1, c2⟩ := T4.out.one
            obtain ⟨d0, d1, d2⟩ := T4.out.two
            go_wp2_with fail
            refine (A2.out _).mono ?_
            rintro e w5 ⟨rfl, b1⟩
            have T5 := Lib.hid (T4.out.next b1)
            clear b1 c0 c1 c2 d0 d1 d2
            obtain ⟨c0, c1, c2⟩ := T5.out.one
            obtain ⟨d0, d1, d2⟩ := T5.out.two
            go_wp2_with fail
            refine (A1.out _).mono ?_
            rintro e w6 ⟨rfl, b1⟩
            have T6 := Lib.hid (T5.out.next b1)
            clear b1 c0 c1 c2 d0 d1 d2
            obtain ⟨c0, c1, c2⟩ := T6.out.one
            obtain ⟨d0, d1, d2⟩ := T6.out.two
            go_wp2
            go_ret
            exact ⟨rfl, T6.out.bel⟩
          · rw [if_neg l]
            have h1 : decide (Y < X) = false := by simp; omega
            by_cases g : (X : Int) < Y
            · rw [if_pos g]
              have h2 : decide (X < Y) = true := by simp; omega
              go_enter Tryd.func66, Tryd.ntmps66
              go_wp2_with fail
              refine (N1.out _).mono ?_
              rintro e w1 ⟨rfl, b1⟩
              have T1 := Lib.hid (T0.out.next b1)
              clear b1
              obtain ⟨c0, c1, c2⟩ := T1.out.one
              obtain ⟨d0, d1, d2⟩ := T1.out.two
              go_wp2_with fail
              refine (N2.out _).mono ?_
              rintro e w2 ⟨rfl, b1⟩
              have T2 := Lib.hid (T1.out.next b1)
              clear b1 c0 c1 c2 d0 d1 d2
              obtain ⟨c0, c1, c2⟩ := T2.out.one
              obtain ⟨d0, d1, d2⟩ := T2.out.two
              go_wp2_with fail
              refine (A1.out _).mono ?_
              rintro e w3 ⟨rfl, b1⟩
              have T3 := Lib.hid (T2.out.next b1)
              clear b1 c0 c1 c2 d0 d1 d2
              obtain ⟨c0, c1, c2⟩ := T3.out.one
              obtain ⟨d0, d1, d2⟩ := T3.out.two
              go_wp2_with fail
              refine (A2.out _).mono ?_
              rintro e w4 ⟨rfl, b1⟩
              have T4 := Lib.hid (T3.out.next b1)
              clear b1 c0 c1 c2 d0 d1 d2
              obtain ⟨c0, c1, c2⟩ := T4.out.one
              obtain ⟨d0, d1, d2⟩ := T4.out.two
              go_wp2_with fail
              refine (A2.out _).mono ?_
              rintro e w5 ⟨rfl, b1⟩
              have T5 := Lib.hid (T4.out.next b1)
              clear b1 c0 c1 c2 d0 d1 d2
              obtain ⟨c0, c1, c2⟩ := T5.out.one
              obtain ⟨d0, d1, d2⟩ := T5.out.two
              go_wp2_with fail
              refine (A1.out _).mono ?_
              rintro e w6 ⟨rfl, b1⟩
              have T6 := Lib.hid (T5.out.next b1)
              clear b1 c0 c1 c2 d0 d1 d2
              obtain ⟨c0, c1, c2⟩ := T6.out.one
              obtain ⟨d0, d1, d2⟩ := T6.out.two
              go_wp2
              go_ret
              exact ⟨rfl, T6.out.bel⟩
            · rw [if_neg g]
              have h2 : decide (X < Y) = false := by simp; omega
              go_enter Tryd.func66, Tryd.ntmps66
              go_wp2_with fail
              refine (N1.out _).mono ?_
              rintro e w1 ⟨rfl, b1⟩
              have T1 := Lib.hid (T0.out.next b1)
              clear b1
              obtain ⟨c0, c1, c2⟩ := T1.out.one
              obtain ⟨d0, d1, d2⟩ := T1.out.two
              go_wp2_with fail
              refine (N2.out _).mono ?_
              rintro e w2 ⟨rfl, b1⟩
              have T2 := Lib.hid (T1.out.next b1)
              clear b1 c0 c1 c2 d0 d1 d2
              obtain ⟨c0, c1, c2⟩ := T2.out.one
              obtain ⟨d0, d1, d2⟩ := T2.out.two
              go_wp2_with fail
              refine (A1.out _).mono ?_
              rintro e w3 ⟨rfl, b1⟩
              have T3 := Lib.hid (T2.out.next b1)
              clear b1 c0 c1 c2 d0 d1 d2
              obtain ⟨c0, c1, c2⟩ := T3.out.one
              obtain ⟨d0, d1, d2⟩ := T3.out.two
              go_wp2_with fail
              refine (A2.out _).mono ?_
              rintro e w4 ⟨rfl, b1⟩
              have T4 := Lib.hid (T3.out.next b1)
              clear b1 c0 c1 c2 d0 d1 d2
              obtain ⟨c0, c1, c2⟩ := T4.out.one
              obtain ⟨d0, d1, d2⟩ := T4.out.two
              go_wp2_with fail
              refine (A2.out _).mono ?_
              rintro e w5 ⟨rfl, b1⟩
              have T5 := Lib.hid (T4.out.next b1)
              clear b1 c0 c1 c2 d0 d1 d2
              obtain ⟨c0, c1, c2⟩ := T5.out.one
              obtain ⟨d0, d1, d2⟩ := T5.out.two
              go_wp2_with fail
              refine (A1.out _).mono ?_
              rintro e w6 ⟨rfl, b1⟩
              have T6 := Lib.hid (T5.out.next b1)
              clear b1 c0 c1 c2 d0 d1 d2
              obtain ⟨c0, c1, c2⟩ := T6.out.one
              obtain ⟨d0, d1, d2⟩ := T6.out.two
              go_wp2
              go_ret
              exact ⟨rfl, T6.out.bel⟩
    · have N2 := Lib.hid (fun w => pnan_any t G K true hm w)
      clear hm
      rw [if_neg (by simp), if_pos rfl]
      go_enter Tryd.func66, Tryd.ntmps66
      go_wp2_with fail
      refine (N1.out _).mono ?_
      rintro e w1 ⟨rfl, b1⟩
      have T1 := Lib.hid (T0.out.next b1)
      clear b1
      obtain ⟨c0, c1, c2⟩ := T1.out.one
      obtain ⟨d0, d1, d2⟩ := T1.out.two
      go_wp2_with fail
      refine (N2.out _).mono ?_
      rintro e w2 ⟨rfl, b1⟩
      have T2 := Lib.hid (T1.out.next b1)
      clear b1 c0 c1 c2 d0 d1 d2
      obtain ⟨c0, c1, c2⟩ := T2.out.one
      obtain ⟨d0, d1, d2⟩ := T2.out.two
      go_wp2_with fail
      refine (N1.out _).mono ?_
      rintro e w3 ⟨rfl, b1⟩
      have T3 := Lib.hid (T2.out.next b1)
      clear b1 c0 c1 c2 d0 d1 d2
      obtain ⟨c0, c1, c2⟩ := T3.out.one
      obtain ⟨d0, d1, d2⟩ := T3.out.two
      go_wp2_with fail
      refine (N1.out _).mono ?_
      rintro e w4 ⟨rfl, b1⟩
      have T4 := Lib.hid (T3.out.next b1)
      clear b1 c0 c1 c2 d0 d1 d2
      obtain ⟨c0, c1, c2⟩ := T4.out.one
      obtain ⟨d0, d1, d2⟩ := T4.out.two
      go_wp2
      go_ret
      exact ⟨rfl, T4.out.bel⟩
  · have N1 := Lib.hid (fun w => pnan_any s E F true hn w)
    clear hn
    rw [if_pos rfl]
    cases hm : pn G K
    · have N2 := Lib.hid (fun w => pnan_any t G K false hm w)
      clear hm
      rw [if_neg (by simp)]
      go_enter Tryd.func66, Tryd.ntmps66
      go_wp2_with fail
      refine (N1.out _).mono ?_
      rintro e w1 ⟨rfl, b1⟩
      have T1 := Lib.hid (T0.out.next b1)
      clear b1
      obtain ⟨c0, c1, c2⟩ := T1.out.one
      obtain ⟨d0, d1, d2⟩ := T1.out.two
      go_wp2_with fail
      refine (N1.out _).mono ?_
      rintro e w2 ⟨rfl, b1⟩
      have T2 := Lib.hid (T1.out.next b1)
      clear b1 c0 c1 c2 d0 d1 d2
      obtain ⟨c0, c1, c2⟩ := T2.out.one
      obtain ⟨d0, d1, d2⟩ := T2.out.two
      go_wp2_with fail
      refine (N2.out _).mono ?_
      rintro e w3 ⟨rfl, b1⟩
      have T3 := Lib.hid (T2.out.next b1)
      clear b1 c0 c1 c2 d0 d1 d2
      obtain ⟨c0, c1, c2⟩ := T3.out.one
      obtain ⟨d0, d1, d2⟩ := T3.out.two
      go_wp2_with fail
      refine (N1.out _).mono ?_
      rintro e w4 ⟨rfl, b1⟩
      have T4 := Lib.hid (T3.out.next b1)
      clear b1 c0 c1 c2 d0 d1 d2
      obtain ⟨c0, c1, c2⟩ := T4.out.one
      obtain ⟨d0, d1, d2⟩ := T4.out.two
      go_wp2
      go_ret
      exact ⟨rfl, T4.out.bel⟩
    · have N2 := Lib.hid (fun w => pnan_any t G K true hm w)
      clear hm
      rw [if_pos rfl]
      go_enter Tryd.func66, Tryd.ntmps66
      go_wp2_with fail
      refine (N1.out _).mono ?_
      rintro e w1 ⟨rfl, b1⟩
      have T1 := Lib.hid (T0.out.next b1)
      clear b1
      obtain ⟨c0, c1, c2⟩ := T1.out.one
      obtain ⟨d0, d1, d2⟩ := T1.out.two
      go_wp2_with fail
      refine (N1.out _).mono ?_
      rintro e w2 ⟨rfl, b1⟩
      have T2 := Lib.hid (T1.out.next b1)
      clear b1 c0 c1 c2 d0 d1 d2
      obtain ⟨c0, c1, c2⟩ := T2.out.one
      obtain ⟨d0, d1, d2⟩ := T2.out.two
      go_wp2_with fail
      refine (N2.out _).mono ?_
      rintro e w3 ⟨rfl, b1⟩
      have T3 := Lib.hid (T2.out.next b1)
      clear b1 c0 c1 c2 d0 d1 d2
      obtain ⟨c0, c1, c2⟩ := T3.out.one
      obtain ⟨d0, d1, d2⟩ := T3.out.two
      go_wp2
      go_ret
      exact ⟨rfl, T3.out.bel⟩

def pcv (s : Bool) (E F : Nat) (t : Bool) (G K : Nat) : Int := if (pn E F || pn G K) = true then 0 else if pc E F = 0 ∧ pc G K = 0 then 0 else po s E F t G K
def pco (E F G K : Nat) : Bool := !(pn E F || pn G K)
set_option maxHeartbeats 1000000 in
theorem pcompare_any (s : Bool) (E F : Nat) (t : Bool) (G K : Nat) (hE : E < 2048) (hF : F < 4503599627370496) (hG : G < 2048) (hK : K < 4503599627370496) (w : World) :
    Calls Tryd.prog 44 #[pt s E F, pt t G K] w fun e w' => e = .returned (.tuple #[.int .i64 (pcv s E F t G K), .bool (pco E F G K)]) ∧ Below w.heap.size w w' := by
  have T0 := Lib.hid (Two.start w s E F t G K)
  have O := Lib.hid (fun w => porder_any s E F t G K hE hF hG hK w)
  have L1 := Lib.hid (fun w => pclass_any s E F w)
  have L2 := Lib.hid (fun w => pclass_any t G K w)
  unfold pcv pco
  cases hn : pn E F
  · have N1 := Lib.hid (fun w => pnan_any s E F false hn w)
    cases hm : pn G K
    · have N2 := Lib.hid (fun w => pnan_any t G K false hm w)
      clear hn hm
      rw [if_neg (by simp)]
      generalize pc E F = x at L1
      generalize pc G K = y at L2
      generalize po s E F t G K = z at O
      by_cases h1 : x = 0
      · subst h1
        by_cases h2 : y = 0
        · subst h2
          rw [if_pos ⟨rfl, rfl⟩]
          go_enter Tryd.func44, Tryd.ntmps44
          go_wp2_with fail
          refine (N1.out _).mono ?_
          rintro e w1 ⟨rfl, b1⟩
          have T1 := Lib.hid (T0.out.next b1)
          clear b1
          obtain ⟨c0, c1, c2⟩ := T1.out.one
          obtain ⟨d0, d1, d2⟩ := T1.out.two
          go_wp2_with fail
          refine (N2.out _).mono ?_
          rintro e w2 ⟨rfl, b1⟩
          have T2 := Lib.hid (T1.out.next b1)
          clear b1 c0 c1 c2 d0 d1 d2
          obtain ⟨c0, c1, c2⟩ := T2.out.one
          obtain ⟨d0, d1, d2⟩ := T2.out.two
          go_wp2_with fail
          refine (L1.out _).mono ?_
          rintro e w3 ⟨rfl, b1⟩
          have T3 := Lib.hid (T2.out.next b1)
          clear b1 c0 c1 c2 d0 d1 d2
          obtain ⟨c0, c1, c2⟩ := T3.out.one
          obtain ⟨d0, d1, d2⟩ := T3.out.two
          go_wp2_with fail
          refine (L2.out _).mono ?_
          rintro e w4 ⟨rfl, b1⟩
          have T4 := Lib.hid (T3.out.next b1)
          clear b1 c0 c1 c2 d0 d1 d2
          obtain ⟨c0, c1, c2⟩ := T4.out.one
          obtain ⟨d0, d1, d2⟩ := T4.out.two
          go_wp2
          go_ret2
          exact ⟨rfl, T4.out.bel⟩
        · rw [if_neg (by simp [h2])]
          have h3 : (y == 0) = false := by simp; omega
          clear h2
          go_enter Tryd.func44, Tryd.ntmps44
          go_wp2_with fail
          refine (N1.out _).mono ?_
          rintro e w1 ⟨rfl, b1⟩
          have T1 := Lib.hid (T0.out.next b1)
          clear b1
          obtain ⟨c0, c1, c2⟩ := T1.out.one
          obtain ⟨d0, d1, d2⟩ := T1.out.two
          go_wp2_with fail
          refine (N2.out _).mono ?_
          rintro e w2 ⟨rfl, b1⟩
          have T2 := Lib.hid (T1.out.next b1)
          clear b1 c0 c1 c2 d0 d1 d2
          obtain ⟨c0, c1, c2⟩ := T2.out.one
          obtain ⟨d0, d1, d2⟩ := T2.out.two
          go_wp2_with fail
          refine (L1.out _).mono ?_
          rintro e w3 ⟨rfl, b1⟩
          have T3 := Lib.hid (T2.out.next b1)
          clear b1 c0 c1 c2 d0 d1 d2
          obtain ⟨c0, c1, c2⟩ := T3.out.one
          obtain ⟨d0, d1, d2⟩ := T3.out.two
          go_wp2_with fail
          refine (L2.out _).mono ?_
          rintro e w4 ⟨rfl, b1⟩
          have T4 := Lib.hid (T3.out.next b1)
          clear b1 c0 c1 c2 d0 d1 d2
          obtain ⟨c0, c1, c2⟩ := T4.out.one
          obtain ⟨d0, d1, d2⟩ := T4.out.two
          go_wp2_with fail
          refine (O.out _).mono ?_
          rintro e w5 ⟨rfl, b1⟩
          have T5 := Lib.hid (T4.out.next b1)
          clear b1 c0 c1 c2 d0 d1 d2
          obtain ⟨c0, c1, c2⟩ := T5.out.one
          obtain ⟨d0, d1, d2⟩ := T5.out.two
          go_wp2
          go_ret2
          exact ⟨rfl, T5.out.bel⟩
      · rw [if_neg (by simp [h1])]
        have h3 : (x == 0) = false := by simp; omega
        clear h1
        go_enter Tryd.func44, Tryd.ntmps44
        go_wp2_with fail
        refine (N1.out _).mono ?_
        rintro e w1 ⟨rfl, b1⟩
        have T1 := Lib.hid (T0.out.next b1)
        clear b1
        obtain ⟨c0, c1, c2⟩ := T1.out.one
        obtain ⟨d0, d1, d2⟩ := T1.out.two
        go_wp2_with fail
        refine (N2.out _).mono ?_
        rintro e w2 ⟨rfl, b1⟩
        have T2 := Lib.hid (T1.out.next b1)
        clear b1 c0 c1 c2 d0 d1 d2
        obtain ⟨c0, c1, c2⟩ := T2.out.one
        obtain ⟨d0, d1, d2⟩ := T2.out.two
        go_wp2_with fail
        refine (L1.out _).mono ?_
        rintro e w3 ⟨rfl, b1⟩
        have T3 := Lib.hid (T2.out.next b1)
        clear b1 c0 c1 c2 d0 d1 d2
        obtain ⟨c0, c1, c2⟩ := T3.out.one
        obtain ⟨d0, d1, d2⟩ := T3.out.two
        go_wp2_with fail
        refine (O.out _).mono ?_
        rintro e w4 ⟨rfl, b1⟩
        have T4 := Lib.hid (T3.out.next b1)
        clear b1 c0 c1 c2 d0 d1 d2
        obtain ⟨c0, c1, c2⟩ := T4.out.one
        obtain ⟨d0, d1, d2⟩ := T4.out.two
        go_wp2
        go_ret2
        exact ⟨rfl, T4.out.bel⟩
    · have N2 := Lib.hid (fun w => pnan_any t G K true hm w)
      clear hn hm
      rw [if_pos (by simp)]
      go_enter Tryd.func44, Tryd.ntmps44
      go_wp2_with fail
      refine (N1.out _).mono ?_
      rintro e w1 ⟨rfl, b1⟩
      have T1 := Lib.hid (T0.out.next b1)
      clear b1
      obtain ⟨c0, c1, c2⟩ := T1.out.one
      obtain ⟨d0, d1, d2⟩ := T1.out.two
      go_wp2_with fail
      refine (N2.out _).mono ?_
      rintro e w2 ⟨rfl, b1⟩
      have T2 := Lib.hid (T1.out.next b1)
      clear b1 c0 c1 c2 d0 d1 d2
      obtain ⟨c0, c1, c2⟩ := T2.out.one
      obtain ⟨d0, d1, d2⟩ := T2.out.two
      go_wp2
      go_ret2
      exact ⟨rfl, T2.out.bel⟩
  · have N1 := Lib.hid (fun w => pnan_any s E F true hn w)
    clear hn
    rw [if_pos (by simp)]
    go_enter Tryd.func44, Tryd.ntmps44
    go_wp2_with fail
    refine (N1.out _).mono ?_
    rintro e w1 ⟨rfl, b1⟩
    have T1 := Lib.hid (T0.out.next b1)
    clear b1
    obtain ⟨c0, c1, c2⟩ := T1.out.one
    obtain ⟨d0, d1, d2⟩ := T1.out.two
    go_wp2
    go_ret2
    exact ⟨rfl, T1.out.bel⟩

theorem po_ky (a b : Nat) (ha : a < 18446744073709551616) (hb : b < 18446744073709551616) : po (neg a) (ex a) (fr a) (neg b) (ex b) (fr b) = c3 (ky a) (ky b) := by
  have n1 := pn_nan a
  have n2 := pn_nan b
  have e1 := ef a
  have e2 := ef b
  unfold po
  rw [n1, n2, e1, e2]
  clear e1 e2 n1 n2
  unfold ky bt c3
  have m1 : nan a = decide (9218868437227405312 < a % 9223372036854775808) := rfl
  have m2 : nan b = decide (9218868437227405312 < b % 9223372036854775808) := rfl
  cases h1 : nan a <;> cases h2 : nan b
  · have g1 := of_decide_eq_false (m1.symm.trans h1)
    have g2 := of_decide_eq_false (m2.symm.trans h2)
    clear m1 m2 h1 h2
    simp only [Bool.false_eq_true, if_false]
    unfold neg
    by_cases s : 9223372036854775808 ≤ a <;> by_cases t : 9223372036854775808 ≤ b <;> simp only [s, t, decide_true, decide_false, if_true, if_false, Bool.false_eq_true, Bool.true_eq_false] <;> (repeat' split) <;> omega
  · have g1 := of_decide_eq_false (m1.symm.trans h1)
    clear m1 m2 h1 h2
    simp only [Bool.false_eq_true, if_false, if_true]
    (repeat' split) <;> omega
  · have g2 := of_decide_eq_false (m2.symm.trans h2)
    clear m1 m2 h1 h2
    simp only [Bool.false_eq_true, if_false, if_true]
    (repeat' split) <;> omega
  · simp
theorem pc_zero (a : Nat) (h : nan a = false) : pc (ex a) (fr a) = 0 ↔ a % 9223372036854775808 = 0 := by
  have g := of_decide_eq_false (show decide (9218868437227405312 < a % 9223372036854775808) = false from h)
  have e := ef a
  have l1 := ex_lt a
  have l2 := fr_lt a
  generalize ex a = E at e l1
  generalize fr a = F at e l2
  clear h
  unfold pc
  (repeat' split) <;> omega
theorem pcv_cv (a b : Nat) (ha : a < 18446744073709551616) (hb : b < 18446744073709551616) : pcv (neg a) (ex a) (fr a) (neg b) (ex b) (fr b) = cv a b := by
  unfold pcv
  rw [po_ky a b ha hb, pn_nan, pn_nan]
  unfold cv
  by_cases n : (nan a || nan b) = true
  · rw [if_pos n, if_pos n]
  · rw [if_neg n, if_neg n]
    have na : nan a = false := by cases h : nan a <;> simp_all
    have nb : nan b = false := by cases h : nan b <;> simp_all
    clear n
    simp only [pc_zero a na, pc_zero b nb]
    unfold c3 ky bt sv
    rw [na, nb]
    have g1 := of_decide_eq_false (show decide (9218868437227405312 < a % 9223372036854775808) = false from na)
    have g2 := of_decide_eq_false (show decide (9218868437227405312 < b % 9223372036854775808) = false from nb)
    clear na nb
    simp only [Bool.false_eq_true, if_false]
    (repeat' split) <;> omega
theorem pco_co (a b : Nat) : pco (ex a) (fr a) (ex b) (fr b) = co a b := by
  unfold pco co; rw [pn_nan, pn_nan]

end Go.Proofs.YtiddpoihhfphmaaDoor
