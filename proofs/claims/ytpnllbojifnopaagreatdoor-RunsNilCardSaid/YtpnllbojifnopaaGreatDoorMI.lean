/- Contracts, joined: LbRefCmp, LbRefFloor, LbRefAgainst, VlRCmp. -/
import Derived.Test.YtpnllbojifnopaaGreatDoorMC
import Derived.Test.YtpnllbojifnopaaGreatDoorMB
import Derived.Deep.RegionHeld3
import Derived.Test.YtpnllbojifnopaaGreatDoorMH
import Derived.Deep.QuietTactic
import Derived.BigQuiet
/- The document's class, order and comparison of parts: their contracts, and that its comparison is the program's. -/
namespace Go.Proofs.YtpnllbojifnopaaGreatDoor
open Go Go.RowKit Rl
set_option maxRecDepth 20000

set_option maxHeartbeats 400000 in
theorem psize_any (s : Bool) (E F : Nat) (hE : E < 2048) (hF : F < 4503599627370496) (w : World) :
    Calls Tryz.prog 165 #[pt s E F] w fun e w' => e = .returned (.int .u64 ((E * 4503599627370496 + F : Nat) : Int)) ∧ Below w.heap.size w w' := by
  go_enter Tryz.func165, Tryz.ntmps165
  go_wp2
  go_ret
  exact ⟨ret_u64 (by omega), ((Below.refl _ _).alloc (Nat.le_refl _) _)⟩
def At3 (w : World) (n : Nat) (s : Bool) (E F : Nat) : Prop :=
  w.cell? ⟨n, 0, none⟩ = some (.bool s) ∧ w.cell? ⟨n, 1, none⟩ = some (.int .i64 (E : Int)) ∧ w.cell? ⟨n, 2, none⟩ = some (.int .u64 (F : Int))
theorem At3.below {w w' : World} {n : Nat} {s : Bool} {E F B : Nat} (h : At3 w n s E F) (hb : Below B w w') (hn : n < B) : At3 w' n s E F := by
  obtain ⟨a, b, c⟩ := h
  exact ⟨by rw [hb.cell (p := ⟨n, 0, none⟩) hn]; exact a, by rw [hb.cell (p := ⟨n, 1, none⟩) hn]; exact b, by rw [hb.cell (p := ⟨n, 2, none⟩) hn]; exact c⟩
abbrev cells3 (s : Bool) (E F : Nat) : Obj := .cells #[.bool s, .int .i64 (E : Int), .int .u64 (F : Int)] 222
theorem At3.alloc (w : World) (s : Bool) (E F : Nat) : At3 (w.alloc (cells3 s E F)) w.heap.size s E F := by
  refine ⟨?_, ?_, ?_⟩ <;> simp [go_sem]

def pc (E F : Nat) : Int := if E = 2047 then (if F = 0 then 3 else 4) else if E = 0 then (if F = 0 then 0 else 1) else 2
set_option maxHeartbeats 400000 in
theorem pclass_any (s : Bool) (E F : Nat) (w : World) :
    Calls Tryz.prog 157 #[pt s E F] w fun e w' => e = .returned (.int .i64 (pc E F)) ∧ Below w.heap.size w w' := by
  unfold pc
  by_cases c : E = 2047
  · subst c
    rw [if_pos rfl]
    by_cases d : F = 0
    · subst d
      rw [if_pos rfl]
      go_enter Tryz.func157, Tryz.ntmps157
      go_wp2
      go_ret
      exact ⟨rfl, ((Below.refl _ _).alloc (Nat.le_refl _) _)⟩
    · rw [if_neg d]
      have hd : ((F : Int) != 0) = true := by simp; omega
      go_enter Tryz.func157, Tryz.ntmps157
      go_wp2
      go_ret
      exact ⟨rfl, ((Below.refl _ _).alloc (Nat.le_refl _) _)⟩
  · rw [if_neg c]
    have hc : ((E : Int) == 2047) = false := by simp; omega
    by_cases z : E = 0
    · subst z
      rw [if_pos rfl]
      clear c hc
      by_cases d : F = 0
      · subst d
        rw [if_pos rfl]
        go_enter Tryz.func157, Tryz.ntmps157
        go_wp2
        go_ret
        exact ⟨rfl, ((Below.refl _ _).alloc (Nat.le_refl _) _)⟩
      · rw [if_neg d]
        have hd : ((F : Int) != 0) = true := by simp; omega
        go_enter Tryz.func157, Tryz.ntmps157
        go_wp2
        go_ret
        exact ⟨rfl, ((Below.refl _ _).alloc (Nat.le_refl _) _)⟩
    · rw [if_neg z]
      have hz : ((E : Int) == 0) = false := by simp; omega
      go_enter Tryz.func157, Tryz.ntmps157
      go_wp2
      go_ret
      exact ⟨rfl, ((Below.refl _ _).alloc (Nat.le_refl _) _)⟩

def po (s : Bool) (E F : Nat) (t : Bool) (G K : Nat) : Int :=
  if pn E F = true then (if pn G K = true then 0 else 1) else if pn G K = true then -1 else
  if s = t then (if s = true then c3 ((G * 4503599627370496 + K : Nat) : Int) ((E * 4503599627370496 + F : Nat) : Int) else c3 ((E * 4503599627370496 + F : Nat) : Int) ((G * 4503599627370496 + K : Nat) : Int))
  else if s = true then -1 else 1

structure Two (w W : World) (s : Bool) (E F : Nat) (t : Bool) (G K : Nat) : Prop where
  one : At3 W w.heap.size s E F
  two : At3 W (w.heap.size + 1) t G K
  bel : Below w.heap.size w W
  big : w.heap.size + 1 < W.heap.size
theorem Two.start (w : World) (s : Bool) (E F : Nat) (t : Bool) (G K : Nat) : Two w ((w.alloc (cells3 s E F)).alloc (cells3 t G K)) s E F t G K := by
  have h1 := At3.alloc w s E F
  have h2 := At3.alloc (w.alloc (cells3 s E F)) t G K
  have b2 := (Below.refl (w.alloc (cells3 s E F)).heap.size (w.alloc (cells3 s E F))).alloc (Nat.le_refl _) (cells3 t G K)
  refine ⟨h1.below b2 (by simp), ?_, ((Below.refl w.heap.size w).alloc (Nat.le_refl _) _).alloc (by simp) _, by simp⟩
  have : (w.alloc (cells3 s E F)).heap.size = w.heap.size + 1 := by simp
  rw [this] at h2; exact h2
theorem Two.next {w W W' : World} {s : Bool} {E F : Nat} {t : Bool} {G K : Nat} (h : Two w W s E F t G K) (hb : Below W.heap.size W W') : Two w W' s E F t G K :=
  ⟨h.one.below hb (by have := h.big; omega), h.two.below hb h.big, h.bel.trans (hb.mono h.bel.size), Nat.lt_of_lt_of_le h.big hb.size⟩

theorem psize' (s : Bool) (E F X : Nat) (hE : E < 2048) (hF : F < 4503599627370496) (hX : E * 4503599627370496 + F = X) (w : World) :
    Calls Tryz.prog 165 #[pt s E F] w fun e w' => e = .returned (.int .u64 (X : Int)) ∧ Below w.heap.size w w' := by
  subst hX; exact psize_any s E F hE hF w

set_option maxHeartbeats 1000000 in
theorem porder_any (s : Bool) (E F : Nat) (t : Bool) (G K : Nat) (hE : E < 2048) (hF : F < 4503599627370496) (hG : G < 2048) (hK : K < 4503599627370496) (w : World) :
    Calls Tryz.prog 158 #[pt s E F, pt t G K] w fun e w' => e = .returned (.int .i64 (po s E F t G K)) ∧ Below w.heap.size w w' := by
  have T0 := Lib.hid (Two.start w s E F t G K)
  unfold po
  obtain ⟨X, hX⟩ : ∃ X, E * 4503599627370496 + F = X := ⟨_, rfl⟩
  obtain ⟨Y, hY⟩ : ∃ Y, G * 4503599627370496 + K = Y := ⟨_, rfl⟩
  rw [hX, hY]
  have A1 := Lib.hid (fun w => psize' s E F X hE hF hX w)
  have A2 := Lib.hid (fun w => psize' t G K Y hG hK hY w)
  clear hX hY hE hF hG hK
  cases hn : pn E F
  · have N1 := Lib.hid (fun w => pnan_any s E F false hn w)
    clear hn
    cases hm : pn G K
    · have N2 := Lib.hid (fun w => pnan_any t G K false hm w)
      clear hm
      rw [if_neg (by simp), if_neg (by simp)]
      cases s
      · cases t
        · rw [if_pos rfl, if_neg (by simp)]
          unfold c3
          by_cases l : (X : Int) < Y
          · rw [if_pos l]
            have h1 : decide (X < Y) = true := by simp; omega
            go_enter Tryz.func158, Tryz.ntmps158
            go_wp2_with fail
            refine (N1.out _).mono ?_
            rintro e w1 ⟨rfl, b1⟩
            have T1 := Lib.hid (T0.out.next b1)
            clear b1
            obtain ⟨c0, c1, c2⟩ := T1.out.one
            obtain ⟨d0, d1, d2⟩ := T1.out.two
            go_wp2_with fail
            refine (N2.out _).mono ?_
            rintro e w2 ⟨rfl, b1⟩
            have T2 := Lib.hid (T1.out.next b1)
            clear b1 c0 c1 c2 d0 d1 d2
            obtain ⟨c0, c1, c2⟩ := T2.out.one
            obtain ⟨d0, d1, d2⟩ := T2.out.two
            go_wp2_with fail
            refine (A1.out _).mono ?_
            rintro e w3 ⟨rfl, b1⟩
            have T3 := Lib.hid (T2.out.next b1)
            clear b1 c0 c1 c2 d0 d1 d2
            obtain ⟨c0, c1, c2⟩ := T3.out.one
            obtain ⟨d0, d1, d2⟩ := T3.out.two
            go_wp2_with fail
            refine (A2.out _).mono ?_
            rintro e w4 ⟨rfl, b1⟩
            have T4 := Lib.hid (T3.out.next b1)
            clear b1 c0 c1 c2 d0 d1 d2
            obtain ⟨c0, c1, c2⟩ := T4.out.one
            obtain ⟨d0, d1, d2⟩ := T4.out.two
            go_wp2
            go_ret
            exact ⟨rfl, T4.out.bel⟩
          · rw [if_neg l]
            have h1 : decide (X < Y) = false := by simp; omega
            by_cases g : (Y : Int) < X
            · rw [if_pos g]
              have h2 : decide (Y < X) = true := by simp; omega
              go_enter Tryz.func158, Tryz.ntmps158
              go_wp2_with fail
              refine (N1.out _).mono ?_
              rintro e w1 ⟨rfl, b1⟩
              have T1 := Lib.hid (T0.out.next b1)
              clear b1
              obtain ⟨c0, c1, c2⟩ := T1.out.one
              obtain ⟨d0, d1, d2⟩ := T1.out.two
              go_wp2_with fail
              refine (N2.out _).mono ?_
              rintro e w2 ⟨rfl, b1⟩
              have T2 := Lib.hid (T1.out.next b1)
              clear b1 c0 c1 c2 d0 d1 d2
              obtain ⟨c0, c1, c2⟩ := T2.out.one
              obtain ⟨d0, d1, d2⟩ := T2.out.two
              go_wp2_with fail
              refine (A1.out _).mono ?_
              rintro e w3 ⟨rfl, b1⟩
              have T3 := Lib.hid (T2.out.next b1)
              clear b1 c0 c1 c2 d0 d1 d2
              obtain ⟨c0, c1, c2⟩ := T3.out.one
              obtain ⟨d0, d1, d2⟩ := T3.out.two
              go_wp2_with fail
              refine (A2.out _).mono ?_
              rintro e w4 ⟨rfl, b1⟩
              have T4 := Lib.hid (T3.out.next b1)
              clear b1 c0 c1 c2 d0 d1 d2
              obtain ⟨c0, c1, c2⟩ := T4.out.one
              obtain ⟨d0, d1, d2⟩ := T4.out.two
              go_wp2
              go_ret
              exact ⟨rfl, T4.out.bel⟩
            · rw [if_neg g]
              have h2 : decide (Y < X) = false := by simp; omega
              go_enter Tryz.func158, Tryz.ntmps158
              go_wp2_with fail
              refine (N1.out _).mono ?_
              rintro e w1 ⟨rfl, b1⟩
              have T1 := Lib.hid (T0.out.next b1)
              clear b1
              obtain ⟨c0, c1, c2⟩ := T1.out.one
              obtain ⟨d0, d1, d2⟩ := T1.out.two
              go_wp2_with fail
              refine (N2.out _).mono ?_
              rintro e w2 ⟨rfl, b1⟩
              have T2 := Lib.hid (T1.out.next b1)
              clear b1 c0 c1 c2 d0 d1 d2
              obtain ⟨c0, c1, c2⟩ := T2.out.one
              obtain ⟨d0, d1, d2⟩ := T2.out.two
              go_wp2_with fail
              refine (A1.out _).mono ?_
              rintro e w3 ⟨rfl, b1⟩
              have T3 := Lib.hid (T2.out.next b1)
              clear b1 c0 c1 c2 d0 d1 d2
              obtain ⟨c0, c1, c2⟩ := T3.out.one
              obtain ⟨d0, d1, d2⟩ := T3.out.two
              go_wp2_with fail
              refine (A2.out _).mono ?_
              rintro e w4 ⟨rfl, b1⟩
              have T4 := Lib.hid (T3.out.next b1)
              clear b1 c0 c1 c2 d0 d1 d2
              obtain ⟨c0, c1, c2⟩ := T4.out.one
              obtain ⟨d0, d1, d2⟩ := T4.out.two
              go_wp2
              go_ret
              exact ⟨rfl, T4.out.bel⟩
        · rw [if_neg (by simp), if_neg (by simp)]
          go_enter Tryz.func158, Tryz.ntmps158
          go_wp2_with fail
          refine (N1.out _).mono ?_
          rintro e w1 ⟨rfl, b1⟩
          have T1 := Lib.hid (T0.out.next b1)
          clear b1
          obtain ⟨c0, c1, c2⟩ := T1.out.one
          obtain ⟨d0, d1, d2⟩ := T1.out.two
          go_wp2_with fail
          refine (N2.out _).mono ?_
          rintro e w2 ⟨rfl, b1⟩
          have T2 := Lib.hid (T1.out.next b1)
          clear b1 c0 c1 c2 d0 d1 d2
          obtain ⟨c0, c1, c2⟩ := T2.out.one
          obtain ⟨d0, d1, d2⟩ := T2.out.two
          go_wp2
          go_ret
          exact ⟨rfl, T2.out.bel⟩
      · cases t
        · rw [if_neg (by simp), if_pos rfl]
          go_enter Tryz.func158, Tryz.ntmps158
          go_wp2_with fail
          refine (N1.out _).mono ?_
          rintro e w1 ⟨rfl, b1⟩
          have T1 := Lib.hid (T0.out.next b1)
          clear b1
          obtain ⟨c0, c1, c2⟩ := T1.out.one
          obtain ⟨d0, d1, d2⟩ := T1.out.two
          go_wp2_with fail
          refine (N2.out _).mono ?_
          rintro e w2 ⟨rfl, b1⟩
          have T2 := Lib.hid (T1.out.next b1)
          clear b1 c0 c1 c2 d0 d1 d2
          obtain ⟨c0, c1, c2⟩ := T2.out.one
          obtain ⟨d0, d1, d2⟩ := T2.out.two
          go_wp2
          go_ret
          exact ⟨rfl, T2.out.bel⟩
        · rw [if_pos rfl, if_pos rfl]
          unfold c3
          by_cases l : (Y : Int) < X
          · rw [if_pos l]
            have h1 : decide (Y < X) = true := by simp; omega
            go_enter Tryz.func158, Tryz.ntmps158
            go_wp2_with fail
            refine (N1.out _).mono ?_
            rintro e w1 ⟨rfl, b1⟩
            have T1 := Lib.hid (T0.out.next b1)
            clear b1
            obtain ⟨c0, c1, c2⟩ := T1.out.one
            obtain ⟨d0, d1, d2⟩ := T1.out.two
            go_wp2_with fail
            refine (N2.out _).mono ?_
            rintro e w2 ⟨rfl, b1⟩
            have T2 := Lib.hid (T1.out.next b1)
            clear b1 c0 c1 c2 d0 d1 d2
            obtain ⟨c0, c1, c2⟩ := T2.out.one
            obtain ⟨d0, d1, d2⟩ := T2.out.two
            go_wp2_with fail
            refine (A1.out _).mono ?_
            rintro e w3 ⟨rfl, b1⟩
            have T3 := Lib.hid (T2.out.next b1)
            clear b1 c0 c1 c2 d0 d1 d2
            obtain ⟨c0, c1, c2⟩ := T3.out.one
            obtain ⟨d0, d1, d2⟩ := T3.out.two
            go_wp2_with fail
            refine (A2.out _).mono ?_
            rintro e w4 ⟨rfl, b1⟩
            have T4 := Lib.hid (T3.out.next b1)
            clear b1 c0 c1 c2 d0 d1 d2
            obtain ⟨c0, c1, c2⟩ := T4.out.one
            obtain ⟨d0, d1, d2⟩ := T4.out.two
            go_wp2_with fail
            refine (A2.out _).mono ?_
            rintro e w5 ⟨rfl, b1⟩
            have T5 := Lib.hid (T4.out.next b1)
            clear b1 c0 c1 c2 d0 d1 d2
            obtain ⟨c0, c1, c2⟩ := T5.out.one
            obtain ⟨d0, d1, d2⟩ := T5.out.two
            go_wp2_with fail
            refine (A1.out _).mono ?_
            rintro e w6 ⟨rfl, b1⟩
            have T6 := Lib.hid (T5.out.next b1)
            clear b1 c0 c1 c2 d0 d1 d2
            obtain ⟨c0, c1, c2⟩ := T6.out.one
            obtain ⟨d0, d1, d2⟩ := T6.out.two
            go_wp2
            go_ret
            exact ⟨rfl, T6.out.bel⟩
          · rw [if_neg l]
            have h1 : decide (Y < X) = false := by simp; omega
            by_cases g : (X : Int) < Y
            · rw [if_pos g]
              have h2 : decide (X < Y) = true := by simp; omega
              go_enter Tryz.func158, Tryz.ntmps158
              go_wp2_with fail
              refine (N1.out _).mono ?_
              rintro e w1 ⟨rfl, b1⟩
              have T1 := Lib.hid (T0.out.next b1)
              clear b1
              obtain ⟨c0, c1, c2⟩ := T1.out.one
              obtain ⟨d0, d1, d2⟩ := T1.out.two
              go_wp2_with fail
              refine (N2.out _).mono ?_
              rintro e w2 ⟨rfl, b1⟩
              have T2 := Lib.hid (T1.out.next b1)
              clear b1 c0 c1 c2 d0 d1 d2
              obtain ⟨c0, c1, c2⟩ := T2.out.one
              obtain ⟨d0, d1, d2⟩ := T2.out.two
              go_wp2_with fail
              refine (A1.out _).mono ?_
              rintro e w3 ⟨rfl, b1⟩
              have T3 := Lib.hid (T2.out.next b1)
              clear b1 c0 c1 c2 d0 d1 d2
              obtain ⟨c0, c1, c2⟩ := T3.out.one
              obtain ⟨d0, d1, d2⟩ := T3.out.two
              go_wp2_with fail
              refine (A2.out _).mono ?_
              rintro e w4 ⟨rfl, b1⟩
              have T4 := Lib.hid (T3.out.next b1)
              clear b1 c0 c1 c2 d0 d1 d2
              obtain ⟨c0, c1, c2⟩ := T4.out.one
              obtain ⟨d0, d1, d2⟩ := T4.out.two
              go_wp2_with fail
              refine (A2.out _).mono ?_
              rintro e w5 ⟨rfl, b1⟩
              have T5 := Lib.hid (T4.out.next b1)
              clear b1 c0 c1 c2 d0 d1 d2
              obtain ⟨c0, c1, c2⟩ := T5.out.one
              obtain ⟨d0, d1, d2⟩ := T5.out.two
              go_wp2_with fail
              refine (A1.out _).mono ?_
              rintro e w6 ⟨rfl, b1⟩
              have T6 := Lib.hid (T5.out.next b1)
              clear b1 c0 c1 c2 d0 d1 d2
              obtain ⟨c0, c1, c2⟩ := T6.out.one
              obtain ⟨d0, d1, d2⟩ := T6.out.two
              go_wp2
              go_ret
              exact ⟨rfl, T6.out.bel⟩
            · rw [if_neg g]
              have h2 : decide (X < Y) = false := by simp; omega
              go_enter Tryz.func158, Tryz.ntmps158
              go_wp2_with fail
              refine (N1.out _).mono ?_
              rintro e w1 ⟨rfl, b1⟩
              have T1 := Lib.hid (T0.out.next b1)
              clear b1
              obtain ⟨c0, c1, c2⟩ := T1.out.one
              obtain ⟨d0, d1, d2⟩ := T1.out.two
              go_wp2_with fail
              refine (N2.out _).mono ?_
              rintro e w2 ⟨rfl, b1⟩
              have T2 := Lib.hid (T1.out.next b1)
              clear b1 c0 c1 c2 d0 d1 d2
              obtain ⟨c0, c1, c2⟩ := T2.out.one
              obtain ⟨d0, d1, d2⟩ := T2.out.two
              go_wp2_with fail
              refine (A1.out _).mono ?_
              rintro e w3 ⟨rfl, b1⟩
              have T3 := Lib.hid (T2.out.next b1)
              clear b1 c0 c1 c2 d0 d1 d2
              obtain ⟨c0, c1, c2⟩ := T3.out.one
              obtain ⟨d0, d1, d2⟩ := T3.out.two
              go_wp2_with fail
              refine (A2.out _).mono ?_
              rintro e w4 ⟨rfl, b1⟩
              have T4 := Lib.hid (T3.out.next b1)
              clear b1 c0 c1 c2 d0 d1 d2
              obtain ⟨c0, c1, c2⟩ := T4.out.one
              obtain ⟨d0, d1, d2⟩ := T4.out.two
              go_wp2_with fail
              refine (A2.out _).mono ?_
              rintro e w5 ⟨rfl, b1⟩
              have T5 := Lib.hid (T4.out.next b1)
              clear b1 c0 c1 c2 d0 d1 d2
              obtain ⟨c0, c1, c2⟩ := T5.out.one
              obtain ⟨d0, d1, d2⟩ := T5.out.two
              go_wp2_with fail
              refine (A1.out _).mono ?_
              rintro e w6 ⟨rfl, b1⟩
              have T6 := Lib.hid (T5.out.next b1)
              clear b1 c0 c1 c2 d0 d1 d2
              obtain ⟨c0, c1, c2⟩ := T6.out.one
              obtain ⟨d0, d1, d2⟩ := T6.out.two
              go_wp2
              go_ret
              exact ⟨rfl, T6.out.bel⟩
    · have N2 := Lib.hid (fun w => pnan_any t G K true hm w)
      clear hm
      rw [if_neg (by simp), if_pos rfl]
      go_enter Tryz.func158, Tryz.ntmps158
      go_wp2_with fail
      refine (N1.out _).mono ?_
      rintro e w1 ⟨rfl, b1⟩
      have T1 := Lib.hid (T0.out.next b1)
      clear b1
      obtain ⟨c0, c1, c2⟩ := T1.out.one
      obtain ⟨d0, d1, d2⟩ := T1.out.two
      go_wp2_with fail
      refine (N2.out _).mono ?_
      rintro e w2 ⟨rfl, b1⟩
      have T2 := Lib.hid (T1.out.next b1)
      clear b1 c0 c1 c2 d0 d1 d2
      obtain ⟨c0, c1, c2⟩ := T2.out.one
      obtain ⟨d0, d1, d2⟩ := T2.out.two
      go_wp2_with fail
      refine (N1.out _).mono ?_
      rintro e w3 ⟨rfl, b1⟩
      have T3 := Lib.hid (T2.out.next b1)
      clear b1 c0 c1 c2 d0 d1 d2
      obtain ⟨c0, c1, c2⟩ := T3.out.one
      obtain ⟨d0, d1, d2⟩ := T3.out.two
      go_wp2_with fail
      refine (N1.out _).mono ?_
      rintro e w4 ⟨rfl, b1⟩
      have T4 := Lib.hid (T3.out.next b1)
      clear b1 c0 c1 c2 d0 d1 d2
      obtain ⟨c0, c1, c2⟩ := T4.out.one
      obtain ⟨d0, d1, d2⟩ := T4.out.two
      go_wp2
      go_ret
      exact ⟨rfl, T4.out.bel⟩
  · have N1 := Lib.hid (fun w => pnan_any s E F true hn w)
    clear hn
    rw [if_pos rfl]
    cases hm : pn G K
    · have N2 := Lib.hid (fun w => pnan_any t G K false hm w)
      clear hm
      rw [if_neg (by simp)]
      go_enter Tryz.func158, Tryz.ntmps158
      go_wp2_with fail
      refine (N1.out _).mono ?_
      rintro e w1 ⟨rfl, b1⟩
      have T1 := Lib.hid (T0.out.next b1)
      clear b1
      obtain ⟨c0, c1, c2⟩ := T1.out.one
      obtain ⟨d0, d1, d2⟩ := T1.out.two
      go_wp2_with fail
      refine (N1.out _).mono ?_
      rintro e w2 ⟨rfl, b1⟩
      have T2 := Lib.hid (T1.out.next b1)
      clear b1 c0 c1 c2 d0 d1 d2
      obtain ⟨c0, c1, c2⟩ := T2.out.one
      obtain ⟨d0, d1, d2⟩ := T2.out.two
      go_wp2_with fail
      refine (N2.out _).mono ?_
      rintro e w3 ⟨rfl, b1⟩
      have T3 := Lib.hid (T2.out.next b1)
      clear b1 c0 c1 c2 d0 d1 d2
      obtain ⟨c0, c1, c2⟩ := T3.out.one
      obtain ⟨d0, d1, d2⟩ := T3.out.two
      go_wp2_with fail
      refine (N1.out _).mono ?_
      rintro e w4 ⟨rfl, b1⟩
      have T4 := Lib.hid (T3.out.next b1)
      clear b1 c0 c1 c2 d0 d1 d2
      obtain ⟨c0, c1, c2⟩ := T4.out.one
      obtain ⟨d0, d1, d2⟩ := T4.out.two
      go_wp2
      go_ret
      exact ⟨rfl, T4.out.bel⟩
    · have N2 := Lib.hid (fun w => pnan_any t G K true hm w)
      clear hm
      rw [if_pos rfl]
      go_enter Tryz.func158, Tryz.ntmps158
      go_wp2_with fail
      refine (N1.out _).mono ?_
      rintro e w1 ⟨rfl, b1⟩
      have T1 := Lib.hid (T0.out.next b1)
      clear b1
      obtain ⟨c0, c1, c2⟩ := T1.out.one
      obtain ⟨d0, d1, d2⟩ := T1.out.two
      go_wp2_with fail
      refine (N1.out _).mono ?_
      rintro e w2 ⟨rfl, b1⟩
      have T2 := Lib.hid (T1.out.next b1)
      clear b1 c0 c1 c2 d0 d1 d2
      obtain ⟨c0, c1, c2⟩ := T2.out.one
      obtain ⟨d0, d1, d2⟩ := T2.out.two
      go_wp2_with fail
      refine (N2.out _).mono ?_
      rintro e w3 ⟨rfl, b1⟩
      have T3 := Lib.hid (T2.out.next b1)
      clear b1 c0 c1 c2 d0 d1 d2
      obtain ⟨c0, c1, c2⟩ := T3.out.one
      obtain ⟨d0, d1, d2⟩ := T3.out.two
      go_wp2
      go_ret
      exact ⟨rfl, T3.out.bel⟩

def pcv (s : Bool) (E F : Nat) (t : Bool) (G K : Nat) : Int := if (pn E F || pn G K) = true then 0 else if pc E F = 0 ∧ pc G K = 0 then 0 else po s E F t G K
def pco (E F G K : Nat) : Bool := !(pn E F || pn G K)
set_option maxHeartbeats 1000000 in
theorem pcompare_any (s : Bool) (E F : Nat) (t : Bool) (G K : Nat) (hE : E < 2048) (hF : F < 4503599627370496) (hG : G < 2048) (hK : K < 4503599627370496) (w : World) :
    Calls Tryz.prog 148 #[pt s E F, pt t G K] w fun e w' => e = .returned (.tuple #[.int .i64 (pcv s E F t G K), .bool (pco E F G K)]) ∧ Below w.heap.size w w' := by
  have T0 := Lib.hid (Two.start w s E F t G K)
  have O := Lib.hid (fun w => porder_any s E F t G K hE hF hG hK w)
  have L1 := Lib.hid (fun w => pclass_any s E F w)
  have L2 := Lib.hid (fun w => pclass_any t G K w)
  unfold pcv pco
  cases hn : pn E F
  · have N1 := Lib.hid (fun w => pnan_any s E F false hn w)
    cases hm : pn G K
    · have N2 := Lib.hid (fun w => pnan_any t G K false hm w)
      clear hn hm
      rw [if_neg (by simp)]
      generalize pc E F = x at L1
      generalize pc G K = y at L2
      generalize po s E F t G K = z at O
      by_cases h1 : x = 0
      · subst h1
        by_cases h2 : y = 0
        · subst h2
          rw [if_pos ⟨rfl, rfl⟩]
          go_enter Tryz.func148, Tryz.ntmps148
          go_wp2_with fail
          refine (N1.out _).mono ?_
          rintro e w1 ⟨rfl, b1⟩
          have T1 := Lib.hid (T0.out.next b1)
          clear b1
          obtain ⟨c0, c1, c2⟩ := T1.out.one
          obtain ⟨d0, d1, d2⟩ := T1.out.two
          go_wp2_with fail
          refine (N2.out _).mono ?_
          rintro e w2 ⟨rfl, b1⟩
          have T2 := Lib.hid (T1.out.next b1)
          clear b1 c0 c1 c2 d0 d1 d2
          obtain ⟨c0, c1, c2⟩ := T2.out.one
          obtain ⟨d0, d1, d2⟩ := T2.out.two
          go_wp2_with fail
          refine (L1.out _).mono ?_
          rintro e w3 ⟨rfl, b1⟩
          have T3 := Lib.hid (T2.out.next b1)
          clear b1 c0 c1 c2 d0 d1 d2
          obtain ⟨c0, c1, c2⟩ := T3.out.one
          obtain ⟨d0, d1, d2⟩ := T3.out.two
          go_wp2_with fail
          refine (L2.out _).mono ?_
          rintro e w4 ⟨rfl, b1⟩
          have T4 := Lib.hid (T3.out.next b1)
          clear b1 c0 c1 c2 d0 d1 d2
          obtain ⟨c0, c1, c2⟩ := T4.out.one
          obtain ⟨d0, d1, d2⟩ := T4.out.two
          go_wp2
          go_ret2
          exact ⟨rfl, T4.out.bel⟩
        · rw [if_neg (by simp [h2])]
          have h3 : (y == 0) = false := by simp; omega
          clear h2
          go_enter Tryz.func148, Tryz.ntmps148
          go_wp2_with fail
          refine (N1.out _).mono ?_
          rintro e w1 ⟨rfl, b1⟩
          have T1 := Lib.hid (T0.out.next b1)
          clear b1
          obtain ⟨c0, c1, c2⟩ := T1.out.one
          obtain ⟨d0, d1, d2⟩ := T1.out.two
          go_wp2_with fail
          refine (N2.out _).mono ?_
          rintro e w2 ⟨rfl, b1⟩
          have T2 := Lib.hid (T1.out.next b1)
          clear b1 c0 c1 c2 d0 d1 d2
          obtain ⟨c0, c1, c2⟩ := T2.out.one
          obtain ⟨d0, d1, d2⟩ := T2.out.two
          go_wp2_with fail
          refine (L1.out _).mono ?_
          rintro e w3 ⟨rfl, b1⟩
          have T3 := Lib.hid (T2.out.next b1)
          clear b1 c0 c1 c2 d0 d1 d2
          obtain ⟨c0, c1, c2⟩ := T3.out.one
          obtain ⟨d0, d1, d2⟩ := T3.out.two
          go_wp2_with fail
          refine (L2.out _).mono ?_
          rintro e w4 ⟨rfl, b1⟩
          have T4 := Lib.hid (T3.out.next b1)
          clear b1 c0 c1 c2 d0 d1 d2
          obtain ⟨c0, c1, c2⟩ := T4.out.one
          obtain ⟨d0, d1, d2⟩ := T4.out.two
          go_wp2_with fail
          refine (O.out _).mono ?_
          rintro e w5 ⟨rfl, b1⟩
          have T5 := Lib.hid (T4.out.next b1)
          clear b1 c0 c1 c2 d0 d1 d2
          obtain ⟨c0, c1, c2⟩ := T5.out.one
          obtain ⟨d0, d1, d2⟩ := T5.out.two
          go_wp2
          go_ret2
          exact ⟨rfl, T5.out.bel⟩
      · rw [if_neg (by simp [h1])]
        have h3 : (x == 0) = false := by simp; omega
        clear h1
        go_enter Tryz.func148, Tryz.ntmps148
        go_wp2_with fail
        refine (N1.out _).mono ?_
        rintro e w1 ⟨rfl, b1⟩
        have T1 := Lib.hid (T0.out.next b1)
        clear b1
        obtain ⟨c0, c1, c2⟩ := T1.out.one
        obtain ⟨d0, d1, d2⟩ := T1.out.two
        go_wp2_with fail
        refine (N2.out _).mono ?_
        rintro e w2 ⟨rfl, b1⟩
        have T2 := Lib.hid (T1.out.next b1)
        clear b1 c0 c1 c2 d0 d1 d2
        obtain ⟨c0, c1, c2⟩ := T2.out.one
        obtain ⟨d0, d1, d2⟩ := T2.out.two
        go_wp2_with fail
        refine (L1.out _).mono ?_
        rintro e w3 ⟨rfl, b1⟩
        have T3 := Lib.hid (T2.out.next b1)
        clear b1 c0 c1 c2 d0 d1 d2
        obtain ⟨c0, c1, c2⟩ := T3.out.one
        obtain ⟨d0, d1, d2⟩ := T3.out.two
        go_wp2_with fail
        refine (O.out _).mono ?_
        rintro e w4 ⟨rfl, b1⟩
        have T4 := Lib.hid (T3.out.next b1)
        clear b1 c0 c1 c2 d0 d1 d2
        obtain ⟨c0, c1, c2⟩ := T4.out.one
        obtain ⟨d0, d1, d2⟩ := T4.out.two
        go_wp2
        go_ret2
        exact ⟨rfl, T4.out.bel⟩
    · have N2 := Lib.hid (fun w => pnan_any t G K true hm w)
      clear hn hm
      rw [if_pos (by simp)]
      go_enter Tryz.func148, Tryz.ntmps148
      go_wp2_with fail
      refine (N1.out _).mono ?_
      rintro e w1 ⟨rfl, b1⟩
      have T1 := Lib.hid (T0.out.next b1)
      clear b1
      obtain ⟨c0, c1, c2⟩ := T1.out.one
      obtain ⟨d0, d1, d2⟩ := T1.out.two
      go_wp2_with fail
      refine (N2.out _).mono ?_
      rintro e w2 ⟨rfl, b1⟩
      have T2 := Lib.hid (T1.out.next b1)
      clear b1 c0 c1 c2 d0 d1 d2
      obtain ⟨c0, c1, c2⟩ := T2.out.one
      obtain ⟨d0, d1, d2⟩ := T2.out.two
      go_wp2
      go_ret2
      exact ⟨rfl, T2.out.bel⟩
  · have N1 := Lib.hid (fun w => pnan_any s E F true hn w)
    clear hn
    rw [if_pos (by simp)]
    go_enter Tryz.func148, Tryz.ntmps148
    go_wp2_with fail
    refine (N1.out _).mono ?_
    rintro e w1 ⟨rfl, b1⟩
    have T1 := Lib.hid (T0.out.next b1)
    clear b1
    obtain ⟨c0, c1, c2⟩ := T1.out.one
    obtain ⟨d0, d1, d2⟩ := T1.out.two
    go_wp2
    go_ret2
    exact ⟨rfl, T1.out.bel⟩

theorem po_ky (a b : Nat) (ha : a < 18446744073709551616) (hb : b < 18446744073709551616) : po (neg a) (ex a) (fr a) (neg b) (ex b) (fr b) = c3 (ky a) (ky b) := by
  have n1 := pn_nan a
  have n2 := pn_nan b
  have e1 := ef a
  have e2 := ef b
  unfold po
  rw [n1, n2, e1, e2]
  clear e1 e2 n1 n2
  unfold ky bt c3
  have m1 : nan a = decide (9218868437227405312 < a % 9223372036854775808) := rfl
  have m2 : nan b = decide (9218868437227405312 < b % 9223372036854775808) := rfl
  cases h1 : nan a <;> cases h2 : nan b
  · have g1 := of_decide_eq_false (m1.symm.trans h1)
    have g2 := of_decide_eq_false (m2.symm.trans h2)
    clear m1 m2 h1 h2
    simp only [Bool.false_eq_true, if_false]
    unfold neg
    by_cases s : 9223372036854775808 ≤ a <;> by_cases t : 9223372036854775808 ≤ b <;> simp only [s, t, decide_true, decide_false, if_true, if_false, Bool.false_eq_true, Bool.true_eq_false] <;> (repeat' split) <;> omega
  · have g1 := of_decide_eq_false (m1.symm.trans h1)
    clear m1 m2 h1 h2
    simp only [Bool.false_eq_true, if_false, if_true]
    (repeat' split) <;> omega
  · have g2 := of_decide_eq_false (m2.symm.trans h2)
    clear m1 m2 h1 h2
    simp only [Bool.false_eq_true, if_false, if_true]
    (repeat' split) <;> omega
  · simp
theorem pc_zero (a : Nat) (h : nan a = false) : pc (ex a) (fr a) = 0 ↔ a % 9223372036854775808 = 0 := by
  have g := of_decide_eq_false (show decide (9218868437227405312 < a % 9223372036854775808) = false from h)
  have e := ef a
  have l1 := ex_lt a
  have l2 := fr_lt a
  generalize ex a = E at e l1
  generalize fr a = F at e l2
  clear h
  unfold pc
  (repeat' split) <;> omega
theorem pcv_cv (a b : Nat) (ha : a < 18446744073709551616) (hb : b < 18446744073709551616) : pcv (neg a) (ex a) (fr a) (neg b) (ex b) (fr b) = cv a b := by
  unfold pcv
  rw [po_ky a b ha hb, pn_nan, pn_nan]
  unfold cv
  by_cases n : (nan a || nan b) = true
  · rw [if_pos n, if_pos n]
  · rw [if_neg n, if_neg n]
    have na : nan a = false := by cases h : nan a <;> simp_all
    have nb : nan b = false := by cases h : nan b <;> simp_all
    clear n
    simp only [pc_zero a na, pc_zero b nb]
    unfold c3 ky bt sv
    rw [na, nb]
    have g1 := of_decide_eq_false (show decide (9218868437227405312 < a % 9223372036854775808) = false from na)
    have g2 := of_decide_eq_false (show decide (9218868437227405312 < b % 9223372036854775808) = false from nb)
    clear na nb
    simp only [Bool.false_eq_true, if_false]
    (repeat' split) <;> omega
theorem pco_co (a b : Nat) : pco (ex a) (fr a) (ex b) (fr b) = co a b := by
  unfold pco co; rw [pn_nan, pn_nan]

end Go.Proofs.YtpnllbojifnopaaGreatDoor

/- The document's whole number below a number: its loops. -/
namespace Go.Proofs.YtpnllbojifnopaaGreatDoor
open Go Go.RowKit Rl
set_option maxRecDepth 20000

def vm (E F : Nat) : Nat := if E = 0 then F else F + 4503599627370496
def vx (E : Nat) : Int := if E = 0 then -1074 else (E : Int) - 1075
set_option maxHeartbeats 400000 in
theorem value_any (s : Bool) (E F : Nat) (hE : E < 2048) (hF : F < 4503599627370496) (w : World) :
    Calls Tryz.prog 166 #[pt s E F] w fun e w' => e = .returned (.tuple #[.int .u64 (vm E F : Int), .int .i64 (vx E)]) ∧ Below w.heap.size w w' := by
  unfold vm vx
  by_cases z : E = 0
  · subst z
    rw [if_pos rfl, if_pos rfl]
    go_enter Tryz.func166, Tryz.ntmps166
    go_wp2
    go_ret2
    exact ⟨rfl, ((Below.refl _ _).alloc (Nat.le_refl _) _)⟩
  · rw [if_neg z, if_neg z]
    have hz : ((E : Int) == 0) = false := by simp; omega
    go_enter Tryz.func166, Tryz.ntmps166
    go_wp2
    go_region
    go_wp2
    go_ret2
    exact ⟨rfl, ((Below.refl _ _).alloc (Nat.le_refl _) _).drew⟩

theorem half_ex (m i : Nat) : decide (m % 2 ^ (i + 1) = 0) = (decide (m % 2 ^ i = 0) && !decide (m / 2 ^ i % 2 = 1)) := by
  rw [Nat.pow_succ, Nat.mod_mul]
  have p := Nat.two_pow_pos i
  rcases Nat.mod_two_eq_zero_or_one (m / 2 ^ i) with h | h
  · rw [h]; simp
  · rw [h]; simp
theorem half_div (m i : Nat) : m / 2 ^ (i + 1) = m / 2 ^ i / 2 := by rw [Nat.pow_succ, Nat.div_div_eq_div_mul]
abbrev Valued (s : Bool) (E F m : Nat) (e : Int) : Prop := Hid (∀ w : World, Calls Tryz.prog 166 #[pt s E F] w fun r w' => r = .returned (.tuple #[.int .u64 (m : Int), .int .i64 e]) ∧ Below w.heap.size w w')
abbrev Floored (s : Bool) (E F : Nat) (w : World) (d : Int) (x : Bool) (k : Int) : Prop := Calls Tryz.prog 159 #[pt s E F] w fun r w' => r = .returned (.tuple #[.int .i64 d, .bool x, .int .i64 k]) ∧ Below w.heap.size w w'
theorem ret3 {d d' : Int} {x : Bool} {k : Int} (h : d = d') : Ending.returned (.tuple #[.int .i64 d, .bool x, .int .i64 k]) = .returned (.tuple #[.int .i64 d', .bool x, .int .i64 k]) := by rw [h]

theorem neg_back (t : Nat) (h : t ≤ 9223372036854775808) : RowKit.wrap64 (IntKind.u64.wrap (-(t : Int))) = -(t : Int) := by
  rw [IntKind.wrap_u64]
  unfold RowKit.wrap64
  omega

theorem floor_inf (s : Bool) (F : Nat) (w : World) : Floored s 2047 F w 0 false (if s then -1 else 1) := by
  have B0 := Lib.hid ((Below.refl w.heap.size w).alloc (Nat.le_refl _) (cells3 s 2047 F))
  cases s
  · simp only [Bool.false_eq_true, if_false]
    go_enter Tryz.func159, Tryz.ntmps159
    go_wp2
    go_ret3
    exact ⟨rfl, B0.out⟩
  · simp only [if_true]
    go_enter Tryz.func159, Tryz.ntmps159
    go_wp2
    go_ret3
    exact ⟨rfl, B0.out⟩

theorem floor_zero (s : Bool) (E F : Nat) (e : Int) (hE : E ≠ 2047) (V : Valued s E F 0 e) (w : World) : Floored s E F w 0 true 0 := by
  have hE' : ((E : Int) == 2047) = false := by simp; omega
  have B0 := Lib.hid ((Below.refl w.heap.size w).alloc (Nat.le_refl _) (cells3 s E F))
  clear hE
  cases s
  all_goals
    go_enter Tryz.func159, Tryz.ntmps159
    go_wp2_with fail
    refine (V.out _).mono ?_
    rintro e w1 ⟨rfl, b1⟩
    have B1 := Lib.hid (B0.out.trans (b1.mono B0.out.size))
    clear b1
    go_wp2
    go_ret3
    exact ⟨rfl, B1.out⟩

set_option maxHeartbeats 1000000 in
set_option maxRecDepth 100000 in
theorem floor_down_plus (E F m0 N T : Nat) (X : Bool) (hE : E ≠ 2047) (V : Valued false E F m0 (-(N : Int))) (h0 : 0 < m0) (h1 : m0 < 9007199254740992) (hN2 : N ≤ 1074) (hT : Hid (m0 / 2 ^ N = T)) (hX : Hid (decide (m0 % 2 ^ N = 0) = X)) (w : World) : Floored false E F w (T : Int) X 0 := by
  have hE' : ((E : Int) == 2047) = false := by simp; omega
  have hm : ((m0 : Int) == 0) = false := by simp; omega
  have B0 := Lib.hid ((Below.refl w.heap.size w).alloc (Nat.le_refl _) (cells3 false E F))
  clear hE
  go_enter Tryz.func159, Tryz.ntmps159
  go_wp2_with fail
  refine (V.out _).mono ?_
  rintro e w1 ⟨rfl, b1⟩
  have B1 := Lib.hid (B0.out.trans (b1.mono B0.out.size))
  obtain ⟨c0, c1, c2⟩ := three _ _ _ _ _ b1
  clear b1
  go_wp2
  go_loop [6, 7, 8] (fun m e x => ∃ i : Nat, i ≤ N ∧ m = .int .u64 ((m0 / 2 ^ i : Nat) : Int) ∧ e = .int .i64 (-(N : Int) + (i : Int)) ∧ x = .bool (decide (m0 % 2 ^ i = 0))) (fun _ e _ => (-(intOf e)).toNat)
  case atStart => exact ⟨0, Nat.zero_le _, by simp, by simp, by simp [Nat.mod_one]⟩
  case round =>
    obtain ⟨i, hi, rfl, rfl, rfl⟩ := hrel
    have hd := Lib.hid (half_div m0 i)
    have hh := Lib.hid (half_ex m0 i)
    have hl : m0 / 2 ^ i < 9007199254740992 := Nat.lt_of_le_of_lt (Nat.div_le_self _ _) h1
    by_cases hlt : i < N
    · have hneg : decide (-(N : Int) + (i : Int) < 0) = true := by simp; omega
      generalize m0 / 2 ^ i = y at hd hh hl
      generalize decide (m0 % 2 ^ i = 0) = z at hh
      by_cases odd : y % 2 = 1
      · have ho : ((y : Int) % 2 == 1) = true := by rw [beq_iff_eq]; omega
        have hz := Lib.hid (show decide (m0 % 2 ^ (i + 1) = 0) = false by rw [hh.out, decide_eq_true odd]; simp)
        clear odd hh
        go_wp2
        go_round
        case rel => exact ⟨i + 1, by omega, by rw [hd.out]; go_num, by go_num, by rw [hz.out]⟩
        case measure => simp [intOf]; omega
      · have ho : ((y : Int) % 2 == 1) = false := by rw [beq_eq_false_iff_ne]; omega
        have hz := Lib.hid (show decide (m0 % 2 ^ (i + 1) = 0) = z by rw [hh.out, decide_eq_false odd]; simp)
        clear odd hh
        go_wp2
        go_round
        case rel => exact ⟨i + 1, by omega, by rw [hd.out]; go_num, by go_num, by rw [hz.out]⟩
        case measure => simp [intOf]; omega
    · obtain rfl : i = N := by omega
      have hneg : decide (-(i : Int) + (i : Int) < 0) = false := by simp; omega
      clear hd hh
      rw [hT.out] at hl
      rw [hT.out, hX.out]
      have hy : decide ((9223372036854775808 : Int) ≤ (T : Int)) = false := by simp; omega
      go_wp2
      go_loop [6, 7] (fun m e => m = .int .u64 (T : Int) ∧ e = .int .i64 0) (fun _ _ => 0)
      case atStart => exact ⟨rfl, by go_num⟩
      case round =>
        obtain ⟨rfl, rfl⟩ := hrel
        go_wp2
        go_ret3
        exact ⟨rfl, B1.out⟩

set_option maxHeartbeats 1000000 in
set_option maxRecDepth 100000 in
theorem floor_down_minus (E F m0 N T : Nat) (hE : E ≠ 2047) (V : Valued true E F m0 (-(N : Int))) (h0 : 0 < m0) (h1 : m0 < 9007199254740992) (hN2 : N ≤ 1074) (hT : Hid (m0 / 2 ^ N = T)) (hX : Hid (decide (m0 % 2 ^ N = 0) = true)) (w : World) : Floored true E F w (-(T : Int)) true 0 := by
  have hE' : ((E : Int) == 2047) = false := by simp; omega
  have hm : ((m0 : Int) == 0) = false := by simp; omega
  have B0 := Lib.hid ((Below.refl w.heap.size w).alloc (Nat.le_refl _) (cells3 true E F))
  clear hE
  go_enter Tryz.func159, Tryz.ntmps159
  go_wp2_with fail
  refine (V.out _).mono ?_
  rintro e w1 ⟨rfl, b1⟩
  have B1 := Lib.hid (B0.out.trans (b1.mono B0.out.size))
  obtain ⟨c0, c1, c2⟩ := three _ _ _ _ _ b1
  clear b1
  go_wp2
  go_loop [6, 7, 8] (fun m e x => ∃ i : Nat, i ≤ N ∧ m = .int .u64 ((m0 / 2 ^ i : Nat) : Int) ∧ e = .int .i64 (-(N : Int) + (i : Int)) ∧ x = .bool (decide (m0 % 2 ^ i = 0))) (fun _ e _ => (-(intOf e)).toNat)
  case atStart => exact ⟨0, Nat.zero_le _, by simp, by simp, by simp [Nat.mod_one]⟩
  case round =>
    obtain ⟨i, hi, rfl, rfl, rfl⟩ := hrel
    have hd := Lib.hid (half_div m0 i)
    have hh := Lib.hid (half_ex m0 i)
    have hl : m0 / 2 ^ i < 9007199254740992 := Nat.lt_of_le_of_lt (Nat.div_le_self _ _) h1
    by_cases hlt : i < N
    · have hneg : decide (-(N : Int) + (i : Int) < 0) = true := by simp; omega
      generalize m0 / 2 ^ i = y at hd hh hl
      generalize decide (m0 % 2 ^ i = 0) = z at hh
      by_cases odd : y % 2 = 1
      · have ho : ((y : Int) % 2 == 1) = true := by rw [beq_iff_eq]; omega
        have hz := Lib.hid (show decide (m0 % 2 ^ (i + 1) = 0) = false by rw [hh.out, decide_eq_true odd]; simp)
        clear odd hh
        go_wp2
        go_round
        case rel => exact ⟨i + 1, by omega, by rw [hd.out]; go_num, by go_num, by rw [hz.out]⟩
        case measure => simp [intOf]; omega
      · have ho : ((y : Int) % 2 == 1) = false := by rw [beq_eq_false_iff_ne]; omega
        have hz := Lib.hid (show decide (m0 % 2 ^ (i + 1) = 0) = z by rw [hh.out, decide_eq_false odd]; simp)
        clear odd hh
        go_wp2
        go_round
        case rel => exact ⟨i + 1, by omega, by rw [hd.out]; go_num, by go_num, by rw [hz.out]⟩
        case measure => simp [intOf]; omega
    · obtain rfl : i = N := by omega
      have hneg : decide (-(i : Int) + (i : Int) < 0) = false := by simp; omega
      clear hd hh
      rw [hT.out] at hl
      rw [hT.out, hX.out]
      have hy : decide ((9223372036854775808 : Int) < (T : Int)) = false := by simp; omega
      go_wp2
      go_loop [6, 7] (fun m e => m = .int .u64 (T : Int) ∧ e = .int .i64 0) (fun _ _ => 0)
      case atStart => exact ⟨rfl, by go_num⟩
      case round =>
        obtain ⟨rfl, rfl⟩ := hrel
        go_wp2
        go_ret3
        exact ⟨ret3 (neg_back _ (by omega)), B1.out⟩

set_option maxHeartbeats 1000000 in
set_option maxRecDepth 100000 in
theorem floor_down_rest (E F m0 N T : Nat) (hE : E ≠ 2047) (V : Valued true E F m0 (-(N : Int))) (h0 : 0 < m0) (h1 : m0 < 9007199254740992) (hN2 : N ≤ 1074) (hT : Hid (m0 / 2 ^ N = T)) (hX : Hid (decide (m0 % 2 ^ N = 0) = false)) (w : World) : Floored true E F w (-((T + 1 : Nat) : Int)) false 0 := by
  have hE' : ((E : Int) == 2047) = false := by simp; omega
  have hm : ((m0 : Int) == 0) = false := by simp; omega
  have B0 := Lib.hid ((Below.refl w.heap.size w).alloc (Nat.le_refl _) (cells3 true E F))
  clear hE
  go_enter Tryz.func159, Tryz.ntmps159
  go_wp2_with fail
  refine (V.out _).mono ?_
  rintro e w1 ⟨rfl, b1⟩
  have B1 := Lib.hid (B0.out.trans (b1.mono B0.out.size))
  obtain ⟨c0, c1, c2⟩ := three _ _ _ _ _ b1
  clear b1
  go_wp2
  go_loop [6, 7, 8] (fun m e x => ∃ i : Nat, i ≤ N ∧ m = .int .u64 ((m0 / 2 ^ i : Nat) : Int) ∧ e = .int .i64 (-(N : Int) + (i : Int)) ∧ x = .bool (decide (m0 % 2 ^ i = 0))) (fun _ e _ => (-(intOf e)).toNat)
  case atStart => exact ⟨0, Nat.zero_le _, by simp, by simp, by simp [Nat.mod_one]⟩
  case round =>
    obtain ⟨i, hi, rfl, rfl, rfl⟩ := hrel
    have hd := Lib.hid (half_div m0 i)
    have hh := Lib.hid (half_ex m0 i)
    have hl : m0 / 2 ^ i < 9007199254740992 := Nat.lt_of_le_of_lt (Nat.div_le_self _ _) h1
    by_cases hlt : i < N
    · have hneg : decide (-(N : Int) + (i : Int) < 0) = true := by simp; omega
      generalize m0 / 2 ^ i = y at hd hh hl
      generalize decide (m0 % 2 ^ i = 0) = z at hh
      by_cases odd : y % 2 = 1
      · have ho : ((y : Int) % 2 == 1) = true := by rw [beq_iff_eq]; omega
        have hz := Lib.hid (show decide (m0 % 2 ^ (i + 1) = 0) = false by rw [hh.out, decide_eq_true odd]; simp)
        clear odd hh
        go_wp2
        go_round
        case rel => exact ⟨i + 1, by omega, by rw [hd.out]; go_num, by go_num, by rw [hz.out]⟩
        case measure => simp [intOf]; omega
      · have ho : ((y : Int) % 2 == 1) = false := by rw [beq_eq_false_iff_ne]; omega
        have hz := Lib.hid (show decide (m0 % 2 ^ (i + 1) = 0) = z by rw [hh.out, decide_eq_false odd]; simp)
        clear odd hh
        go_wp2
        go_round
        case rel => exact ⟨i + 1, by omega, by rw [hd.out]; go_num, by go_num, by rw [hz.out]⟩
        case measure => simp [intOf]; omega
    · obtain rfl : i = N := by omega
      have hneg : decide (-(i : Int) + (i : Int) < 0) = false := by simp; omega
      clear hd hh
      rw [hT.out] at hl
      rw [hT.out, hX.out]
      have hy : decide ((9223372036854775808 : Int) < (T : Int) + 1) = false := by simp; omega
      go_wp2
      go_loop [6, 7] (fun m e => m = .int .u64 (T : Int) ∧ e = .int .i64 0) (fun _ _ => 0)
      case atStart => exact ⟨rfl, by go_num⟩
      case round =>
        obtain ⟨rfl, rfl⟩ := hrel
        go_wp2
        go_ret3
        exact ⟨ret3 (neg_back (T + 1) (by omega)), B1.out⟩

set_option maxHeartbeats 1000000 in
set_option maxRecDepth 100000 in
theorem floor_up_out (E F m0 N T : Nat) (hE : E ≠ 2047) (V : Valued false E F m0 (N : Int)) (h0 : 0 < m0) (h1 : m0 < 9007199254740992) (hN2 : N ≤ 1074) (hT : Hid (m0 * 2 ^ N = T)) (hb : 9223372036854775808 ≤ m0 * 2 ^ N) (w : World) : Floored false E F w 0 false 1 := by
  have hE' : ((E : Int) == 2047) = false := by simp; omega
  have hm : ((m0 : Int) == 0) = false := by simp; omega
  have B0 := Lib.hid ((Below.refl w.heap.size w).alloc (Nat.le_refl _) (cells3 false E F))
  clear hE
  go_enter Tryz.func159, Tryz.ntmps159
  go_wp2_with fail
  refine (V.out _).mono ?_
  rintro e w1 ⟨rfl, b1⟩
  have B1 := Lib.hid (B0.out.trans (b1.mono B0.out.size))
  obtain ⟨c0, c1, c2⟩ := three _ _ _ _ _ b1
  clear b1
  go_wp2
  go_loop [6, 7, 8] (fun m e x => m = .int .u64 (m0 : Int) ∧ e = .int .i64 (N : Int) ∧ x = .bool true) (fun _ _ _ => 0)
  case atStart => exact ⟨rfl, rfl, rfl⟩
  case round =>
    obtain ⟨rfl, rfl, rfl⟩ := hrel
    go_wp2
    go_loop [6, 7] (fun m e => ∃ i : Nat, i ≤ N ∧ m0 * 2 ^ i < 18446744073709551616 ∧ m = .int .u64 ((m0 * 2 ^ i : Nat) : Int) ∧ e = .int .i64 ((N : Int) - (i : Int))) (fun _ e => (intOf e).toNat)
    case atStart => exact ⟨0, Nat.zero_le _, by simp; omega, by simp, by simp⟩
    case round =>
      obtain ⟨i, hi, hlt, rfl, rfl⟩ := hrel
      have hd := Lib.hid (show m0 * 2 ^ (i + 1) = m0 * 2 ^ i * 2 by rw [Nat.pow_succ, Nat.mul_assoc])
      by_cases hend : i < N
      · have hpos : decide ((0 : Int) < (N : Int) - (i : Int)) = true := by simp; omega
        by_cases big : 9223372036854775808 ≤ m0 * 2 ^ i
        · generalize m0 * 2 ^ i = y at hd hlt big
          have hy : decide ((9223372036854775808 : Int) ≤ (y : Int)) = true := by simp; omega
          go_wp2
          go_ret3
          exact ⟨rfl, B1.out⟩
        · generalize m0 * 2 ^ i = y at hd hlt big
          have hy : decide ((9223372036854775808 : Int) ≤ (y : Int)) = false := by simp; omega
          go_wp2
          go_round
          case rel => exact ⟨i + 1, by omega, by rw [hd.out]; omega, by rw [hd.out]; go_num, by go_num⟩
          case measure => simp [intOf]; omega
      · obtain rfl : i = N := by omega
        have hpos : decide ((0 : Int) < (i : Int) - (i : Int)) = false := by simp
        rw [hT.out] at hb hlt
        rw [hT.out]
        clear hd
        have hy : decide ((9223372036854775808 : Int) ≤ (T : Int)) = true := by simp; omega
        go_wp2
        go_ret3
        exact ⟨rfl, B1.out⟩

set_option maxHeartbeats 1000000 in
set_option maxRecDepth 100000 in
theorem floor_up_in (E F m0 N T : Nat) (hE : E ≠ 2047) (V : Valued false E F m0 (N : Int)) (h0 : 0 < m0) (h1 : m0 < 9007199254740992) (hN2 : N ≤ 1074) (hT : Hid (m0 * 2 ^ N = T)) (hb : m0 * 2 ^ N < 9223372036854775808) (w : World) : Floored false E F w (T : Int) true 0 := by
  have hE' : ((E : Int) == 2047) = false := by simp; omega
  have hm : ((m0 : Int) == 0) = false := by simp; omega
  have B0 := Lib.hid ((Below.refl w.heap.size w).alloc (Nat.le_refl _) (cells3 false E F))
  clear hE
  go_enter Tryz.func159, Tryz.ntmps159
  go_wp2_with fail
  refine (V.out _).mono ?_
  rintro e w1 ⟨rfl, b1⟩
  have B1 := Lib.hid (B0.out.trans (b1.mono B0.out.size))
  obtain ⟨c0, c1, c2⟩ := three _ _ _ _ _ b1
  clear b1
  go_wp2
  go_loop [6, 7, 8] (fun m e x => m = .int .u64 (m0 : Int) ∧ e = .int .i64 (N : Int) ∧ x = .bool true) (fun _ _ _ => 0)
  case atStart => exact ⟨rfl, rfl, rfl⟩
  case round =>
    obtain ⟨rfl, rfl, rfl⟩ := hrel
    go_wp2
    go_loop [6, 7] (fun m e => ∃ i : Nat, i ≤ N ∧ m0 * 2 ^ i < 18446744073709551616 ∧ m = .int .u64 ((m0 * 2 ^ i : Nat) : Int) ∧ e = .int .i64 ((N : Int) - (i : Int))) (fun _ e => (intOf e).toNat)
    case atStart => exact ⟨0, Nat.zero_le _, by simp; omega, by simp, by simp⟩
    case round =>
      obtain ⟨i, hi, hlt, rfl, rfl⟩ := hrel
      have hd := Lib.hid (show m0 * 2 ^ (i + 1) = m0 * 2 ^ i * 2 by rw [Nat.pow_succ, Nat.mul_assoc])
      by_cases hend : i < N
      · have hpos : decide ((0 : Int) < (N : Int) - (i : Int)) = true := by simp; omega
        by_cases big : 9223372036854775808 ≤ m0 * 2 ^ i
        · exfalso
          have p := Nat.pow_le_pow_right (show 0 < 2 by omega) (show i + 1 ≤ N by omega)
          have q := Nat.mul_le_mul_left m0 p
          rw [hd.out] at q
          omega
        · generalize m0 * 2 ^ i = y at hd hlt big
          have hy : decide ((9223372036854775808 : Int) ≤ (y : Int)) = false := by simp; omega
          go_wp2
          go_round
          case rel => exact ⟨i + 1, by omega, by rw [hd.out]; omega, by rw [hd.out]; go_num, by go_num⟩
          case measure => simp [intOf]; omega
      · obtain rfl : i = N := by omega
        have hpos : decide ((0 : Int) < (i : Int) - (i : Int)) = false := by simp
        rw [hT.out] at hb hlt
        rw [hT.out]
        clear hd
        have hy : decide ((9223372036854775808 : Int) ≤ (T : Int)) = false := by simp; omega
        go_wp2
        go_ret3
        exact ⟨rfl, B1.out⟩

set_option maxHeartbeats 1000000 in
set_option maxRecDepth 100000 in
theorem floor_up_outm (E F m0 N T : Nat) (hE : E ≠ 2047) (V : Valued true E F m0 (N : Int)) (h0 : 0 < m0) (h1 : m0 < 9007199254740992) (hN2 : N ≤ 1074) (hT : Hid (m0 * 2 ^ N = T)) (hb : 9223372036854775808 < m0 * 2 ^ N) (w : World) : Floored true E F w 0 false (-1) := by
  have hE' : ((E : Int) == 2047) = false := by simp; omega
  have hm : ((m0 : Int) == 0) = false := by simp; omega
  have B0 := Lib.hid ((Below.refl w.heap.size w).alloc (Nat.le_refl _) (cells3 true E F))
  clear hE
  go_enter Tryz.func159, Tryz.ntmps159
  go_wp2_with fail
  refine (V.out _).mono ?_
  rintro e w1 ⟨rfl, b1⟩
  have B1 := Lib.hid (B0.out.trans (b1.mono B0.out.size))
  obtain ⟨c0, c1, c2⟩ := three _ _ _ _ _ b1
  clear b1
  go_wp2
  go_loop [6, 7, 8] (fun m e x => m = .int .u64 (m0 : Int) ∧ e = .int .i64 (N : Int) ∧ x = .bool true) (fun _ _ _ => 0)
  case atStart => exact ⟨rfl, rfl, rfl⟩
  case round =>
    obtain ⟨rfl, rfl, rfl⟩ := hrel
    go_wp2
    go_loop [6, 7] (fun m e => ∃ i : Nat, i ≤ N ∧ m0 * 2 ^ i < 18446744073709551616 ∧ m = .int .u64 ((m0 * 2 ^ i : Nat) : Int) ∧ e = .int .i64 ((N : Int) - (i : Int))) (fun _ e => (intOf e).toNat)
    case atStart => exact ⟨0, Nat.zero_le _, by simp; omega, by simp, by simp⟩
    case round =>
      obtain ⟨i, hi, hlt, rfl, rfl⟩ := hrel
      have hd := Lib.hid (show m0 * 2 ^ (i + 1) = m0 * 2 ^ i * 2 by rw [Nat.pow_succ, Nat.mul_assoc])
      by_cases hend : i < N
      · have hpos : decide ((0 : Int) < (N : Int) - (i : Int)) = true := by simp; omega
        by_cases big : 9223372036854775808 ≤ m0 * 2 ^ i
        · generalize m0 * 2 ^ i = y at hd hlt big
          have hy : decide ((9223372036854775808 : Int) ≤ (y : Int)) = true := by simp; omega
          go_wp2
          go_ret3
          exact ⟨rfl, B1.out⟩
        · generalize m0 * 2 ^ i = y at hd hlt big
          have hy : decide ((9223372036854775808 : Int) ≤ (y : Int)) = false := by simp; omega
          go_wp2
          go_round
          case rel => exact ⟨i + 1, by omega, by rw [hd.out]; omega, by rw [hd.out]; go_num, by go_num⟩
          case measure => simp [intOf]; omega
      · obtain rfl : i = N := by omega
        have hpos : decide ((0 : Int) < (i : Int) - (i : Int)) = false := by simp
        rw [hT.out] at hb hlt
        rw [hT.out]
        clear hd
        have hy : decide ((9223372036854775808 : Int) < (T : Int)) = true := by simp; omega
        go_wp2
        go_ret3
        exact ⟨rfl, B1.out⟩

set_option maxHeartbeats 1000000 in
set_option maxRecDepth 100000 in
theorem floor_up_inm (E F m0 N T : Nat) (hE : E ≠ 2047) (V : Valued true E F m0 (N : Int)) (h0 : 0 < m0) (h1 : m0 < 9007199254740992) (hN2 : N ≤ 1074) (hT : Hid (m0 * 2 ^ N = T)) (hb : m0 * 2 ^ N ≤ 9223372036854775808) (w : World) : Floored true E F w (-(T : Int)) true 0 := by
  have hE' : ((E : Int) == 2047) = false := by simp; omega
  have hm : ((m0 : Int) == 0) = false := by simp; omega
  have B0 := Lib.hid ((Below.refl w.heap.size w).alloc (Nat.le_refl _) (cells3 true E F))
  clear hE
  go_enter Tryz.func159, Tryz.ntmps159
  go_wp2_with fail
  refine (V.out _).mono ?_
  rintro e w1 ⟨rfl, b1⟩
  have B1 := Lib.hid (B0.out.trans (b1.mono B0.out.size))
  obtain ⟨c0, c1, c2⟩ := three _ _ _ _ _ b1
  clear b1
  go_wp2
  go_loop [6, 7, 8] (fun m e x => m = .int .u64 (m0 : Int) ∧ e = .int .i64 (N : Int) ∧ x = .bool true) (fun _ _ _ => 0)
  case atStart => exact ⟨rfl, rfl, rfl⟩
  case round =>
    obtain ⟨rfl, rfl, rfl⟩ := hrel
    go_wp2
    go_loop [6, 7] (fun m e => ∃ i : Nat, i ≤ N ∧ m0 * 2 ^ i < 18446744073709551616 ∧ m = .int .u64 ((m0 * 2 ^ i : Nat) : Int) ∧ e = .int .i64 ((N : Int) - (i : Int))) (fun _ e => (intOf e).toNat)
    case atStart => exact ⟨0, Nat.zero_le _, by simp; omega, by simp, by simp⟩
    case round =>
      obtain ⟨i, hi, hlt, rfl, rfl⟩ := hrel
      have hd := Lib.hid (show m0 * 2 ^ (i + 1) = m0 * 2 ^ i * 2 by rw [Nat.pow_succ, Nat.mul_assoc])
      by_cases hend : i < N
      · have hpos : decide ((0 : Int) < (N : Int) - (i : Int)) = true := by simp; omega
        by_cases big : 9223372036854775808 ≤ m0 * 2 ^ i
        · exfalso
          have p := Nat.pow_le_pow_right (show 0 < 2 by omega) (show i + 1 ≤ N by omega)
          have q := Nat.mul_le_mul_left m0 p
          rw [hd.out] at q
          omega
        · generalize m0 * 2 ^ i = y at hd hlt big
          have hy : decide ((9223372036854775808 : Int) ≤ (y : Int)) = false := by simp; omega
          go_wp2
          go_round
          case rel => exact ⟨i + 1, by omega, by rw [hd.out]; omega, by rw [hd.out]; go_num, by go_num⟩
          case measure => simp [intOf]; omega
      · obtain rfl : i = N := by omega
        have hpos : decide ((0 : Int) < (i : Int) - (i : Int)) = false := by simp
        rw [hT.out] at hb hlt
        rw [hT.out]
        clear hd
        have hy : decide ((9223372036854775808 : Int) < (T : Int)) = false := by simp; omega
        go_wp2
        go_ret3
        exact ⟨ret3 (neg_back _ (by omega)), B1.out⟩


end Go.Proofs.YtpnllbojifnopaaGreatDoor

/- The document's Against: its contract. -/
namespace Go.Proofs.YtpnllbojifnopaaGreatDoor
open Go Go.RowKit Rl
set_option maxRecDepth 20000

/- sizes by parts -/
theorem M_low (F : Nat) (h : F < 4503599627370496) : M F = F := by unfold M; rw [if_pos h]
theorem M_parts (E F : Nat) (hE : 0 < E) (hF : F < 4503599627370496) : M (E * 4503599627370496 + F) = (F + 4503599627370496) * 2 ^ (E - 1) := by
  unfold M
  rw [if_neg (by omega), show (E * 4503599627370496 + F) % 4503599627370496 = F by omega, show (E * 4503599627370496 + F) / 4503599627370496 = E by omega, Nat.add_comm F]
theorem cut_mod (m k j : Nat) (h : k ≤ j) : m * 2 ^ k % 2 ^ j = 0 ↔ m % 2 ^ (j - k) = 0 := by
  have e : 2 ^ j = 2 ^ (j - k) * 2 ^ k := by rw [← Nat.pow_add, Nat.sub_add_cancel h]
  rw [e, Nat.mul_mod_mul_right]
  have p := Nat.two_pow_pos k
  constructor
  · intro z
    rcases Nat.mul_eq_zero.1 z with z | z <;> omega
  · intro z; rw [z, Nat.zero_mul]

structure Fl (s : Bool) (E F T : Nat) (X : Bool) : Prop where
  plus_out : s = false → 9223372036854775808 ≤ T → ∀ w, Floored s E F w 0 false 1
  plus_in : s = false → T < 9223372036854775808 → ∀ w, Floored s E F w (T : Int) X 0
  minus_out : s = true → 9223372036854775808 < T + (if X then 0 else 1) → ∀ w, Floored s E F w 0 false (-1)
  minus_in : s = true → X = true → T ≤ 9223372036854775808 → ∀ w, Floored s E F w (-(T : Int)) true 0
  minus_rest : s = true → X = false → T < 9223372036854775808 → ∀ w, Floored s E F w (-((T + 1 : Nat) : Int)) false 0

theorem floor_small (s : Bool) (E F m0 N : Nat) (hE : E ≠ 2047) (V : Valued s E F m0 (-(N : Int))) (h0 : 0 < m0) (h1 : m0 < 9007199254740992) (hN : N ≤ 1074) :
    Fl s E F (m0 / 2 ^ N) (decide (m0 % 2 ^ N = 0)) := by
  have l : m0 / 2 ^ N < 9007199254740992 := Nat.lt_of_le_of_lt (Nat.div_le_self _ _) h1
  refine ⟨fun hs h => by omega, fun hs _ w => ?_, fun hs h => ?_, fun hs hx _ w => ?_, fun hs hx _ w => ?_⟩
  · subst hs; exact floor_down_plus E F m0 N _ _ hE V h0 h1 hN (Lib.hid rfl) (Lib.hid rfl) w
  · exfalso
    generalize m0 / 2 ^ N = t at l h
    split at h <;> omega
  · subst hs; exact floor_down_minus E F m0 N _ hE V h0 h1 hN (Lib.hid rfl) (Lib.hid hx) w
  · subst hs; exact floor_down_rest E F m0 N _ hE V h0 h1 hN (Lib.hid rfl) (Lib.hid hx) w

theorem floor_great (s : Bool) (E F m0 N : Nat) (hE : E ≠ 2047) (V : Valued s E F m0 (N : Int)) (h0 : 0 < m0) (h1 : m0 < 9007199254740992) (hN : N ≤ 1074) :
    Fl s E F (m0 * 2 ^ N) true := by
  refine ⟨fun hs h w => ?_, fun hs h w => ?_, fun hs h w => ?_, fun hs _ h w => ?_, fun _ hx => by cases hx⟩
  · subst hs; exact floor_up_out E F m0 N _ hE V h0 h1 hN (Lib.hid rfl) h w
  · subst hs; exact floor_up_in E F m0 N _ hE V h0 h1 hN (Lib.hid rfl) h w
  · subst hs; exact floor_up_outm E F m0 N _ hE V h0 h1 hN (Lib.hid rfl) (by simpa using h) w
  · subst hs; exact floor_up_inm E F m0 N _ hE V h0 h1 hN (Lib.hid rfl) h w

theorem floor_any (s : Bool) (E F : Nat) (hE : E < 2048) (hF : F < 4503599627370496) :
    Fl s E F (M (E * 4503599627370496 + F) / Q) (decide (M (E * 4503599627370496 + F) % Q = 0)) := by
  have V0 : Valued s E F (vm E F) (vx E) := Lib.hid (fun w => value_any s E F hE hF w)
  by_cases e0 : E = 0
  · subst e0
    rw [show vm 0 F = F by unfold vm; rw [if_pos rfl], show vx 0 = -((1074 : Nat) : Int) by decide] at V0
    rw [show 0 * 4503599627370496 + F = F by omega, M_low F hF]
    by_cases z : F = 0
    · subst z
      have Z := fun w => floor_zero s 0 0 _ (by omega) V0 w
      rw [Nat.zero_div, Nat.zero_mod]
      refine ⟨fun _ h => by omega, fun _ _ w => Z w, fun _ h => by simp at h, fun _ _ _ w => Z w, fun _ hx => by simp at hx⟩
    · rw [Q_K]
      exact floor_small s 0 F F K (by omega) V0 (by omega) (by omega) (Nat.le_refl _)
  · have em : vm E F = F + 4503599627370496 := by unfold vm; rw [if_neg e0]
    have ee : vx E = (E : Int) - 1075 := by unfold vx; rw [if_neg e0]
    rw [em, ee] at V0
    rw [M_parts E F (by omega) hF]
    by_cases lo : E < 1075
    · have V1 : Valued s E F (F + 4503599627370496) (-((1075 - E : Nat) : Int)) := by
        rw [show (-((1075 - E : Nat) : Int)) = (E : Int) - 1075 by omega]; exact V0
      have t := floor_small s E F (F + 4503599627370496) (1075 - E) (by omega) V1 (by omega) (by omega) (by omega)
      have a : (F + 4503599627370496) * 2 ^ (E - 1) / Q = (F + 4503599627370496) / 2 ^ (1075 - E) := by
        rw [Q_K, ← cut_scale, show E - 1 - K = 0 by unfold K; omega, show K - (E - 1) = 1075 - E by unfold K; omega, Nat.pow_zero, Nat.mul_one]
      have b : decide ((F + 4503599627370496) * 2 ^ (E - 1) % Q = 0) = decide ((F + 4503599627370496) % 2 ^ (1075 - E) = 0) := by
        rw [decide_eq_decide, Q_K, cut_mod _ _ _ (by unfold K; omega), show K - (E - 1) = 1075 - E by unfold K; omega]
      rw [a, b]
      exact t
    · have a0 : (F + 4503599627370496) * 2 ^ (E - 1) = (F + 4503599627370496) * 2 ^ (E - 1075) * Q := by
        rw [Nat.mul_assoc, Q_K, ← Nat.pow_add, show E - 1075 + K = E - 1 by unfold K; omega]
      have a : (F + 4503599627370496) * 2 ^ (E - 1) / Q = (F + 4503599627370496) * 2 ^ (E - 1075) := by rw [a0, Nat.mul_div_cancel _ Q_pos]
      have b : decide ((F + 4503599627370496) * 2 ^ (E - 1) % Q = 0) = true := by rw [a0, Nat.mul_mod_left]; rfl
      rw [a, b]
      by_cases i : E = 2047
      · subst i
        have I := fun w => floor_inf s F w
        have g : 9223372036854775808 < (F + 4503599627370496) * 2 ^ (2047 - 1075) := by
          have p := Nat.pow_le_pow_right (show 0 < 2 by omega) (show 12 ≤ 2047 - 1075 by omega)
          have q := Nat.mul_le_mul (show 4503599627370496 ≤ F + 4503599627370496 by omega) p
          generalize (F + 4503599627370496) * 2 ^ (2047 - 1075) = x at q
          omega
        generalize (F + 4503599627370496) * 2 ^ (2047 - 1075) = x at g
        refine ⟨fun hs _ w => ?_, fun _ h => by omega, fun hs _ w => ?_, fun _ _ h => by omega, fun _ hx => by cases hx⟩
        · subst hs; exact I w
        · subst hs; exact I w
      · have V1 : Valued s E F (F + 4503599627370496) ((E - 1075 : Nat) : Int) := by
          rw [show ((E - 1075 : Nat) : Int) = (E : Int) - 1075 by omega]; exact V0
        exact floor_great s E F (F + 4503599627370496) (E - 1075) i V1 (by omega) (by omega) (by omega)

abbrev PAg (n : Int) (s : Bool) (E F : Nat) (w : World) (c : Int) (o : Bool) : Prop := Calls Tryz.prog 149 #[.int .i64 n, pt s E F] w fun r w' => r = .returned (.tuple #[.int .i64 c, .bool o]) ∧ Below w.heap.size w w'
theorem pag_nan (n : Int) (s : Bool) (E F : Nat) (h : pn E F = true) (w : World) : PAg n s E F w 0 false := by
  have B0 := Lib.hid ((Below.refl w.heap.size w).alloc (Nat.le_refl _) (cells3 s E F))
  have N1 := Lib.hid (fun w => pnan_any s E F true h w)
  clear h
  go_enter Tryz.func149, Tryz.ntmps149
  go_wp2_with fail
  refine (N1.out _).mono ?_
  rintro e w1 ⟨rfl, b1⟩
  have B1 := Lib.hid (B0.out.trans (b1.mono B0.out.size))
  clear b1
  go_wp2
  go_ret2
  exact ⟨rfl, B1.out⟩
set_option maxHeartbeats 400000 in
theorem pag_up (n : Int) (s : Bool) (E F : Nat) (h : pn E F = false) (H : ∀ w, Floored s E F w 0 false 1) (w : World) : PAg n s E F w (-1) true := by
  have B0 := Lib.hid ((Below.refl w.heap.size w).alloc (Nat.le_refl _) (cells3 s E F))
  have N1 := Lib.hid (fun w => pnan_any s E F false h w)
  have F1 := Lib.hid H
  clear h H
  go_enter Tryz.func149, Tryz.ntmps149
  go_wp2_with fail
  refine (N1.out _).mono ?_
  rintro e w1 ⟨rfl, b1⟩
  have B1 := Lib.hid (B0.out.trans (b1.mono B0.out.size))
  obtain ⟨c0, c1, c2⟩ := three _ _ _ _ _ b1
  clear b1
  go_wp2_with fail
  refine (F1.out _).mono ?_
  rintro e w2 ⟨rfl, b2⟩
  have B2 := Lib.hid (B1.out.trans (b2.mono B1.out.size))
  clear b2 c0 c1 c2
  go_wp2
  go_ret2
  exact ⟨rfl, B2.out⟩
set_option maxHeartbeats 400000 in
theorem pag_down (n : Int) (s : Bool) (E F : Nat) (h : pn E F = false) (H : ∀ w, Floored s E F w 0 false (-1)) (w : World) : PAg n s E F w 1 true := by
  have B0 := Lib.hid ((Below.refl w.heap.size w).alloc (Nat.le_refl _) (cells3 s E F))
  have N1 := Lib.hid (fun w => pnan_any s E F false h w)
  have F1 := Lib.hid H
  clear h H
  go_enter Tryz.func149, Tryz.ntmps149
  go_wp2_with fail
  refine (N1.out _).mono ?_
  rintro e w1 ⟨rfl, b1⟩
  have B1 := Lib.hid (B0.out.trans (b1.mono B0.out.size))
  obtain ⟨c0, c1, c2⟩ := three _ _ _ _ _ b1
  clear b1
  go_wp2_with fail
  refine (F1.out _).mono ?_
  rintro e w2 ⟨rfl, b2⟩
  have B2 := Lib.hid (B1.out.trans (b2.mono B1.out.size))
  clear b2 c0 c1 c2
  go_wp2
  go_ret2
  exact ⟨rfl, B2.out⟩
set_option maxHeartbeats 400000 in
theorem pag_lt (n : Int) (s : Bool) (E F : Nat) (d : Int) (x : Bool) (hl : n < d) (h : pn E F = false) (H : ∀ w, Floored s E F w d x 0) (w : World) : PAg n s E F w (-1) true := by
  have B0 := Lib.hid ((Below.refl w.heap.size w).alloc (Nat.le_refl _) (cells3 s E F))
  have N1 := Lib.hid (fun w => pnan_any s E F false h w)
  have F1 := Lib.hid H
  have h1 : decide (n < d) = true := by simp; omega
  clear h H
  go_enter Tryz.func149, Tryz.ntmps149
  go_wp2_with fail
  refine (N1.out _).mono ?_
  rintro e w1 ⟨rfl, b1⟩
  have B1 := Lib.hid (B0.out.trans (b1.mono B0.out.size))
  obtain ⟨c0, c1, c2⟩ := three _ _ _ _ _ b1
  clear b1
  go_wp2_with fail
  refine (F1.out _).mono ?_
  rintro e w2 ⟨rfl, b2⟩
  have B2 := Lib.hid (B1.out.trans (b2.mono B1.out.size))
  clear b2 c0 c1 c2
  go_wp2
  go_ret2
  exact ⟨rfl, B2.out⟩
set_option maxHeartbeats 400000 in
theorem pag_gt (n : Int) (s : Bool) (E F : Nat) (d : Int) (x : Bool) (hl : d < n) (h : pn E F = false) (H : ∀ w, Floored s E F w d x 0) (w : World) : PAg n s E F w 1 true := by
  have B0 := Lib.hid ((Below.refl w.heap.size w).alloc (Nat.le_refl _) (cells3 s E F))
  have N1 := Lib.hid (fun w => pnan_any s E F false h w)
  have F1 := Lib.hid H
  have h1 : decide (n < d) = false := by simp; omega
  have h2 : decide (d < n) = true := by simp; omega
  clear h H
  go_enter Tryz.func149, Tryz.ntmps149
  go_wp2_with fail
  refine (N1.out _).mono ?_
  rintro e w1 ⟨rfl, b1⟩
  have B1 := Lib.hid (B0.out.trans (b1.mono B0.out.size))
  obtain ⟨c0, c1, c2⟩ := three _ _ _ _ _ b1
  clear b1
  go_wp2_with fail
  refine (F1.out _).mono ?_
  rintro e w2 ⟨rfl, b2⟩
  have B2 := Lib.hid (B1.out.trans (b2.mono B1.out.size))
  clear b2 c0 c1 c2
  go_wp2
  go_ret2
  exact ⟨rfl, B2.out⟩
set_option maxHeartbeats 400000 in
theorem pag_rest (n : Int) (s : Bool) (E F : Nat) (h : pn E F = false) (H : ∀ w, Floored s E F w n false 0) (w : World) : PAg n s E F w (-1) true := by
  have B0 := Lib.hid ((Below.refl w.heap.size w).alloc (Nat.le_refl _) (cells3 s E F))
  have N1 := Lib.hid (fun w => pnan_any s E F false h w)
  have F1 := Lib.hid H
  clear h H
  go_enter Tryz.func149, Tryz.ntmps149
  go_wp2_with fail
  refine (N1.out _).mono ?_
  rintro e w1 ⟨rfl, b1⟩
  have B1 := Lib.hid (B0.out.trans (b1.mono B0.out.size))
  obtain ⟨c0, c1, c2⟩ := three _ _ _ _ _ b1
  clear b1
  go_wp2_with fail
  refine (F1.out _).mono ?_
  rintro e w2 ⟨rfl, b2⟩
  have B2 := Lib.hid (B1.out.trans (b2.mono B1.out.size))
  clear b2 c0 c1 c2
  go_wp2
  go_ret2
  exact ⟨rfl, B2.out⟩
set_option maxHeartbeats 400000 in
theorem pag_eq (n : Int) (s : Bool) (E F : Nat) (h : pn E F = false) (H : ∀ w, Floored s E F w n true 0) (w : World) : PAg n s E F w 0 true := by
  have B0 := Lib.hid ((Below.refl w.heap.size w).alloc (Nat.le_refl _) (cells3 s E F))
  have N1 := Lib.hid (fun w => pnan_any s E F false h w)
  have F1 := Lib.hid H
  clear h H
  go_enter Tryz.func149, Tryz.ntmps149
  go_wp2_with fail
  refine (N1.out _).mono ?_
  rintro e w1 ⟨rfl, b1⟩
  have B1 := Lib.hid (B0.out.trans (b1.mono B0.out.size))
  obtain ⟨c0, c1, c2⟩ := three _ _ _ _ _ b1
  clear b1
  go_wp2_with fail
  refine (F1.out _).mono ?_
  rintro e w2 ⟨rfl, b2⟩
  have B2 := Lib.hid (B1.out.trans (b2.mono B1.out.size))
  clear b2 c0 c1 c2
  go_wp2
  go_ret2
  exact ⟨rfl, B2.out⟩

/- the greatest whole number that isn't above decides it, and whether that is it -/
theorem pag_floor (n : Int) (b : Nat) (d : Int) (x : Bool) (hn : nan b = false) (H : ∀ w, Floored (neg b) (ex b) (fr b) w d x 0) (h1 : d * Q ≤ S b) (h2 : S b < (d + 1) * Q) (hx : x = true ↔ d * Q = S b) (w : World) :
    PAg n (neg b) (ex b) (fr b) w (ag n b) true := by
  have p : pn (ex b) (fr b) = false := by rw [pn_nan]; exact hn
  unfold ag
  rw [hn, if_neg (by simp)]
  by_cases l : n < d
  · rw [c3_lt (by have := mulQ_lt l; omega)]
    exact pag_lt n _ _ _ d x l p H w
  · by_cases g : d < n
    · rw [c3_gt (by have := mulQ (show d + 1 ≤ n by omega); omega)]
      exact pag_gt n _ _ _ d x g p H w
    · obtain rfl : n = d := by omega
      cases x
      · have : ¬ n * Q = S b := fun e => by have := hx.2 e; cases this
        rw [c3_lt (by omega)]
        exact pag_rest n _ _ _ p H w
      · rw [← hx.1 rfl, c3_eq]
        exact pag_eq n _ _ _ p H w

theorem pagainst_any (n : Int) (b : Nat) (h1 : -9223372036854775808 ≤ n) (h2 : n ≤ 9223372036854775807) (w : World) : PAg n (neg b) (ex b) (fr b) w (ag n b) (!nan b) := by
  cases hn : nan b
  · have p : pn (ex b) (fr b) = false := by rw [pn_nan]; exact hn
    have Fl0 := floor_any (neg b) (ex b) (fr b) (ex_lt b) (fr_lt b)
    rw [ef b] at Fl0
    have d := Nat.div_add_mod (M (b % 9223372036854775808)) Q
    have m := Nat.mod_lt (M (b % 9223372036854775808)) Q_pos
    rw [Nat.mul_comm] at d
    have d' : ((M (b % 9223372036854775808) / Q : Nat) : Int) * Q + ((M (b % 9223372036854775808) % Q : Nat) : Int) = ((M (b % 9223372036854775808) : Nat) : Int) := by
      rw [← Int.natCast_mul, ← Int.natCast_add, d]
    have hS := S_eq b
    clear d
    show PAg n (neg b) (ex b) (fr b) w (ag n b) true
    generalize M (b % 9223372036854775808) / Q = t at d' Fl0
    generalize M (b % 9223372036854775808) % Q = u at d' m Fl0
    generalize M (b % 9223372036854775808) = y at d' hS
    by_cases c : 9223372036854775808 ≤ b
    · rw [if_pos c] at hS
      have hs : neg b = true := decide_eq_true c
      by_cases z : u = 0
      · rw [decide_eq_true z] at Fl0
        by_cases o : 9223372036854775808 < t
        · have a : ag n b = 1 := by
            unfold ag
            rw [hn, if_neg (by simp), c3_gt]
            have q := mulQ_lt (show (-(t : Int)) < n by omega)
            rw [Int.neg_mul] at q
            omega
          rw [a]
          exact pag_down n _ _ _ p (Fl0.minus_out hs (by simpa using o)) w
        · refine pag_floor n b _ _ hn (Fl0.minus_in hs rfl (by omega)) ?_ ?_ ?_ w
          · rw [Int.neg_mul]; omega
          · rw [Int.add_mul, Int.neg_mul]; omega
          · rw [Int.neg_mul]; simp; omega
      · rw [decide_eq_false z] at Fl0
        by_cases o : 9223372036854775808 < t + 1
        · have a : ag n b = 1 := by
            unfold ag
            rw [hn, if_neg (by simp), c3_gt]
            have q := mulQ (show (-(t : Int)) ≤ n by omega)
            rw [Int.neg_mul] at q
            omega
          rw [a]
          exact pag_down n _ _ _ p (Fl0.minus_out hs (by simpa using o)) w
        · refine pag_floor n b _ _ hn (Fl0.minus_rest hs rfl (by omega)) ?_ ?_ ?_ w
          · rw [Int.neg_mul, Int.natCast_add, Int.add_mul]; omega
          · rw [Int.natCast_add, show (-((t : Int) + ((1 : Nat) : Int)) + 1) = -(t : Int) by omega, Int.neg_mul]; omega
          · rw [Int.neg_mul, Int.natCast_add, Int.add_mul]; simp; omega
    · rw [if_neg c] at hS
      have hs : neg b = false := decide_eq_false c
      by_cases o : 9223372036854775808 ≤ t
      · have a : ag n b = -1 := by
          unfold ag
          rw [hn, if_neg (by simp), c3_lt]
          have q := mulQ_lt (show n < (t : Int) by omega)
          omega
        rw [a]
        exact pag_up n _ _ _ p (Fl0.plus_out hs o) w
      · refine pag_floor n b _ _ hn (Fl0.plus_in hs (by omega)) ?_ ?_ ?_ w
        · omega
        · rw [Int.add_mul]; omega
        · rw [decide_eq_true_iff]; omega
  · rw [show ag n b = 0 by unfold ag; rw [if_pos hn]]
    exact pag_nan n _ _ _ (by rw [pn_nan]; exact hn) w

end Go.Proofs.YtpnllbojifnopaaGreatDoor

/- Values compared: the contract of the document's Compare. -/
namespace Go.Proofs.YtpnllbojifnopaaGreatDoor
open Go Go.RowKit Rl

theorem cells_next {w W W' : World} {p q : Addr} {x y : Value} {m : Nat} (h : W.cell? p = some x ∧ W.cell? q = some y ∧ Below m w W ∧ m ≤ W.heap.size) (hb : Below W.heap.size W W') :
    W'.cell? p = some x ∧ W'.cell? q = some y ∧ Below m w W' ∧ m ≤ W'.heap.size := by
  obtain ⟨h1, h2, h7, h9⟩ := h
  have z := hb.size
  refine ⟨?_, ?_, h7.trans (hb.mono h9), by omega⟩
  · rw [hb.cell (World.block_lt_of_cell? _ _ h1)]; exact h1
  · rw [hb.cell (World.block_lt_of_cell? _ _ h2)]; exact h2

set_option maxHeartbeats 1000000 in
theorem rc_no1 (k : Int) (n : Int) (r : Nat) (s : ByteArray) (k' n' : Int) (r' : Nat) (s' : ByteArray)
    (M1 : Hid (∀ w, Calls Tryz.prog 92 #[vl k n r s] w fun e w' => e = .returned (.bool false) ∧ Below w.heap.size w w'))
    (w : World) :
    Calls Tryz.prog 129 #[vl k n r s, vl k' n' r' s'] w fun e w' => e = .returned (tup (0, false)) ∧ Below w.heap.size w w' := by
  have T0 := Lib.hid (TwoV.start w k n r s k' n' r' s')
  go_enter Tryz.func129, Tryz.ntmps129
  go_wp2_with fail
  refine (M1.out _).mono ?_
  rintro e w1 ⟨rfl, hb⟩
  have T1 := Lib.hid (T0.out.next hb)
  clear hb
  go_wp2_with fail
  go_ret2
  exact ⟨rfl, T1.out.bel⟩

set_option maxHeartbeats 2000000 in
set_option maxRecDepth 100000 in
theorem rc_no2 (k k' : Int) (n : Int) (r : Nat) (s : ByteArray) (n' : Int) (r' : Nat) (s' : ByteArray)
    (M1 : Hid (∀ w, Calls Tryz.prog 92 #[vl k n r s] w fun e w' => e = .returned (.bool true) ∧ Below w.heap.size w w'))
    (M2 : Hid (∀ w, Calls Tryz.prog 92 #[vl k' n' r' s'] w fun e w' => e = .returned (.bool false) ∧ Below w.heap.size w w'))
    (w : World) :
    Calls Tryz.prog 129 #[vl k n r s, vl k' n' r' s'] w fun e w' => e = .returned (tup (0, false)) ∧ Below w.heap.size w w' := by
  have T0 := Lib.hid (TwoV.start w k n r s k' n' r' s')
  go_enter Tryz.func129, Tryz.ntmps129
  go_wp2_with fail
  refine (M1.out _).mono ?_
  rintro e w1 ⟨rfl, hb⟩
  have T1 := Lib.hid (T0.out.next hb)
  clear hb
  obtain ⟨d0, d1, d2, d3⟩ := T1.out.two
  go_wp2_with fail
  refine (M2.out _).mono ?_
  rintro e w2 ⟨rfl, hb⟩
  have T2 := Lib.hid (T1.out.next hb)
  clear hb d0 d1 d2 d3
  obtain ⟨c0, c1, c2, c3⟩ := T2.out.one
  obtain ⟨d0, d1, d2, d3⟩ := T2.out.two
  have z1 := T2.out.big
  have z0 : w.heap.size < w2.heap.size := by omega
  go_wp2_with fail
  go_ret2
  exact ⟨rfl, T2.out.bel⟩

set_option maxHeartbeats 2000000 in
set_option maxRecDepth 100000 in
theorem rc_0y (k' : Int) (n : Int) (r : Nat) (s : ByteArray) (n' : Int) (r' : Nat) (s' : ByteArray)
    (M1 : Hid (∀ w, Calls Tryz.prog 92 #[vl 0 n r s] w fun e w' => e = .returned (.bool true) ∧ Below w.heap.size w w'))
    (M2 : Hid (∀ w, Calls Tryz.prog 92 #[vl k' n' r' s'] w fun e w' => e = .returned (.bool true) ∧ Below w.heap.size w w'))
    (w : World) :
    Calls Tryz.prog 129 #[vl 0 n r s, vl k' n' r' s'] w fun e w' => e = .returned (tup (0, false)) ∧ Below w.heap.size w w' := by
  have T0 := Lib.hid (TwoV.start w 0 n r s k' n' r' s')
  go_enter Tryz.func129, Tryz.ntmps129
  go_wp2_with fail
  refine (M1.out _).mono ?_
  rintro e w1 ⟨rfl, hb⟩
  have T1 := Lib.hid (T0.out.next hb)
  clear hb
  obtain ⟨d0, d1, d2, d3⟩ := T1.out.two
  go_wp2_with fail
  refine (M2.out _).mono ?_
  rintro e w2 ⟨rfl, hb⟩
  have T2 := Lib.hid (T1.out.next hb)
  clear hb d0 d1 d2 d3
  obtain ⟨c0, c1, c2, c3⟩ := T2.out.one
  obtain ⟨d0, d1, d2, d3⟩ := T2.out.two
  have z1 := T2.out.big
  have z0 : w.heap.size < w2.heap.size := by omega
  go_wp2_with fail
  go_ret2
  exact ⟨rfl, T2.out.bel⟩

set_option maxHeartbeats 2000000 in
set_option maxRecDepth 100000 in
theorem rc_x0 (k : Int) (n : Int) (r : Nat) (s : ByteArray) (n' : Int) (r' : Nat) (s' : ByteArray)
    (M1 : Hid (∀ w, Calls Tryz.prog 92 #[vl k n r s] w fun e w' => e = .returned (.bool true) ∧ Below w.heap.size w w'))
    (M2 : Hid (∀ w, Calls Tryz.prog 92 #[vl 0 n' r' s'] w fun e w' => e = .returned (.bool true) ∧ Below w.heap.size w w'))
    (h0 : (k == 0) = false)
    (w : World) :
    Calls Tryz.prog 129 #[vl k n r s, vl 0 n' r' s'] w fun e w' => e = .returned (tup (0, false)) ∧ Below w.heap.size w w' := by
  have T0 := Lib.hid (TwoV.start w k n r s 0 n' r' s')
  go_enter Tryz.func129, Tryz.ntmps129
  go_wp2_with fail
  refine (M1.out _).mono ?_
  rintro e w1 ⟨rfl, hb⟩
  have T1 := Lib.hid (T0.out.next hb)
  clear hb
  obtain ⟨d0, d1, d2, d3⟩ := T1.out.two
  go_wp2_with fail
  refine (M2.out _).mono ?_
  rintro e w2 ⟨rfl, hb⟩
  have T2 := Lib.hid (T1.out.next hb)
  clear hb d0 d1 d2 d3
  obtain ⟨c0, c1, c2, c3⟩ := T2.out.one
  obtain ⟨d0, d1, d2, d3⟩ := T2.out.two
  have z1 := T2.out.big
  have z0 : w.heap.size < w2.heap.size := by omega
  go_wp2_with fail
  go_ret2
  exact ⟨rfl, T2.out.bel⟩

set_option maxHeartbeats 2000000 in
set_option maxRecDepth 100000 in
theorem rc_3y (k' : Int) (n : Int) (r : Nat) (s : ByteArray) (n' : Int) (r' : Nat) (s' : ByteArray)
    (M1 : Hid (∀ w, Calls Tryz.prog 92 #[vl 3 n r s] w fun e w' => e = .returned (.bool true) ∧ Below w.heap.size w w'))
    (M2 : Hid (∀ w, Calls Tryz.prog 92 #[vl k' n' r' s'] w fun e w' => e = .returned (.bool true) ∧ Below w.heap.size w w'))
    (h0 : (k' == 0) = false) (h3 : (k' == 3) = false)
    (w : World) :
    Calls Tryz.prog 129 #[vl 3 n r s, vl k' n' r' s'] w fun e w' => e = .returned (tup (0, false)) ∧ Below w.heap.size w w' := by
  have T0 := Lib.hid (TwoV.start w 3 n r s k' n' r' s')
  go_enter Tryz.func129, Tryz.ntmps129
  go_wp2_with fail
  refine (M1.out _).mono ?_
  rintro e w1 ⟨rfl, hb⟩
  have T1 := Lib.hid (T0.out.next hb)
  clear hb
  obtain ⟨d0, d1, d2, d3⟩ := T1.out.two
  go_wp2_with fail
  refine (M2.out _).mono ?_
  rintro e w2 ⟨rfl, hb⟩
  have T2 := Lib.hid (T1.out.next hb)
  clear hb d0 d1 d2 d3
  obtain ⟨c0, c1, c2, c3⟩ := T2.out.one
  obtain ⟨d0, d1, d2, d3⟩ := T2.out.two
  have z1 := T2.out.big
  have z0 : w.heap.size < w2.heap.size := by omega
  go_wp2_with fail
  go_ret2
  exact ⟨rfl, T2.out.bel⟩

set_option maxHeartbeats 2000000 in
set_option maxRecDepth 100000 in
theorem rc_x3 (k : Int) (n : Int) (r : Nat) (s : ByteArray) (n' : Int) (r' : Nat) (s' : ByteArray)
    (M1 : Hid (∀ w, Calls Tryz.prog 92 #[vl k n r s] w fun e w' => e = .returned (.bool true) ∧ Below w.heap.size w w'))
    (M2 : Hid (∀ w, Calls Tryz.prog 92 #[vl 3 n' r' s'] w fun e w' => e = .returned (.bool true) ∧ Below w.heap.size w w'))
    (h0 : (k == 0) = false) (h3 : (k == 3) = false)
    (w : World) :
    Calls Tryz.prog 129 #[vl k n r s, vl 3 n' r' s'] w fun e w' => e = .returned (tup (0, false)) ∧ Below w.heap.size w w' := by
  have T0 := Lib.hid (TwoV.start w k n r s 3 n' r' s')
  go_enter Tryz.func129, Tryz.ntmps129
  go_wp2_with fail
  refine (M1.out _).mono ?_
  rintro e w1 ⟨rfl, hb⟩
  have T1 := Lib.hid (T0.out.next hb)
  clear hb
  obtain ⟨d0, d1, d2, d3⟩ := T1.out.two
  go_wp2_with fail
  refine (M2.out _).mono ?_
  rintro e w2 ⟨rfl, hb⟩
  have T2 := Lib.hid (T1.out.next hb)
  clear hb d0 d1 d2 d3
  obtain ⟨c0, c1, c2, c3⟩ := T2.out.one
  obtain ⟨d0, d1, d2, d3⟩ := T2.out.two
  have z1 := T2.out.big
  have z0 : w.heap.size < w2.heap.size := by omega
  go_wp2_with fail
  go_ret2
  exact ⟨rfl, T2.out.bel⟩

set_option maxHeartbeats 2000000 in
set_option maxRecDepth 100000 in
theorem rc_33 (v : Int) (n : Int) (r : Nat) (s : ByteArray) (n' : Int) (r' : Nat) (s' : ByteArray)
    (M1 : Hid (∀ w, Calls Tryz.prog 92 #[vl 3 n r s] w fun e w' => e = .returned (.bool true) ∧ Below w.heap.size w w'))
    (M2 : Hid (∀ w, Calls Tryz.prog 92 #[vl 3 n' r' s'] w fun e w' => e = .returned (.bool true) ∧ Below w.heap.size w w'))
    (C : Hid (∀ w, Calls Tryz.prog 147 #[.string s, .string s'] w fun e w' => e = .returned (.int .i64 v) ∧ Below w.heap.size w w'))
    (w : World) :
    Calls Tryz.prog 129 #[vl 3 n r s, vl 3 n' r' s'] w fun e w' => e = .returned (tup (v, true)) ∧ Below w.heap.size w w' := by
  have T0 := Lib.hid (TwoV.start w 3 n r s 3 n' r' s')
  go_enter Tryz.func129, Tryz.ntmps129
  go_wp2_with fail
  refine (M1.out _).mono ?_
  rintro e w1 ⟨rfl, hb⟩
  have T1 := Lib.hid (T0.out.next hb)
  clear hb
  obtain ⟨d0, d1, d2, d3⟩ := T1.out.two
  go_wp2_with fail
  refine (M2.out _).mono ?_
  rintro e w2 ⟨rfl, hb⟩
  have T2 := Lib.hid (T1.out.next hb)
  clear hb d0 d1 d2 d3
  obtain ⟨c0, c1, c2, c3⟩ := T2.out.one
  obtain ⟨d0, d1, d2, d3⟩ := T2.out.two
  have z1 := T2.out.big
  have z0 : w.heap.size < w2.heap.size := by omega
  go_wp2_with fail
  refine (C.out _).mono ?_
  rintro e w3 ⟨rfl, hb⟩
  have T3 := Lib.hid (T2.out.next hb)
  clear hb
  go_wp2_with fail
  go_ret2
  exact ⟨rfl, T3.out.bel⟩

set_option maxHeartbeats 2000000 in
set_option maxRecDepth 100000 in
theorem rc_22 (v : Int) (o : Bool) (a : Bool) (E F : Nat) (a' : Bool) (E' F' : Nat) (n : Int) (r : Nat) (s : ByteArray) (n' : Int) (r' : Nat) (s' : ByteArray)
    (M1 : Hid (∀ w, Calls Tryz.prog 92 #[vl 2 n r s] w fun e w' => e = .returned (.bool true) ∧ Below w.heap.size w w'))
    (M2 : Hid (∀ w, Calls Tryz.prog 92 #[vl 2 n' r' s'] w fun e w' => e = .returned (.bool true) ∧ Below w.heap.size w w'))
    (O1 : Hid (∀ w, Calls Tryz.prog 126 #[.float .f64 r] w fun e w' => e = .returned (pt a E F) ∧ Below w.heap.size w w'))
    (O2 : Hid (∀ w, Calls Tryz.prog 126 #[.float .f64 r'] w fun e w' => e = .returned (pt a' E' F') ∧ Below w.heap.size w w'))
    (C : Hid (∀ w, Calls Tryz.prog 148 #[pt a E F, pt a' E' F'] w fun e w' => e = .returned (.tuple #[.int .i64 v, .bool o]) ∧ Below w.heap.size w w'))
    (w : World) :
    Calls Tryz.prog 129 #[vl 2 n r s, vl 2 n' r' s'] w fun e w' => e = .returned (tup (v, o)) ∧ Below w.heap.size w w' := by
  have T0 := Lib.hid (TwoV.start w 2 n r s 2 n' r' s')
  go_enter Tryz.func129, Tryz.ntmps129
  go_wp2_with fail
  refine (M1.out _).mono ?_
  rintro e w1 ⟨rfl, hb⟩
  have T1 := Lib.hid (T0.out.next hb)
  clear hb
  obtain ⟨d0, d1, d2, d3⟩ := T1.out.two
  go_wp2_with fail
  refine (M2.out _).mono ?_
  rintro e w2 ⟨rfl, hb⟩
  have T2 := Lib.hid (T1.out.next hb)
  clear hb d0 d1 d2 d3
  obtain ⟨c0, c1, c2, c3⟩ := T2.out.one
  obtain ⟨d0, d1, d2, d3⟩ := T2.out.two
  have z1 := T2.out.big
  have z0 : w.heap.size < w2.heap.size := by omega
  go_wp2_with fail
  go_region_held3 (fun W => W.cell? ⟨w.heap.size, 2, none⟩ = some (.float .f64 r) ∧ W.cell? ⟨w.heap.size + 1, 2, none⟩ = some (.float .f64 r') ∧ Below w.heap.size w W ∧ w.heap.size ≤ W.heap.size)
    (first | assumption | exact ⟨c2, d2, T2.out.bel.drew, T2.out.bel.size⟩ | exact cells_next (by assumption) (by assumption))
    (first
      | (go_at_call 126; (with_reducible refine (O1.out _).mono ?_); rintro e w' ⟨rfl, b1⟩)
      | (go_at_call 126; (with_reducible refine (O2.out _).mono ?_); rintro e w' ⟨rfl, b1⟩)
      | (go_at_call 148; (with_reducible refine (C.out _).mono ?_); rintro e w' ⟨rfl, b1⟩))
  rename_i hHeld
  have HB := Lib.hid hHeld.2.2.1
  clear hHeld
  go_wp2
  go_ret2
  exact ⟨rfl, HB.out⟩

set_option maxHeartbeats 2000000 in
set_option maxRecDepth 100000 in
theorem rc_12 (v : Int) (o : Bool) (a' : Bool) (E' F' : Nat) (n : Int) (r : Nat) (s : ByteArray) (n' : Int) (r' : Nat) (s' : ByteArray)
    (M1 : Hid (∀ w, Calls Tryz.prog 92 #[vl 1 n r s] w fun e w' => e = .returned (.bool true) ∧ Below w.heap.size w w'))
    (M2 : Hid (∀ w, Calls Tryz.prog 92 #[vl 2 n' r' s'] w fun e w' => e = .returned (.bool true) ∧ Below w.heap.size w w'))
    (O2 : Hid (∀ w, Calls Tryz.prog 126 #[.float .f64 r'] w fun e w' => e = .returned (pt a' E' F') ∧ Below w.heap.size w w'))
    (C : Hid (∀ w, Calls Tryz.prog 149 #[.int .i64 n, pt a' E' F'] w fun e w' => e = .returned (.tuple #[.int .i64 v, .bool o]) ∧ Below w.heap.size w w'))
    (w : World) :
    Calls Tryz.prog 129 #[vl 1 n r s, vl 2 n' r' s'] w fun e w' => e = .returned (tup (v, o)) ∧ Below w.heap.size w w' := by
  have T0 := Lib.hid (TwoV.start w 1 n r s 2 n' r' s')
  go_enter Tryz.func129, Tryz.ntmps129
  go_wp2_with fail
  refine (M1.out _).mono ?_
  rintro e w1 ⟨rfl, hb⟩
  have T1 := Lib.hid (T0.out.next hb)
  clear hb
  obtain ⟨d0, d1, d2, d3⟩ := T1.out.two
  go_wp2_with fail
  refine (M2.out _).mono ?_
  rintro e w2 ⟨rfl, hb⟩
  have T2 := Lib.hid (T1.out.next hb)
  clear hb d0 d1 d2 d3
  obtain ⟨c0, c1, c2, c3⟩ := T2.out.one
  obtain ⟨d0, d1, d2, d3⟩ := T2.out.two
  have z1 := T2.out.big
  have z0 : w.heap.size < w2.heap.size := by omega
  go_wp2_with fail
  go_region_held3 (fun W => W.cell? ⟨w.heap.size, 1, none⟩ = some (.int .i64 n) ∧ W.cell? ⟨w.heap.size + 1, 2, none⟩ = some (.float .f64 r') ∧ Below w.heap.size w W ∧ w.heap.size ≤ W.heap.size)
    (first | assumption | exact ⟨c1, d2, T2.out.bel.drew, T2.out.bel.size⟩ | exact cells_next (by assumption) (by assumption))
    (first
      | (go_at_call 126; (with_reducible refine (O2.out _).mono ?_); rintro e w' ⟨rfl, b1⟩)
      | (go_at_call 149; (with_reducible refine (C.out _).mono ?_); rintro e w' ⟨rfl, b1⟩))
  rename_i hHeld
  have HB := Lib.hid hHeld.2.2.1
  clear hHeld
  go_wp2
  go_ret2
  exact ⟨rfl, HB.out⟩

set_option maxHeartbeats 2000000 in
set_option maxRecDepth 100000 in
theorem rc_21 (v : Int) (o : Bool) (a : Bool) (E F : Nat) (n : Int) (r : Nat) (s : ByteArray) (n' : Int) (r' : Nat) (s' : ByteArray)
    (M1 : Hid (∀ w, Calls Tryz.prog 92 #[vl 2 n r s] w fun e w' => e = .returned (.bool true) ∧ Below w.heap.size w w'))
    (M2 : Hid (∀ w, Calls Tryz.prog 92 #[vl 1 n' r' s'] w fun e w' => e = .returned (.bool true) ∧ Below w.heap.size w w'))
    (O1 : Hid (∀ w, Calls Tryz.prog 126 #[.float .f64 r] w fun e w' => e = .returned (pt a E F) ∧ Below w.heap.size w w'))
    (C : Hid (∀ w, Calls Tryz.prog 149 #[.int .i64 n', pt a E F] w fun e w' => e = .returned (.tuple #[.int .i64 (-v), .bool o]) ∧ Below w.heap.size w w'))
    (b0 : -1 ≤ v) (b1 : v ≤ 1)
    (w : World) :
    Calls Tryz.prog 129 #[vl 2 n r s, vl 1 n' r' s'] w fun e w' => e = .returned (tup (v, o)) ∧ Below w.heap.size w w' := by
  have T0 := Lib.hid (TwoV.start w 2 n r s 1 n' r' s')
  go_enter Tryz.func129, Tryz.ntmps129
  go_wp2_with fail
  refine (M1.out _).mono ?_
  rintro e w1 ⟨rfl, hb⟩
  have T1 := Lib.hid (T0.out.next hb)
  clear hb
  obtain ⟨d0, d1, d2, d3⟩ := T1.out.two
  go_wp2_with fail
  refine (M2.out _).mono ?_
  rintro e w2 ⟨rfl, hb⟩
  have T2 := Lib.hid (T1.out.next hb)
  clear hb d0 d1 d2 d3
  obtain ⟨c0, c1, c2, c3⟩ := T2.out.one
  obtain ⟨d0, d1, d2, d3⟩ := T2.out.two
  have z1 := T2.out.big
  have z0 : w.heap.size < w2.heap.size := by omega
  go_wp2_with fail
  go_region_held3 (fun W => W.cell? ⟨w.heap.size + 1, 1, none⟩ = some (.int .i64 n') ∧ W.cell? ⟨w.heap.size, 2, none⟩ = some (.float .f64 r) ∧ Below w.heap.size w W ∧ w.heap.size ≤ W.heap.size)
    (first | assumption | exact ⟨d1, c2, T2.out.bel.drew, T2.out.bel.size⟩ | exact cells_next (by assumption) (by assumption))
    (first
      | (go_at_call 126; (with_reducible refine (O1.out _).mono ?_); rintro e w' ⟨rfl, b1⟩)
      | (go_at_call 149; (with_reducible refine (C.out _).mono ?_); rintro e w' ⟨rfl, b1⟩))
  rename_i hHeld
  have HB := Lib.hid hHeld.2.2.1
  clear hHeld
  go_wp2
  go_ret2
  exact ⟨ret_tup (by simp), HB.out⟩

set_option maxHeartbeats 2000000 in
set_option maxRecDepth 100000 in
theorem rc_11l (n : Int) (r : Nat) (s : ByteArray) (n' : Int) (r' : Nat) (s' : ByteArray)
    (M1 : Hid (∀ w, Calls Tryz.prog 92 #[vl 1 n r s] w fun e w' => e = .returned (.bool true) ∧ Below w.heap.size w w'))
    (M2 : Hid (∀ w, Calls Tryz.prog 92 #[vl 1 n' r' s'] w fun e w' => e = .returned (.bool true) ∧ Below w.heap.size w w'))
    (h : n < n')
    (w : World) :
    Calls Tryz.prog 129 #[vl 1 n r s, vl 1 n' r' s'] w fun e w' => e = .returned (tup (-1, true)) ∧ Below w.heap.size w w' := by
  have T0 := Lib.hid (TwoV.start w 1 n r s 1 n' r' s')
  go_enter Tryz.func129, Tryz.ntmps129
  go_wp2_with fail
  refine (M1.out _).mono ?_
  rintro e w1 ⟨rfl, hb⟩
  have T1 := Lib.hid (T0.out.next hb)
  clear hb
  obtain ⟨d0, d1, d2, d3⟩ := T1.out.two
  go_wp2_with fail
  refine (M2.out _).mono ?_
  rintro e w2 ⟨rfl, hb⟩
  have T2 := Lib.hid (T1.out.next hb)
  clear hb d0 d1 d2 d3
  obtain ⟨c0, c1, c2, c3⟩ := T2.out.one
  obtain ⟨d0, d1, d2, d3⟩ := T2.out.two
  have z1 := T2.out.big
  have z0 : w.heap.size < w2.heap.size := by omega
  go_wp2_with fail
  go_ret2
  exact ⟨rfl, T2.out.bel⟩

set_option maxHeartbeats 2000000 in
set_option maxRecDepth 100000 in
theorem rc_11g (n : Int) (r : Nat) (s : ByteArray) (n' : Int) (r' : Nat) (s' : ByteArray)
    (M1 : Hid (∀ w, Calls Tryz.prog 92 #[vl 1 n r s] w fun e w' => e = .returned (.bool true) ∧ Below w.heap.size w w'))
    (M2 : Hid (∀ w, Calls Tryz.prog 92 #[vl 1 n' r' s'] w fun e w' => e = .returned (.bool true) ∧ Below w.heap.size w w'))
    (h : n' < n)
    (w : World) :
    Calls Tryz.prog 129 #[vl 1 n r s, vl 1 n' r' s'] w fun e w' => e = .returned (tup (1, true)) ∧ Below w.heap.size w w' := by
  have T0 := Lib.hid (TwoV.start w 1 n r s 1 n' r' s')
  go_enter Tryz.func129, Tryz.ntmps129
  go_wp2_with fail
  refine (M1.out _).mono ?_
  rintro e w1 ⟨rfl, hb⟩
  have T1 := Lib.hid (T0.out.next hb)
  clear hb
  obtain ⟨d0, d1, d2, d3⟩ := T1.out.two
  go_wp2_with fail
  refine (M2.out _).mono ?_
  rintro e w2 ⟨rfl, hb⟩
  have T2 := Lib.hid (T1.out.next hb)
  clear hb d0 d1 d2 d3
  obtain ⟨c0, c1, c2, c3⟩ := T2.out.one
  obtain ⟨d0, d1, d2, d3⟩ := T2.out.two
  have z1 := T2.out.big
  have z0 : w.heap.size < w2.heap.size := by omega
  go_wp2_with fail
  go_ret2
  exact ⟨rfl, T2.out.bel⟩

set_option maxHeartbeats 2000000 in
set_option maxRecDepth 100000 in
theorem rc_11e (n : Int) (r : Nat) (s : ByteArray) (n' : Int) (r' : Nat) (s' : ByteArray)
    (M1 : Hid (∀ w, Calls Tryz.prog 92 #[vl 1 n r s] w fun e w' => e = .returned (.bool true) ∧ Below w.heap.size w w'))
    (M2 : Hid (∀ w, Calls Tryz.prog 92 #[vl 1 n' r' s'] w fun e w' => e = .returned (.bool true) ∧ Below w.heap.size w w'))
    (h : ¬ n < n') (g : ¬ n' < n)
    (w : World) :
    Calls Tryz.prog 129 #[vl 1 n r s, vl 1 n' r' s'] w fun e w' => e = .returned (tup (0, true)) ∧ Below w.heap.size w w' := by
  have T0 := Lib.hid (TwoV.start w 1 n r s 1 n' r' s')
  go_enter Tryz.func129, Tryz.ntmps129
  go_wp2_with fail
  refine (M1.out _).mono ?_
  rintro e w1 ⟨rfl, hb⟩
  have T1 := Lib.hid (T0.out.next hb)
  clear hb
  obtain ⟨d0, d1, d2, d3⟩ := T1.out.two
  go_wp2_with fail
  refine (M2.out _).mono ?_
  rintro e w2 ⟨rfl, hb⟩
  have T2 := Lib.hid (T1.out.next hb)
  clear hb d0 d1 d2 d3
  obtain ⟨c0, c1, c2, c3⟩ := T2.out.one
  obtain ⟨d0, d1, d2, d3⟩ := T2.out.two
  have z1 := T2.out.big
  have z0 : w.heap.size < w2.heap.size := by omega
  go_wp2_with fail
  go_ret2
  exact ⟨rfl, T2.out.bel⟩

theorem may_kind {k n : Int} {r : Nat} {s : ByteArray} (h : may k n r s = true) : k = 0 ∨ k = 1 ∨ k = 2 ∨ k = 3 := by
  unfold may mayB at h
  by_cases h0 : k = 0
  · exact .inl h0
  by_cases h1 : k = 1
  · exact .inr (.inl h1)
  by_cases h2 : k = 2
  · exact .inr (.inr (.inl h2))
  by_cases h3 : k = 3
  · exact .inr (.inr (.inr h3))
  rw [if_neg h0, if_neg h1, if_neg h2, if_neg h3] at h
  cases h
theorem rcmp_any (k n : Int) (r : Nat) (s : ByteArray) (k' n' : Int) (r' : Nat) (s' : ByteArray) (hk : 0 ≤ k) (hk' : 0 ≤ k') (hn0 : -9223372036854775808 ≤ n) (hn1 : n ≤ 9223372036854775807) (hr : r < 18446744073709551616)
    (hm0 : -9223372036854775808 ≤ n') (hm1 : n' ≤ 9223372036854775807) (hr' : r' < 18446744073709551616) (hs : s.size ≤ 1000000) (hs' : s'.size ≤ 1000000) (w : World) :
    Calls Tryz.prog 129 #[vl k n r s, vl k' n' r' s'] w fun e w' => e = .returned (tup (cr k n r s k' n' r' s')) ∧ Below w.heap.size w w' := by
  have M1 := fun w => rmay_any k n r s hk w
  have M2 := fun w => rmay_any k' n' r' s' hk' w
  have O1 := Lib.hid fun w => of_any r hr w
  have O2 := Lib.hid fun w => of_any r' hr' w
  unfold cr
  cases m1 : may k n r s
  · rw [m1] at M1
    rw [show crB false _ _ _ _ _ _ _ _ _ _ _ _ _ _ = (0, false) by simp [crB]]
    exact rc_no1 k n r s k' n' r' s' (Lib.hid M1) w
  cases m2 : may k' n' r' s'
  · rw [m1] at M1
    rw [m2] at M2
    rw [show crB true false _ _ _ _ _ _ _ _ _ _ _ _ _ = (0, false) by simp [crB]]
    exact rc_no2 k k' n r s n' r' s' (Lib.hid M1) (Lib.hid M2) w
  rw [m1] at M1
  rw [m2] at M2
  rcases may_kind m1 with rfl | rfl | rfl | rfl
  · rw [show crB true true _ _ _ _ _ _ _ _ _ _ _ _ _ = (0, false) by simp [crB]]
    exact rc_0y k' n r s n' r' s' (Lib.hid M1) (Lib.hid M2) w
  · rcases may_kind m2 with rfl | rfl | rfl | rfl
    · rw [show crB true true _ _ _ _ _ _ _ _ _ _ _ _ _ = (0, false) by simp [crB]]
      exact rc_x0 1 n r s n' r' s' (Lib.hid M1) (Lib.hid M2) (by decide) w
    · rw [show crB true true _ _ _ _ _ _ _ _ _ _ _ _ _ = (c3 n n', true) by simp [crB]]
      by_cases l : n < n'
      · rw [c3_lt l]; exact rc_11l n r s n' r' s' (Lib.hid M1) (Lib.hid M2) l w
      · by_cases g : n' < n
        · rw [c3_gt g]; exact rc_11g n r s n' r' s' (Lib.hid M1) (Lib.hid M2) g w
        · rw [show c3 n n' = 0 by unfold c3; rw [if_neg l, if_neg g]]; exact rc_11e n r s n' r' s' (Lib.hid M1) (Lib.hid M2) l g w
    · rw [show crB true true _ _ _ _ _ _ _ _ _ _ _ _ _ = (ag n r', !nan r') by simp [crB]]
      exact rc_12 _ _ _ _ _ n r s n' r' s' (Lib.hid M1) (Lib.hid M2) O2 (Lib.hid fun w => pagainst_any n r' hn0 hn1 w) w
    · rw [show crB true true _ _ _ _ _ _ _ _ _ _ _ _ _ = (0, false) by simp [crB]]
      exact rc_x3 1 n r s n' r' s' (Lib.hid M1) (Lib.hid M2) (by decide) (by decide) w
  · rcases may_kind m2 with rfl | rfl | rfl | rfl
    · rw [show crB true true _ _ _ _ _ _ _ _ _ _ _ _ _ = (0, false) by simp [crB]]
      exact rc_x0 2 n r s n' r' s' (Lib.hid M1) (Lib.hid M2) (by decide) w
    · rw [show crB true true _ _ _ _ _ _ _ _ _ _ _ _ _ = (-ag n' r, !nan r) by simp [crB]]
      have b := ag_bounds n' r
      exact rc_21 _ _ _ _ _ n r s n' r' s' (Lib.hid M1) (Lib.hid M2) O1 (Lib.hid fun w => by rw [Int.neg_neg]; exact pagainst_any n' r hm0 hm1 w) (by omega) (by omega) w
    · rw [show crB true true _ _ _ _ _ _ _ _ _ _ _ _ _ = (cv r r', co r r') by simp [crB]]
      exact rc_22 _ _ _ _ _ _ _ _ n r s n' r' s' (Lib.hid M1) (Lib.hid M2) O1 O2 (Lib.hid fun w => by
        have := pcompare_any (neg r) (ex r) (fr r) (neg r') (ex r') (fr r') (ex_lt r) (fr_lt r) (ex_lt r') (fr_lt r') w
        rwa [pcv_cv r r' hr hr', pco_co r r'] at this) w
    · rw [show crB true true _ _ _ _ _ _ _ _ _ _ _ _ _ = (0, false) by simp [crB]]
      exact rc_x3 2 n r s n' r' s' (Lib.hid M1) (Lib.hid M2) (by decide) (by decide) w
  · rcases may_kind m2 with rfl | rfl | rfl | rfl
    · rw [show crB true true _ _ _ _ _ _ _ _ _ _ _ _ _ = (0, false) by simp [crB]]
      exact rc_x0 3 n r s n' r' s' (Lib.hid M1) (Lib.hid M2) (by decide) w
    · rw [show crB true true _ _ _ _ _ _ _ _ _ _ _ _ _ = (0, false) by simp [crB]]
      exact rc_3y 1 n r s n' r' s' (Lib.hid M1) (Lib.hid M2) (by decide) (by decide) w
    · rw [show crB true true _ _ _ _ _ _ _ _ _ _ _ _ _ = (0, false) by simp [crB]]
      exact rc_3y 2 n r s n' r' s' (Lib.hid M1) (Lib.hid M2) (by decide) (by decide) w
    · rw [show crB true true _ _ _ _ _ _ _ _ _ _ _ _ _ = (lx s.toList s'.toList, true) by simp [crB]]
      exact rc_33 _ n r s n' r' s' (Lib.hid M1) (Lib.hid M2) (Lib.hid fun w => texts_any s s' w hs hs') w
end Go.Proofs.YtpnllbojifnopaaGreatDoor
