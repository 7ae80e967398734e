/- The document's four and Put. -/
import Derived.Test.YtcodihgjfhoepaaGreatDoorRcE
namespace Go.Proofs.YtcodihgjfhoepaaGreatDoor
open Go Go.RowKit Crc
set_option maxRecDepth 20000

theorem Own.empty_at (w : World) (n : Nat) (h : w.heap.size = n) (B : Nat) (hB : B ≤ n) : Own (w.alloc (.cells #[] 5)) B (.slice (some ⟨n, 0, none⟩) 0 0) [] := by
  subst h
  exact World.ownsRow_made w #[] 0 hB (by decide) rfl
theorem Own.capzR {w : World} {B : Nat} {A : Option Addr} {k c : Nat} {l : List Int} (h : Own w B (.slice A k c) l) (hA : A = none) : c = 0 := by
  rcases h.2 with ⟨h', _⟩ | ⟨g, cap, cur, h', _⟩
  · injection h'
  · injection h' with e1 e2 e3
    rw [hA] at e1
    cases e1
theorem below_allocR (w : World) (o : Obj) : Below w.heap.size w (w.alloc o) := (Below.refl _ _).alloc (Nat.le_refl _) o
theorem four_ex (w : World) (N : Nat) (x0 x1 x2 x3 : Int) (h : by4 N = [x0, x1, x2, x3]) : Ex (w.alloc (.cells #[.int .u8 x0, .int .u8 x1, .int .u8 x2, .int .u8 x3] 5)) w.heap.size (by4 N) := by
  unfold Ex
  rw [heap_alloc_new, h]; rfl
set_option maxHeartbeats 400000 in
theorem rfour_any (N : Nat) (w : World) (hN : N < 4294967296) :
    Calls Tryz.prog 84 #[.int .u32 (N : Int)] w fun e w' => ∃ A, e = .returned (.slice A 4 4) ∧ Byt w' A (by4 N) ∧ (A = none → (4 : Nat) = 0) ∧ Below w.heap.size w w' := by
  go_enter Tryz.func84, Tryz.ntmps84
  go_wp2
  go_ret
  have b4 : by4 N = [(N : Int) / 16777216, (N : Int) / 65536 % 256, (N : Int) / 256 % 256, (N : Int) % 256] := by
    simp only [by4, List.cons.injEq, and_true]
    refine ⟨?_, ?_, ?_, ?_⟩ <;> omega
  exact ⟨_, rfl, (four_ex w N _ _ _ _ b4).byt (by4_rng N), (fun h => by cases h), below_allocR _ _⟩
set_option maxHeartbeats 400000 in
theorem rput_long (a a2 : Option Addr) (n c m c2 : Nat) (w : World) (hm : 65536 < m) :
    Calls Tryz.prog 53 #[.slice a n c, .slice a2 m c2] w fun e w' => e = .returned (.tuple #[.slice (some ⟨w.heap.size, 0, none⟩) 0 0, .int .i64 4]) ∧ Below w.heap.size w w' := by
  go_enter Tryz.func53, Tryz.ntmps53
  go_wp2
  go_ret2
  exact ⟨rfl, below_allocR _ _⟩
set_option maxHeartbeats 2000000 in
theorem rput_ok (a a2 : Option Addr) (n c m c2 : Nat) (l r : List Int) (w : World) (hl : l.length = n) (hn : n ≤ 900000) (hb : Byt w a l) (hz : a = none → c = 0) (hr : r.length = m) (hm : m ≤ 65536) (hb2 : Byt w a2 r) (hz2 : a2 = none → c2 = 0) :
    Calls Tryz.prog 53 #[.slice a n c, .slice a2 m c2] w fun e w' => ∃ A T C, T = n + (8 + m) ∧ e = .returned (.tuple #[.slice A T C, .int .i64 0]) ∧ Own w' w.heap.size (.slice A T C) (l ++ fr r) ∧ Byt w' A (l ++ fr r) ∧ Below w.heap.size w w' := by
  have HL := Lib.hid hl
  have HB := Lib.hid hb
  have HR := Lib.hid hr
  have HB2 := Lib.hid hb2
  have HZ := Lib.hid hz
  have HZ2 := Lib.hid hz2
  clear hl hb hr hb2 hz hz2
  have F1 := Lib.hid (rfour_any m w (by omega))
  go_enter Tryz.func53, Tryz.ntmps53
  go_wp2_with fail
  refine F1.out.mono ?_
  rintro e w1 ⟨A4, rfl, hY4, hz4, hb1⟩
  have Y4 := Lib.hid hY4
  have Z4 := Lib.hid hz4
  have B1 := Lib.hid hb1
  have B1' := Lib.hid (below_go B1.out (below_allocR w1 (.cells #[] 5)))
  have D1 := Lib.hid (below_allocR w1 (.cells #[] 5))
  clear hY4 hz4 hb1 F1
  have K1 := Lib.hid (show ([] ++ by4 m).length = 4 from rfl)
  have K2 := Lib.hid (show (([] ++ by4 m) ++ r).length = 4 + m by rw [List.length_append, HR.out]; rfl)
  have K3 := Lib.hid (show ([] ++ l).length = n by simp [HL.out])
  have K4 := Lib.hid (show (([] ++ l) ++ by4 m).length = n + 4 by rw [List.length_append, K3.out]; rfl)
  have RA := Lib.hid (show Rng ([] ++ by4 m) from by4_rng m)
  have RB := Lib.hid (show Rng ([] ++ l) from HB.out.2)
  have RC := Lib.hid (show Rng (([] ++ l) ++ by4 m) from Rng.app HB.out.2 (by4_rng m))
  go_wp2_with (first
    | ((with_reducible show wpList _ _ _ (Oper.mk (some 20) _ _ _ _ _ :: _) _ _); refine wp_app (.tmp 18) (.tmp 19) _ rfl rfl w1.heap.size _ [] rfl (Own.empty w1) A4 4 4 (by4 m) rfl rfl (Y4.out.below D1.out) Z4.out (by simp) 4 K1.out (by omega) D1.out.size ?_; intro A5 c5 w2 hO2 _ hb2; have O2 := Lib.hid hO2; have D2 := Lib.hid (D1.out.trans hb2); have B2 := Lib.hid (below_go B1.out D2.out); clear hO2 hb2)
    | ((with_reducible show wpList _ _ _ (Oper.mk (some 23) _ _ _ _ _ :: _) _ _); refine wp_app (.tmp 21) (.tmp 22) _ rfl rfl w1.heap.size _ ([] ++ by4 m) rfl O2.out a2 m c2 r rfl HR.out (HB2.out.below B2.out) HZ2.out RA.out (4 + m) K2.out (by omega) D2.out.size ?_; intro A6 c6 w3 hO3 hY3 hb3; have O3 := Lib.hid hO3; have D3 := Lib.hid (D2.out.trans hb3); have B3 := Lib.hid (below_go B1.out D3.out); have E3 := Lib.hid (below_allocR w3 (.cells #[] 5)); have Y3 := Lib.hid hY3; clear hO3 hb3 hY3)
    | ((with_reducible show wpList _ _ _ (Oper.mk (some 27) _ _ _ _ _ :: _) _ _); refine wp_app (.tmp 25) (.tmp 26) _ rfl rfl w3.heap.size _ [] rfl (Own.empty w3) a n c l rfl HL.out (HB.out.below (below_go B3.out E3.out)) HZ.out (by simp) n K3.out (by omega) E3.out.size ?_; intro A7 c7 w4 hO4 _ hb4; have O4 := Lib.hid hO4; have E4 := Lib.hid (E3.out.trans hb4); clear hO4 hb4)
    | ((with_reducible show wpList _ _ _ (Oper.mk (some 30) _ _ _ _ _ :: _) _ _); refine wp_app (.tmp 28) (.tmp 29) _ rfl rfl w3.heap.size _ ([] ++ l) rfl O4.out A4 4 4 (by4 m) rfl rfl (Y4.out.below (below_go D3.out E4.out)) Z4.out RB.out (n + 4) K4.out (by omega) E4.out.size ?_; intro A8 c8 w5 hO5 _ hb5; have O5 := Lib.hid hO5; have E5 := Lib.hid (E4.out.trans hb5); clear hO5 hb5))
  have S5 := Lib.hid (rsum_any A6 (4 + m) c6 (([] ++ by4 m) ++ r) w5 K2.out (by unfold maxLen; omega) (Y3.out.below E5.out))
  refine S5.out.mono ?_
  rintro e w' ⟨rfl, rfl⟩
  have es : sum 0#32 (([] ++ by4 m) ++ r) = sum 0#32 (by4 m ++ r) := rfl
  rw [es]
  have F6 := Lib.hid (rfour_any (sm (by4 m) r) w5 (sm_lt _ _))
  have F7 : Hid (fr r = by4 m ++ (by4 (sm (by4 m) r) ++ r)) := Lib.hid (by unfold fr; rw [HR.out])
  have s0 : (sum 0#32 (by4 m ++ r)).toNat = sm (by4 m) r := rfl
  rw [s0]
  generalize sm (by4 m) r = s at F6 F7
  clear S5 es s0
  go_wp2_with fail
  refine F6.out.mono ?_
  rintro e w6 ⟨A9, rfl, hY9, hz9, hb6⟩
  have Y9 := Lib.hid hY9
  have Z9 := Lib.hid hz9
  have E6 := Lib.hid (below_go E5.out hb6)
  have O6 := Lib.hid (O5.out.below hb6)
  have K5 := Lib.hid (show ((([] ++ l) ++ by4 m) ++ by4 s).length = n + 8 by rw [List.length_append, K4.out]; rfl)
  have RD := Lib.hid (show Rng ((([] ++ l) ++ by4 m) ++ by4 s) from Rng.app RC.out (by4_rng s))
  have K6 := Lib.hid (show (((([] ++ l) ++ by4 m) ++ by4 s) ++ r).length = n + 8 + m by rw [List.length_append, K5.out, HR.out])
  clear hY9 hz9 hb6 F6
  go_wp2_with (first
    | ((with_reducible show wpList _ _ _ (Oper.mk (some 35) _ _ _ _ _ :: _) _ _); refine wp_app (.tmp 31) (.tmp 34) _ rfl rfl w3.heap.size _ _ rfl O6.out A9 4 4 (by4 s) rfl rfl Y9.out Z9.out RC.out (n + 8) K5.out (by omega) E6.out.size ?_; intro A10 c10 w7 hO7 _ hb7; have O7 := Lib.hid hO7; have E7 := Lib.hid (E6.out.trans hb7); clear hO7 hb7)
    | ((with_reducible show wpList _ _ _ (Oper.mk (some 38) _ _ _ _ _ :: _) _ _); refine wp_app (.tmp 36) (.tmp 37) _ rfl rfl w3.heap.size _ _ rfl O7.out a2 m c2 r rfl HR.out (HB2.out.below (below_go B3.out E7.out)) HZ2.out RD.out (n + 8 + m) K6.out (by omega) E7.out.size ?_; intro A11 c11 w8 hO8 hY8 hb8; have O8 := Lib.hid hO8; have Y8 := Lib.hid hY8; have E8 := Lib.hid (E7.out.trans hb8); clear hO8 hb8 hY8))
  go_ret2
  have e : l ++ fr r = ((([] ++ l) ++ by4 m) ++ by4 s) ++ r := by rw [F7.out]; simp
  refine ⟨A11, n + 8 + m, c11, by omega, rfl, ?_, ?_, below_go B3.out E8.out⟩
  · rw [e]
    have := O8.out
    exact ⟨this.1, by
      rcases this.2 with h | ⟨g, cap, cur, h1, h2, h3⟩
      · exact .inl h
      · exact .inr ⟨g, cap, cur, h1, Nat.le_trans B3.out.size h2, h3⟩⟩
  · rw [e]; exact Y8.out
end Go.Proofs.YtcodihgjfhoepaaGreatDoor
