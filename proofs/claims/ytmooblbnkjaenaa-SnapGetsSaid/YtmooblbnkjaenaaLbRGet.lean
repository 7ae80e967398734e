/- The contract of the document's Get. -/
import Derived.Test.YtmooblbnkjaenaaLbGetSays
import Derived.Test.YtmooblbnkjaenaaLbBits
namespace Go.Proofs.Ytmooblbnkjaenaa
open Go Go.RowKit Pk
set_option maxRecDepth 20000



theorem add_place (acc d T k : Nat) (hT : T = 128 ^ k) (h : acc + d * 128 ^ k < 18446744073709551616) : IntKind.u64.wrap ((acc : Int) + IntKind.u64.wrap ((d : Int) * (T : Int))) = ((acc + d * 128 ^ k : Nat) : Int) := by
  rw [hT, ← Int.natCast_mul, IntKind.wrap_u64, IntKind.wrap_u64]
  generalize d * 128 ^ k = z at h
  omega

theorem times_place (T k : Nat) (hT : T = 128 ^ k) (hk : k < 9) : ∃ T2 : Nat, IntKind.u64.wrap ((T : Int) * 128) = (T2 : Int) ∧ T2 = 128 ^ (k + 1) ∧ T2 < 18446744073709551616 := by
  have : 128 ^ (k + 1) ≤ 128 ^ 9 := Nat.pow_le_pow_right (by omega) (by omega)
  have e : 128 ^ (k + 1) = T * 128 := by rw [Nat.pow_succ, hT]
  exact ⟨T * 128, by rw [IntKind.wrap_u64]; omega, e.symm, by omega⟩

theorem ret_get2 {x y a b : Int} {e : Value} (h0 : x = y) (h : a = b) : Ending.returned (.tuple #[.int .u64 x, .int .i64 a, e]) = .returned (.tuple #[.int .u64 y, .int .i64 b, e]) := by rw [h, h0]
set_option maxHeartbeats 400000 in
theorem rget_any (a : Option Addr) (len cap : Nat) (l : List Int) (p : Int) (w : World) (hl : l.length = len) (hm : len ≤ 100000) (hb : Byt w a l) :
    Calls Try.prog 20 #[.slice a len cap, .int .i64 p] w fun e w' => e = .returned (.tuple #[.int .u64 (gN l p : Int), .int .i64 (gK l p), .int .i64 (gE l p : Int)]) ∧ w = w' := by
  by_cases c0 : p < 0 ∨ (len : Int) < p
  · have e : gv l p = (0, 0, 3) := by unfold gv; rw [if_pos (by rw [hl]; exact c0)]
    unfold gN gK gE
    rw [e]
    clear e hb hl
    by_cases c1 : p < 0
    · go_enter Try.func20, Try.ntmps20
      go_wp2
      go_ret3
      exact ⟨rfl, rfl⟩
    · have c2 : (len : Int) < p := by omega
      go_enter Try.func20, Try.ntmps20
      go_wp2
      go_ret3
      exact ⟨rfl, rfl⟩
  · obtain ⟨q, rfl⟩ : ∃ q : Nat, p = (q : Int) := ⟨p.toNat, by omega⟩
    have hq : q ≤ len := by omega
    have e : gv l (q : Int) = gt (l.drop q) 0 0 := by unfold gv; rw [if_neg (by rw [hl]; exact c0)]; rfl
    unfold gN gK gE
    rw [e]
    clear e c0
    have HL := Lib.hid hl
    have HB := Lib.hid hb
    clear hl hb
    obtain ⟨r, R⟩ : ∃ r, r = gt (l.drop q) 0 0 := ⟨_, rfl⟩
    rw [← R]
    obtain ⟨rn, rk, re⟩ := r
    have HR := Lib.hid R
    clear R
    show Calls Try.prog 20 _ w fun e w' => e = .returned (.tuple #[.int .u64 (rn : Int), .int .i64 (if re = 0 then (q : Int) + (rk : Int) else 0), .int .i64 (re : Int)]) ∧ w = w'
    go_enter Try.func20, Try.ntmps20
    go_wp2
    go_loop [7, 8, 9] (fun t m i => ∃ k acc T : Nat, k ≤ len - q ∧ k ≤ 9 ∧ i = .int .i64 k ∧ t = .int .u64 acc ∧ m = .int .u64 T ∧ acc < 18446744073709551616 ∧ T < 18446744073709551616 ∧ Hid (T = 128 ^ k ∧ acc < 128 ^ k ∧ (rn, rk, re) = gt (l.drop (q + k)) k acc)) (fun _ _ i => len - (intOf i).toNat)
    case atStart => exact ⟨0, 0, 1, by omega, by omega, rfl, rfl, rfl, by omega, by omega, Lib.hid ⟨by simp, by simp, HR.out⟩⟩
    case round =>
      obtain ⟨k, acc, T, hk, h9, rfl, rfl, rfl, ha, hT, H⟩ := hrel
      by_cases c1 : k < len - q
      · obtain ⟨hT2, ha2, hr⟩ := H.out
        rw [drop_cons l (q + k) (by rw [HL.out]; omega), gt] at hr
        obtain ⟨b, off, rfl, hcell⟩ := HB.out.1 (q + k) (by rw [HL.out]; omega)
        have hrng := HB.out.2 (l.getD (q + k) 0) (by rw [List.getD_eq_getElem?_getD, List.getElem?_eq_getElem (by rw [HL.out]; omega)]; exact List.getElem_mem _)
        generalize l.getD (q + k) 0 = c at hr hcell hrng
        obtain ⟨r0, r1⟩ := hrng
        clear H
        have hlt : (len : Int) ≤ (q : Int) + (k : Int) ↔ False := by simp; omega
        by_cases c2 : k = 9 ∧ 1 < c
        · rw [if_pos c2] at hr
          simp only [Prod.mk.injEq] at hr
          obtain ⟨rfl, rfl, rfl⟩ := hr
          obtain ⟨c3, c4⟩ := c2
          subst c3
          clear ha2 hT2
          go_wp2
          go_ret3
          exact ⟨rfl, rfl⟩
        · rw [if_neg c2] at hr
          obtain ⟨d, hd⟩ : ∃ d : Nat, d = c.toNat % 128 := ⟨_, rfl⟩
          have an : c % 128 = (d : Int) := by omega
          have hd2 : d < 128 := by omega
          have rm := place_room acc d k h9 ha2 hd2 (by omega)
          have ap := add_place acc d T k hT2 rm
          by_cases c3 : 128 ≤ c
          · rw [if_pos c3, ← hd] at hr
            have hk9 : k ≠ 9 := by omega
            have k9 : ((k : Int) == 9) = false := by simp; omega
            have HP := Lib.hid (place_lt acc d k ha2 hd2)
            have HR2 := Lib.hid hr
            obtain ⟨T2, t1, t2, t3⟩ := times_place T k hT2 (by omega)
            have HT := Lib.hid t2
            clear ha2 hr c2 hd hT2 t2
            generalize acc + d * 128 ^ k = acc2 at rm HP HR2 ap
            go_wp2
            go_round
            case rel => exact ⟨k + 1, acc2, T2, by omega, by omega, by go_num, rfl, rfl, rm, t3, Lib.hid ⟨HT.out, HP.out, by rw [← Nat.add_assoc]; exact HR2.out⟩⟩
            case measure => simp [intOf]; omega
          · rw [if_neg c3] at hr
            have h128 : decide (c < (128 : Int)) = true := by simp; omega
            by_cases c4 : c = 0 ∧ 0 < k
            · rw [if_pos c4] at hr
              simp only [Prod.mk.injEq] at hr
              obtain ⟨rfl, rfl, rfl⟩ := hr
              obtain ⟨c5, c6⟩ := c4
              subst c5
              have c7 : decide ((1 : Int) < (k : Int) + 1) = true := by simp; omega
              clear ha2 c2 hd hT2
              by_cases c8 : k = 9
              · have k9 : ((k : Int) == 9) = true := by simp; omega
                clear c8
                go_wp2
                go_ret3
                exact ⟨rfl, rfl⟩
              · have k9 : ((k : Int) == 9) = false := by simp; omega
                go_wp2
                go_ret3
                exact ⟨rfl, rfl⟩
            · rw [if_neg c4, show c.toNat = d by omega] at hr
              have HZ := Lib.hid (show d = 0 → (acc : Int) = ((acc + d * 128 ^ k : Nat) : Int) from fun e => by rw [e]; simp)
              clear ha2 hd hT2
              generalize acc + d * 128 ^ k = acc2 at ap rm hr HZ
              simp only [Prod.mk.injEq] at hr
              obtain ⟨rfl, rfl, rfl⟩ := hr
              by_cases c8 : k = 9
              · have k9 : ((k : Int) == 9) = true := by simp; omega
                have c9 : decide ((1 : Int) < c) = false := by simp; omega
                have c10 : (c == 0) = false := by simp; omega
                clear c8
                go_wp2
                go_ret3
                exact ⟨ret_get (show (q : Int) + ((k : Int) + 1) = if (0 : Nat) = 0 then (q : Int) + ((k + 1 : Nat) : Int) else 0 by rw [if_pos rfl]; omega), rfl⟩
              · have k9 : ((k : Int) == 9) = false := by simp; omega
                by_cases c11 : c = 0
                · have c12 : decide ((1 : Int) < (k : Int) + 1) = false := by simp; omega
                  have hd0 : d = 0 := by omega
                  have HZ2 := Lib.hid (HZ.out hd0)
                  subst c11
                  go_wp2
                  go_ret3
                  exact ⟨ret_get2 HZ2.out (show (q : Int) + ((k : Int) + 1) = if (0 : Nat) = 0 then (q : Int) + ((k + 1 : Nat) : Int) else 0 by rw [if_pos rfl]; omega), rfl⟩
                · have c12 : (c == 0) = false := by simp; omega
                  go_wp2
                  go_ret3
                  exact ⟨ret_get (show (q : Int) + ((k : Int) + 1) = if (0 : Nat) = 0 then (q : Int) + ((k + 1 : Nat) : Int) else 0 by rw [if_pos rfl]; omega), rfl⟩
      · obtain ⟨_, ha2, hr⟩ := H.out
        rw [show l.drop (q + k) = [] from List.drop_eq_nil_of_le (by rw [HL.out]; omega), gt] at hr
        simp only [Prod.mk.injEq] at hr
        obtain ⟨rfl, rfl, rfl⟩ := hr
        have hz : decide ((len : Int) ≤ (q : Int) + (k : Int)) = true := by simp; omega
        clear H ha2
        go_wp2
        go_ret3
        exact ⟨rfl, rfl⟩
end Go.Proofs.Ytmooblbnkjaenaa
