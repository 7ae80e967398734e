/- The contract of pack.Get. -/
import Derived.Lib.MinMax
import Derived.Test.YtmooblbnkjaenaaLbGetSays
import Derived.Test.YtmooblbnkjaenaaLbBits
namespace Go.Proofs.Ytmooblbnkjaenaa
open Go Go.RowKit Pk
set_option maxRecDepth 20000

theorem or_place (acc d k : Nat) (ha : acc < 128 ^ k) (h : acc + d * 128 ^ k < 18446744073709551616) : bits .or .u64 (acc : Int) (IntKind.u64.wrap ((d : Int) * 2 ^ (7 * k))) = ((acc + d * 128 ^ k : Nat) : Int) := by
  have e : (d : Int) * 2 ^ (7 * k) = ((d * 128 ^ k : Nat) : Int) := by
    rw [Int.natCast_mul, Int.natCast_pow, Int.pow_mul]; rfl
  have e2 : IntKind.u64.wrap ((d * 128 ^ k : Nat) : Int) = ((d * 128 ^ k : Nat) : Int) := by rw [IntKind.wrap_u64]; omega
  rw [e, e2, or64 _ _ (by omega) (by omega)]
  congr 1
  rw [show (128 : Nat) = 2 ^ 7 from rfl, ← Nat.pow_mul] at ha ⊢
  have := Nat.two_pow_add_eq_or_of_lt ha d
  rw [Nat.mul_comm d, Nat.or_comm, ← this, Nat.add_comm]


set_option maxHeartbeats 400000 in
theorem get_any (a : Option Addr) (len cap : Nat) (l : List Int) (p : Int) (w : World) (hl : l.length = len) (hm : len ≤ 100000) (hc : len ≤ cap) (hb : Byt w a l) :
    Calls Try.prog 30 #[.slice a len cap, .int .i64 p] w fun e w' => e = .returned (.tuple #[.int .u64 (gN l p : Int), .int .i64 (gK l p), .int .i64 (gE l p : Int)]) ∧ w = w' := by
  by_cases c0 : p < 0 ∨ (len : Int) < p
  · have e : gv l p = (0, 0, 3) := by unfold gv; rw [if_pos (by rw [hl]; exact c0)]
    unfold gN gK gE
    rw [e]
    clear e hb hl
    by_cases c1 : p < 0
    · go_enter Try.func30, Try.ntmps30
      go_wp2
      go_ret3
      exact ⟨rfl, rfl⟩
    · have c2 : (len : Int) < p := by omega
      go_enter Try.func30, Try.ntmps30
      go_wp2
      go_ret3
      exact ⟨rfl, rfl⟩
  · obtain ⟨q, rfl⟩ : ∃ q : Nat, p = (q : Int) := ⟨p.toNat, by omega⟩
    have hq : q ≤ len := by omega
    have e : gv l (q : Int) = gt (l.drop q) 0 0 := by unfold gv; rw [if_neg (by rw [hl]; exact c0)]; rfl
    unfold gN gK gE
    rw [e]
    clear e c0
    by_cases cq : q = len
    · subst cq
      rw [show l.drop q = [] from List.drop_eq_nil_of_le (by omega)]
      have hz : decide ((0 : Int) < ((q - q : Nat) : Int)) = false := by simp
      clear hl hb hc
      go_enter Try.func30, Try.ntmps30
      go_wp2
      all_goals (go_loop [7, 22] (fun _ i => i = .int .i64 0) (fun _ i => 0 - (intOf i).toNat))
      case atStart => rfl
      case round =>
        subst hrel
        go_wp2
        go_ret3
        exact ⟨rfl, rfl⟩
      case atStart => rfl
      case round =>
        subst hrel
        go_wp2
        go_ret3
        exact ⟨rfl, rfl⟩
    · have hq2 : q < len := by omega
      obtain ⟨b, off, rfl, _⟩ := hb.1 0 (by omega)
      have hcq : (cap = q) = False := by simp; omega
      have HL := Lib.hid hl
      have HB := Lib.hid hb
      have ed : ((len - q : Nat) : Int) = (len : Int) - (q : Int) := by omega
      clear hl hb cq hq
      obtain ⟨r, R⟩ : ∃ r, r = gt (l.drop q) 0 0 := ⟨_, rfl⟩
      rw [← R]
      obtain ⟨rn, rk, re⟩ := r
      have HR := Lib.hid R
      clear R
      show Calls Try.prog 30 _ w fun e w' => e = .returned (.tuple #[.int .u64 (rn : Int), .int .i64 (if re = 0 then (q : Int) + (rk : Int) else 0), .int .i64 (re : Int)]) ∧ w = w'
      go_enter Try.func30, Try.ntmps30
      go_wp2
      go_loop [7, 22] (fun t i => ∃ k acc : Nat, k ≤ len - q ∧ k ≤ 9 ∧ i = .int .i64 k ∧ t = .int .u64 acc ∧ acc < 18446744073709551616 ∧ Hid (acc < 128 ^ k ∧ (rn, rk, re) = gt (l.drop (q + k)) k acc)) (fun _ i => len - (intOf i).toNat)
      case atStart => exact ⟨0, 0, by omega, by omega, rfl, rfl, by omega, Lib.hid ⟨by simp, HR.out⟩⟩
      case round =>
        obtain ⟨k, acc, hk, h9, rfl, rfl, ha, H⟩ := hrel
        by_cases c1 : k < len - q
        · obtain ⟨ha2, hr⟩ := H.out
          rw [drop_cons l (q + k) (by rw [HL.out]; omega), gt] at hr
          obtain ⟨b', off', eb, hcell⟩ := HB.out.1 (q + k) (by rw [HL.out]; omega)
          injection eb with eb
          injection eb with eb1 eb2 _
          subst eb1
          subst eb2
          have hrng := HB.out.2 (l.getD (q + k) 0) (by rw [List.getD_eq_getElem?_getD, List.getElem?_eq_getElem (by rw [HL.out]; omega)]; exact List.getElem_mem _)
          generalize l.getD (q + k) 0 = c at hr hcell hrng
          obtain ⟨r0, r1⟩ := hrng
          rw [← Nat.add_assoc] at hcell
          clear H
          by_cases c2 : k = 9 ∧ 1 < c
          · rw [if_pos c2] at hr
            simp only [Prod.mk.injEq] at hr
            obtain ⟨rfl, rfl, rfl⟩ := hr
            obtain ⟨c3, c4⟩ := c2
            subst c3
            clear ha2
            go_wp2
            go_ret3
            exact ⟨rfl, rfl⟩
          · rw [if_neg c2] at hr
            obtain ⟨d, hd⟩ : ∃ d : Nat, d = c.toNat % 128 := ⟨_, rfl⟩
            have an : bits .andNot .u8 c 128 = (d : Int) := by rw [hd]; exact andNot_u8 c r0 r1
            have hd2 : d < 128 := by omega
            have rm := place_room acc d k h9 ha2 hd2 (by omega)
            have orp := or_place acc d k ha2 rm
            by_cases c3 : 128 ≤ c
            · rw [if_pos c3, ← hd] at hr
              have hk9 : k ≠ 9 := by omega
              have k9 : ((k : Int) == 9) = false := by simp; omega
              have HP := Lib.hid (place_lt acc d k ha2 hd2)
              have HR2 := Lib.hid hr
              clear ha2 hr c2 hd
              generalize acc + d * 128 ^ k = acc2 at orp rm HP HR2
              go_wp2
              go_round
              case rel => exact ⟨k + 1, acc2, by omega, by omega, by go_num, rfl, rm, Lib.hid ⟨HP.out, by rw [← Nat.add_assoc]; exact HR2.out⟩⟩
              case measure => simp [intOf]; omega
            · rw [if_neg c3] at hr
              by_cases c4 : c = 0 ∧ 0 < k
              · rw [if_pos c4] at hr
                simp only [Prod.mk.injEq] at hr
                obtain ⟨rfl, rfl, rfl⟩ := hr
                obtain ⟨c5, c6⟩ := c4
                subst c5
                have c7 : decide ((0 : Int) < (k : Int)) = true := by simp; omega
                clear ha2 c2 hd
                by_cases c8 : k = 9
                · have k9 : ((k : Int) == 9) = true := by simp; omega
                  clear c8
                  go_wp2
                  go_ret3
                  exact ⟨rfl, rfl⟩
                · have k9 : ((k : Int) == 9) = false := by simp; omega
                  go_wp2
                  go_ret3
                  exact ⟨rfl, rfl⟩
              · rw [if_neg c4, show c.toNat = d by omega] at hr
                clear ha2 hd
                generalize acc + d * 128 ^ k = acc2 at orp rm hr
                simp only [Prod.mk.injEq] at hr
                obtain ⟨rfl, rfl, rfl⟩ := hr
                have h128 : decide ((128 : Int) ≤ c) = false := by simp; omega
                by_cases c8 : k = 9
                · have k9 : ((k : Int) == 9) = true := by simp; omega
                  have c9 : decide ((1 : Int) < c) = false := by simp; omega
                  have c10 : (c == 0) = false := by simp; omega
                  clear c8
                  go_wp2
                  go_ret3
                  exact ⟨ret_get (show (q : Int) + (k : Int) + 1 = if (0 : Nat) = 0 then (q : Int) + ((k + 1 : Nat) : Int) else 0 by rw [if_pos rfl]; omega), rfl⟩
                · have k9 : ((k : Int) == 9) = false := by simp; omega
                  by_cases c11 : c = 0
                  · have c12 : decide ((0 : Int) < (k : Int)) = false := by simp; omega
                    subst c11
                    go_wp2
                    go_ret3
                    exact ⟨ret_get (show (q : Int) + (k : Int) + 1 = if (0 : Nat) = 0 then (q : Int) + ((k + 1 : Nat) : Int) else 0 by rw [if_pos rfl]; omega), rfl⟩
                  · have c12 : (c == 0) = false := by simp; omega
                    go_wp2
                    go_ret3
                    exact ⟨ret_get (show (q : Int) + (k : Int) + 1 = if (0 : Nat) = 0 then (q : Int) + ((k + 1 : Nat) : Int) else 0 by rw [if_pos rfl]; omega), rfl⟩
        · obtain ⟨ha2, hr⟩ := H.out
          rw [show l.drop (q + k) = [] from List.drop_eq_nil_of_le (by rw [HL.out]; omega), gt] at hr
          simp only [Prod.mk.injEq] at hr
          obtain ⟨rfl, rfl, rfl⟩ := hr
          have hz : decide ((k : Int) < (len : Int) - (q : Int)) = false := by simp; omega
          clear H ha2
          go_wp2
          go_ret3
          exact ⟨rfl, rfl⟩
end Go.Proofs.Ytmooblbnkjaenaa
