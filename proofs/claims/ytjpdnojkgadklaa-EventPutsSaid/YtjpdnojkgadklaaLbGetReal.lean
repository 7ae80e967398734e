/- The contract of pack.GetReal. -/
import Derived.Test.YtjpdnojkgadklaaLbGetRealSays
import Derived.Test.YtjpdnojkgadklaaLbBits
namespace Go.Proofs.Ytjpdnojkgadklaa
open Go Go.RowKit Pk Rl
set_option maxRecDepth 20000

theorem or_byte (r c : Nat) (hr : r < 72057594037927936) (hc : c < 256) : bits .or .u64 ((r : Int) * 256) (c : Int) = ((r * 256 + c : Nat) : Int) := by
  rw [show (r : Int) * 256 = ((r * 256 : Nat) : Int) by omega, or64 _ _ (by omega) (by omega)]
  congr 1
  have := Nat.two_pow_add_eq_or_of_lt (b := c) (i := 8) (by omega) r
  rw [Nat.mul_comm r 256]
  exact this.symm

set_option maxHeartbeats 400000 in
theorem getReal_any (a : Option Addr) (len cap : Nat) (l : List Int) (p : Int) (w : World) (hl : l.length = len) (hm : len ≤ 100000) (hc : len ≤ cap) (h0 : -9223372036854775808 ≤ p) (h1 : p ≤ 9223372036854775807) (hb : Byt w a l) :
    Calls Try.prog 56 #[.slice a len cap, .int .i64 p] w fun e w' => e = .returned (.tuple #[.float .f64 (rB l p), .int .i64 (rK l p), .int .i64 (rE l p : Int)]) ∧ w = w' := by
  by_cases c0 : p < 0 ∨ (len : Int) < p + 8
  · have e : rE l p = 3 := by unfold rE; rw [if_pos (by rw [hl]; exact c0)]
    rw [show rB l p = 0 by unfold rB; rw [if_neg (by omega)], show rK l p = 0 by unfold rK; rw [if_neg (by omega)], e]
    clear e hb hl hc
    by_cases c1 : p < 0
    · go_enter Try.func56, Try.ntmps56
      go_wp2
      go_ret3
      exact ⟨rfl, rfl⟩
    · by_cases c2 : (len : Int) < p
      · go_enter Try.func56, Try.ntmps56
        go_wp2
        go_ret3
        exact ⟨rfl, rfl⟩
      · have c3 : (len : Int) - p < 8 := by omega
        go_enter Try.func56, Try.ntmps56
        go_wp2
        go_ret3
        exact ⟨rfl, rfl⟩
  · obtain ⟨q, rfl⟩ : ∃ q : Nat, p = (q : Int) := ⟨p.toNat, by omega⟩
    have hq : q + 8 ≤ len := by omega
    obtain ⟨b, off, rfl, _⟩ := hb.1 0 (by omega)
    have hcq : (cap = q) = False := by simp; omega
    have e1 : rR l (q : Int) = be ((l.drop q).take 8) := rfl
    have lt := rR_lt l q hb.2
    have e2 : rE l (q : Int) = if bt (rR l q) = rR l q then 0 else 2 := by unfold rE; rw [if_neg (by rw [hl]; exact c0)]
    have F := Lib.hid (fun w => from_any (rR l q) lt w)
    have HL := Lib.hid hl
    have HB := Lib.hid hb
    have d1 : (len : Int) - (q : Int) < 8 ↔ False := by simp; omega
    obtain ⟨vb, vk, ve, V, V1, V2, V3⟩ : ∃ vb vk ve, ((decide (bt (rR l q) = rR l q) = true → vb = (if bt (rR l q) = rR l q then rR l q else 0) ∧ vk = (q : Int) + 8 ∧ ve = 0) ∧ (decide (bt (rR l q) = rR l q) = false → vb = 0 ∧ vk = 0 ∧ ve = 2)) ∧ rB l q = vb ∧ rK l q = vk ∧ rE l q = ve := by
      refine ⟨_, _, _, ?_, rfl, rfl, rfl⟩
      unfold rB rK
      rw [e2]
      by_cases c : bt (rR l q) = rR l q
      · simp [c]
      · simp [c]
    rw [V1, V2, V3]
    clear hl hb c0 e2 V1 V2 V3
    generalize rR l q = r at F e1 lt V
    have E1 := Lib.hid e1
    have HV := Lib.hid V
    clear e1 V
    generalize (if bt r = r then r else 0) = v0 at F HV
    generalize decide (bt r = r) = fo at F HV
    go_enter Try.func56, Try.ntmps56
    go_wp2
    go_loop [8, 35] (fun t i => ∃ k : Nat, k ≤ 8 ∧ i = .int .i64 k ∧ t = .int .u64 ((be ((l.drop q).take k) : Nat) : Int)) (fun _ i => 8 - (intOf i).toNat)
    case atStart => exact ⟨0, by omega, rfl, rfl⟩
    case round =>
      obtain ⟨k, hk, rfl, rfl⟩ := hrel
      by_cases c1 : k < 8
      · have S := Lib.hid (take_step l q k (by rw [HL.out]; omega))
        obtain ⟨b', off', eb, hcell⟩ := HB.out.1 (q + k) (by rw [HL.out]; omega)
        injection eb with eb
        injection eb with eb1 eb2 _
        subst eb1
        subst eb2
        have hrng := HB.out.2 (l.getD (q + k) 0) (by rw [List.getD_eq_getElem?_getD, List.getElem?_eq_getElem (by rw [HL.out]; omega)]; exact List.getElem_mem _)
        have pl := part_lt l q k HB.out.2 (by omega)
        generalize l.getD (q + k) 0 = c at hcell hrng S
        obtain ⟨x, rfl⟩ : ∃ x : Nat, c = (x : Int) := ⟨c.toNat, by omega⟩
        have T := Lib.hid (show be ((l.drop q).take (k + 1)) = be ((l.drop q).take k) * 256 + x by rw [S.out, be_snoc]; rfl)
        generalize be ((l.drop q).take k) = acc at pl T
        have hx : x < 256 := by omega
        have ob := or_byte acc x pl hx
        rw [← Nat.add_assoc] at hcell
        clear S hrng
        generalize acc * 256 + x = acc2 at ob T
        go_wp2
        go_round
        case rel => exact ⟨k + 1, by omega, by go_num, by rw [T.out]⟩
        case measure => simp [intOf]; omega
      · obtain rfl : k = 8 := by omega
        rw [← E1.out]
        clear E1
        go_wp2_with fail
        refine (F.out _).mono ?_
        rintro e w' ⟨rfl, rfl⟩
        cases fo
        · obtain ⟨rfl, rfl, rfl⟩ := HV.out.2 rfl
          go_wp2
          go_ret3
          exact ⟨rfl, rfl⟩
        · obtain ⟨rfl, rfl, rfl⟩ := HV.out.1 rfl
          go_wp2
          go_ret3
          exact ⟨rfl, rfl⟩
end Go.Proofs.Ytjpdnojkgadklaa
