/- The contract of the document's GetReal. -/
import Derived.Test.YtjpdnojkgadklaaLbGetRealSays
import Derived.Test.YtjpdnojkgadklaaLbRealRef
namespace Go.Proofs.Ytjpdnojkgadklaa
open Go Go.RowKit Pk Rl
set_option maxRecDepth 20000


set_option maxHeartbeats 400000 in
theorem rgetReal_any (a : Option Addr) (len cap : Nat) (l : List Int) (p : Int) (w : World) (hl : l.length = len) (hm : len ≤ 100000) (h0 : -9223372036854775808 ≤ p) (h1 : p ≤ 9223372036854775807) (hb : Byt w a l) :
    Calls Try.prog 59 #[.slice a len cap, .int .i64 p] w fun e w' => e = .returned (.tuple #[.float .f64 (rB l p), .int .i64 (rK l p), .int .i64 (rE l p : Int)]) ∧ Below w.heap.size w w' := by
  by_cases c0 : p < 0 ∨ (len : Int) < p + 8
  · have e : rE l p = 3 := by unfold rE; rw [if_pos (by rw [hl]; exact c0)]
    rw [show rB l p = 0 by unfold rB; rw [if_neg (by omega)], show rK l p = 0 by unfold rK; rw [if_neg (by omega)], e]
    clear e hb hl
    by_cases c1 : p < 0
    · go_enter Try.func59, Try.ntmps59
      go_wp2
      go_ret3
      exact ⟨rfl, Below.refl _ _⟩
    · have c2 : (len : Int) - 8 < p := by omega
      go_enter Try.func59, Try.ntmps59
      go_wp2
      go_ret3
      exact ⟨rfl, Below.refl _ _⟩
  · obtain ⟨q, rfl⟩ : ∃ q : Nat, p = (q : Int) := ⟨p.toNat, by omega⟩
    have hq : q + 8 ≤ len := by omega
    obtain ⟨b, off, rfl, _⟩ := hb.1 0 (by omega)
    have e1 : rR l (q : Int) = be ((l.drop q).take 8) := rfl
    have lt := rR_lt l q hb.2
    have e2 : rE l (q : Int) = if bt (rR l q) = rR l q then 0 else 2 := by unfold rE; rw [if_neg (by rw [hl]; exact c0)]
    have F := Lib.hid (fun w => ofBits_any (rR l q) lt w)
    have P := Lib.hid (pb_bt (rR l q) lt)
    have x1 := ex_lt (rR l q)
    have f1 := fr_lt (rR l q)
    have HL := Lib.hid hl
    have HB := Lib.hid hb
    have d1 : decide ((len : Int) - 8 < (q : Int)) = false := by simp; omega
    obtain ⟨vb, vk, ve, V, V1, V2, V3⟩ : ∃ vb vk ve, ((bt (rR l q) = rR l q → vb = rR l q ∧ vk = (q : Int) + 8 ∧ ve = 0) ∧ (bt (rR l q) ≠ rR l q → vb = 0 ∧ vk = 0 ∧ ve = 2)) ∧ rB l q = vb ∧ rK l q = vk ∧ rE l q = ve := by
      refine ⟨_, _, _, ?_, rfl, rfl, rfl⟩
      unfold rB rK
      rw [e2]
      by_cases c : bt (rR l q) = rR l q
      · simp [c]
      · simp [c]
    rw [V1, V2, V3]
    clear hl hb c0 e2 V1 V2 V3
    generalize rR l q = r at F e1 lt V P x1 f1
    have E1 := Lib.hid e1
    have HV := Lib.hid V
    clear e1 V
    have r15 := run15 r
    generalize neg r = sb at F P
    generalize ex r = E at F P x1
    generalize fr r = Fr at F P f1
    generalize bt r = r2 at P HV
    go_enter Try.func59, Try.ntmps59
    go_wp2
    go_loop [7, 8] (fun t i => ∃ k : Nat, k ≤ 8 ∧ i = .int .i64 k ∧ t = .int .u64 ((be ((l.drop q).take k) : Nat) : Int)) (fun _ i => 8 - (intOf i).toNat)
    case atStart => exact ⟨0, by omega, rfl, rfl⟩
    case round =>
      obtain ⟨k, hk, rfl, rfl⟩ := hrel
      by_cases c1 : k < 8
      · have S := Lib.hid (take_step l q k (by rw [HL.out]; omega))
        obtain ⟨b', off', eb, hcell⟩ := HB.out.1 (q + k) (by rw [HL.out]; omega)
        injection eb with eb
        injection eb with eb1 eb2 _
        subst eb1
        subst eb2
        have hrng := HB.out.2 (l.getD (q + k) 0) (by rw [List.getD_eq_getElem?_getD, List.getElem?_eq_getElem (by rw [HL.out]; omega)]; exact List.getElem_mem _)
        have pl := part_lt l q k HB.out.2 (by omega)
        generalize l.getD (q + k) 0 = c at hcell hrng S
        obtain ⟨x, rfl⟩ : ∃ x : Nat, c = (x : Int) := ⟨c.toNat, by omega⟩
        have T := Lib.hid (show be ((l.drop q).take (k + 1)) = be ((l.drop q).take k) * 256 + x by rw [S.out, be_snoc]; rfl)
        generalize be ((l.drop q).take k) = acc at pl T
        have hx : x < 256 := by omega
        clear S hrng
        go_wp2
        go_round
        case rel => exact ⟨k + 1, by omega, by go_num, by rw [T.out, Int.natCast_add, Int.natCast_mul]; rfl⟩
        case measure => simp [intOf]; omega
      · obtain rfl : k = 8 := by omega
        rw [← E1.out]
        clear E1
        go_wp2_with fail
        refine (F.out _).mono ?_
        rintro e w2 ⟨rfl, b1⟩
        have B1 := Lib.hid b1
        clear b1
        go_wp2_with fail
        refine (pbits_any sb E Fr x1 f1 _).mono ?_
        rintro e w3 ⟨rfl, b1⟩
        rw [P.out]
        have B2 := Lib.hid (B1.out.trans (b1.mono B1.out.size))
        clear b1
        by_cases c2 : r2 = r
        · obtain ⟨rfl, rfl, rfl⟩ := HV.out.1 c2
          have d2 : ((r2 : Int) != (vb : Int)) = false := by simp; omega
          go_wp2
          go_ret3
          exact ⟨rfl, B2.out⟩
        · obtain ⟨rfl, rfl, rfl⟩ := HV.out.2 c2
          have d2 : ((r2 : Int) != (r : Int)) = true := by simp; omega
          go_wp2
          go_ret3
          exact ⟨rfl, B2.out⟩
end Go.Proofs.Ytjpdnojkgadklaa
