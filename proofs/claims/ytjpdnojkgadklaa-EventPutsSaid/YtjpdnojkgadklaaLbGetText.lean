/- The contract of pack.GetText. -/
import Derived.Test.YtjpdnojkgadklaaLbGet
namespace Go.Proofs.Ytjpdnojkgadklaa
open Go Go.RowKit Pk
set_option maxRecDepth 20000

set_option maxHeartbeats 400000 in
theorem getText_any (a : Option Addr) (len cap : Nat) (l : List Int) (p m : Int) (w : World) (hl : l.length = len) (hm : len ≤ 100000) (hc : len ≤ cap) (h0 : -9223372036854775808 ≤ m) (h1 : m ≤ 9223372036854775807) (hb : Byt w a l) :
    Calls Try.prog 57 #[.slice a len cap, .int .i64 p, .int .i64 m] w fun e w' => e = .returned (.tuple #[.string (strOfNums (tL l p m)), .int .i64 (tK l p m), .int .i64 (tE l p m : Int)]) ∧ w = w' := by
  have G := Lib.hid (get_any a len cap l p w hl hm hc hb)
  have lt := g_lt l p hb.2
  by_cases c : gE l p = 0
  · obtain ⟨o1, o2, o3, _, _⟩ := g_ok l p hb.2 c
    obtain ⟨M, hM⟩ : ∃ M : Nat, max m 0 = (M : Int) := ⟨(max m 0).toNat, by omega⟩
    by_cases c2 : max m 0 < (gN l p : Int)
    · have e : tE l p m = 4 := by unfold tE; rw [if_neg (by omega), if_pos c2]
      obtain ⟨z1, z2⟩ := t_bad l p m 4 e (by omega)
      rw [e, z1, z2]
      rw [c] at G
      clear e z1 z2
      generalize gN l p = n at G lt c2
      generalize gK l p = k at G
      clear hl hb hc
      go_enter Try.func57, Try.ntmps57
      go_wp2_with fail
      refine G.out.mono ?_
      rintro e w' ⟨rfl, rfl⟩
      go_wp2
      go_ret3
      exact ⟨rfl, rfl⟩
    · obtain ⟨K, hK⟩ : ∃ K : Nat, gK l p = (K : Int) := ⟨(gK l p).toNat, by omega⟩
      rw [c, hK] at G
      by_cases c3 : (l.length : Int) - gK l p < (gN l p : Int)
      · have e : tE l p m = 3 := by unfold tE; rw [if_neg (by omega), if_neg c2, if_pos c3]
        obtain ⟨z1, z2⟩ := t_bad l p m 3 e (by omega)
        rw [e, z1, z2]
        clear e z1 z2
        rw [hK, hl] at o3 c3
        generalize gN l p = n at G lt c2 c3
        have d2 : decide (M < n) = false := by simp; omega
        have hKl : K ≤ len := by omega
        clear hl hb hc c2
        go_enter Try.func57, Try.ntmps57
        go_wp2_with fail
        refine G.out.mono ?_
        rintro e w' ⟨rfl, rfl⟩
        go_wp2
        go_ret3
        exact ⟨rfl, rfl⟩
      · have e : tE l p m = 0 := by unfold tE; rw [if_neg (by omega), if_neg c2, if_neg c3]
        rw [show tK l p m = gK l p + (gN l p : Int) by unfold tK; rw [if_pos e], show tL l p m = (l.drop (gK l p).toNat).take (gN l p) by unfold tL; rw [if_pos e], e, hK, Int.toNat_natCast]
        clear e
        rw [hK, hl] at o3 c3
        have HL := Lib.hid (cut_len l K (gN l p) (by omega))
        obtain ⟨b, off, rfl, _⟩ := hb.1 0 (by omega)
        have HT := Lib.hid (byt_cut hb K (gN l p) (by omega))
        generalize (l.drop K).take (gN l p) = t at HT HL
        generalize gN l p = n at G lt c2 c3 HT HL
        have hKl : K + n ≤ len := by omega
        have d2 : decide (M < n) = false := by simp; omega
        by_cases c4 : cap = K
        · have hn : n = 0 := by omega
          subst hn
          obtain rfl : t = [] := List.eq_nil_of_length_eq_zero HL.out
          have st := run_str w (some ⟨b, off, none⟩) 0 0 [] rfl ⟨fun i hi => absurd hi (by simp), by simp⟩
          clear hl hb c2 hK
          subst c4
          go_enter Try.func57, Try.ntmps57
          go_wp2_with fail
          refine G.out.mono ?_
          rintro e w' ⟨rfl, rfl⟩
          go_wp2
          go_ret3
          exact ⟨rfl, rfl⟩
        · have hcq : (cap = K) = False := by simp; omega
          have st := run_str w (some ⟨b, off + K, none⟩) n (cap - K) t HL.out HT.out
          clear hl hb c2 hK c4
          go_enter Try.func57, Try.ntmps57
          go_wp2_with fail
          refine G.out.mono ?_
          rintro e w' ⟨rfl, rfl⟩
          go_wp2
          go_ret3
          exact ⟨rfl, rfl⟩
  · have e : tE l p m = gE l p := by unfold tE; rw [if_pos c]
    obtain ⟨z3, z4⟩ := t_bad l p m _ e c
    obtain ⟨z1, z2⟩ := g_err l p c
    rw [e, z3, z4]
    rw [z1, z2] at G
    generalize gE l p = z at G c
    have hz : ((z : Int) != 0) = true := by simp; omega
    clear hl hb hc hm c z1 z2 lt e z3 z4
    go_enter Try.func57, Try.ntmps57
    go_wp2_with fail
    refine G.out.mono ?_
    rintro e w' ⟨rfl, rfl⟩
    go_wp2
    go_ret3
    exact ⟨rfl, rfl⟩
end Go.Proofs.Ytjpdnojkgadklaa
