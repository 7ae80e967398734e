/- The program's reading: above. -/
import Derived.Test.YtmooblbnkjaenaaSnJ
import Derived.Laws.Externs
namespace Go.Proofs.Ytmooblbnkjaenaa
open Go Go.RowKit Pk
set_option maxRecDepth 20000

theorem add64_run (x y : Nat) (hx : x < 18446744073709551616) (hy : y < 18446744073709551616) (w : World) :
    (callFunc 32 #[.int .u64 (x : Int), .int .u64 (y : Int), .int .u64 0]).run Try.prog w = .ok (.value (.tuple #[.int .u64 (((x + y) % 18446744073709551616 : Nat) : Int), .int .u64 (((x + y) / 18446744073709551616 : Nat) : Int)])) w := by
  rw [run_callFunc_extern Try.func32 (by kernel_rfl) (by kernel_rfl) (by kernel_rfl) (e := add64Entry) (by kernel_rfl), run_add64 x y 0 (by omega) (by omega) (by omega) (by omega)]
  simp only [Result.andThen]
  congr 5 <;> omega
set_option maxHeartbeats 4000000 in
theorem above_any (d : Nat) (A : Option Addr) (m c : Nat) (l : List Int) (a : Nat) (σ : Sg) (w : World) (h : Rb w d (.slice A m c) σ) (hl : l.length = m) (hm : m ≤ 100000) (hc : m ≤ c) (hb : Byt w A l) (ha : a < 18446744073709551616) :
    Calls Try.prog 31 #[.pointer (some ⟨d, 0, none⟩), .int .u64 (a : Int)] w fun e w' => e = .returned (.int .u64 (abn l a σ : Int)) ∧ Rb w' d (.slice A m c) (abs l a σ) ∧ Fr d d w w' := by
  have P := Lib.hid (number_any d A m c l σ w h hl hm hc hb)
  have HN := Lib.hid (rdn_lt l σ hb.2)
  clear h hb
  go_enter Try.func31, Try.ntmps31
  go_wp2_with fail
  refine P.out.mono ?_
  rintro _ w1 ⟨rfl, hr1, hf1⟩
  have R1 := Lib.hid hr1
  have F1 := Lib.hid hf1
  clear hr1 hf1 P
  have A1 := add64_run a (rdn l σ) ha HN.out w1
  have EN := show abn l a σ = (a + rdn l σ) % 18446744073709551616 from rfl
  have EC : Hid ((a + rdn l σ) / 18446744073709551616 = 0 ↔ ¬ 18446744073709551616 ≤ a + rdn l σ) := Lib.hid (by omega)
  rw [← EN] at A1
  clear EN
  obtain ⟨q, hq⟩ : ∃ q, (a + rdn l σ) / 18446744073709551616 = q := ⟨_, rfl⟩
  obtain ⟨sm, hs⟩ : ∃ sm, abn l a σ = sm := ⟨_, rfl⟩
  rw [hq] at A1 EC
  rw [hs] at A1
  have HS := Lib.hid hs
  clear hq hs
  by_cases cz : q = 0
  · have d1 : ((q : Int) == 0) = true := by simp [cz]
    have AE := Lib.hid (show mst (rds l σ) true 5 = abs l a σ by
      have h := EC.out.1 cz
      rw [mst_yes]
      unfold abs
      rw [if_neg (fun k => h k.2)])
    have M := Lib.hid (must_any d A m c (rds l σ) true 5 (by omega) w1 R1.out)
    clear EC cz
    go_wp2_with fail
    refine M.out.mono ?_
    rintro _ w2 ⟨rfl, hr2, hf2⟩
    rw [AE.out] at hr2
    have R2 := Lib.hid hr2
    have F2 := Lib.hid (F1.out.trans hf2)
    clear hr2 hf2 M
    go_wp2_with fail
    go_ret
    exact ⟨by rw [HS.out]; rfl, R2.out, F2.out⟩
  · have d1 : ((q : Int) == 0) = false := by simp; omega
    have AE := Lib.hid (show mst (rds l σ) false 5 = abs l a σ by
      have h : 18446744073709551616 ≤ a + rdn l σ := Decidable.byContradiction fun h => cz (EC.out.2 h)
      unfold mst abs
      by_cases c0 : (rds l σ).2 = 0
      · rw [if_pos ⟨c0, rfl⟩, if_pos ⟨c0, h⟩]
      · rw [if_neg (fun k => c0 k.1), if_neg (fun k => c0 k.1)])
    have M := Lib.hid (must_any d A m c (rds l σ) false 5 (by omega) w1 R1.out)
    clear EC cz
    go_wp2_with fail
    refine M.out.mono ?_
    rintro _ w2 ⟨rfl, hr2, hf2⟩
    rw [AE.out] at hr2
    have R2 := Lib.hid hr2
    have F2 := Lib.hid (F1.out.trans hf2)
    clear hr2 hf2 M
    go_wp2_with fail
    go_ret
    exact ⟨by rw [HS.out]; rfl, R2.out, F2.out⟩
end Go.Proofs.Ytmooblbnkjaenaa
