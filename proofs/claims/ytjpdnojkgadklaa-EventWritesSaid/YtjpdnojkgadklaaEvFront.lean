/- Logged events out of bytes: what stands in front, as plain functions; the contract of readFront. -/
import Derived.Test.YtjpdnojkgadklaaEvWrite
namespace Go.Proofs.Ytjpdnojkgadklaa
open Go Go.RowKit Pk Rl
set_option maxRecDepth 20000

structure FR where
  p : Nat
  s : Nat
  a : Nat
  k : Int
  e : Nat
def frn (l : List Int) : FR :=
  if gE l 0 ≠ 0 then ⟨0, 0, 0, 0, gE l 0⟩
  else if 4294967295 < gN l 0 then ⟨0, 0, 0, 0, 5⟩
  else if gE l (gK l 0) ≠ 0 then ⟨0, 0, 0, 0, gE l (gK l 0)⟩
  else if gE l (gK l (gK l 0)) ≠ 0 then ⟨0, 0, 0, 0, gE l (gK l (gK l 0))⟩
  else ⟨gN l 0, gN l (gK l 0), gN l (gK l (gK l 0)), gK l (gK l (gK l 0)), 0⟩
structure LG where
  p : Nat
  s : Nat
  a : Nat
  t : Int
  fs : List VV
  e : Nat
def lr (l : List Int) : LG :=
  if (frn l).e ≠ 0 then ⟨0, 0, 0, 0, [], (frn l).e⟩
  else if (eg l (frn l).k).e ≠ 0 then ⟨0, 0, 0, 0, [], (eg l (frn l).k).e⟩
  else if (eg l (frn l).k).k ≠ (l.length : Int) then ⟨0, 0, 0, 0, [], 2⟩
  else ⟨(frn l).p, (frn l).s, (frn l).a, (eg l (frn l).k).t, (eg l (frn l).k).fs, 0⟩
abbrev gotf (p s a : Nat) (K : Int) (E : Int) : Value := .tuple #[lg p s a 0 none 0 0, .int .i64 K, .int .i64 E]

set_option maxHeartbeats 2000000 in
theorem front_any (b : Option Addr) (len cap : Nat) (l : List Int) (w : World) (hl : l.length = len) (hm : len ≤ 100000) (hc : len ≤ cap) (hb : Byt w b l) :
    Calls Try.prog 39 #[.slice b len cap] w fun e w' => e = .returned (gotf (frn l).p (frn l).s (frn l).a (frn l).k ((frn l).e : Int)) ∧ Below w.heap.size w w' := by
  have B0 := Lib.hid (fun p s a => below_alloc w (lcells p s a 0 none 0 0))
  have HB := Lib.hid (hb.below (below_alloc w (lcells 0 0 0 0 none 0 0)))
  have G := Lib.hid (fun p => get_any b len cap l p (w.alloc (lcells 0 0 0 0 none 0 0)) hl hm hc HB.out)
  unfold frn
  have G1 := Lib.hid (G.out 0)
  have G2 := Lib.hid (G.out (gK l 0))
  have G3 := Lib.hid (G.out (gK l (gK l 0)))
  clear hl hb hm G
  generalize gN l 0 = N1 at G1
  generalize gE l 0 = E1 at G1
  generalize gK l (gK l (gK l 0)) = K3 at G3
  generalize gN l (gK l (gK l 0)) = N3 at G3
  generalize gE l (gK l (gK l 0)) = E3 at G3
  generalize gN l (gK l 0) = N2 at G2
  generalize gE l (gK l 0) = E2 at G2
  generalize gK l (gK l 0) = K2 at G2 G3
  generalize gK l 0 = K1 at G1 G2
  by_cases e1 : E1 = 0
  · subst e1
    rw [if_neg (by simp)]
    by_cases n1 : 4294967295 < N1
    · rw [if_pos n1]
      go_enter Try.func39, Try.ntmps39
      go_wp2_with fail
      refine G1.out.mono ?_
      rintro e w1 ⟨rfl, rfl⟩
      go_wp2_with fail
      exact bodyPost_ret (v := gotf 0 0 0 0 5) (by simp [results, Try.results39, go_sem]) rfl ⟨rfl, B0.out 0 0 0⟩
    · rw [if_neg n1]
      have t1 : decide ((4294967295 : Int) < (N1 : Int)) = false := by simp; omega
      have hw : IntKind.u32.wrap (N1 : Int) = (N1 : Int) := by rw [IntKind.wrap_u32]; omega
      by_cases e2 : E2 = 0
      · subst e2
        rw [if_neg (by simp)]
        by_cases e3 : E3 = 0
        · subst e3
          rw [if_neg (by simp)]
          go_enter Try.func39, Try.ntmps39
          go_wp2_with fail
          refine G1.out.mono ?_
          rintro e w1 ⟨rfl, rfl⟩
          go_wp2_with fail
          refine G2.out.mono ?_
          rintro e w1 ⟨rfl, rfl⟩
          go_wp2_with fail
          refine G3.out.mono ?_
          rintro e w1 ⟨rfl, rfl⟩
          go_wp2_with fail
          exact bodyPost_ret (v := gotf N1 N2 N3 K3 0) (by simp [results, Try.results39, go_sem]) rfl ⟨rfl, B0.out N1 N2 N3⟩
        · rw [if_pos e3]
          have t3 : ((E3 : Int) == 0) = false := by simp; omega
          go_enter Try.func39, Try.ntmps39
          go_wp2_with fail
          refine G1.out.mono ?_
          rintro e w1 ⟨rfl, rfl⟩
          go_wp2_with fail
          refine G2.out.mono ?_
          rintro e w1 ⟨rfl, rfl⟩
          go_wp2_with fail
          refine G3.out.mono ?_
          rintro e w1 ⟨rfl, rfl⟩
          go_wp2_with fail
          exact bodyPost_ret (v := gotf 0 0 0 0 (E3 : Int)) (by simp [results, Try.results39, go_sem]) rfl ⟨rfl, B0.out 0 0 0⟩
      · rw [if_pos e2]
        have t2 : ((E2 : Int) == 0) = false := by simp; omega
        go_enter Try.func39, Try.ntmps39
        go_wp2_with fail
        refine G1.out.mono ?_
        rintro e w1 ⟨rfl, rfl⟩
        go_wp2_with fail
        refine G2.out.mono ?_
        rintro e w1 ⟨rfl, rfl⟩
        go_wp2_with fail
        exact bodyPost_ret (v := gotf 0 0 0 0 (E2 : Int)) (by simp [results, Try.results39, go_sem]) rfl ⟨rfl, B0.out 0 0 0⟩
  · rw [if_pos e1]
    have t1 : ((E1 : Int) == 0) = false := by simp; omega
    go_enter Try.func39, Try.ntmps39
    go_wp2_with fail
    refine G1.out.mono ?_
    rintro e w1 ⟨rfl, rfl⟩
    go_wp2_with fail
    exact bodyPost_ret (v := gotf 0 0 0 0 (E1 : Int)) (by simp [results, Try.results39, go_sem]) rfl ⟨rfl, B0.out 0 0 0⟩
end Go.Proofs.Ytjpdnojkgadklaa
