/- PackGets: the walk of the statement's own function. -/
import Derived.Test.YtclbhnmgpljboaaPkR3
namespace Go.Proofs.Ytclbhnmgpljboaa
open Go Go.RowKit Pk Rl

set_option maxHeartbeats 1000000 in
theorem gets_walk (a : Option Addr) (len cap : Nat) (l : List Int) (p m : Int) (w : World) (hl : l.length = len) (hx : len ≤ maxLen) (hc : len ≤ cap) (h0 : -9223372036854775808 ≤ p) (h1 : p ≤ 9223372036854775807) (h2 : -9223372036854775808 ≤ m) (h3 : m ≤ 9223372036854775807) (hb : Byt w a l) :
    Calls Try.prog 4 #[.slice a len cap, .int .i64 p, .int .i64 m] w fun e w' => e = .returned (.bool true) ∧ Below w.heap.size w w' := by
  unfold maxLen at hx
  by_cases h5 : 2000 < len
  · clear hl hb
    go_enter Try.func4, Try.ntmps4
    go_wp2_with fail
    refine (fixed_any _).mono ?_
    rintro e w1 ⟨rfl, hb⟩
    have B1 := Lib.hid hb
    clear hb
    go_wp2
    go_ret
    exact ⟨rfl, B1.out⟩
  · have hd : decide ((2000 : Int) < (len : Int)) = false := by simp; omega
    have G1 := Lib.hid (fun w (hb : Byt w a l) => get_any a len cap l p w hl (by omega) hc hb)
    have G2 := Lib.hid (fun w (hb : Byt w a l) => rget_any a len cap l p w hl (by omega) hb)
    have G3 := Lib.hid (fun w (hb : Byt w a l) => getInt_any a len cap l p w hl (by omega) hc hb)
    have G4 := Lib.hid (fun w (hb : Byt w a l) => rgetInt_any a len cap l p w hl (by omega) hb)
    have G5 := Lib.hid (fun w (hb : Byt w a l) => getText_any a len cap l p m w hl (by omega) hc h2 h3 hb)
    have G6 := Lib.hid (fun w (hb : Byt w a l) => rgetText_any a len cap l p m w hl (by omega) hc h2 h3 hb)
    have G7 := Lib.hid (fun w (hb : Byt w a l) => getReal_any a len cap l p w hl (by omega) hc h0 h1 hb)
    have G8 := Lib.hid (fun w (hb : Byt w a l) => rgetReal_any a len cap l p w hl (by omega) h0 h1 hb)
    have HB := Lib.hid hb
    have r13 := run13 (rB l p)
    generalize gN l p = gn at G1 G2 G3 G4
    generalize gK l p = gk at G1 G2 G3 G4
    generalize gE l p = ge at G1 G2 G3 G4
    generalize strOfNums (tL l p m) = ts at G5 G6
    generalize tK l p m = tk at G5 G6
    generalize tE l p m = te at G5 G6
    generalize rB l p = rb at G7 G8 r13
    generalize rK l p = rk at G7 G8
    generalize rE l p = re at G7 G8
    generalize sg gn = sn at G3 G4
    clear hl hb
    go_enter Try.func4, Try.ntmps4
    go_wp2_with fail
    refine (G1.out _ HB.out).mono ?_
    rintro e w' ⟨rfl, rfl⟩
    go_wp2_with fail
    refine (G2.out _ HB.out).mono ?_
    rintro e w' ⟨rfl, rfl⟩
    go_wp2_with fail
    refine (G3.out _ HB.out).mono ?_
    rintro e w' ⟨rfl, rfl⟩
    go_wp2_with fail
    refine (G4.out _ HB.out).mono ?_
    rintro e w' ⟨rfl, rfl⟩
    go_wp2_with fail
    refine (G5.out _ HB.out).mono ?_
    rintro e w' ⟨rfl, rfl⟩
    go_wp2_with fail
    refine (G6.out _ HB.out).mono ?_
    rintro e w' ⟨rfl, rfl⟩
    go_wp2_with fail
    refine (G7.out _ HB.out).mono ?_
    rintro e w' ⟨rfl, rfl⟩
    go_wp2_with fail
    refine (G8.out _ HB.out).mono ?_
    rintro e w1 ⟨rfl, b1⟩
    have B1 := Lib.hid b1
    clear b1
    go_wp2_with fail
    refine (fixed_any _).mono ?_
    rintro e w2 ⟨rfl, b1⟩
    have B2 := Lib.hid (B1.out.trans (b1.mono B1.out.size))
    clear b1
    go_wp2
    go_ret
    exact ⟨rfl, B2.out⟩
end Go.Proofs.Ytclbhnmgpljboaa
