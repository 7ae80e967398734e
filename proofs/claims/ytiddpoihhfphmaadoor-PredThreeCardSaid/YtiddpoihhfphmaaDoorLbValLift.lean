/- What comes in, told in the walks' words: values by their bits. -/
import Derived.Test.YtiddpoihhfphmaaDoorLbLift
import Derived.Test.YtiddpoihhfphmaaDoorLbBits
import Derived.Test.YtiddpoihhfphmaaDoorLbValRaw
import Derived.Lib.SmallJoins
namespace Go.Proofs.YtiddpoihhfphmaaDoor
open Go Go.ChangeShapes Go.WideShapes Go.ChangeAt Go.WideMaps Go.WideElems Go.RowKit Go.Joins
set_option maxRecDepth 20000

theorem raw_of {H : Type} {enc : TypeId × Value → H} {W : World} {base b0 : Nat} {sp : Nat → Bool} {held : Bool} {r : Reach} {v : Value} {d : DataW H} {p : List MemPlace}
    (hv : Value.okWide Tryd.prog W r b0 54 v) (h : DataW.Trod enc Tryd.prog W base sp held 54 v d p) :
    ∃ (k n : Int) (b : Nat) (s : ByteArray), v = rw4 k n b s ∧ 0 ≤ k ∧ k < 256 ∧ -9223372036854775808 ≤ n ∧ n ≤ 9223372036854775807 ∧ b < 18446744073709551616 ∧ s.size ≤ maxLen := by
  obtain ⟨v0, v1, v2, v3, y0, y1, y2, y3, m, rfl, _, _, h0, h1, h2, h3⟩ := open_agg4 Tryd.underlying54 (by kernel_rfl) (by kernel_rfl) hv h
  obtain ⟨a0, e0, _, w0⟩ := DataW.trod_int Tryd.underlying5 h0
  obtain ⟨a1, e1, _, w1⟩ := DataW.trod_int Tryd.underlying2 h1
  obtain ⟨a2, e2, _, w2⟩ := DataW.trod_int Tryd.underlying52 h2
  obtain ⟨s, e3, _, w3⟩ := DataW.trod_string Tryd.underlying9 h3
  simp only [List.cons.injEq, and_true] at e0 e1 e2 e3
  subst e0 e1 e2 e3
  obtain ⟨b, rfl, hb⟩ := nat_of w2
  obtain ⟨lo, hi⟩ := bounds_i64 w1
  have k8 := bounds_u8 w0
  exact ⟨a0, a1, b, s, rfl, by omega, by omega, lo, hi, hb, w3⟩
end Go.Proofs.YtiddpoihhfphmaaDoor
