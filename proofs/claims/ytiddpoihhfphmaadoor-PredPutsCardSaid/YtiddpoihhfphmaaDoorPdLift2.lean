/- What comes in: a question's topic is a byte. -/
import Derived.Test.YtiddpoihhfphmaaDoorPdLift
namespace Go.Proofs.YtiddpoihhfphmaaDoor
open Go Go.ChangeShapes Go.WideShapes Go.ChangeAt Go.WideMaps Go.WideElems Go.RowKit Go.Joins
set_option maxRecDepth 20000

theorem praw_of2 {H : Type} {enc : TypeId × Value → H} {W : World} {base b0 : Nat} {sp : Nat → Bool} {held : Bool} {r : Reach} {v : Value} {d : DataW H} {p : List MemPlace}
    (hv : Value.okWide Tryd.prog W r b0 24 v) (h : DataW.Trod enc Tryd.prog W base sp held 24 v d p) :
    ∃ (x : Bool) (t : Int) (a : Option Addr) (n c : Nat) (L : List TT), v = pv x t a n c ∧ (0 ≤ t ∧ t < 256) ∧ L.length = n ∧ n ≤ maxLen ∧ Rawts W a L ∧ (∀ u ∈ L, Okt u) ∧ ∀ u ∈ L, u.2.2.2.2.2.size ≤ maxLen := by
  obtain ⟨v0, v1, v2, y0, y1, y2, m, rfl, _, _, h0, h1, h2⟩ := open_agg3 Tryd.underlying24 (by kernel_rfl) (by kernel_rfl) hv h
  obtain ⟨x0, e0, _⟩ := DataW.trod_bool Tryd.underlying4 h0
  obtain ⟨a0, e1, _, w0⟩ := DataW.trod_int Tryd.underlying5 h1
  simp only [List.cons.injEq, and_true] at e0 e1
  subst e0 e1
  obtain ⟨a, n, c, L, rfl, g2, g3, g4, g5, g6⟩ := traws_of h2
  have b8 := bounds_u8 w0
  exact ⟨x0, a0, a, n, c, L, rfl, by omega, g2, g3, g4, g5, g6⟩
end Go.Proofs.YtiddpoihhfphmaaDoor
