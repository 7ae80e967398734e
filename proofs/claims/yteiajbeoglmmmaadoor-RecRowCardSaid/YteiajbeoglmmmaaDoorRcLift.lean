/- What comes in, told in the walks' words: the table as the program's text lays it; slices of bytes; numbers of 32 bits. -/
import Derived.Test.YteiajbeoglmmmaaDoorRows
import Derived.Test.YteiajbeoglmmmaaDoorRcE
import Derived.Deep.Slices
import Derived.ProofKit
import Derived.LaidMore
import Derived.OpenShut
import Derived.Stop.Joined
import Derived.ChangeOld
import Derived.Lib.LaidTab
namespace Go.Proofs.YteiajbeoglmmmaaDoor
open Go Go.ChangeShapes Go.WideShapes Go.ChangeAt Go.WideMaps Go.WideElems Go.RowKit Crc

theorem own : ownKnob Tryd.prog.godebug = none := by kernel_rfl
theorem laidOut : laidOutB Tryd.prog = true := by kernel_rfl
theorem gTab : Tryd.prog.globalNamed "equerry/crc.halfByte" = some 0 := by kernel_rfl
theorem tTab : (Tryd.prog.globals[0]?).map (·.type) = some 54 := by kernel_rfl
theorem cells33 : Tryd.prog.cellsOf 54 = 16 := by kernel_rfl
theorem cells23 : Tryd.prog.cellsOf 47 = 1 := by kernel_rfl
def nums : List Int := (List.range 16).map fun i => (tab i : Int)

theorem of_laid {W : World} (h : laidMetH Tryd.prog [("equerry/crc.halfByte", Rows.laid_equerry_crc_halfByte)] W) : Tab W := by
  rw [MakeChecks.laidMetH_plain _ _ _ (by kernel_rfl)] at h
  have h2 : Lib.TabIs Tryd.prog W "equerry/crc.halfByte" .u32 nums := Lib.tabIs_of_head (rest := []) gTab tTab Tryd.underlying54 Tryd.underlying47 cells23 cells33 h
  intro i hi
  rw [h2.cell gTab i (by simpa [nums] using hi)]
  simp [nums, List.getD_eq_getElem?_getD, hi]

theorem door_met (os : Os) (args : Array Value) : laidMetH Tryd.prog [("equerry/crc.halfByte", Rows.laid_equerry_crc_halfByte)] ((World.doorLaid Tryd.prog 400 os).forCall (fun _ _ => 0) ⟨#[], args, []⟩).memory :=
  laidMetH_of_parts3 (fuel := 8) (laidMet_of_run' 8 (by kernel_rfl) (by kernel_rfl)) (by kernel_rfl) (by kernel_rfl)

theorem byt_of {H : Type} {enc : TypeId × Value → H} {W : World} {base : Nat} {sp : Nat → Bool} {held : Bool} {a : Option Addr} {len cap : Nat} {d : DataW H} {p : List MemPlace}
    (h : DataW.Trod enc Tryd.prog W base sp held 22 (.slice a len cap) d p) : ∃ l : List Int, l.length = len ∧ len ≤ maxLen ∧ len ≤ cap ∧ (a = none → cap = 0) ∧ Byt W a l := by
  obtain ⟨fuel, hf⟩ := h
  rcases open_ints Tryd.underlying22 Tryd.underlying5 (by kernel_rfl) hf with ⟨hcs, _⟩ | ⟨x, n, c, zs, hcs, _, hl, hm, hz, _, hcell, hwz⟩
  · simp [Value.cells] at hcs
    obtain ⟨rfl, rfl, rfl⟩ := hcs
    exact ⟨[], rfl, by unfold maxLen; omega, by omega, fun _ => rfl, fun i hi => absurd hi (by simp), by simp⟩
  · simp [Value.cells] at hcs
    obtain ⟨rfl, rfl, rfl⟩ := hcs
    have hlz : len ≤ zs.length := by rw [hz]; split <;> omega
    refine ⟨zs.take len, by rw [List.length_take]; omega, by omega, hl, fun h => (by cases h), fun i hi => ?_, fun c hc => ?_⟩
    · simp only [List.length_take] at hi
      have hc := hcell i (by omega)
      obtain ⟨b, off, spot⟩ := x
      have hs : spot = none := by
        have := World.cell?_spot (hcell 0 (by omega))
        simpa [Addr.add] using this
      subst hs
      refine ⟨b, off, rfl, ?_⟩
      rw [← add_plain, hc]
      have : i < len := by omega
      simp [this]
    · have := hwz c (List.mem_of_mem_take hc)
      have := bounds_u8 this
      omega
theorem cells30 : Tryd.prog.cellsOf 44 = 4 := by kernel_rfl
theorem cells5 : Tryd.prog.cellsOf 5 = 1 := by kernel_rfl
/- an array of four bytes that came in -/
theorem four_of {H : Type} {enc : TypeId × Value → H} {W : World} {base : Nat} {b0 : Nat} {sp : Nat → Bool} {held : Bool} {v : Value} {d : DataW H} {p : List MemPlace}
    (hv : Value.okWide Tryd.prog W .any b0 44 v) (h : DataW.Trod enc Tryd.prog W base sp held 44 v d p) :
    ∃ x0 x1 x2 x3 : Int, v = .agg #[.int .u8 x0, .int .u8 x1, .int .u8 x2, .int .u8 x3] ∧ (0 ≤ x0 ∧ x0 < 256) ∧ (0 ≤ x1 ∧ x1 < 256) ∧ (0 ≤ x2 ∧ x2 < 256) ∧ (0 ≤ x3 ∧ x3 < 256) := by
  obtain ⟨cs, rfl, hsz, _⟩ : ∃ cs, v = .agg cs ∧ cs.size = Tryd.prog.cellsOf 44 ∧ Row.okWide Tryd.prog W .any b0 44 cs := by
    simpa [Value.okWide, Tryd.underlying44] using hv
  rw [cells30] at hsz
  obtain ⟨l⟩ := cs
  match l, hsz with
  | [c0, c1, c2, c3], _ =>
    obtain ⟨fuel, hf⟩ := h
    obtain ⟨y0, y1, y2, y3, m, _, h0, h1, h2, h3⟩ := trod_array4 Tryd.underlying44 cells5 hf
    obtain ⟨x0, e0, _, w0⟩ := DataW.trod_int Tryd.underlying5 h0
    obtain ⟨x1, e1, _, w1⟩ := DataW.trod_int Tryd.underlying5 h1
    obtain ⟨x2, e2, _, w2⟩ := DataW.trod_int Tryd.underlying5 h2
    obtain ⟨x3, e3, _, w3⟩ := DataW.trod_int Tryd.underlying5 h3
    simp only [List.cons.injEq, and_true] at e0 e1 e2 e3
    subst e0 e1 e2 e3
    have := bounds_u8 w0
    have := bounds_u8 w1
    have := bounds_u8 w2
    have := bounds_u8 w3
    exact ⟨x0, x1, x2, x3, rfl, by omega, by omega, by omega, by omega⟩

theorem nat16_of {a : Int} (h : (Lit.int .u16 a).wf = true) : ∃ b : Nat, a = (b : Int) ∧ b < 65536 := by
  have h2 : 0 ≤ a ∧ a ≤ 65535 := by
    simp only [Lit.wf, Bool.and_eq_true, decide_eq_true_eq] at h
    exact h
  exact ⟨a.toNat, by omega, by omega⟩
end Go.Proofs.YteiajbeoglmmmaaDoor
