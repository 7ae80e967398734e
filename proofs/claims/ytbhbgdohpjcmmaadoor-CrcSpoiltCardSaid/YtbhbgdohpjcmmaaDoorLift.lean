/- What comes in, told in the walks' words: the table as the program's text lays it; slices of bytes; numbers of 32 bits. -/
import Derived.Test.YtbhbgdohpjcmmaaDoorRows
import Derived.Test.YtbhbgdohpjcmmaaDoorC
import Derived.ProofKit
import Derived.LaidMore
import Derived.OpenShut
import Derived.Stop.Joined
import Derived.ChangeOld
import Derived.Lib.LaidTab
namespace Go.Proofs.YtbhbgdohpjcmmaaDoor
open Go Go.ChangeShapes Go.WideShapes Go.ChangeAt Go.WideMaps Go.WideElems Go.RowKit Crc

theorem own : ownKnob Tryd.prog.godebug = none := by kernel_rfl
theorem laidOut : laidOutB Tryd.prog = true := by kernel_rfl
theorem gTab : Tryd.prog.globalNamed "equerry/crc.halfByte" = some 0 := by kernel_rfl
theorem tTab : (Tryd.prog.globals[0]?).map (·.type) = some 33 := by kernel_rfl
theorem cells33 : Tryd.prog.cellsOf 33 = 16 := by kernel_rfl
theorem cells23 : Tryd.prog.cellsOf 23 = 1 := by kernel_rfl
def nums : List Int := (List.range 16).map fun i => (tab i : Int)

theorem of_laid {W : World} (h : laidMetH Tryd.prog [("equerry/crc.halfByte", Rows.laid_equerry_crc_halfByte)] W) : Tab W := by
  rw [MakeChecks.laidMetH_plain _ _ _ (by kernel_rfl)] at h
  have h2 : Lib.TabIs Tryd.prog W "equerry/crc.halfByte" .u32 nums := Lib.tabIs_of_head (rest := []) gTab tTab Tryd.underlying33 Tryd.underlying23 cells23 cells33 h
  intro i hi
  rw [h2.cell gTab i (by simpa [nums] using hi)]
  simp [nums, List.getD_eq_getElem?_getD, hi]

theorem door_met (os : Os) (args : Array Value) : laidMetH Tryd.prog [("equerry/crc.halfByte", Rows.laid_equerry_crc_halfByte)] ((World.doorLaid Tryd.prog 400 os).forCall (fun _ _ => 0) ⟨#[], args, []⟩).memory :=
  laidMetH_of_parts3 (fuel := 8) (laidMet_of_run' 8 (by kernel_rfl) (by kernel_rfl)) (by kernel_rfl) (by kernel_rfl)

theorem byt_of {H : Type} {enc : TypeId × Value → H} {W : World} {base : Nat} {sp : Nat → Bool} {held : Bool} {a : Option Addr} {len cap : Nat} {d : DataW H} {p : List MemPlace}
    (h : DataW.Trod enc Tryd.prog W base sp held 22 (.slice a len cap) d p) : ∃ l : List Int, l.length = len ∧ len ≤ maxLen ∧ (a = none → cap = 0) ∧ Byt W a l := by
  obtain ⟨fuel, hf⟩ := h
  rcases open_ints Tryd.underlying22 Tryd.underlying5 (by kernel_rfl) hf with ⟨hcs, _⟩ | ⟨x, n, c, zs, hcs, _, hl, hm, hz, _, hcell, hwz⟩
  · simp [Value.cells] at hcs
    obtain ⟨rfl, rfl, rfl⟩ := hcs
    exact ⟨[], rfl, by unfold maxLen; omega, fun _ => rfl, fun i hi => absurd hi (by simp), by simp⟩
  · simp [Value.cells] at hcs
    obtain ⟨rfl, rfl, rfl⟩ := hcs
    have hlz : len ≤ zs.length := by rw [hz]; split <;> omega
    refine ⟨zs.take len, by rw [List.length_take]; omega, by omega, fun h => (by cases h), fun i hi => ?_, fun c hc => ?_⟩
    · simp only [List.length_take] at hi
      have hc := hcell i (by omega)
      obtain ⟨b, off, spot⟩ := x
      have hs : spot = none := by
        have := World.cell?_spot (hcell 0 (by omega))
        simpa [Addr.add] using this
      subst hs
      refine ⟨b, off, rfl, ?_⟩
      rw [← add_plain, hc]
      have : i < len := by omega
      simp [this]
    · have := hwz c (List.mem_of_mem_take hc)
      have := bounds_u8 this
      omega
theorem num_of {n : Int} (h : (Lit.int .u32 n).wf = true) : ∃ r : BitVec 32, n = (r.toNat : Int) := by
  refine ⟨BitVec.ofNat 32 n.toNat, ?_⟩
  have h2 : 0 ≤ n ∧ n ≤ 4294967295 := by
    simp only [Lit.wf, Bool.and_eq_true, decide_eq_true_eq] at h
    exact h
  rw [BitVec.toNat_ofNat, Nat.mod_eq_of_lt (by omega)]
  omega
end Go.Proofs.YtbhbgdohpjcmmaaDoor
