/- What comes in, told in the walks' words: the table as the program's text lays it; slices of bytes; numbers of 32 bits. -/
import Derived.Test.YtcodihgjfhoepaaGreatDoorRows
import Derived.Test.YtcodihgjfhoepaaGreatDoorSgN
import Derived.LaidSub
import Derived.Deep.Slices
import Derived.ProofKit
import Derived.LaidMore
import Derived.OpenShut
import Derived.Stop.Joined
import Derived.ChangeOld
import Derived.Lib.LaidTab
namespace Go.Proofs.YtcodihgjfhoepaaGreatDoor
open Go Go.ChangeShapes Go.WideShapes Go.ChangeAt Go.WideMaps Go.WideElems Go.RowKit Crc Pk

theorem own : ownKnob Tryz.prog.godebug = none := by kernel_rfl
theorem laidOut : laidOutB Tryz.prog = true := by kernel_rfl
theorem gTab : Tryz.prog.globalNamed "equerry/crc.halfByte" = some 0 := by kernel_rfl
theorem tTab : (Tryz.prog.globals[0]?).map (·.type) = some 175 := by kernel_rfl
theorem tPow : (Tryz.prog.globals[1]?).map (·.type) = some 183 := by kernel_rfl
theorem cellsA : Tryz.prog.cellsOf 175 = 16 := by kernel_rfl
theorem cellsB : Tryz.prog.cellsOf 127 = 1 := by kernel_rfl
theorem cellsC : Tryz.prog.cellsOf 183 = 20 := by kernel_rfl
theorem cellsD : Tryz.prog.cellsOf 30 = 1 := by kernel_rfl
theorem g64 : Tryz.prog.globalNamed "math/bits.deBruijn64tab" = some 3 := by kernel_rfl
theorem t64 : (Tryz.prog.globals[3]?).map (·.type) = some 190 := by kernel_rfl
theorem cellsE : Tryz.prog.cellsOf 190 = 64 := by kernel_rfl
theorem cellsF : Tryz.prog.cellsOf 5 = 1 := by kernel_rfl
def nums64 : List Int := [0,1,56,2,57,49,28,3,61,58,42,50,38,29,17,4,62,47,59,36,45,43,51,22,53,39,33,30,24,18,12,5,63,55,48,27,60,41,37,16,46,35,44,21,52,32,23,11,54,26,40,15,34,20,31,10,25,14,19,9,13,8,7,6]
def nums : List Int := (List.range 16).map fun i => (tab i : Int)
abbrev LD : List (String × DataW Unit) := [("equerry/crc.halfByte", Rows.laid_equerry_crc_halfByte), ("math/bits.deBruijn32tab", Rows.laid_math_bits_deBruijn32tab), ("math/bits.deBruijn64tab", Rows.laid_math_bits_deBruijn64tab), ("internal/strconv.uint64pow10", Rows.laid_internal_strconv_uint64pow10)]

theorem of_laid {W : World} (h : laidMetH Tryz.prog LD W) : Tb W ∧ 4 ≤ W.heap.size := by
  rw [MakeChecks.laidMetH_plain _ _ _ (by kernel_rfl)] at h
  have h2 : Lib.TabIs Tryz.prog W "equerry/crc.halfByte" .u32 nums := Lib.tabIs_of_head gTab tTab Tryz.underlying175 Tryz.underlying127 cellsB cellsA h
  have h3 := laidMet.filter (fun x => x.1 == "internal/strconv.uint64pow10") h
  have e3 : LD.filter (fun x => x.1 == "internal/strconv.uint64pow10") = [("internal/strconv.uint64pow10", Lib.tabData .u64 Lib.pow10Tab)] := by
    simp only [List.filter]
    rfl
  rw [e3] at h3
  have h5 := laidMet.filter (fun x => x.1 == "math/bits.deBruijn64tab") h
  have e5 : LD.filter (fun x => x.1 == "math/bits.deBruijn64tab") = [("math/bits.deBruijn64tab", Lib.tabData .u8 nums64)] := by
    simp only [List.filter]
    rfl
  rw [e5] at h5
  have h6 : Lib.TabIs Tryz.prog W "math/bits.deBruijn64tab" .u8 nums64 := Lib.tabIs_of_head g64 t64 Tryz.underlying190 Tryz.underlying5 cellsF cellsE h5
  have l6 := World.block_lt_of_cell? _ _ (h6.cell g64 0 (by decide))
  simp only at l6
  have h4 : Lib.TabIs Tryz.prog W "internal/strconv.uint64pow10" .u64 Lib.pow10Tab := Lib.tabIs_of_head gPow tPow Tryz.underlying183 Tryz.underlying30 cellsD cellsC h3
  have hT : Tb W := ⟨fun i hi => by
    rw [h2.cell gTab i (by simpa [nums] using hi)]
    simp [nums, List.getD_eq_getElem?_getD, hi], h4⟩
  exact ⟨hT, by omega⟩

theorem door_met (os : Os) (args : Array Value) : laidMetH Tryz.prog LD ((World.doorLaid Tryz.prog 400 os).forCall (fun _ _ => 0) ⟨#[], args, []⟩).memory :=
  laidMetH_of_parts3 (fuel := 8) (laidMet_of_run' 8 (by kernel_rfl) (by kernel_rfl)) (by kernel_rfl) (by kernel_rfl)

theorem byt_of {H : Type} {enc : TypeId × Value → H} {W : World} {base : Nat} {sp : Nat → Bool} {held : Bool} {a : Option Addr} {len cap : Nat} {d : DataW H} {p : List MemPlace}
    (h : DataW.Trod enc Tryz.prog W base sp held 29 (.slice a len cap) d p) : ∃ l : List Int, l.length = len ∧ len ≤ maxLen ∧ len ≤ cap ∧ (a = none → cap = 0) ∧ Byt W a l := by
  obtain ⟨fuel, hf⟩ := h
  rcases open_ints Tryz.underlying29 Tryz.underlying5 (by kernel_rfl) hf with ⟨hcs, _⟩ | ⟨x, n, c, zs, hcs, _, hl, hm, hz, _, hcell, hwz⟩
  · simp [Value.cells] at hcs
    obtain ⟨rfl, rfl, rfl⟩ := hcs
    exact ⟨[], rfl, by unfold maxLen; omega, by omega, fun _ => rfl, fun i hi => absurd hi (by simp), by simp⟩
  · simp [Value.cells] at hcs
    obtain ⟨rfl, rfl, rfl⟩ := hcs
    have hlz : len ≤ zs.length := by rw [hz]; split <;> omega
    refine ⟨zs.take len, by rw [List.length_take]; omega, by omega, hl, fun h => (by cases h), fun i hi => ?_, fun c hc => ?_⟩
    · simp only [List.length_take] at hi
      have hc := hcell i (by omega)
      obtain ⟨b, off, spot⟩ := x
      have hs : spot = none := by
        have := World.cell?_spot (hcell 0 (by omega))
        simpa [Addr.add] using this
      subst hs
      refine ⟨b, off, rfl, ?_⟩
      rw [← add_plain, hc]
      have : i < len := by omega
      simp [this]
    · have := hwz c (List.mem_of_mem_take hc)
      have := bounds_u8 this
      omega
end Go.Proofs.YtcodihgjfhoepaaGreatDoor
