/- What comes in: both tables as the program's text lays them. -/
import Derived.Test.YtpnllbojifnopaaGreatDoorYB1
import Derived.Test.YtpnllbojifnopaaGreatDoorTrV
import Derived.LaidSub
import Derived.Lib.LaidTab
namespace Go.Proofs.YtpnllbojifnopaaGreatDoor
open Go Go.ChangeShapes Go.WideShapes Go.ChangeAt Go.WideMaps Go.WideElems Go.RowKit
theorem g32 : Tryz.prog.globalNamed "math/bits.deBruijn32tab" = some 2 := by kernel_rfl
theorem t32 : (Tryz.prog.globals[2]?).map (·.type) = some 257 := by kernel_rfl
theorem cells32 : Tryz.prog.cellsOf 257 = 32 := by kernel_rfl
theorem cells8 : Tryz.prog.cellsOf 5 = 1 := by kernel_rfl
def nums32 : List Int := [0, 1, 28, 2, 29, 14, 24, 3, 30, 22, 20, 15, 25, 17, 4, 8, 31, 27, 13, 23, 21, 19, 16, 7, 26, 12, 18, 6, 11, 5, 10, 9]
abbrev LD : List (String × DataW Unit) := [("math/bits.deBruijn32tab", Rows.laid_math_bits_deBruijn32tab), ("equerry/pred.sayings", Rows.laid_equerry_pred_sayings)]
theorem laid_tab {W : World} (h : laidMetH Tryz.prog LD W) : Tab W := by
  rw [MakeChecks.laidMetH_plain _ _ _ (by kernel_rfl)] at h
  have h3 := laidMet.filter (fun x => x.1 == "equerry/pred.sayings") h
  have e3 : LD.filter (fun x => x.1 == "equerry/pred.sayings") = [("equerry/pred.sayings", Rows.laid_equerry_pred_sayings)] := by
    simp only [List.filter]
    rfl
  rw [e3] at h3
  exact of_laid (by rw [MakeChecks.laidMetH_plain _ _ _ (by kernel_rfl)]; exact h3)
theorem laid_tab5 {W : World} (h : laidMetH Tryz.prog LD W) : Tab5 W := by
  rw [MakeChecks.laidMetH_plain _ _ _ (by kernel_rfl)] at h
  have h2 : Lib.TabIs Tryz.prog W "math/bits.deBruijn32tab" .u8 nums32 := Lib.tabIs_of_head g32 t32 Tryz.underlying257 Tryz.underlying5 cells8 cells32 h
  intro j hj
  rw [h2.cell g32 j (by simpa [nums32] using hj)]
  have e : nums32.getD j 0 = ((Lib.deBruijn32tab.getD j 0 : Nat) : Int) := by
    have hall : ∀ j : Fin 32, nums32.getD j.1 0 = ((Lib.deBruijn32tab.getD j.1 0 : Nat) : Int) := by decide +kernel
    exact hall ⟨j, hj⟩
  rw [e]
theorem door_met2 (os : Os) (args : Array Value) : laidMetH Tryz.prog LD ((World.doorLaid Tryz.prog 400 os).forCall (fun _ _ => 0) ⟨#[], args, []⟩).memory :=
  laidMetH_of_parts3 (fuel := 8) (laidMet_of_run' 8 (by kernel_rfl) (by kernel_rfl)) (by kernel_rfl) (by kernel_rfl)
end Go.Proofs.YtpnllbojifnopaaGreatDoor
