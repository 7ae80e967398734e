/- The table of what Ops say, as the program's text lays it. -/
import Derived.Test.YtnjndlbhnkhlhaaDoorRows
import Derived.Test.YtnjndlbhnkhlhaaDoorPdT
import Derived.Test.YtnjndlbhnkhlhaaDoorLbLift
import Derived.Lib.LaidTab
import Derived.FnData
namespace Go.Proofs.YtnjndlbhnkhlhaaDoor
open Go Go.ChangeShapes Go.WideShapes Go.ChangeAt Go.WideMaps Go.WideElems Go.RowKit
set_option maxRecDepth 20000

theorem gTab : Tryd.prog.globalNamed "equerry/pred.sayings" = some 1 := by kernel_rfl
theorem tTab : (Tryd.prog.globals[1]?).map (·.type) = some 94 := by kernel_rfl
theorem cellsA : Tryd.prog.cellsOf 94 = 54 := by kernel_rfl
theorem cellsS : Tryd.prog.cellsOf 93 = 6 := by kernel_rfl
theorem cellsB : Tryd.prog.cellsOf 4 = 1 := by kernel_rfl
theorem arr_of {H : Type} {enc : TypeId × Value → H} {P : Program} {w : World} {base : Nat} {sp : Nat → Bool} {held : Bool} {fuel : Nat} {t e : TypeId} {n c : Nat} {cs : List Value} {D : List (DataW H)} {p : List MemPlace}
    (ht : P.underlying t = some (.array n e)) (hce : P.cellsOf e = c) (h : DataW.trod enc P w base sp held fuel t cs = some (.agg D, p)) :
    ∃ fuel', ∀ i, i < n → ∃ b, DataW.trod enc P w base sp held fuel' e ((cs.drop (i * c)).take c) = some b ∧ D[i]? = some b.1 := by
  cases fuel with
  | zero => simp [DataW.trod] at h
  | succ fuel =>
    refine ⟨fuel, fun i hi => ?_⟩
    simp only [DataW.trod, ht, hce] at h
    split at h
    · obtain ⟨xs, hm, hx⟩ := Option.map_eq_some_iff.1 h
      obtain ⟨b, hb, hf⟩ := Lib.mapM_at hm i i (by simp [hi])
      refine ⟨b, hf, ?_⟩
      have hD : xs.map (·.1) = D := by
        have := congrArg Prod.fst hx
        simpa using this
      rw [← hD, List.getElem?_map, hb]; rfl
    · cases h
def sayD {H : Type} (l : List Bool) : DataW H := .agg (l.map fun b => .lit (.bool b))
theorem says_laid {H : Type} : (Rows.laid_equerry_pred_sayings : DataW H) = .agg (says.map sayD) := rfl
theorem of_laid {W : World} (h : laidMetH Tryd.prog [("equerry/pred.sayings", Rows.laid_equerry_pred_sayings)] W) : Tab W := by
  rw [MakeChecks.laidMetH_plain _ _ _ (by kernel_rfl)] at h
  obtain ⟨ps, ⟨g', t', cs, fuel, p, q, hg', ht', hvar, hd, _, _⟩, _⟩ := h
  obtain rfl := Option.some.inj (gTab.symm.trans hg')
  obtain rfl := Option.some.inj (tTab.symm.trans ht')
  rw [says_laid] at hd
  obtain ⟨f1, ha⟩ := arr_of Tryd.underlying94 cellsS hd
  intro o j ho hj
  obtain ⟨b, hb, hD⟩ := ha o ho
  obtain ⟨xs, n, _, hx, hl, hlen, hf⟩ := DataW.trod_struct Tryd.underlying93 hb
  rw [World.var?_cell gTab hvar]
  have hDl : ∃ l : List Bool, says[o]? = some l ∧ b.1 = sayD l := by
    rw [List.getElem?_map] at hD
    obtain ⟨l, h1, h2⟩ := Option.map_eq_some_iff.1 hD
    exact ⟨l, h1, h2.symm⟩
  obtain ⟨l, hl1, hl2⟩ := hDl
  have hxs : xs.map (·.1) = l.map fun b => (DataW.lit (.bool b) : DataW _) := by
    have := (congrArg Prod.fst hx).symm.trans hl2
    simpa [sayD] using this
  have hsy : l[j]? = some (sy o j) := by
    have hln : l.length = 6 := by
      have := congrArg List.length hxs
      simp only [List.length_map] at this
      rw [← this, hlen]; rfl
    unfold sy
    rw [show says.getD o [] = l by rw [List.getD_eq_getElem?_getD, hl1]; rfl, List.getD_eq_getElem?_getD, List.getElem?_eq_getElem (by omega)]
    rfl
  have hxj : ∃ y, xs[j]? = some y ∧ y.1 = .lit (.bool (sy o j)) := by
    have h2 : (xs.map (·.1))[j]? = some (DataW.lit (.bool (sy o j))) := by rw [hxs, List.getElem?_map, hsy]; rfl
    rw [List.getElem?_map] at h2
    obtain ⟨y, h3, h4⟩ := Option.map_eq_some_iff.1 h2
    exact ⟨y, h3, h4⟩
  obtain ⟨y, hy1, hy2⟩ := hxj
  have key : ∀ f : Field, f.type = 4 → f.offset = j → DataW.trod (fun _ => ()) Tryd.prog W 0 (fun _ => true) false n f.type ((((cs.toList.drop (o * 6)).take 6).drop f.offset).take (Tryd.prog.cellsOf f.type)) = xs[j]? → cs[o * 6 + j]? = some (.bool (sy o j)) := by
    intro f e1 e2 h5
    rw [e1, e2, cellsB, hy1] at h5
    obtain ⟨bb, hc, hyb⟩ := DataW.trod_bool Tryd.underlying4 h5
    rw [hyb] at hy2
    simp only [DataW.lit.injEq, Lit.bool.injEq] at hy2
    subst hy2
    have := congrArg (·[0]?) hc
    simp [List.getElem?_drop, hj] at this
    simpa using this
  obtain rfl | rfl | rfl | rfl | rfl | rfl : j = 0 ∨ j = 1 ∨ j = 2 ∨ j = 3 ∨ j = 4 ∨ j = 5 := by omega
  all_goals exact key _ rfl rfl (hf _ _ rfl)
theorem door_met (os : Os) (args : Array Value) : laidMetH Tryd.prog [("equerry/pred.sayings", Rows.laid_equerry_pred_sayings)] ((World.doorLaid Tryd.prog 400 os).forCall (fun _ _ => 0) ⟨#[], args, []⟩).memory :=
  laidMetH_of_parts3 (fuel := 8) (laidMet_of_run' 8 (by kernel_rfl) (by kernel_rfl)) (by kernel_rfl) (by kernel_rfl)
end Go.Proofs.YtnjndlbhnkhlhaaDoor
