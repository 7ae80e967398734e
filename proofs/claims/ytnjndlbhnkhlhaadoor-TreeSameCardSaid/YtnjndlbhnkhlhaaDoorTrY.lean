/- Same: of patterns. -/
import Derived.Test.YtnjndlbhnkhlhaaDoorTrX
namespace Go.Proofs.YtnjndlbhnkhlhaaDoor
open Go Go.RowKit Pk Rl
set_option maxRecDepth 20000

set_option maxHeartbeats 2000000 in
theorem tsame_any (a : Option Addr) (n c : Nat) (D : List Nd) (u : Int) (a' : Option Addr) (n' c' : Nat) (E : List Nd) (u' : Int) (w : World) (hP : Pt w a n c D) (hQ : Pt w a' n' c' E) :
    Calls Tryd.prog 17 #[ptv a n c u, ptv a' n' c' u'] w fun e w' => e = .returned (.bool ((u == u') && ssn D E)) ∧ Below w.heap.size w w' := by
  have B0 := Lib.hid (below2 w (ptobj a n c u) (ptobj a' n' c' u'))
  have S := Lib.hid (equalNodes_any a n c D a' n' c' E _ (hP.below B0.out) (hQ.below B0.out))
  generalize ssn D E = R at S ⊢
  clear hP hQ
  obtain ⟨z, hz⟩ : ∃ z, (u == u') = z := ⟨_, rfl⟩
  rw [hz]
  cases z
  · clear S
    go_enter Tryd.func17, Tryd.ntmps17
    go_wp2_with fail
    go_ret
    exact ⟨rfl, B0.out⟩
  · go_enter Tryd.func17, Tryd.ntmps17
    go_wp2_with fail
    refine S.out.mono ?_
    rintro e w2 ⟨rfl, hb⟩
    have B2 := Lib.hid (below_go B0.out hb)
    clear hb S B0
    go_wp2_with fail
    go_ret
    exact ⟨rfl, B2.out⟩
set_option maxHeartbeats 2000000 in
theorem rtsame_any (a : Option Addr) (n c : Nat) (D : List Nd) (u : Int) (a' : Option Addr) (n' c' : Nat) (E : List Nd) (u' : Int) (w : World) (hP : Pt w a n c D) (hQ : Pt w a' n' c' E) :
    Calls Tryd.prog 16 #[ptv a n c u, ptv a' n' c' u'] w fun e w' => e = .returned (.bool ((u == u') && ssn D E)) ∧ Below w.heap.size w w' := by
  have B0 := Lib.hid (below2 w (ptobj a n c u) (ptobj a' n' c' u'))
  have S := Lib.hid (rsameNodes_any a n c D a' n' c' E _ (hP.below B0.out) (hQ.below B0.out))
  generalize ssn D E = R at S ⊢
  clear hP hQ
  obtain ⟨z, hz⟩ : ∃ z, (u == u') = z := ⟨_, rfl⟩
  rw [hz]
  cases z
  · clear S
    go_enter Tryd.func16, Tryd.ntmps16
    go_wp2_with fail
    go_ret
    exact ⟨rfl, B0.out⟩
  · go_enter Tryd.func16, Tryd.ntmps16
    go_wp2_with fail
    refine S.out.mono ?_
    rintro e w2 ⟨rfl, hb⟩
    have B2 := Lib.hid (below_go B0.out hb)
    clear hb S B0
    go_wp2_with fail
    go_ret
    exact ⟨rfl, B2.out⟩
/- clones: of tests, of nodes -/
set_option maxHeartbeats 1000000 in
theorem tclone_any (a : Option Addr) (n c : Nat) (L : List TT) (w : World) (hn : L.length = n) (hm : n ≤ 1000) (hv : Tsts w a L) :
    Calls Tryd.prog 31 #[.slice a n c] w fun e w' => ∃ A c', e = .returned (.slice A n c') ∧ OwnT w' w.heap.size (.slice A n c') L ∧ Below w.heap.size w w' := by
  rcases a with _ | ad
  · have hl : L = [] := by
      rcases L with _ | ⟨x, L⟩
      · rfl
      · obtain ⟨b, off, h, _⟩ := hv 0 (by simp)
        cases h
    subst hl
    subst hn
    have en : ∀ w, (binOp .eql 35 (.slice none 0 c) (.slice none 0 0)).run Tryd.prog w = .ok (.bool true) w := fun w => Lib.run_eql_slice_nil w 35 53 none 0 c 0 0 Tryd.underlying35
    go_enter Tryd.func31, Tryd.ntmps31
    go_wp2
    go_ret
    exact ⟨none, 0, rfl, OwnT.nil _ _, Below.refl _ _⟩
  · have HN := Lib.hid hn
    have HV := Lib.hid (hv.below (below_alloc w (.cells #[] 53)))
    have B0 := Lib.hid (below_alloc w (.cells #[] 53))
    have O0 := Lib.hid (OwnT.empty w)
    have HK := Lib.hid (show ([] ++ L).length = n by simpa using hn)
    have en : ∀ w, (binOp .eql 35 (.slice (some ad) n c) (.slice none 0 0)).run Tryd.prog w = .ok (.bool false) w := fun w => Lib.run_eql_slice_nil w 35 53 (some ad) n c 0 0 Tryd.underlying35
    clear hn hv
    go_enter Tryd.func31, Tryd.ntmps31
    go_wp2_with (at_builtin; refine wp_appt (.tmp 5) (.tmp 6) _ rfl rfl w.heap.size _ [] rfl O0.out (some ad) n c L rfl HN.out HV.out (by intro h; cases h) n HK.out (by omega) B0.out.size ?_; intro A' c' w1 hO1 hb1)
    go_ret
    exact ⟨A', c', rfl, hO1, B0.out.trans hb1⟩
theorem RowN.nil (w : World) (B : Nat) : RowN w B (.slice none 0 0) [] := World.ownsRow_nil w B 39 11
theorem RowN.empty (w : World) : RowN (w.alloc (.cells #[] 39)) w.heap.size (.slice (some ⟨w.heap.size, 0, none⟩) 0 0) [] :=
  World.ownsRow_made w #[] 0 (Nat.le_refl _) (by decide) rfl
set_option maxHeartbeats 1000000 in
theorem nclone_any (a : Option Addr) (n c : Nat) (D : List Nd) (w : World) (hn : D.length = n) (hm : n ≤ 1000) (hv : Nds w a D) :
    Calls Tryd.prog 30 #[.slice a n c] w fun e w' => ∃ A c', e = .returned (.slice A n c') ∧ RowN w' w.heap.size (.slice A n c') D ∧ Below w.heap.size w w' := by
  rcases a with _ | ad
  · have hl : D = [] := by
      rcases D with _ | ⟨x, D⟩
      · rfl
      · obtain ⟨b, off, h, _⟩ := hv 0 (by simp)
        cases h
    subst hl
    subst hn
    have en : ∀ w, (binOp .eql 26 (.slice none 0 c) (.slice none 0 0)).run Tryd.prog w = .ok (.bool true) w := fun w => Lib.run_eql_slice_nil w 26 39 none 0 c 0 0 Tryd.underlying26
    go_enter Tryd.func30, Tryd.ntmps30
    go_wp2
    go_ret
    exact ⟨none, 0, rfl, RowN.nil _ _, Below.refl _ _⟩
  · have HN := Lib.hid hn
    have HV := Lib.hid (hv.below (below_alloc w (.cells #[] 39)))
    have B0 := Lib.hid (below_alloc w (.cells #[] 39))
    have O0 := Lib.hid (RowN.empty w)
    have HK := Lib.hid (show ([] ++ D).length = n by simpa using hn)
    have en : ∀ w, (binOp .eql 26 (.slice (some ad) n c) (.slice none 0 0)).run Tryd.prog w = .ok (.bool false) w := fun w => Lib.run_eql_slice_nil w 26 39 (some ad) n c 0 0 Tryd.underlying26
    clear hn hv
    go_enter Tryd.func30, Tryd.ntmps30
    go_wp2_with (at_builtin; refine wp_appns (.tmp 5) (.tmp 6) _ rfl rfl w.heap.size _ [] rfl O0.out (some ad) n c D rfl HN.out HV.out (by intro h; cases h) n HK.out (by omega) B0.out.size ?_; intro A' c' w1 hO1 hb1)
    go_ret
    exact ⟨A', c', rfl, hO1, B0.out.trans hb1⟩
end Go.Proofs.YtnjndlbhnkhlhaaDoor
