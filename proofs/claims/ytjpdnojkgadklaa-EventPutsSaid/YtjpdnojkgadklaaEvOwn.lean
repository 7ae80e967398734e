/- Whether an event is more than is gone through; an event with a list of its own. -/
import Derived.Test.YtjpdnojkgadklaaEvRaw
import Derived.Lib.MinMax
import Derived.Lib.SliceRun
namespace Go.Proofs.Ytjpdnojkgadklaa
open Go Go.RowKit Pk Rl
set_option maxRecDepth 20000

def gsum (L : List VV) : Nat := (L.map fun v => min v.2.2.2.size 3000).sum
def egr (L : List VV) : Bool := decide (40 < L.length) || decide (3000 < L.length + gsum L)
theorem gsum_snoc (L : List VV) (j : Nat) (h : j < L.length) : gsum (L.take (j + 1)) = gsum (L.take j) + min (L.getD j vz).2.2.2.size 3000 := by
  rw [take_snoc L j h]; simp [gsum]
theorem gsum_le (L : List VV) : gsum L ≤ L.length * 3000 := by
  induction L with
  | nil => simp [gsum]
  | cons v L ih => simp only [gsum, List.map_cons, List.sum_cons, List.length_cons] at ih ⊢; omega

set_option maxHeartbeats 1000000 in
theorem great_any (t : Int) (a : Option Addr) (n c : Nat) (L : List VV) (w : World) (hn : L.length = n) (hm : n ≤ 1000) (hv : Vals w a L) (hz : ∀ v ∈ L, v.2.2.2.size ≤ maxLen) :
    Calls Try.prog 9 #[ev t a n c] w fun e w' => e = .returned (.bool (egr L)) ∧ Below w.heap.size w w' := by
  have E0 := Lib.hid (Evt.alloc w t a n c)
  have B0 := Lib.hid (below_alloc w (ecells t a n c))
  have HN := Lib.hid hn
  have HV := Lib.hid hv
  have HZ := Lib.hid hz
  have Q1 := Lib.hid (show 40 < n → egr L = true from fun h => by unfold egr; rw [hn, decide_eq_true h]; rfl)
  have Q2 := Lib.hid (show ¬ 40 < n → egr L = decide (3000 < n + gsum L) from fun h => by unfold egr; rw [hn, decide_eq_false h]; rfl)
  clear hn hv hz
  by_cases c40 : 40 < n
  · go_enter Try.func9, Try.ntmps9
    go_wp2
    go_ret
    exact ⟨ret_bool (Q1.out c40).symm, B0.out⟩
  · go_enter Try.func9, Try.ntmps9
    go_wp2
    go_loopw [13, 3] (fun i s W => ∃ (j g : Nat), i = .int .i64 j ∧ s = .int .i64 ((n : Int) + (g : Int)) ∧ j ≤ n ∧ g ≤ j * 3000 ∧ Hid (Evt W w.heap.size t a n c ∧ Below w.heap.size w W ∧ gsum (L.take j) = g)) (fun i _ _ => n - (intOf i).toNat)
    case atStart => exact ⟨0, 0, rfl, by simp, by omega, by omega, Lib.hid ⟨E0.out, B0.out, rfl⟩⟩
    case round =>
      obtain ⟨j, g, rfl, rfl, hj, hg, H⟩ := hrel
      obtain ⟨e0, e1⟩ := H.out.1
      by_cases c1 : j < n
      · obtain ⟨b, off, rfl, c0, c1, c2, c3⟩ := (HV.out.below H.out.2.1) j (by have := HN.out; omega)
        have GS := Lib.hid (gsum_snoc L j (by have := HN.out; omega))
        have hs := HZ.out _ (getD_mem L j (by have := HN.out; omega))
        rw [H.out.2.2] at GS
        generalize L.getD j vz = v at GS c0 c1 c2 c3 hs
        obtain ⟨k, m, r, s⟩ := v
        have B1 := Lib.hid H.out.2.1
        have E1 := Lib.hid H.out.1
        unfold maxLen at hs
        clear H
        have hmin : min (s.size : Int) 3000 = ((min s.size 3000 : Nat) : Int) := by omega
        obtain ⟨p, hp⟩ : ∃ p, min s.size 3000 = p := ⟨_, rfl⟩
        rw [hp] at hmin
        have hp2 : p ≤ 3000 := by omega
        have GS' : Hid (gsum (L.take (j + 1)) = g + p) := Lib.hid (by rw [← hp]; exact GS.out)
        clear GS
        go_wp2_with fail
        go_roundw
        case rel => exact ⟨j + 1, g + p, by go_num, by go_num, by omega, by omega, Lib.hid ⟨E1.out, B1.out, GS'.out⟩⟩
        case measure => simp [intOf]; omega
      · obtain rfl : j = n := by omega
        have B1 := Lib.hid H.out.2.1
        have GS := Lib.hid H.out.2.2
        rw [List.take_of_length_le (by have := HN.out; omega)] at GS
        clear H
        go_wp2_with fail
        go_ret
        exact ⟨ret_bool (by rw [Q2.out c40, GS.out, Bool.eq_iff_iff]; simp; omega), B1.out⟩

set_option maxHeartbeats 1000000 in
theorem clone_any (a : Option Addr) (n c : Nat) (L : List VV) (w : World) (hn : L.length = n) (hm : n ≤ 1000) (hv : Vals w a L) :
    Calls Try.prog 34 #[.slice a n c] w fun e w' => ∃ A c', e = .returned (.slice A n c') ∧ OwnV w' w.heap.size (.slice A n c') L ∧ Below w.heap.size w w' := by
  rcases a with _ | ad
  · have hl : L = [] := by
      rcases L with _ | ⟨x, L⟩
      · rfl
      · obtain ⟨b, off, h, _⟩ := hv 0 (by simp)
        cases h
    subst hl
    subst hn
    have en : ∀ w, (binOp .eql 26 (.slice none 0 c) (.slice none 0 0)).run Try.prog w = .ok (.bool true) w := fun w => Lib.run_eql_slice_nil w 26 60 none 0 c 0 0 Try.underlying26
    go_enter Try.func34, Try.ntmps34
    go_wp2
    go_ret
    exact ⟨none, 0, rfl, OwnV.nil _ _, Below.refl _ _⟩
  · have HN := Lib.hid hn
    have HV := Lib.hid (hv.below (below_alloc w (.cells #[] 60)))
    have B0 := Lib.hid (below_alloc w (.cells #[] 60))
    have O0 := Lib.hid (OwnV.empty w)
    have HK := Lib.hid (show ([] ++ L).length = n by simpa using hn)
    have en : ∀ w, (binOp .eql 26 (.slice (some ad) n c) (.slice none 0 0)).run Try.prog w = .ok (.bool false) w := fun w => Lib.run_eql_slice_nil w 26 60 (some ad) n c 0 0 Try.underlying26
    clear hn hv
    go_enter Try.func34, Try.ntmps34
    go_wp2_with (at_builtin; refine wp_appv (.tmp 5) (.tmp 6) _ rfl rfl w.heap.size _ [] rfl O0.out (some ad) n c L rfl HN.out HV.out (by intro h; cases h) n HK.out (by omega) B0.out.size ?_; intro A' c' w1 hO1 hb1)
    go_ret
    exact ⟨A', c', rfl, hO1, B0.out.trans hb1⟩
set_option maxHeartbeats 2000000 in
theorem own_any (t : Int) (a : Option Addr) (n c : Nat) (L : List VV) (w : World) (hn : L.length = n) (hm : n ≤ 1000) (hv : Vals w a L) :
    Calls Try.prog 16 #[ev t a n c] w fun e w' => ∃ A c', e = .returned (ev t A n c') ∧ OwnV w' w.heap.size (.slice A n c') L ∧ Below w.heap.size w w' := by
  have C := Lib.hid (fun w (hw : Vals w a L) => clone_any a n c L w hn hm hw)
  have B0 := Lib.hid (below_go (below_alloc w (ecells t a n c)) (below_alloc _ (ecells 0 none 0 0)))
  have E0 := Lib.hid ((Evb.alloc w t a n c).next (below_alloc _ (ecells 0 none 0 0)))
  have R0 := Lib.hid (Evb.alloc (w.alloc (ecells t a n c)) 0 none 0 0)
  rw [World.size_alloc] at R0
  have HV := Lib.hid (hv.below B0.out)
  clear hn hv hm
  go_enter Try.func16, Try.ntmps16
  go_wp2_with fail
  go_region_law (first
    | (go_simp; go_at_call 34; refine (C.out _ (HV.out.below (below_drewN _ _ 1))).mono ?_; rintro e w2 ⟨A2, c2, rfl, hO, b1⟩; have D := (below_drewN _ _ 1).trans b1; have B2 := Lib.hid (below_go B0.out D); have O2 := Lib.hid (hO.mono (show w.heap.size + 1 + 1 ≤ _ from Nat.le_trans (by simp) (below_drewN 0 _ 1).size)); have e0 := (E0.out.next D).evt.1; have r0 := (R0.out.next D).evt.1; have r1 := (R0.out.next D).evt.2; have g0 := (R0.out.next D).free 0; have g1 := (R0.out.next D).free 1; clear D hO b1))
  all_goals
    have BB := Lib.hid ((B2.out.setCell (p := ⟨w.heap.size + 1, 0, none⟩) (by show w.heap.size ≤ w.heap.size + 1; omega) (.int .u8 t)).setCell (p := ⟨w.heap.size + 1, 1, none⟩) (by show w.heap.size ≤ w.heap.size + 1; omega) (.slice A2 n c2))
    have OO := Lib.hid (((O2.out.setCell (w.heap.size + 1) 0 (by omega) (.int .u8 t)).setCell (w.heap.size + 1) 1 (by omega) (.slice A2 n c2)).mono (show w.heap.size ≤ _ by omega))
    clear B0 E0 R0 HV C B2 O2
    go_wp2_with fail
    exact bodyPost_ret (v := ev t A2 n c2) (by simp [results, Try.results16, go_sem, *]) rfl ⟨A2, c2, rfl, OO.out, BB.out⟩
end Go.Proofs.Ytjpdnojkgadklaa
