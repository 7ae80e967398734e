/- Whether an event is more than is gone through; an event with a list of its own. -/
import Derived.Test.YtiddpoihhfphmaaDoorEvRaw
import Derived.Lib.MinMax
namespace Go.Proofs.YtiddpoihhfphmaaDoor
open Go Go.RowKit Pk Rl
set_option maxRecDepth 20000

def gsum (L : List VV) : Nat := (L.map fun v => min v.2.2.2.size 3000).sum
def egr (L : List VV) : Bool := decide (40 < L.length) || decide (3000 < L.length + gsum L)
theorem gsum_snoc (L : List VV) (j : Nat) (h : j < L.length) : gsum (L.take (j + 1)) = gsum (L.take j) + min (L.getD j vz).2.2.2.size 3000 := by
  rw [take_snoc L j h]; simp [gsum]
theorem gsum_le (L : List VV) : gsum L ≤ L.length * 3000 := by
  induction L with
  | nil => simp [gsum]
  | cons v L ih => simp only [gsum, List.map_cons, List.sum_cons, List.length_cons] at ih ⊢; omega

set_option maxHeartbeats 1000000 in
theorem great_any (t : Int) (a : Option Addr) (n c : Nat) (L : List VV) (w : World) (hn : L.length = n) (hm : n ≤ 1000) (hv : Vals w a L) (hz : ∀ v ∈ L, v.2.2.2.size ≤ maxLen) :
    Calls Tryd.prog 10 #[ev t a n c] w fun e w' => e = .returned (.bool (egr L)) ∧ Below w.heap.size w w' := by
  have E0 := Lib.hid (Evt.alloc w t a n c)
  have B0 := Lib.hid (below_alloc w (ecells t a n c))
  have HN := Lib.hid hn
  have HV := Lib.hid hv
  have HZ := Lib.hid hz
  have Q1 := Lib.hid (show 40 < n → egr L = true from fun h => by unfold egr; rw [hn, decide_eq_true h]; rfl)
  have Q2 := Lib.hid (show ¬ 40 < n → egr L = decide (3000 < n + gsum L) from fun h => by unfold egr; rw [hn, decide_eq_false h]; rfl)
  clear hn hv hz
  by_cases c40 : 40 < n
  · go_enter Tryd.func10, Tryd.ntmps10
    go_wp2
    go_ret
    exact ⟨ret_bool (Q1.out c40).symm, B0.out⟩
  · go_enter Tryd.func10, Tryd.ntmps10
    go_wp2
    go_loopw [13, 3] (fun i s W => ∃ (j g : Nat), i = .int .i64 j ∧ s = .int .i64 ((n : Int) + (g : Int)) ∧ j ≤ n ∧ g ≤ j * 3000 ∧ Hid (Evt W w.heap.size t a n c ∧ Below w.heap.size w W ∧ gsum (L.take j) = g)) (fun i _ _ => n - (intOf i).toNat)
    case atStart => exact ⟨0, 0, rfl, by simp, by omega, by omega, Lib.hid ⟨E0.out, B0.out, rfl⟩⟩
    case round =>
      obtain ⟨j, g, rfl, rfl, hj, hg, H⟩ := hrel
      obtain ⟨e0, e1⟩ := H.out.1
      by_cases c1 : j < n
      · obtain ⟨b, off, rfl, c0, c1, c2, c3⟩ := (HV.out.below H.out.2.1) j (by have := HN.out; omega)
        have GS := Lib.hid (gsum_snoc L j (by have := HN.out; omega))
        have hs := HZ.out _ (getD_mem L j (by have := HN.out; omega))
        rw [H.out.2.2] at GS
        generalize L.getD j vz = v at GS c0 c1 c2 c3 hs
        obtain ⟨k, m, r, s⟩ := v
        have B1 := Lib.hid H.out.2.1
        have E1 := Lib.hid H.out.1
        unfold maxLen at hs
        clear H
        have hmin : min (s.size : Int) 3000 = ((min s.size 3000 : Nat) : Int) := by omega
        obtain ⟨p, hp⟩ : ∃ p, min s.size 3000 = p := ⟨_, rfl⟩
        rw [hp] at hmin
        have hp2 : p ≤ 3000 := by omega
        have GS' : Hid (gsum (L.take (j + 1)) = g + p) := Lib.hid (by rw [← hp]; exact GS.out)
        clear GS
        go_wp2_with fail
        go_roundw
        case rel => exact ⟨j + 1, g + p, by go_num, by go_num, by omega, by omega, Lib.hid ⟨E1.out, B1.out, GS'.out⟩⟩
        case measure => simp [intOf]; omega
      · obtain rfl : j = n := by omega
        have B1 := Lib.hid H.out.2.1
        have GS := Lib.hid H.out.2.2
        rw [List.take_of_length_le (by have := HN.out; omega)] at GS
        clear H
        go_wp2_with fail
        go_ret
        exact ⟨ret_bool (by rw [Q2.out c40, GS.out, Bool.eq_iff_iff]; simp; omega), B1.out⟩

end Go.Proofs.YtiddpoihhfphmaaDoor
