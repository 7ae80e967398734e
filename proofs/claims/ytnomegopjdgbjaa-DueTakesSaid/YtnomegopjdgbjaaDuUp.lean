/- Moving up in a heap. -/
import Derived.Test.YtnomegopjdgbjaaDuLess
import Derived.Test.YtnomegopjdgbjaaDuSwap
import Derived.Test.YtnomegopjdgbjaaDuPush
import Derived.Deep.LoopGhost
namespace Go.Proofs.Ytnomegopjdgbjaa
open Go Go.RowKit
set_option maxRecDepth 20000

/- W has L', which was L in w: of the first n the places may be other ones -/
structure Hs (w W : World) (d m : Nat) (v : Value) (N n : Nat) (L L' : List E) : Prop where
  du : ∃ M, Du W d m v L' N M ∧ Pos M L'
  perm : L'.Perm L
  beyond : ∀ k, n ≤ k → g L' k = g L k
  keep : Keep (Fp d m v) w W
section
variable {w W : World} {d m : Nat} {v : Value} {N n : Nat} {L L' : List E}
theorem Hs.refl {M : Nat → Option Nat} (h : Du w d m v L N M) (hp : Pos M L) (n : Nat) : Hs w w d m v N n L L := ⟨⟨M, h, hp⟩, List.Perm.refl _, fun _ _ => rfl, Keep.refl _ _⟩
theorem Hs.below (h : Hs w W d m v N n L L') {W' : World} (hb : Below W.heap.size W W') : Hs w W' d m v N n L L' := by
  obtain ⟨⟨M, h1, h2⟩, h3, h4, h5⟩ := h
  exact ⟨⟨M, h1.below hb, h2⟩, h3, h4, h5.tr (Keep.of_below _ hb)⟩
theorem Hs.len (h : Hs w W d m v N n L L') : L'.length = L.length := h.perm.length_eq
theorem Hs.less (h : Hs w W d m v N n L L') (i j : Nat) (hi : i < L.length) (hj : j < L.length) :
    Calls Try.prog 45 #[.pointer (some ⟨d, 0, none⟩), .int .i64 (i : Int), .int .i64 (j : Int)] W fun e w' => e = .returned (.bool (lt (g L' i) (g L' j))) ∧ Hs w w' d m v N n L L' := by
  obtain ⟨M, h1, _⟩ := h.du
  refine (less_any h1 i j (by rw [h.len]; exact hi) (by rw [h.len]; exact hj)).mono ?_
  rintro e w' ⟨rfl, hb⟩
  exact ⟨rfl, h.below hb⟩
theorem Hs.swap (h : Hs w W d m v N n L L') (i j : Nat) (hn : n ≤ L.length) (hi : i < n) (hj : j < n) (hne : i ≠ j) (hlen : L.length ≤ 100000) (hN : N ≤ 100000) :
    Calls Try.prog 48 #[.pointer (some ⟨d, 0, none⟩), .int .i64 (i : Int), .int .i64 (j : Int)] W fun e w' => e = .returned (.tuple #[]) ∧ Hs w w' d m v N n L (swp L' i j) := by
  obtain ⟨M, h1, h2⟩ := h.du
  have hl := h.len
  refine (swap_any h1 h2 i j (by omega) (by omega) hne (by omega) (by omega)).mono ?_
  rintro e w' ⟨rfl, M', a, b, c⟩
  refine ⟨rfl, ⟨M', a, b⟩, (swp_perm L' i j (by omega) (by omega)).trans h.perm, fun k hk => ?_, h.keep.tr c⟩
  rw [g_swp L' i j (by omega) (by omega), if_neg (by omega), if_neg (by omega)]
  exact h.beyond k hk
theorem Hs.klen (h : Hs w W d m v N n L L') : Calls Try.prog 22 #[.pointer (some ⟨d, 0, none⟩)] W fun e w' => e = .returned (.int .i64 (L.length : Int)) ∧ w' = W := by
  obtain ⟨M, h1, _⟩ := h.du
  rw [← h.len]
  exact klen_any h1
end
set_option maxHeartbeats 4000000 in
theorem up_any {w W : World} {d m : Nat} {v : Value} {N n : Nat} {L L1 : List E} (h : Hs w W d m v N n L L1) (j : Nat) (hu : UpOk n L1 j) (hj : j < n) (hn : n ≤ L.length) (hlen : L.length ≤ 100000) (hN : N ≤ 100000) :
    Calls Try.prog 28 #[.iface 65 (.pointer (some ⟨d, 0, none⟩)), .int .i64 (j : Int)] W fun e w' => e = .returned (.tuple #[]) ∧ ∃ L2, Hs w w' d m v N n L L2 ∧ Hp n L2 := by
  have HH := Lib.hid h
  have HU := Lib.hid hu
  clear h hu
  go_enter Try.func28, Try.ntmps28
  go_wp2_with fail
  go_loopw [1] (fun s wr => ∃ (i : Nat) (L2 : List E), s = .int .i64 i ∧ i < n ∧ Hid (Hs w wr d m v N n L L2 ∧ UpOk n L2 i)) (fun s _ => (intOf s).toNat)
  case atStart => exact ⟨j, L1, rfl, hj, HH.out, HU.out⟩
  case round =>
    obtain ⟨i, L2, rfl, hi, H⟩ := hrel
    rcases Nat.eq_zero_or_pos i with rfl | h0
    · go_wp2_with fail
      go_end0
      exact ⟨rfl, L2, H.out.1, up_end0 H.out.2⟩
    · have hp := par_lt h0
      have H1 := Lib.hid H.out.1
      have H2 := Lib.hid H.out.2
      have C1 := Lib.hid (H.out.1.less i (par i) (by omega) (by omega))
      have S2 := Lib.hid (fun hlt => up_step H.out.2 h0 hi (by rw [H.out.1.len]; exact hn) hlt)
      have N2 := Lib.hid (fun hlt => up_end H.out.2 hlt)
      have ep : ((i : Int) - 1) / 2 = ((par i : Nat) : Int) := by unfold par; omega
      clear H
      generalize par i = p at *
      cases hc : lt (g L2 i) (g L2 p)
      · rw [hc] at C1
        have HC := Lib.hid hc
        clear hc S2
        go_wp2_with fail
        refine C1.out.mono ?_
        rintro e w1 ⟨rfl, h1⟩
        have H1 := Lib.hid h1
        clear h1 C1
        go_wp2_with fail
        go_end0
        exact ⟨rfl, L2, H1.out, N2.out HC.out⟩
      · rw [hc] at C1
        have HC := Lib.hid (S2.out hc)
        clear hc N2 S2
        go_wp2_with fail
        refine C1.out.mono ?_
        rintro e w1 ⟨rfl, h1⟩
        have C2 := Lib.hid (h1.swap p i hn (by omega) hi (by omega) hlen hN)
        clear h1 C1
        go_wp2_with fail
        refine C2.out.mono ?_
        rintro e w2 ⟨rfl, h2⟩
        have H2' := Lib.hid h2
        clear h2 C2
        go_wp2_with fail
        go_roundw
        case rel => exact ⟨p, swp L2 p i, by go_num, by omega, H2'.out, HC.out⟩
        case measure => simp [intOf]; omega
end Go.Proofs.Ytnomegopjdgbjaa
