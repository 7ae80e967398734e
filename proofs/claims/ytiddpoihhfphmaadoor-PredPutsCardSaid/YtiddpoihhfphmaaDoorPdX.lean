/- The chapter's example. -/
import Derived.Test.YtiddpoihhfphmaaDoorPdHo
namespace Go.Proofs.YtiddpoihhfphmaaDoor
open Go Go.RowKit Pk Rl
set_option maxRecDepth 20000

abbrev q5 : TT := (0, 5, (1, 5, 0, ⟨#[]⟩))
theorem ex1 : phold false 1 [q5] 1 [(1, 7, 0, ⟨#[]⟩)] = true := by decide
theorem ex2 : phold false 1 [q5] 1 [(1, 5, 0, ⟨#[]⟩)] = false := by decide
theorem ex3 : phold false 1 [q5] 1 [] = false := by decide
structure Fx (w W : World) : Prop where
  row : Tsts W (some ⟨w.heap.size, 0, none⟩) [q5]
  box : Pdt W (w.heap.size + 1) false 1 (some ⟨w.heap.size, 0, none⟩) 1 1
  tab : Tab W
  bel : Below w.heap.size w W
  big : w.heap.size + 2 ≤ W.heap.size
theorem Fx.next {w W W' : World} (h : Fx w W) (hb : Below W.heap.size W W') : Fx w W' := ⟨h.row.below hb, h.box.next hb, h.tab.below hb, below_go h.bel hb, Nat.le_trans h.big hb.size⟩
theorem Fx.start (w : World) (hT : Tab w) : Fx w ((w.alloc (tobj q5)).alloc (pcells false 1 (some ⟨w.heap.size, 0, none⟩) 1 1)) := by
  have h1 := (Tsts.one w q5).below (below_alloc _ (pcells false 1 (some ⟨w.heap.size, 0, none⟩) 1 1))
  have h2 := Pdt.alloc (w.alloc (tobj q5)) false 1 (some ⟨w.heap.size, 0, none⟩) 1 1
  rw [World.size_alloc] at h2
  have B := below_go (below_alloc w (tobj q5)) (below_alloc _ (pcells false 1 (some ⟨w.heap.size, 0, none⟩) 1 1))
  exact ⟨h1, h2, hT.below B, B, by simp⟩
theorem okq5 : ∀ v ∈ [q5], Okt v := by
  intro v hv
  obtain rfl := List.mem_singleton.1 hv
  exact ⟨by decide, by decide, by decide, by decide, ⟨by decide, by decide, by decide, by decide, by decide⟩⟩
abbrev vrow (n : Int) : Obj := .cells #[.int .u8 1, .int .i64 n, .float .f64 0, .string ⟨#[]⟩] 57
theorem fx_one (w W : World) (m : Nat) (hm : W.heap.size = m) (n : Int) (h0 : 0 ≤ n) (h1 : n ≤ 10) (q : Bool) (hq : phold false 1 [q5] 1 [(1, n, 0, ⟨#[]⟩)] = q) (K : Fx w W) :
    Calls Tryd.prog 14 #[pv false 1 (some ⟨w.heap.size, 0, none⟩) 1 1, ev 1 (some ⟨m, 0, none⟩) 1 1] (W.alloc (vrow n)) fun e w' => e = .returned (.bool q) ∧ Fx w w' := by
  subst hm
  have K1 := K.next (below_alloc W (vrow n))
  have V1 := Vals.one W (1, n, 0, ⟨#[]⟩)
  refine (phold_any false 1 (some ⟨w.heap.size, 0, none⟩) 1 1 [q5] 1 (some ⟨W.heap.size, 0, none⟩) 1 1 [(1, n, 0, ⟨#[]⟩)] (W.alloc (vrow n)) rfl (by omega) rfl (by omega) K1.row okq5 V1 ?_ K1.tab).mono ?_
  · intro v hv
    obtain rfl := List.mem_singleton.1 hv
    exact ⟨by show (0 : Int) ≤ 1; decide, by show (1 : Int) < 256; decide, by show _ ≤ n; omega, by show n ≤ _; omega, by show 0 < _; omega⟩
  · rintro e w' ⟨rfl, hb⟩
    exact ⟨by rw [hq], K1.next hb⟩
theorem fx_none (w W : World) (K : Fx w W) :
    Calls Tryd.prog 14 #[pv false 1 (some ⟨w.heap.size, 0, none⟩) 1 1, ev 1 none 0 0] W fun e w' => e = .returned (.bool false) ∧ Fx w w' := by
  refine (phold_any false 1 (some ⟨w.heap.size, 0, none⟩) 1 1 [q5] 1 none 0 0 [] W rfl (by omega) rfl (by omega) K.row okq5 (Vals.nil _ _) (by simp) K.tab).mono ?_
  rintro e w' ⟨rfl, hb⟩
  exact ⟨by rw [ex3], K.next hb⟩
set_option maxHeartbeats 2000000 in
theorem fixed_any (w : World) (hT : Tab w) :
    Calls Tryd.prog 11 #[] w fun e w' => e = .returned (.bool true) ∧ Below w.heap.size w w' := by
  have K0 := Lib.hid (Fx.start w hT)
  have C1 := Lib.hid (fun W m hm (K : Fx w W) => fx_one w W m hm 7 (by omega) (by omega) true ex1 K)
  have C2 := Lib.hid (fun W m hm (K : Fx w W) => fx_one w W m hm 5 (by omega) (by omega) false ex2 K)
  have C3 := Lib.hid (fun W (K : Fx w W) => fx_none w W K)
  clear hT
  go_enter Tryd.func11, Tryd.ntmps11
  go_wp2_with fail
  refine (C1.out _ _ (by simp) K0.out).mono ?_
  rintro e w2 ⟨rfl, K⟩
  have K2 := Lib.hid K
  clear K K0 C1
  obtain ⟨g0, g1, g2⟩ := K2.out.box
  go_wp2_with fail
  refine (C2.out _ _ rfl K2.out).mono ?_
  rintro e w3 ⟨rfl, K⟩
  have K3 := Lib.hid K
  clear K K2 C2 g0 g1 g2
  obtain ⟨g0, g1, g2⟩ := K3.out.box
  go_wp2_with fail
  refine (C3.out _ K3.out).mono ?_
  rintro e w4 ⟨rfl, K⟩
  have B4 := Lib.hid K.bel
  clear K K3 C3 g0 g1 g2
  go_wp2_with fail
  go_ret
  exact ⟨rfl, B4.out⟩
end Go.Proofs.YtiddpoihhfphmaaDoor
