/- tree's Places and Depth. -/
import Derived.Test.YtnjndlbhnkhlhaaDoorTrO
namespace Go.Proofs.YtnjndlbhnkhlhaaDoor
open Go Go.RowKit Pk Rl
set_option maxRecDepth 20000

theorem mp_zero {L : List Nd} {win : Int} (h : mp L win = 0) : L.length < 33 ∧ L ≠ [] := by
  unfold mp at h
  by_cases c1 : 32 < L.length
  · rw [if_pos c1] at h; omega
  · refine ⟨by omega, fun e => ?_⟩
    rw [if_neg c1, if_pos (.inr (by subst e; rfl))] at h
    omega
set_option maxHeartbeats 2000000 in
theorem eplaces_any (a : Option Addr) (n c : Nat) (L : List Nd) (win : Int) (w : World) (hP : Pt w a n c L) (hT : Tab w) :
    Calls Tryd.prog 10 #[ptv a n c win] w fun e w' => e = .returned (.int .i64 (if mp L win = 0 then plc 33 L else 0)) ∧ Below w.heap.size w w' := by
  have K0 := Lib.hid (Pbx.start w a n c win)
  have M := Lib.hid (fun W (hW : Below w.heap.size w W) => tmay_any a n c L win W (hP.below hW) (hT.below hW))
  have C := Lib.hid (fun (h : mp L win = 0) W (hW : Below w.heap.size w W) => places_any 33 a n c L W (by have := (mp_zero h).1; rw [hP.len] at this; exact this) (mp_zero h).2 (hP.below hW))
  generalize mp L win = e at M C
  generalize plc 33 L = q at C
  clear hP hT
  by_cases h0 : e = 0
  · subst h0
    rw [if_pos rfl]
    have C1 := Lib.hid (C.out rfl)
    clear C
    go_enter Tryd.func10, Tryd.ntmps10
    go_wp2_with fail
    refine (M.out _ K0.out.bel).mono ?_
    rintro e w2 ⟨rfl, hb⟩
    have K2 := Lib.hid (K0.out.next hb)
    have p0 := K2.out.c0
    clear hb K0 M
    go_wp2_with fail
    refine (C1.out _ K2.out.bel).mono ?_
    rintro e w3 ⟨rfl, hb⟩
    have K3 := Lib.hid (K2.out.next hb)
    clear hb K2 C1 p0
    go_wp2_with fail
    go_ret
    exact ⟨rfl, K3.out.bel⟩
  · rw [if_neg h0]
    have h1 : (e != 0) = true := by simp [h0]
    clear C
    go_enter Tryd.func10, Tryd.ntmps10
    go_wp2_with fail
    refine (M.out _ K0.out.bel).mono ?_
    rintro e w2 ⟨rfl, hb⟩
    have K2 := Lib.hid (K0.out.next hb)
    clear hb K0 M
    go_wp2_with fail
    go_ret
    exact ⟨rfl, K2.out.bel⟩
set_option maxHeartbeats 2000000 in
theorem edepth_any (a : Option Addr) (n c : Nat) (L : List Nd) (win : Int) (w : World) (hP : Pt w a n c L) (hT : Tab w) :
    Calls Tryd.prog 11 #[ptv a n c win] w fun e w' => e = .returned (.int .i64 (if mp L win = 0 then dpt 33 L else 0)) ∧ Below w.heap.size w w' := by
  have K0 := Lib.hid (Pbx.start w a n c win)
  have M := Lib.hid (fun W (hW : Below w.heap.size w W) => tmay_any a n c L win W (hP.below hW) (hT.below hW))
  have C := Lib.hid (fun (h : mp L win = 0) W (hW : Below w.heap.size w W) => depth_any 33 (by omega) a n c L W (by have := (mp_zero h).1; rw [hP.len] at this; exact this) (hP.below hW))
  generalize mp L win = e at M C
  generalize dpt 33 L = q at C
  clear hP hT
  by_cases h0 : e = 0
  · subst h0
    rw [if_pos rfl]
    have C1 := Lib.hid (C.out rfl)
    clear C
    go_enter Tryd.func11, Tryd.ntmps11
    go_wp2_with fail
    refine (M.out _ K0.out.bel).mono ?_
    rintro e w2 ⟨rfl, hb⟩
    have K2 := Lib.hid (K0.out.next hb)
    have p0 := K2.out.c0
    clear hb K0 M
    go_wp2_with fail
    refine (C1.out _ K2.out.bel).mono ?_
    rintro e w3 ⟨rfl, hb⟩
    have K3 := Lib.hid (K2.out.next hb)
    clear hb K2 C1 p0
    go_wp2_with fail
    go_ret
    exact ⟨rfl, K3.out.bel⟩
  · rw [if_neg h0]
    have h1 : (e != 0) = true := by simp [h0]
    clear C
    go_enter Tryd.func11, Tryd.ntmps11
    go_wp2_with fail
    refine (M.out _ K0.out.bel).mono ?_
    rintro e w2 ⟨rfl, hb⟩
    have K2 := Lib.hid (K0.out.next hb)
    clear hb K0 M
    go_wp2_with fail
    go_ret
    exact ⟨rfl, K2.out.bel⟩
end Go.Proofs.YtnjndlbhnkhlhaaDoor
