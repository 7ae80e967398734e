/- The program's reading: failed. -/
import Derived.Test.YtmooblbnkjaenaaSnK
namespace Go.Proofs.Ytmooblbnkjaenaa
open Go Go.RowKit Pk
set_option maxRecDepth 20000

set_option maxHeartbeats 4000000 in
theorem failed_any (d : Nat) (A : Option Addr) (m c : Nat) (l : List Int) (σ : Sg) (w : World) (h : Rb w d (.slice A m c) σ) (hl : l.length = m) (hm : m ≤ 100000) (hb : Byt w A l) (h0 : σ.2 = 0 → 0 ≤ σ.1) (hd : ∀ W, Fr d d w W → Byt W A l) :
    Calls Try.prog 27 #[.pointer (some ⟨d, 0, none⟩)] w fun e w' => e = .returned (.bool (fgb l σ)) ∧ Rb w' d (.slice A m c) (fgs l σ) ∧ Fr d d w w' := by
  obtain ⟨v0, v1, v2⟩ := h.cells
  have H := Lib.hid (h.next (Below.refl _ _).drew)
  have FD := Lib.hid (Fr.of_below (r := d) (g := d) (Below.refl w.heap.size w).drew)
  have HD := Lib.hid hd
  have HL := Lib.hid hl
  have HR := Lib.hid hb.2
  obtain ⟨p, s⟩ := σ
  simp only at v1 v2 h0
  clear h hd hb
  by_cases c0 : s = 0
  · subst c0
    obtain ⟨q, rfl⟩ : ∃ q : Nat, p = (q : Int) := ⟨p.toNat, by have := h0 rfl; omega⟩
    clear h0
    by_cases c1 : q < m
    · have d1 : decide ((q : Int) < (m : Int)) = true := decide_eq_true (by omega)
      have M := Lib.hid (must_any d A m c ((q : Int), 0) true 3 (by omega) _ H.out)
      rw [mst_yes] at M
      have dt : decide ((((q : Int), 0) : Sg).2 = 0) = true := rfl
      rw [dt] at M
      have hlq : q < l.length := by have := HL.out; omega
      have R0 : 0 ≤ l.getD q 0 ∧ l.getD q 0 < 256 := HR.out _ (by rw [List.getD_eq_getElem?_getD, List.getElem?_eq_getElem hlq]; exact List.getElem_mem _)
      obtain ⟨x, hx⟩ : ∃ x, l.getD q 0 = x := ⟨_, rfl⟩
      have HX := Lib.hid hx
      rw [hx] at R0
      have EG : Hid (fgb l ((q : Int), 0) = decide (x = 1) ∧ fgs l ((q : Int), 0) = ((q : Int) + 1, if x ≤ 1 then 0 else 2)) := Lib.hid (by
        unfold fgb fgs
        rw [if_neg (by simp), if_pos (by simp only; omega)]
        simp only [Int.toNat_natCast, hx]
        refine ⟨?_, trivial⟩
        by_cases cx : x = 1
        · rw [decide_eq_true cx, decide_eq_true ⟨trivial, by omega, by omega, cx⟩]
        · rw [decide_eq_false cx, decide_eq_false (fun k => cx k.2.2.2)])
      clear hx
      go_enter Try.func27, Try.ntmps27
      go_wp2_with fail
      go_region_with (go_at_call 19; (with_reducible refine Calls.mono M.out ?_); rintro e w' ⟨rfl, hr1, hf1⟩)
      all_goals
        have R1 := Lib.hid hr1
        have F1 := Lib.hid (FD.out.trans hf1)
        obtain ⟨bb, off, rfl, kb⟩ := (HD.out _ F1.out).1 q hlq
        rw [HX.out] at kb
        obtain ⟨u0, u1, u2⟩ := R1.out.cells
        have g1 := R1.out.free 1
        clear hr1 hf1 M H FD v0 v1 v2 d1 dt
        simp only at u1 u2
        go_wp2_with fail
        go_quiet (fail)
        have R2 := Lib.hid (fun nn => (R1.out.next (below_drewN _ _ nn)).at_ ((q : Int) + 1))
        have F2 := Lib.hid (fun nn => (F1.out.next (below_drewN _ _ nn)).set d 1 (.int .i64 ((q : Int) + 1)) (.inl rfl))
        by_cases c2 : x ≤ 1
        · have d2 : decide (x ≤ 1) = true := decide_eq_true c2
          have M := Lib.hid (fun nn => must_any d _ m c ((q : Int) + 1, 0) true 2 (by omega) _ (R2.out nn))
          rw [mst_yes] at M
          have e1 := Lib.hid EG.out.1
          have e2 := Lib.hid (EG.out.2.trans (by rw [if_pos c2]))
          clear EG
          go_wp2_with fail
          refine (M.out _).mono ?_
          rintro _ w5 ⟨rfl, hr5, hf5⟩
          rw [← e2.out] at hr5
          have R5 := Lib.hid hr5
          have F5 := Lib.hid ((F2.out _).trans hf5)
          clear hr5 hf5
          by_cases c3 : x = 1
          · have d3 : (x == 1) = true := by simp [c3]
            go_wp2_with fail
            go_ret
            exact ⟨by rw [e1.out, decide_eq_true c3]; rfl, R5.out, F5.out⟩
          · have d3 : (x == 1) = false := by simp [c3]
            go_wp2_with fail
            go_ret
            exact ⟨by rw [e1.out, decide_eq_false c3]; rfl, R5.out, F5.out⟩
        · have d2 : decide (x ≤ 1) = false := decide_eq_false c2
          have M := Lib.hid (fun nn => must_any d _ m c ((q : Int) + 1, 0) false 2 (by omega) _ (R2.out nn))
          have em : mst ((q : Int) + 1, 0) false 2 = ((q : Int) + 1, 2) := by unfold mst; rw [if_pos ⟨rfl, rfl⟩]
          rw [em] at M
          have e1 := Lib.hid (EG.out.1.trans (decide_eq_false (by omega)))
          have e2 := Lib.hid (EG.out.2.trans (by rw [if_neg c2]))
          clear EG
          go_wp2_with fail
          refine (M.out _).mono ?_
          rintro _ w5 ⟨rfl, hr5, hf5⟩
          rw [← e2.out] at hr5
          have R5 := Lib.hid hr5
          have F5 := Lib.hid ((F2.out _).trans hf5)
          clear hr5 hf5
          go_wp2_with fail
          go_ret
          exact ⟨by rw [e1.out]; rfl, R5.out, F5.out⟩
    · have d1 : decide ((q : Int) < (m : Int)) = false := decide_eq_false (by omega)
      have M := Lib.hid (must_any d A m c ((q : Int), 0) false 3 (by omega) _ H.out)
      have em : mst ((q : Int), 0) false 3 = ((q : Int), 3) := by unfold mst; rw [if_pos ⟨rfl, rfl⟩]
      rw [em] at M
      have EG : Hid (fgb l ((q : Int), 0) = false ∧ fgs l ((q : Int), 0) = ((q : Int), 3)) := Lib.hid (by
        have := HL.out
        unfold fgb fgs
        rw [if_neg (by simp), if_neg (by simp only; omega)]
        exact ⟨decide_eq_false (fun k => by have := k.2.2.1; simp only at this; omega), rfl⟩)
      go_enter Try.func27, Try.ntmps27
      go_wp2_with fail
      go_region_with (go_at_call 19; (with_reducible refine Calls.mono M.out ?_); rintro e w' ⟨rfl, hr1, hf1⟩)
      all_goals
        rw [← EG.out.2] at hr1
        have R1 := Lib.hid hr1
        have F1 := Lib.hid (FD.out.trans hf1)
        clear hr1 hf1
        go_wp2_with fail
        go_ret
        exact ⟨by rw [EG.out.1]; rfl, R1.out, F1.out⟩
  · obtain ⟨e2, e1⟩ := fgs_bad l (p, s) c0
    have HE := Lib.hid (show fgb l (p, s) = false ∧ fgs l (p, s) = (p, s) from ⟨e1, e2⟩)
    clear e1 e2
    obtain ⟨b, hb⟩ : ∃ b, decide (p < (m : Int)) = b := ⟨_, rfl⟩
    have M := Lib.hid (must_any d A m c (p, s) b 3 (by omega) _ H.out)
    have dt : decide (((p, s) : Sg).2 = 0) = false := decide_eq_false c0
    rw [mst_bad _ _ _ c0, dt] at M
    go_enter Try.func27, Try.ntmps27
    go_wp2_with fail
    go_region_with (go_at_call 19; (with_reducible refine Calls.mono M.out ?_); rintro e w' ⟨rfl, hr1, hf1⟩)
    all_goals
      have R1 := Lib.hid hr1
      have F1 := Lib.hid (FD.out.trans hf1)
      clear hr1 hf1
      go_wp2_with fail
      go_ret
      exact ⟨by rw [HE.out.1]; rfl, Eq.mpr (by rw [HE.out.2]) R1.out, F1.out⟩
end Go.Proofs.Ytmooblbnkjaenaa
