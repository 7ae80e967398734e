/- The program's reading: must, number, above, failed. -/
import Derived.Test.YtmooblbnkjaenaaSnF
import Derived.Test.YtmooblbnkjaenaaLbGet
namespace Go.Proofs.Ytmooblbnkjaenaa
open Go Go.RowKit Pk
set_option maxRecDepth 20000

set_option maxHeartbeats 4000000 in
theorem must_any (d : Nat) (A : Option Addr) (m c : Nat) (σ : Sg) (b : Bool) (en : Nat) (ce : en ≠ 0) (w : World) (h : Rb w d (.slice A m c) σ) :
    Calls Try.prog 19 #[.pointer (some ⟨d, 0, none⟩), .bool b, .int .i64 (en : Int)] w fun e w' => e = .returned (.bool (decide ((mst σ b en).2 = 0))) ∧ Rb w' d (.slice A m c) (mst σ b en) ∧ Fr d d w w' := by
  obtain ⟨v0, v1, v2⟩ := h.cells
  have f2 := h.free 2
  have H := Lib.hid h
  have E := Lib.hid (h.er en)
  have FE := Lib.hid ((Fr.refl d d w).set d 2 (.int .i64 (en : Int)) (.inl rfl))
  have FR := Lib.hid (Fr.refl d d w)
  clear h
  obtain ⟨p, s⟩ := σ
  simp only at v1 v2
  by_cases c0 : s = 0
  · subst c0
    cases b
    · have e : mst (p, 0) false en = (p, en) := by unfold mst; rw [if_pos ⟨rfl, rfl⟩]
      rw [e]
      have v3 : (w.setCell ⟨d, 2, none⟩ (.int .i64 (en : Int))).cell? ⟨d, 2, none⟩ = some (.int .i64 (en : Int)) := E.out.cells.2.2
      have d1 : ((en : Int) == 0) = false := by simp; omega
      have dd := decide_eq_false ce
      go_enter Try.func19, Try.ntmps19
      go_wp2_with fail
      go_ret
      exact ⟨by first | rfl | (rw [dd]; rfl), E.out, FE.out⟩
    · rw [mst_yes]
      have d1 : (((0 : Nat) : Int) == 0) = true := by simp
      go_enter Try.func19, Try.ntmps19
      go_wp2_with fail
      go_ret
      exact ⟨rfl, H.out, FR.out⟩
  · rw [mst_bad (p, s) b en c0]
    have d1 : ((s : Int) == 0) = false := by simp; omega
    go_enter Try.func19, Try.ntmps19
    go_wp2_with fail
    go_ret
    exact ⟨by first | rfl | (rw [decide_eq_false c0]; rfl), H.out, FR.out⟩
set_option maxHeartbeats 4000000 in
theorem number_any (d : Nat) (A : Option Addr) (m c : Nat) (l : List Int) (σ : Sg) (w : World) (h : Rb w d (.slice A m c) σ) (hl : l.length = m) (hm : m ≤ 100000) (hc : m ≤ c) (hb : Byt w A l) :
    Calls Try.prog 26 #[.pointer (some ⟨d, 0, none⟩)] w fun e w' => e = .returned (.int .u64 (rdn l σ : Int)) ∧ Rb w' d (.slice A m c) (rds l σ) ∧ Fr d d w w' := by
  obtain ⟨v0, v1, v2⟩ := h.cells
  have H := Lib.hid h
  obtain ⟨p, s⟩ := σ
  simp only at v1 v2
  by_cases c0 : s = 0
  · subst c0
    have e1 : rdn l (p, 0) = gN l p := by unfold rdn; rw [if_pos rfl]
    have e2 : rds l (p, 0) = (gK l p, gE l p) := by unfold rds; rw [if_pos rfl]
    rw [e1, e2]
    have d1 : (((0 : Nat) : Int) == 0) = true := by simp
    have P := Lib.hid (get_any A m c l p w.drew hl hm hc (hb.below (Below.refl _ _).drew))
    have f1 : ∀ j, w.frozen? ⟨d, j, none⟩ = false := h.free
    have ND := Lib.hid (H.out.next (Below.refl _ _).drew)
    have FD := Lib.hid (Fr.of_below (r := d) (g := d) (Below.refl w.heap.size w).drew)
    have E12 := Lib.hid ((ND.out.at_ (gK l p)).er (gE l p))
    have E21 := Lib.hid ((ND.out.er (gE l p)).at_ (gK l p))
    have F12 := Lib.hid ((FD.out.set d 1 (.int .i64 (gK l p)) (.inl rfl)).set d 2 (.int .i64 (gE l p : Int)) (.inl rfl))
    have F21 := Lib.hid ((FD.out.set d 2 (.int .i64 (gE l p : Int)) (.inl rfl)).set d 1 (.int .i64 (gK l p)) (.inl rfl))
    clear h hb
    go_enter Try.func26, Try.ntmps26
    go_wp2_with fail
    go_region_with (go_at_call 30; (with_reducible refine Calls.mono P.out ?_); rintro e w' ⟨rfl, rfl⟩)
    all_goals (go_wp2_with fail; go_ret; first | exact ⟨rfl, E12.out, F12.out⟩ | exact ⟨rfl, E21.out, F21.out⟩)
  · obtain ⟨e1, e2⟩ := rds_bad l (p, s) c0
    rw [e1, e2]
    have d1 : ((s : Int) == 0) = false := by simp; omega
    have FR := Lib.hid (Fr.refl d d w)
    clear h
    go_enter Try.func26, Try.ntmps26
    go_wp2_with fail
    go_ret
    exact ⟨rfl, H.out, FR.out⟩
end Go.Proofs.Ytmooblbnkjaenaa
