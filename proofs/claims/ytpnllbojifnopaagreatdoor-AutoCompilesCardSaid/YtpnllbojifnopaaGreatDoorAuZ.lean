/- The program's Compile. -/
import Derived.Test.YtpnllbojifnopaaGreatDoorAuS
import Derived.Test.YtpnllbojifnopaaGreatDoorAuO
namespace Go.Proofs.YtpnllbojifnopaaGreatDoor
open Go Go.RowKit Pk Rl
set_option maxRecDepth 20000

structure Top (L : List Nd) : Prop where
  fm : fmd 33 L = true
  fr : frn L = L
  len : L.length ≤ 32
  cn : cnt 33 L ≤ 32
  pl : plc 33 L = (cnt 33 L : Int)
theorem mp_top {L : List Nd} {W : Int} (h : mp L W = 0) : Top L := by
  unfold mp at h
  by_cases c1 : 32 < L.length
  · rw [if_pos c1] at h; omega
  rw [if_neg c1] at h
  by_cases c2 : (frn L).length < L.length ∨ fmd 33 L = false
  · rw [if_pos c2] at h; omega
  rw [if_neg c2] at h
  by_cases c3 : L.any bad = true
  · rw [if_pos c3] at h; omega
  rw [if_neg c3] at h
  by_cases c4 : 8 < dpt 33 L
  · rw [if_pos c4] at h; omega
  rw [if_neg c4] at h
  by_cases c5 : W < 1 ∨ 1048576 < W
  · rw [if_pos c5] at h; omega
  rw [if_neg c5] at h
  by_cases c6 : 32 < plc 33 L
  · rw [if_pos c6] at h; omega
  rw [not_or] at c2
  have h2 : fmd 33 L = true := by simpa using c2.2
  have hne : L ≠ [] := fmd_ne h2
  have hl := frn_len L
  have e : (frn L).length = L.length := by omega
  have hfn : frn L ≠ [] := fun e0 => hne (List.eq_nil_of_length_eq_zero (by rw [← e, e0]; rfl))
  have hfr : frn L = L := by rw [frn_take L hfn, e, List.take_of_length_le (Nat.le_refl _)]
  have hc := au_cn 33 L h2 hfr
  have hd : cnt 33 L ≤ 32 * 8 ^ 8 := Nat.le_trans hc.d (Nat.mul_le_mul (by omega) (Nat.pow_le_pow_right (by omega) (by have := (dpt_pos 33 L).1; omega)))
  have hw : plc 33 L = (cnt 33 L : Int) := by rw [hc.w, wrap_id _ (by omega) (by omega)]
  exact ⟨h2, hfr, by omega, by omega, hw⟩
abbrev autv (Ap : Option Addr) (kp cp : Nat) (a b : Nat) (Ae : Option Addr) (ke ce : Nat) : Value := .agg #[.slice Ap kp cp, .int .u32 (a : Int), .int .u32 (b : Int), .slice Ae ke ce]
/- what Compile answers: nothing; an automaton -/
def CoN (n : Int) (w : World) (e : Ending) (w' : World) : Prop := e = .returned (.tuple #[autv none 0 0 0 0 none 0 0, .int .i64 n]) ∧ Below w.heap.size w w'
def CoA (s : Res) (w : World) (e : Ending) (w' : World) : Prop := ∃ r Ap kp cp Ae ke ce Ps Es, e = .returned (.tuple #[autv Ap kp cp s.1 s.2.1 Ae ke ce, .int .i64 0]) ∧ Mi w' r Ap kp cp Ae ke ce Ps Es ∧ Ps.map vq = s.2.2.1 ∧ (Es.map ve).Perm s.2.2.2 ∧ Kyl Es ∧ w.heap.size ≤ r ∧ Below w.heap.size w w'
/- an automaton in a box -/
def AB (w : World) (g : Nat) (Ap : Option Addr) (kp cp : Nat) (a b : Int) (Ae : Option Addr) (ke ce : Nat) : Prop := w.heap[g]? = some (.cells #[.slice Ap kp cp, .int .u32 a, .int .u32 b, .slice Ae ke ce] 36 (0, 0))
theorem AB.cells {w : World} {g : Nat} {Ap : Option Addr} {kp cp : Nat} {a b : Int} {Ae : Option Addr} {ke ce : Nat} (h : AB w g Ap kp cp a b Ae ke ce) : w.cell? ⟨g, 0, none⟩ = some (.slice Ap kp cp) ∧ w.cell? ⟨g, 1, none⟩ = some (.int .u32 a) ∧ w.cell? ⟨g, 2, none⟩ = some (.int .u32 b) ∧ w.cell? ⟨g, 3, none⟩ = some (.slice Ae ke ce) ∧ ∀ j, w.frozen? ⟨g, j, none⟩ = false := by
  refine ⟨by rw [cell_of_row w g _ _ _ _ h]; rfl, by rw [cell_of_row w g _ _ _ _ h]; rfl, by rw [cell_of_row w g _ _ _ _ h]; rfl, by rw [cell_of_row w g _ _ _ _ h]; rfl, fun j => ?_⟩
  simp [World.frozen?, AB] at h ⊢
  simp [h]
theorem AB.lt {w : World} {g : Nat} {Ap : Option Addr} {kp cp : Nat} {a b : Int} {Ae : Option Addr} {ke ce : Nat} (h : AB w g Ap kp cp a b Ae ke ce) : g < w.heap.size := (Array.getElem?_eq_some_iff.1 h).1
theorem AB.below {B : Nat} {w w' : World} {g : Nat} {Ap : Option Addr} {kp cp : Nat} {a b : Int} {Ae : Option Addr} {ke ce : Nat} (h : AB w g Ap kp cp a b Ae ke ce) (hb : Below B w w') (hg : g < B) : AB w' g Ap kp cp a b Ae ke ce := by unfold AB; rw [hb.block g hg]; exact h
theorem Mi.low {W : World} {r : Nat} {Ap : Option Addr} {kp cp : Nat} {Ae : Option Addr} {ke ce : Nat} {Ps : List Qu} {Es : List Ed} (h : Mi W r Ap kp cp Ae ke ce Ps Es) (g j : Nat) (hg : g < r) (v : Value) : Mi (W.setCell ⟨g, j, none⟩ v) r Ap kp cp Ae ke ce Ps Es :=
  ⟨by rw [heap_setCell_other W ⟨g, j, none⟩ r v (by show r ≠ g; omega)]; exact h.box,
    row_same h.rp (fun x cur ho hh => by rw [heap_setCell_other W ⟨g, j, none⟩ x v (by have := (World.ownsRow.lt h.rp x ho).1; show x ≠ g; omega)]; exact hh),
    row_same h.re (fun x cur ho hh => by rw [heap_setCell_other W ⟨g, j, none⟩ x v (by have := (World.ownsRow.lt h.re x ho).1; show x ≠ g; omega)]; exact hh), h.lp, h.le,
    fun q hq => ⟨(h.qp q hq).own.setCell g j (by omega) v, (h.qp q hq).len, (h.qp q hq).few, (h.qp q hq).ok⟩, fun d hd => ⟨(h.qe d hd).own.setCell g j (by omega) v, (h.qe d hd).len, (h.qe d hd).few, (h.qe d hd).ok⟩⟩
set_option maxHeartbeats 4000000 in
theorem comp_no (A : Option Addr) (n c : Nat) (L : List Nd) (win : Int) (w : World) (hP : Pt w A n c L) (hT : Tab w) (hm : mp L win ≠ 0) :
    Calls Tryz.prog 14 #[ptv A n c win] w fun e w' => CoN (mp L win) w e w' := by
  obtain ⟨w1, hw1⟩ : ∃ X, (w.alloc (ptobj A n c win)).alloc (.cells #[.slice none 0 0, .int .u32 0, .int .u32 0, .slice none 0 0] 36) = X := ⟨_, rfl⟩
  have b1 : Below w.heap.size w w1 := hw1 ▸ below_go (below_alloc w _) (below_alloc _ _)
  have P0 : PtB w1 w.heap.size A n c win := hw1 ▸ (PtB.alloc w A n c win).next (below_alloc _ _)
  have A0 : AB w1 (w.heap.size + 1) none 0 0 0 0 none 0 0 := by rw [← hw1, ← World.size_alloc w (ptobj A n c win)]; exact heap_alloc_new _ _
  have TM := Lib.hid (tmay_any A n c L win w1 (hP.below b1) (hT.below b1))
  obtain ⟨m, hme⟩ : ∃ z, mp L win = z := ⟨_, rfl⟩
  rw [hme] at TM hm ⊢
  have h1 : (m != 0) = true := by simp [hm]
  have B1 := Lib.hid b1
  have AA := Lib.hid A0
  have k0 := P0.c0
  have k1 := P0.c1
  have zA := A0.lt
  clear hP hT b1 P0 A0 hme
  go_enter Tryz.func14, Tryz.ntmps14
  go_upto_region 1 with fail
  clear hw1
  go_wp2_with fail
  refine TM.out.mono ?_
  rintro e w2 ⟨rfl, hb⟩
  have A2 := Lib.hid (AA.out.below hb zA)
  have B2 := Lib.hid (below_go B1.out hb)
  obtain ⟨a0, a1, a2, a3, af⟩ := A2.out.cells
  have f0 := af 0
  have f1 := af 1
  have f2 := af 2
  have f3 := af 3
  have z2 := A2.out.lt
  have BF := Lib.hid ((((B2.out.setCell (p := ⟨w.heap.size + 1, 0, none⟩) (Nat.le_succ _) (.slice none 0 0)).setCell (p := ⟨w.heap.size + 1, 1, none⟩) (Nat.le_succ _) (.int .u32 0)).setCell (p := ⟨w.heap.size + 1, 2, none⟩) (Nat.le_succ _) (.int .u32 0)).setCell (p := ⟨w.heap.size + 1, 3, none⟩) (Nat.le_succ _) (.slice none 0 0))
  clear hb af TM k0 k1 A2 B2 AA
  go_wp2_with fail
  refine bodyPost_ret (v := .tuple #[autv none 0 0 0 0 none 0 0, .int .i64 m]) (by simp [results, Tryz.results14, go_sem, *]) rfl ⟨rfl, BF.out⟩
end Go.Proofs.YtpnllbojifnopaaGreatDoor
