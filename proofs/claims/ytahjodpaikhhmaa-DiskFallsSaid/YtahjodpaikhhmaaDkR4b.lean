/- The document's Truncate, where it is refused. -/
import Derived.Test.YtahjodpaikhhmaaDkR4
import Derived.Deep.RegionHeld3
namespace Go.Proofs.Ytahjodpaikhhmaa
open Go Go.RowKit
set_option maxRecDepth 20000

set_option maxHeartbeats 600000 in
theorem rtruncate_low (w : World) (R : Int) (A : Option Addr) (n c : Nat) (dn0 : Bool) (fl0 : Int) (lt0 : Bool) (ac0 pt0 : Int) (dn : Bool) (fl : Int) (lt : Bool) (ac pt : Int) (HB : ∀ W, Calls Try.prog 40 #[rv R A n c dn0 fl0 lt0 ac0 pt0] W fun e w' => e = .returned (.tuple #[.int .i64 0, .agg #[.int .i64 R, .slice A n c, .bool dn, .int .i64 fl, .bool lt, .int .i64 ac, .int .i64 pt]]) ∧ Below W.heap.size W w') (L : List RF) (hl : L.length = n) (hr : Rs w A L) (hn : n ≤ 1000) (s : ByteArray) (k : Int) (f : Fl) (hf : fnd (fls L) s = some f) (hk : k < 0) :
    Calls Try.prog 26 #[rv R A n c dn0 fl0 lt0 ac0 pt0, .string s, .int .i64 k] w (RAct w A L 1 R dn fl lt ac pt (fls L)) := by
  have b0 := below_go (below_alloc w (rc R A n c dn0 fl0 lt0 ac0 pt0)) (below_alloc _ rc0)
  have C := Lib.hid (HB ((w.alloc (rc R A n c dn0 fl0 lt0 ac0 pt0)).alloc rc0))
  have T0 := Lib.hid (two_start w R A n c dn0 fl0 lt0 ac0 pt0)
  have B0 := Lib.hid b0
  have HR := Lib.hid hr
  have HL := Lib.hid hl
  clear HB hr hl b0
  go_enter Try.func26, Try.ntmps26
  go_wp2_with fail
  refine C.out.mono ?_
  rintro e w1 ⟨rfl, hb1⟩
  have t1 := T0.out.below hb1 (by simp)
  obtain ⟨y0, y1, y2, y3, y4, y5, y6, f0, f1, f2, f3, f4, f5, f6, hg0⟩ := look7 t1.b0
  obtain ⟨W1, hW1, k0, kk, ks, kb⟩ := boxed t1.b0 (.int .i64 R) (.slice A n c) (.bool dn) (.int .i64 fl) (.bool lt) (.int .i64 ac) (.int .i64 pt)
  have k1 : W1.heap[w.heap.size + 1]? = some rc0 := (kk _ (by omega)).trans t1.b1
  have BW := Lib.hid (kb _ _ (below_go B0.out hb1) (Nat.le_refl _))
  have TW := Lib.hid (Two.mk k0 k1)
  have HW := Lib.hid hW1
  have RW := Lib.hid (HR.out.below BW.out)
  have hsz : w.heap.size + 1 < W1.heap.size := (Array.getElem?_eq_some_iff.1 k1).1
  clear C T0 B0 hb1 t1 kk ks kb k0 k1 hW1
  go_wp2_with fail
  rw [HW.out]
  clear y0 y1 y2 y3 y4 y5 y6 f0 f1 f2 f3 f4 f5 f6 hg0 HW
  obtain ⟨y0, y1, y2, y3, y4, y5, y6, f0, f1, f2, f3, f4, f5, f6, hg0⟩ := look7 (TW.out).b0
  have CF := Lib.hid (rfind_any W1 R A n c dn fl lt ac pt L s HL.out RW.out.fls hn)
  go_wp2_with fail
  refine CF.out.mono ?_
  intro e w2 hF
  obtain ⟨h1, hb2⟩ := hF
  have BW2 := Lib.hid (below_go BW.out hb2)
  have T2 := TW.out.below hb2 hsz
  have TW2 := Lib.hid T2
  have hsz2 : w.heap.size + 1 < w2.heap.size := by have := hb2.size; omega
  clear CF hb2 T2 TW y0 y1 y2 y3 y4 y5 y6 f0 f1 f2 f3 f4 f5 f6 hg0
  have h2 : ∃ i : Nat, i < n ∧ e = .returned (.int .i64 (i : Int)) ∧ (L.getD i rz).f = f := by
    rcases h1 with ⟨i, hi, he, hx⟩ | ⟨he, hx⟩
    · refine ⟨i, hi, he, ?_⟩
      rw [hf] at hx
      injection hx with hx
      exact hx.symm
    · rw [hf] at hx; cases hx
  obtain ⟨i, hi, rfl, hfi⟩ := h2
  have hiL : i < L.length := by rw [HL.out]; exact hi
  obtain ⟨b, off, rfl, x0, x1, x2⟩ := (HR.out.fls.below BW2.out) i hiL
  have hrm := getD_inR L i hiL
  obtain ⟨r, hri⟩ : ∃ r, L.getD i rz = r := ⟨_, rfl⟩
  rw [hri] at x0 x1 x2 hfi hrm
  subst hfi
  have HD := Lib.hid (HR.out.hdr r hrm)
  have HM := Lib.hid hrm
  obtain ⟨y0, y1, y2, y3, y4, y5, y6, f0, f1, f2, f3, f4, f5, f6, hg0⟩ := look7 (TW2.out).b0
  have hbl : b < w2.heap.size := World.block_lt_of_cell? _ _ x0
  have hi' : (i : Int) < (n : Int) := by omega
  have hi0 : (0 : Int) ≤ (i : Int) := by omega
  clear h1 hf RW hri hrm hiL
  have b3 := below_alloc w2 (.cells #[.string r.f.nm, .slice r.A r.f.bs.length r.c, .int .i64 (r.f.sf : Int)] 43)
  have t3 := TW2.out.below b3 hsz2
  have b4 := below_go BW2.out b3
  obtain ⟨W3, hW3⟩ : ∃ W3, w2.alloc (.cells #[.string r.f.nm, .slice r.A r.f.bs.length r.c, .int .i64 (r.f.sf : Int)] 43) = W3 := ⟨_, rfl⟩
  have HW3 := Lib.hid hW3
  rw [hW3] at t3 b4
  have TW := Lib.hid t3
  have BW := Lib.hid b4
  clear BW2 TW2 b3 t3 b4 hW3
  go_wp2_with fail
  rw [HW3.out]
  clear y0 y1 y2 y3 y4 y5 y6 f0 f1 f2 f3 f4 f5 f6 hg0 x0 x1 x2 HW3
  obtain ⟨y0, y1, y2, y3, y4, y5, y6, f0, f1, f2, f3, f4, f5, f6, hg0⟩ := look7 (TW.out).b0
  obtain ⟨z0, z1, z2, z3, z4, z5, z6, e0, e1, e2, e3, e4, e5, e6, hg1⟩ := look7 (TW.out).b1
  go_region
  all_goals
    go_wp2_with fail
    have BF := (st7_below BW.out (w.heap.size + 1) (.int .i64 R) (.slice (some ⟨b, off, none⟩) n c) (.bool dn) (.int .i64 fl) (.bool lt) (.int .i64 ac) (.int .i64 pt) (by omega)).drew
    exact bodyPost_ret (v := .tuple #[.int .i64 1, .agg #[.int .i64 R, .slice (some ⟨b, off, none⟩) n c, .bool dn, .int .i64 fl, .bool lt, .int .i64 ac, .int .i64 pt]]) (by simp [results, Try.results26, go_sem, *]) rfl ⟨_, n, c, L, rfl, rfl, HL.out, HR.out.below BF, Nw.same _ _ _ _, BF⟩
set_option maxHeartbeats 600000 in
theorem rtruncate_high (w : World) (R : Int) (A : Option Addr) (n c : Nat) (dn0 : Bool) (fl0 : Int) (lt0 : Bool) (ac0 pt0 : Int) (dn : Bool) (fl : Int) (lt : Bool) (ac pt : Int) (HB : ∀ W, Calls Try.prog 40 #[rv R A n c dn0 fl0 lt0 ac0 pt0] W fun e w' => e = .returned (.tuple #[.int .i64 0, .agg #[.int .i64 R, .slice A n c, .bool dn, .int .i64 fl, .bool lt, .int .i64 ac, .int .i64 pt]]) ∧ Below W.heap.size W w') (L : List RF) (hl : L.length = n) (hr : Rs w A L) (hn : n ≤ 1000) (s : ByteArray) (k : Int) (f : Fl) (hf : fnd (fls L) s = some f) (hk : (f.bs.length : Int) < k) :
    Calls Try.prog 26 #[rv R A n c dn0 fl0 lt0 ac0 pt0, .string s, .int .i64 k] w (RAct w A L 1 R dn fl lt ac pt (fls L)) := by
  have b0 := below_go (below_alloc w (rc R A n c dn0 fl0 lt0 ac0 pt0)) (below_alloc _ rc0)
  have C := Lib.hid (HB ((w.alloc (rc R A n c dn0 fl0 lt0 ac0 pt0)).alloc rc0))
  have T0 := Lib.hid (two_start w R A n c dn0 fl0 lt0 ac0 pt0)
  have B0 := Lib.hid b0
  have HR := Lib.hid hr
  have HL := Lib.hid hl
  clear HB hr hl b0
  go_enter Try.func26, Try.ntmps26
  go_wp2_with fail
  refine C.out.mono ?_
  rintro e w1 ⟨rfl, hb1⟩
  have t1 := T0.out.below hb1 (by simp)
  obtain ⟨y0, y1, y2, y3, y4, y5, y6, f0, f1, f2, f3, f4, f5, f6, hg0⟩ := look7 t1.b0
  obtain ⟨W1, hW1, k0, kk, ks, kb⟩ := boxed t1.b0 (.int .i64 R) (.slice A n c) (.bool dn) (.int .i64 fl) (.bool lt) (.int .i64 ac) (.int .i64 pt)
  have k1 : W1.heap[w.heap.size + 1]? = some rc0 := (kk _ (by omega)).trans t1.b1
  have BW := Lib.hid (kb _ _ (below_go B0.out hb1) (Nat.le_refl _))
  have TW := Lib.hid (Two.mk k0 k1)
  have HW := Lib.hid hW1
  have RW := Lib.hid (HR.out.below BW.out)
  have hsz : w.heap.size + 1 < W1.heap.size := (Array.getElem?_eq_some_iff.1 k1).1
  clear C T0 B0 hb1 t1 kk ks kb k0 k1 hW1
  go_wp2_with fail
  rw [HW.out]
  clear y0 y1 y2 y3 y4 y5 y6 f0 f1 f2 f3 f4 f5 f6 hg0 HW
  obtain ⟨y0, y1, y2, y3, y4, y5, y6, f0, f1, f2, f3, f4, f5, f6, hg0⟩ := look7 (TW.out).b0
  have CF := Lib.hid (rfind_any W1 R A n c dn fl lt ac pt L s HL.out RW.out.fls hn)
  go_wp2_with fail
  refine CF.out.mono ?_
  intro e w2 hF
  obtain ⟨h1, hb2⟩ := hF
  have BW2 := Lib.hid (below_go BW.out hb2)
  have T2 := TW.out.below hb2 hsz
  have TW2 := Lib.hid T2
  have hsz2 : w.heap.size + 1 < w2.heap.size := by have := hb2.size; omega
  clear CF hb2 T2 TW y0 y1 y2 y3 y4 y5 y6 f0 f1 f2 f3 f4 f5 f6 hg0
  have h2 : ∃ i : Nat, i < n ∧ e = .returned (.int .i64 (i : Int)) ∧ (L.getD i rz).f = f := by
    rcases h1 with ⟨i, hi, he, hx⟩ | ⟨he, hx⟩
    · refine ⟨i, hi, he, ?_⟩
      rw [hf] at hx
      injection hx with hx
      exact hx.symm
    · rw [hf] at hx; cases hx
  obtain ⟨i, hi, rfl, hfi⟩ := h2
  have hiL : i < L.length := by rw [HL.out]; exact hi
  obtain ⟨b, off, rfl, x0, x1, x2⟩ := (HR.out.fls.below BW2.out) i hiL
  have hrm := getD_inR L i hiL
  obtain ⟨r, hri⟩ : ∃ r, L.getD i rz = r := ⟨_, rfl⟩
  rw [hri] at x0 x1 x2 hfi hrm
  subst hfi
  have HD := Lib.hid (HR.out.hdr r hrm)
  have HM := Lib.hid hrm
  obtain ⟨y0, y1, y2, y3, y4, y5, y6, f0, f1, f2, f3, f4, f5, f6, hg0⟩ := look7 (TW2.out).b0
  have hbl : b < w2.heap.size := World.block_lt_of_cell? _ _ x0
  have hi' : (i : Int) < (n : Int) := by omega
  have hi0 : (0 : Int) ≤ (i : Int) := by omega
  clear h1 hf RW hri hrm hiL
  have b3 := below_alloc w2 (.cells #[.string r.f.nm, .slice r.A r.f.bs.length r.c, .int .i64 (r.f.sf : Int)] 43)
  have t3 := TW2.out.below b3 hsz2
  have b4 := below_go BW2.out b3
  obtain ⟨W3, hW3⟩ : ∃ W3, w2.alloc (.cells #[.string r.f.nm, .slice r.A r.f.bs.length r.c, .int .i64 (r.f.sf : Int)] 43) = W3 := ⟨_, rfl⟩
  have HW3 := Lib.hid hW3
  rw [hW3] at t3 b4
  have TW := Lib.hid t3
  have BW := Lib.hid b4
  clear BW2 TW2 b3 t3 b4 hW3
  have hk1 : ¬ k < 0 := by omega
  go_wp2_with fail
  rw [HW3.out]
  clear y0 y1 y2 y3 y4 y5 y6 f0 f1 f2 f3 f4 f5 f6 hg0 x0 x1 x2 HW3
  obtain ⟨y0, y1, y2, y3, y4, y5, y6, f0, f1, f2, f3, f4, f5, f6, hg0⟩ := look7 (TW.out).b0
  obtain ⟨z0, z1, z2, z3, z4, z5, z6, e0, e1, e2, e3, e4, e5, e6, hg1⟩ := look7 (TW.out).b1
  go_region
  all_goals
    go_wp2_with fail
    have BF := (st7_below BW.out (w.heap.size + 1) (.int .i64 R) (.slice (some ⟨b, off, none⟩) n c) (.bool dn) (.int .i64 fl) (.bool lt) (.int .i64 ac) (.int .i64 pt) (by omega)).drew
    exact bodyPost_ret (v := .tuple #[.int .i64 1, .agg #[.int .i64 R, .slice (some ⟨b, off, none⟩) n c, .bool dn, .int .i64 fl, .bool lt, .int .i64 ac, .int .i64 pt]]) (by simp [results, Try.results26, go_sem, *]) rfl ⟨_, n, c, L, rfl, rfl, HL.out, HR.out.below BF, Nw.same _ _ _ _, BF⟩
end Go.Proofs.Ytahjodpaikhhmaa
