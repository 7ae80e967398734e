/- The document's Rename. -/
import Derived.Test.YtahjodpaikhhmaaDkR4b
import Derived.Deep.RegionHeld3
namespace Go.Proofs.Ytahjodpaikhhmaa
open Go Go.RowKit
set_option maxRecDepth 20000

set_option maxHeartbeats 4000000 in
theorem rrename_cut (w : World) (R : Int) (A : Option Addr) (n c : Nat) (dn0 : Bool) (fl0 : Int) (lt0 : Bool) (ac0 pt0 : Int) (dn : Bool) (fl : Int) (lt : Bool) (ac pt : Int) (h : Int) (hh : 0 < h) (HB : ∀ W, Calls Try.prog 40 #[rv R A n c dn0 fl0 lt0 ac0 pt0] W fun e w' => e = .returned (.tuple #[.int .i64 h, .agg #[.int .i64 R, .slice A n c, .bool dn, .int .i64 fl, .bool lt, .int .i64 ac, .int .i64 pt]]) ∧ Below W.heap.size W w') (L : List RF) (hl : L.length = n) (hr : Rs w A L) (hn : n ≤ 1000) (s t : ByteArray) :
    Calls Try.prog 25 #[rv R A n c dn0 fl0 lt0 ac0 pt0, .string s, .string t] w (RAct w A L 9 R dn fl lt ac pt (fls L)) := by
  have b0 := below_go (below_alloc w (rc R A n c dn0 fl0 lt0 ac0 pt0)) (below_alloc _ rc0)
  have C := Lib.hid (HB ((w.alloc (rc R A n c dn0 fl0 lt0 ac0 pt0)).alloc rc0))
  have T0 := Lib.hid (two_start w R A n c dn0 fl0 lt0 ac0 pt0)
  have B0 := Lib.hid b0
  have HR := Lib.hid hr
  have HL := Lib.hid hl
  clear HB hr hl b0
  go_enter Try.func25, Try.ntmps25
  go_wp2_with fail
  refine C.out.mono ?_
  rintro e w1 ⟨rfl, hb1⟩
  have t1 := T0.out.below hb1 (by simp)
  obtain ⟨y0, y1, y2, y3, y4, y5, y6, f0, f1, f2, f3, f4, f5, f6, hg0⟩ := look7 t1.b0
  obtain ⟨W1, hW1, k0, kk, ks, kb⟩ := boxed t1.b0 (.int .i64 R) (.slice A n c) (.bool dn) (.int .i64 fl) (.bool lt) (.int .i64 ac) (.int .i64 pt)
  have k1 : W1.heap[w.heap.size + 1]? = some rc0 := (kk _ (by omega)).trans t1.b1
  have BW := Lib.hid (kb _ _ (below_go B0.out hb1) (Nat.le_refl _))
  have TW := Lib.hid (Two.mk k0 k1)
  have HW := Lib.hid hW1
  have RW := Lib.hid (HR.out.below BW.out)
  have hsz : w.heap.size + 1 < W1.heap.size := (Array.getElem?_eq_some_iff.1 k1).1
  clear C T0 B0 hb1 t1 kk ks kb k0 k1 hW1
  go_wp2_with fail
  rw [HW.out]
  clear y0 y1 y2 y3 y4 y5 y6 f0 f1 f2 f3 f4 f5 f6 hg0 HW
  obtain ⟨y0, y1, y2, y3, y4, y5, y6, f0, f1, f2, f3, f4, f5, f6, hg0⟩ := look7 (TW.out).b0
  obtain ⟨z0, z1, z2, z3, z4, z5, z6, e0, e1, e2, e3, e4, e5, e6, hg1⟩ := look7 (TW.out).b1
  go_region
  all_goals
    go_wp2_with fail
    have BF := (st7_below BW.out (w.heap.size + 1) (.int .i64 R) (.slice A n c) (.bool dn) (.int .i64 fl) (.bool lt) (.int .i64 ac) (.int .i64 pt) (by omega)).drew
    exact bodyPost_ret (v := .tuple #[.int .i64 9, .agg #[.int .i64 R, .slice A n c, .bool dn, .int .i64 fl, .bool lt, .int .i64 ac, .int .i64 pt]]) (by simp [results, Try.results25, go_sem, *]) rfl ⟨A, n, c, L, rfl, rfl, HL.out, HR.out.below BF, Nw.same _ _ _ _, BF⟩
set_option maxHeartbeats 4000000 in
theorem rrename_bad (w : World) (R : Int) (A : Option Addr) (n c : Nat) (dn0 : Bool) (fl0 : Int) (lt0 : Bool) (ac0 pt0 : Int) (dn : Bool) (fl : Int) (lt : Bool) (ac pt : Int) (HB : ∀ W, Calls Try.prog 40 #[rv R A n c dn0 fl0 lt0 ac0 pt0] W fun e w' => e = .returned (.tuple #[.int .i64 0, .agg #[.int .i64 R, .slice A n c, .bool dn, .int .i64 fl, .bool lt, .int .i64 ac, .int .i64 pt]]) ∧ Below W.heap.size W w') (L : List RF) (hl : L.length = n) (hr : Rs w A L) (hn : n ≤ 1000) (s t : ByteArray) (ht : t.size ≤ maxLen) (hnm : named t = false) :
    Calls Try.prog 25 #[rv R A n c dn0 fl0 lt0 ac0 pt0, .string s, .string t] w (RAct w A L 1 R dn fl lt ac pt (fls L)) := by
  have b0 := below_go (below_alloc w (rc R A n c dn0 fl0 lt0 ac0 pt0)) (below_alloc _ rc0)
  have C := Lib.hid (HB ((w.alloc (rc R A n c dn0 fl0 lt0 ac0 pt0)).alloc rc0))
  have T0 := Lib.hid (two_start w R A n c dn0 fl0 lt0 ac0 pt0)
  have B0 := Lib.hid b0
  have HR := Lib.hid hr
  have HL := Lib.hid hl
  clear HB hr hl b0
  go_enter Try.func25, Try.ntmps25
  go_wp2_with fail
  refine C.out.mono ?_
  rintro e w1 ⟨rfl, hb1⟩
  have t1 := T0.out.below hb1 (by simp)
  obtain ⟨y0, y1, y2, y3, y4, y5, y6, f0, f1, f2, f3, f4, f5, f6, hg0⟩ := look7 t1.b0
  obtain ⟨W1, hW1, k0, kk, ks, kb⟩ := boxed t1.b0 (.int .i64 R) (.slice A n c) (.bool dn) (.int .i64 fl) (.bool lt) (.int .i64 ac) (.int .i64 pt)
  have k1 : W1.heap[w.heap.size + 1]? = some rc0 := (kk _ (by omega)).trans t1.b1
  have BW := Lib.hid (kb _ _ (below_go B0.out hb1) (Nat.le_refl _))
  have TW := Lib.hid (Two.mk k0 k1)
  have HW := Lib.hid hW1
  have RW := Lib.hid (HR.out.below BW.out)
  have hsz : w.heap.size + 1 < W1.heap.size := (Array.getElem?_eq_some_iff.1 k1).1
  clear C T0 B0 hb1 t1 kk ks kb k0 k1 hW1
  go_wp2_with fail
  rw [HW.out]
  clear y0 y1 y2 y3 y4 y5 y6 f0 f1 f2 f3 f4 f5 f6 hg0 HW
  have CN := Lib.hid (fun W => rnamed_any t W ht)
  rw [hnm] at CN
  refine (CN.out _).mono ?_
  rintro e w9 ⟨rfl, rfl⟩
  clear CN
  go_wp2_with fail
  obtain ⟨y0, y1, y2, y3, y4, y5, y6, f0, f1, f2, f3, f4, f5, f6, hg0⟩ := look7 (TW.out).b0
  obtain ⟨z0, z1, z2, z3, z4, z5, z6, e0, e1, e2, e3, e4, e5, e6, hg1⟩ := look7 (TW.out).b1
  go_region
  all_goals
    go_wp2_with fail
    have BF := (st7_below BW.out (w.heap.size + 1) (.int .i64 R) (.slice A n c) (.bool dn) (.int .i64 fl) (.bool lt) (.int .i64 ac) (.int .i64 pt) (by omega)).drew
    exact bodyPost_ret (v := .tuple #[.int .i64 1, .agg #[.int .i64 R, .slice A n c, .bool dn, .int .i64 fl, .bool lt, .int .i64 ac, .int .i64 pt]]) (by simp [results, Try.results25, go_sem, *]) rfl ⟨A, n, c, L, rfl, rfl, HL.out, HR.out.below BF, Nw.same _ _ _ _, BF⟩
set_option maxHeartbeats 4000000 in
theorem rrename_none (w : World) (R : Int) (A : Option Addr) (n c : Nat) (dn0 : Bool) (fl0 : Int) (lt0 : Bool) (ac0 pt0 : Int) (dn : Bool) (fl : Int) (lt : Bool) (ac pt : Int) (HB : ∀ W, Calls Try.prog 40 #[rv R A n c dn0 fl0 lt0 ac0 pt0] W fun e w' => e = .returned (.tuple #[.int .i64 0, .agg #[.int .i64 R, .slice A n c, .bool dn, .int .i64 fl, .bool lt, .int .i64 ac, .int .i64 pt]]) ∧ Below W.heap.size W w') (L : List RF) (hl : L.length = n) (hr : Rs w A L) (hn : n ≤ 1000) (s t : ByteArray) (ht : t.size ≤ maxLen) (hnm : named t = true) (hf : fnd (fls L) s = none) :
    Calls Try.prog 25 #[rv R A n c dn0 fl0 lt0 ac0 pt0, .string s, .string t] w (RAct w A L 8 R dn fl lt ac pt (fls L)) := by
  have b0 := below_go (below_alloc w (rc R A n c dn0 fl0 lt0 ac0 pt0)) (below_alloc _ rc0)
  have C := Lib.hid (HB ((w.alloc (rc R A n c dn0 fl0 lt0 ac0 pt0)).alloc rc0))
  have T0 := Lib.hid (two_start w R A n c dn0 fl0 lt0 ac0 pt0)
  have B0 := Lib.hid b0
  have HR := Lib.hid hr
  have HL := Lib.hid hl
  clear HB hr hl b0
  go_enter Try.func25, Try.ntmps25
  go_wp2_with fail
  refine C.out.mono ?_
  rintro e w1 ⟨rfl, hb1⟩
  have t1 := T0.out.below hb1 (by simp)
  obtain ⟨y0, y1, y2, y3, y4, y5, y6, f0, f1, f2, f3, f4, f5, f6, hg0⟩ := look7 t1.b0
  obtain ⟨W1, hW1, k0, kk, ks, kb⟩ := boxed t1.b0 (.int .i64 R) (.slice A n c) (.bool dn) (.int .i64 fl) (.bool lt) (.int .i64 ac) (.int .i64 pt)
  have k1 : W1.heap[w.heap.size + 1]? = some rc0 := (kk _ (by omega)).trans t1.b1
  have BW := Lib.hid (kb _ _ (below_go B0.out hb1) (Nat.le_refl _))
  have TW := Lib.hid (Two.mk k0 k1)
  have HW := Lib.hid hW1
  have RW := Lib.hid (HR.out.below BW.out)
  have hsz : w.heap.size + 1 < W1.heap.size := (Array.getElem?_eq_some_iff.1 k1).1
  clear C T0 B0 hb1 t1 kk ks kb k0 k1 hW1
  go_wp2_with fail
  rw [HW.out]
  clear y0 y1 y2 y3 y4 y5 y6 f0 f1 f2 f3 f4 f5 f6 hg0 HW
  obtain ⟨y0, y1, y2, y3, y4, y5, y6, f0, f1, f2, f3, f4, f5, f6, hg0⟩ := look7 (TW.out).b0
  have CN := Lib.hid (fun W => rnamed_any t W ht)
  rw [hnm] at CN
  refine (CN.out _).mono ?_
  rintro e w9 ⟨rfl, rfl⟩
  clear CN
  go_wp2_with fail
  clear y0 y1 y2 y3 y4 y5 y6 f0 f1 f2 f3 f4 f5 f6 hg0
  obtain ⟨y0, y1, y2, y3, y4, y5, y6, f0, f1, f2, f3, f4, f5, f6, hg0⟩ := look7 (TW.out).b0
  have CF := Lib.hid (rfind_any W1 R A n c dn fl lt ac pt L s HL.out RW.out.fls hn)
  refine CF.out.mono ?_
  intro e w2 hF
  obtain ⟨h1, hb2⟩ := hF
  have BW2 := Lib.hid (below_go BW.out hb2)
  have T2 := TW.out.below hb2 hsz
  have TW2 := Lib.hid T2
  have hsz2 : w.heap.size + 1 < w2.heap.size := by have := hb2.size; omega
  clear CF hb2 T2 TW y0 y1 y2 y3 y4 y5 y6 f0 f1 f2 f3 f4 f5 f6 hg0
  have h2 : e = .returned (.int .i64 (-1)) := by
    rcases h1 with ⟨i, hi, he, hx⟩ | ⟨he, hx⟩
    · rw [hf] at hx; cases hx
    · exact he
  subst h2
  have BW := BW2
  have TW := TW2
  clear h1 hf RW
  go_wp2_with fail
  obtain ⟨y0, y1, y2, y3, y4, y5, y6, f0, f1, f2, f3, f4, f5, f6, hg0⟩ := look7 (TW.out).b0
  obtain ⟨z0, z1, z2, z3, z4, z5, z6, e0, e1, e2, e3, e4, e5, e6, hg1⟩ := look7 (TW.out).b1
  go_region
  all_goals
    go_wp2_with fail
    have BF := (st7_below BW.out (w.heap.size + 1) (.int .i64 R) (.slice A n c) (.bool dn) (.int .i64 fl) (.bool lt) (.int .i64 ac) (.int .i64 pt) (by omega)).drew
    exact bodyPost_ret (v := .tuple #[.int .i64 8, .agg #[.int .i64 R, .slice A n c, .bool dn, .int .i64 fl, .bool lt, .int .i64 ac, .int .i64 pt]]) (by simp [results, Try.results25, go_sem, *]) rfl ⟨A, n, c, L, rfl, rfl, HL.out, HR.out.below BF, Nw.same _ _ _ _, BF⟩
end Go.Proofs.Ytahjodpaikhhmaa
