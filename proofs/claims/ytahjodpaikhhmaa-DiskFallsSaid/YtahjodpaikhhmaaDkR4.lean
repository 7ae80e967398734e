/- The document's acts: Sync, Delete, Truncate, Rename. -/
import Derived.Test.YtahjodpaikhhmaaDkR3
import Derived.Deep.RegionHeld3
namespace Go.Proofs.Ytahjodpaikhhmaa
open Go Go.RowKit
set_option maxRecDepth 20000

/- the answer is laid: a row of one's own, and files whose bytes are there -/
theorem ract_fin {w W4 : World} {A : Option Addr} {L : List RF} {B : Nat} (t1 : W4.heap[w.heap.size + 1]? = some rc0) (hb : Below w.heap.size w W4) {A' : Option Addr} {n' c' : Nat} {L' : List RF} (ho : OwnF W4 B (.slice A' n' c') L') (hB : w.heap.size + 1 < B) (hl : L'.length = n')
    (hd : ∀ W5, Below w.heap.size w W5 → (∀ k, k ≠ w.heap.size + 1 → W5.heap[k]? = W4.heap[k]?) → ∀ r ∈ L', Byt W5 r.A r.f.bs ∧ r.f.bs.length ≤ r.c ∧ (r.A = none → r.c = 0))
    (hn : ∀ r ∈ L', (∃ r0 ∈ L, r.A = r0.A) ∨ ∀ x, r.A = some x → w.heap.size ≤ x.block ∧ x.block < W4.heap.size) (v0 v1 v2 v3 v4 v5 v6 : Value) {W5 : World}
    (hW : (((((((W4.setCell ⟨w.heap.size + 1, 0, none⟩ v0).setCell ⟨w.heap.size + 1, 1, none⟩ v1).setCell ⟨w.heap.size + 1, 2, none⟩ v2).setCell ⟨w.heap.size + 1, 3, none⟩ v3).setCell ⟨w.heap.size + 1, 4, none⟩ v4).setCell ⟨w.heap.size + 1, 5, none⟩ v5).setCell ⟨w.heap.size + 1, 6, none⟩ v6) = W5) :
    Rs W5 A' L' ∧ Nw w A L W5 A' L' ∧ Below w.heap.size w W5 := by
  obtain ⟨W6, h6, k0, kk, ks, kb⟩ := boxed t1 v0 v1 v2 v3 v4 v5 v6
  have e : W6 = W5 := h6.symm.trans hW
  subst e
  have b5 := kb _ _ hb (by omega)
  have o5 := ho.same (w' := W6) (fun k hk _ => kk k (by omega))
  obtain ⟨A2, c2, e2, f2, _, h2⟩ := o5.form
  rw [hl] at e2
  injection e2 with e21 e22 e23
  subst e21
  exact ⟨⟨f2, hd W6 b5 kk⟩, ⟨fun x e => .inr ⟨by have := (h2 x e).1; omega, (h2 x e).2⟩, fun r hr => by
    rcases hn r hr with e | e
    · exact .inl e
    · exact .inr (fun x ex => ⟨(e x ex).1, by rw [ks]; exact (e x ex).2⟩)⟩, b5⟩
set_option maxHeartbeats 4000000 in
theorem rsync_cut (w : World) (R : Int) (A : Option Addr) (n c : Nat) (dn0 : Bool) (fl0 : Int) (lt0 : Bool) (ac0 pt0 : Int) (dn : Bool) (fl : Int) (lt : Bool) (ac pt : Int) (h : Int) (hh : 0 < h) (HB : ∀ W, Calls Try.prog 40 #[rv R A n c dn0 fl0 lt0 ac0 pt0] W fun e w' => e = .returned (.tuple #[.int .i64 h, .agg #[.int .i64 R, .slice A n c, .bool dn, .int .i64 fl, .bool lt, .int .i64 ac, .int .i64 pt]]) ∧ Below W.heap.size W w') (L : List RF) (hl : L.length = n) (hr : Rs w A L) (hn : n ≤ 1000) (s : ByteArray) :
    Calls Try.prog 24 #[rv R A n c dn0 fl0 lt0 ac0 pt0, .string s] w (RAct w A L 9 R dn fl lt ac pt (fls L)) := by
  have b0 := below_go (below_alloc w (rc R A n c dn0 fl0 lt0 ac0 pt0)) (below_alloc _ rc0)
  have C := Lib.hid (HB ((w.alloc (rc R A n c dn0 fl0 lt0 ac0 pt0)).alloc rc0))
  have T0 := Lib.hid (two_start w R A n c dn0 fl0 lt0 ac0 pt0)
  have B0 := Lib.hid b0
  have HR := Lib.hid hr
  have HL := Lib.hid hl
  clear HB hr hl b0
  go_enter Try.func24, Try.ntmps24
  go_wp2_with fail
  refine C.out.mono ?_
  rintro e w1 ⟨rfl, hb1⟩
  have t1 := T0.out.below hb1 (by simp)
  obtain ⟨y0, y1, y2, y3, y4, y5, y6, f0, f1, f2, f3, f4, f5, f6, hg0⟩ := look7 t1.b0
  obtain ⟨W1, hW1, k0, kk, ks, kb⟩ := boxed t1.b0 (.int .i64 R) (.slice A n c) (.bool dn) (.int .i64 fl) (.bool lt) (.int .i64 ac) (.int .i64 pt)
  have k1 : W1.heap[w.heap.size + 1]? = some rc0 := (kk _ (by omega)).trans t1.b1
  have BW := Lib.hid (kb _ _ (below_go B0.out hb1) (Nat.le_refl _))
  have TW := Lib.hid (Two.mk k0 k1)
  have HW := Lib.hid hW1
  have RW := Lib.hid (HR.out.below BW.out)
  have hsz : w.heap.size + 1 < W1.heap.size := (Array.getElem?_eq_some_iff.1 k1).1
  clear C T0 B0 hb1 t1 kk ks kb k0 k1 hW1
  go_wp2_with fail
  rw [HW.out]
  clear y0 y1 y2 y3 y4 y5 y6 f0 f1 f2 f3 f4 f5 f6 hg0 HW
  obtain ⟨y0, y1, y2, y3, y4, y5, y6, f0, f1, f2, f3, f4, f5, f6, hg0⟩ := look7 (TW.out).b0
  obtain ⟨z0, z1, z2, z3, z4, z5, z6, e0, e1, e2, e3, e4, e5, e6, hg1⟩ := look7 (TW.out).b1
  go_region
  all_goals
    go_wp2_with fail
    have BF := (st7_below BW.out (w.heap.size + 1) (.int .i64 R) (.slice A n c) (.bool dn) (.int .i64 fl) (.bool lt) (.int .i64 ac) (.int .i64 pt) (by omega)).drew
    exact bodyPost_ret (v := .tuple #[.int .i64 9, .agg #[.int .i64 R, .slice A n c, .bool dn, .int .i64 fl, .bool lt, .int .i64 ac, .int .i64 pt]]) (by simp [results, Try.results24, go_sem, *]) rfl ⟨A, n, c, L, rfl, rfl, HL.out, HR.out.below BF, Nw.same _ _ _ _, BF⟩
set_option maxHeartbeats 4000000 in
theorem rsync_none (w : World) (R : Int) (A : Option Addr) (n c : Nat) (dn0 : Bool) (fl0 : Int) (lt0 : Bool) (ac0 pt0 : Int) (dn : Bool) (fl : Int) (lt : Bool) (ac pt : Int) (HB : ∀ W, Calls Try.prog 40 #[rv R A n c dn0 fl0 lt0 ac0 pt0] W fun e w' => e = .returned (.tuple #[.int .i64 0, .agg #[.int .i64 R, .slice A n c, .bool dn, .int .i64 fl, .bool lt, .int .i64 ac, .int .i64 pt]]) ∧ Below W.heap.size W w') (L : List RF) (hl : L.length = n) (hr : Rs w A L) (hn : n ≤ 1000) (s : ByteArray) (hf : fnd (fls L) s = none) :
    Calls Try.prog 24 #[rv R A n c dn0 fl0 lt0 ac0 pt0, .string s] w (RAct w A L 8 R dn fl lt ac pt (fls L)) := by
  have b0 := below_go (below_alloc w (rc R A n c dn0 fl0 lt0 ac0 pt0)) (below_alloc _ rc0)
  have C := Lib.hid (HB ((w.alloc (rc R A n c dn0 fl0 lt0 ac0 pt0)).alloc rc0))
  have T0 := Lib.hid (two_start w R A n c dn0 fl0 lt0 ac0 pt0)
  have B0 := Lib.hid b0
  have HR := Lib.hid hr
  have HL := Lib.hid hl
  clear HB hr hl b0
  go_enter Try.func24, Try.ntmps24
  go_wp2_with fail
  refine C.out.mono ?_
  rintro e w1 ⟨rfl, hb1⟩
  have t1 := T0.out.below hb1 (by simp)
  obtain ⟨y0, y1, y2, y3, y4, y5, y6, f0, f1, f2, f3, f4, f5, f6, hg0⟩ := look7 t1.b0
  obtain ⟨W1, hW1, k0, kk, ks, kb⟩ := boxed t1.b0 (.int .i64 R) (.slice A n c) (.bool dn) (.int .i64 fl) (.bool lt) (.int .i64 ac) (.int .i64 pt)
  have k1 : W1.heap[w.heap.size + 1]? = some rc0 := (kk _ (by omega)).trans t1.b1
  have BW := Lib.hid (kb _ _ (below_go B0.out hb1) (Nat.le_refl _))
  have TW := Lib.hid (Two.mk k0 k1)
  have HW := Lib.hid hW1
  have RW := Lib.hid (HR.out.below BW.out)
  have hsz : w.heap.size + 1 < W1.heap.size := (Array.getElem?_eq_some_iff.1 k1).1
  clear C T0 B0 hb1 t1 kk ks kb k0 k1 hW1
  go_wp2_with fail
  rw [HW.out]
  clear y0 y1 y2 y3 y4 y5 y6 f0 f1 f2 f3 f4 f5 f6 hg0 HW
  obtain ⟨y0, y1, y2, y3, y4, y5, y6, f0, f1, f2, f3, f4, f5, f6, hg0⟩ := look7 (TW.out).b0
  have CF := Lib.hid (rfind_any W1 R A n c dn fl lt ac pt L s HL.out RW.out.fls hn)
  go_wp2_with fail
  refine CF.out.mono ?_
  intro e w2 hF
  obtain ⟨h1, hb2⟩ := hF
  have BW2 := Lib.hid (below_go BW.out hb2)
  have T2 := TW.out.below hb2 hsz
  have TW2 := Lib.hid T2
  have hsz2 : w.heap.size + 1 < w2.heap.size := by have := hb2.size; omega
  clear CF hb2 T2 TW y0 y1 y2 y3 y4 y5 y6 f0 f1 f2 f3 f4 f5 f6 hg0
  have h2 : e = .returned (.int .i64 (-1)) := by
    rcases h1 with ⟨i, hi, he, hx⟩ | ⟨he, hx⟩
    · rw [hf] at hx; cases hx
    · exact he
  subst h2
  have BW := BW2
  have TW := TW2
  clear h1 hf RW
  go_wp2_with fail
  obtain ⟨y0, y1, y2, y3, y4, y5, y6, f0, f1, f2, f3, f4, f5, f6, hg0⟩ := look7 (TW.out).b0
  obtain ⟨z0, z1, z2, z3, z4, z5, z6, e0, e1, e2, e3, e4, e5, e6, hg1⟩ := look7 (TW.out).b1
  go_region
  all_goals
    go_wp2_with fail
    have BF := (st7_below BW.out (w.heap.size + 1) (.int .i64 R) (.slice A n c) (.bool dn) (.int .i64 fl) (.bool lt) (.int .i64 ac) (.int .i64 pt) (by omega)).drew
    exact bodyPost_ret (v := .tuple #[.int .i64 8, .agg #[.int .i64 R, .slice A n c, .bool dn, .int .i64 fl, .bool lt, .int .i64 ac, .int .i64 pt]]) (by simp [results, Try.results24, go_sem, *]) rfl ⟨A, n, c, L, rfl, rfl, HL.out, HR.out.below BF, Nw.same _ _ _ _, BF⟩
set_option maxHeartbeats 4000000 in
theorem rsync_some (w : World) (R : Int) (A : Option Addr) (n c : Nat) (dn0 : Bool) (fl0 : Int) (lt0 : Bool) (ac0 pt0 : Int) (dn : Bool) (fl : Int) (lt : Bool) (ac pt : Int) (HB : ∀ W, Calls Try.prog 40 #[rv R A n c dn0 fl0 lt0 ac0 pt0] W fun e w' => e = .returned (.tuple #[.int .i64 0, .agg #[.int .i64 R, .slice A n c, .bool dn, .int .i64 fl, .bool lt, .int .i64 ac, .int .i64 pt]]) ∧ Below W.heap.size W w') (L : List RF) (hl : L.length = n) (hr : Rs w A L) (hn : n ≤ 1000) (s : ByteArray) (f : Fl) (hf : fnd (fls L) s = some f) :
    Calls Try.prog 24 #[rv R A n c dn0 fl0 lt0 ac0 pt0, .string s] w (RAct w A L 0 R dn fl lt ac pt (wi (fls L) (synF f))) := by
  have b0 := below_go (below_alloc w (rc R A n c dn0 fl0 lt0 ac0 pt0)) (below_alloc _ rc0)
  have C := Lib.hid (HB ((w.alloc (rc R A n c dn0 fl0 lt0 ac0 pt0)).alloc rc0))
  have T0 := Lib.hid (two_start w R A n c dn0 fl0 lt0 ac0 pt0)
  have B0 := Lib.hid b0
  have HR := Lib.hid hr
  have HL := Lib.hid hl
  clear HB hr hl b0
  go_enter Try.func24, Try.ntmps24
  go_wp2_with fail
  refine C.out.mono ?_
  rintro e w1 ⟨rfl, hb1⟩
  have t1 := T0.out.below hb1 (by simp)
  obtain ⟨y0, y1, y2, y3, y4, y5, y6, f0, f1, f2, f3, f4, f5, f6, hg0⟩ := look7 t1.b0
  obtain ⟨W1, hW1, k0, kk, ks, kb⟩ := boxed t1.b0 (.int .i64 R) (.slice A n c) (.bool dn) (.int .i64 fl) (.bool lt) (.int .i64 ac) (.int .i64 pt)
  have k1 : W1.heap[w.heap.size + 1]? = some rc0 := (kk _ (by omega)).trans t1.b1
  have BW := Lib.hid (kb _ _ (below_go B0.out hb1) (Nat.le_refl _))
  have TW := Lib.hid (Two.mk k0 k1)
  have HW := Lib.hid hW1
  have RW := Lib.hid (HR.out.below BW.out)
  have hsz : w.heap.size + 1 < W1.heap.size := (Array.getElem?_eq_some_iff.1 k1).1
  clear C T0 B0 hb1 t1 kk ks kb k0 k1 hW1
  go_wp2_with fail
  rw [HW.out]
  clear y0 y1 y2 y3 y4 y5 y6 f0 f1 f2 f3 f4 f5 f6 hg0 HW
  obtain ⟨y0, y1, y2, y3, y4, y5, y6, f0, f1, f2, f3, f4, f5, f6, hg0⟩ := look7 (TW.out).b0
  have CF := Lib.hid (rfind_any W1 R A n c dn fl lt ac pt L s HL.out RW.out.fls hn)
  go_wp2_with fail
  refine CF.out.mono ?_
  intro e w2 hF
  obtain ⟨h1, hb2⟩ := hF
  have BW2 := Lib.hid (below_go BW.out hb2)
  have T2 := TW.out.below hb2 hsz
  have TW2 := Lib.hid T2
  have hsz2 : w.heap.size + 1 < w2.heap.size := by have := hb2.size; omega
  clear CF hb2 T2 TW y0 y1 y2 y3 y4 y5 y6 f0 f1 f2 f3 f4 f5 f6 hg0
  have h2 : ∃ i : Nat, i < n ∧ e = .returned (.int .i64 (i : Int)) ∧ (L.getD i rz).f = f := by
    rcases h1 with ⟨i, hi, he, hx⟩ | ⟨he, hx⟩
    · refine ⟨i, hi, he, ?_⟩
      rw [hf] at hx
      injection hx with hx
      exact hx.symm
    · rw [hf] at hx; cases hx
  obtain ⟨i, hi, rfl, hfi⟩ := h2
  have hiL : i < L.length := by rw [HL.out]; exact hi
  obtain ⟨b, off, rfl, x0, x1, x2⟩ := (HR.out.fls.below BW2.out) i hiL
  have hrm := getD_inR L i hiL
  obtain ⟨r, hri⟩ : ∃ r, L.getD i rz = r := ⟨_, rfl⟩
  rw [hri] at x0 x1 x2 hfi hrm
  subst hfi
  have HD := Lib.hid (HR.out.hdr r hrm)
  have HM := Lib.hid hrm
  obtain ⟨y0, y1, y2, y3, y4, y5, y6, f0, f1, f2, f3, f4, f5, f6, hg0⟩ := look7 (TW2.out).b0
  have hbl : b < w2.heap.size := World.block_lt_of_cell? _ _ x0
  have hi' : (i : Int) < (n : Int) := by omega
  have hi0 : (0 : Int) ≤ (i : Int) := by omega
  clear h1 hf RW hri hrm hiL
  have b3 := below_alloc w2 (.cells #[.string r.f.nm, .slice r.A r.f.bs.length r.c, .int .i64 (r.f.bs.length : Int)] 43)
  have T3 := Lib.hid (TW2.out.below b3 hsz2)
  have B3 := Lib.hid (below_go BW2.out b3)
  have hsz3 : w.heap.size + 1 < (w2.alloc (.cells #[.string r.f.nm, .slice r.A r.f.bs.length r.c, .int .i64 (r.f.bs.length : Int)] 43)).heap.size := by simp; omega
  have CW := Lib.hid (rwith_any (w2.alloc (.cells #[.string r.f.nm, .slice r.A r.f.bs.length r.c, .int .i64 (r.f.bs.length : Int)] 43)) R (some ⟨b, off, none⟩) n c dn fl lt ac pt L ⟨synF r.f, r.A, r.c⟩ HL.out (HR.out.fls.below B3.out) hn)
  clear b3 BW2 TW2
  go_wp2_with fail
  refine CW.out.mono ?_
  rintro e w4 ⟨A4, n4, c4, rfl, hl4, ho4, hb4⟩
  have t4 := (T3.out).below hb4 (by have := hsz3; omega)
  obtain ⟨z0, z1, z2, z3, z4, z5, z6, e0, e1, e2, e3, e4, e5, e6, hg1⟩ := look7 t4.b1
  have B4 := Lib.hid (below_go B3.out hb4)
  have O4 := Lib.hid (And.intro hl4 (And.intro ho4 t4.b1))
  clear CW hb4 ho4 hl4 t4 T3
  go_wp2_with fail
  have FIN := ract_fin (A := some ⟨b, off, none⟩) (L := L) O4.out.2.2 B4.out O4.out.2.1 hsz3 O4.out.1 (fun W5 b5 _ r' hr' => by
    rcases mem_rwi hr' with rfl | hr'
    · exact ⟨HD.out.1.below b5, HD.out.2⟩
    · exact (HR.out.below b5).hdr r' hr') (fun r' hr' => by
    rcases mem_rwi hr' with rfl | hr'
    · exact .inl ⟨r, HM.out, rfl⟩
    · exact .inl ⟨r', hr', rfl⟩) (.int .i64 R) (.slice A4 n4 c4) (.bool dn) (.int .i64 fl) (.bool lt) (.int .i64 ac) (.int .i64 pt) rfl
  exact bodyPost_ret (v := .tuple #[.int .i64 0, .agg #[.int .i64 R, .slice A4 n4 c4, .bool dn, .int .i64 fl, .bool lt, .int .i64 ac, .int .i64 pt]]) (by simp [results, Try.results24, go_sem, *]) rfl ⟨A4, n4, c4, _, rfl, fls_rwi L _, O4.out.1, FIN.1, FIN.2.1, FIN.2.2⟩
set_option maxHeartbeats 4000000 in
theorem rdelete_cut (w : World) (R : Int) (A : Option Addr) (n c : Nat) (dn0 : Bool) (fl0 : Int) (lt0 : Bool) (ac0 pt0 : Int) (dn : Bool) (fl : Int) (lt : Bool) (ac pt : Int) (h : Int) (hh : 0 < h) (HB : ∀ W, Calls Try.prog 40 #[rv R A n c dn0 fl0 lt0 ac0 pt0] W fun e w' => e = .returned (.tuple #[.int .i64 h, .agg #[.int .i64 R, .slice A n c, .bool dn, .int .i64 fl, .bool lt, .int .i64 ac, .int .i64 pt]]) ∧ Below W.heap.size W w') (L : List RF) (hl : L.length = n) (hr : Rs w A L) (hn : n ≤ 1000) (s : ByteArray) :
    Calls Try.prog 27 #[rv R A n c dn0 fl0 lt0 ac0 pt0, .string s] w (RAct w A L 9 R dn fl lt ac pt (fls L)) := by
  have b0 := below_go (below_alloc w (rc R A n c dn0 fl0 lt0 ac0 pt0)) (below_alloc _ rc0)
  have C := Lib.hid (HB ((w.alloc (rc R A n c dn0 fl0 lt0 ac0 pt0)).alloc rc0))
  have T0 := Lib.hid (two_start w R A n c dn0 fl0 lt0 ac0 pt0)
  have B0 := Lib.hid b0
  have HR := Lib.hid hr
  have HL := Lib.hid hl
  clear HB hr hl b0
  go_enter Try.func27, Try.ntmps27
  go_wp2_with fail
  refine C.out.mono ?_
  rintro e w1 ⟨rfl, hb1⟩
  have t1 := T0.out.below hb1 (by simp)
  obtain ⟨y0, y1, y2, y3, y4, y5, y6, f0, f1, f2, f3, f4, f5, f6, hg0⟩ := look7 t1.b0
  obtain ⟨W1, hW1, k0, kk, ks, kb⟩ := boxed t1.b0 (.int .i64 R) (.slice A n c) (.bool dn) (.int .i64 fl) (.bool lt) (.int .i64 ac) (.int .i64 pt)
  have k1 : W1.heap[w.heap.size + 1]? = some rc0 := (kk _ (by omega)).trans t1.b1
  have BW := Lib.hid (kb _ _ (below_go B0.out hb1) (Nat.le_refl _))
  have TW := Lib.hid (Two.mk k0 k1)
  have HW := Lib.hid hW1
  have RW := Lib.hid (HR.out.below BW.out)
  have hsz : w.heap.size + 1 < W1.heap.size := (Array.getElem?_eq_some_iff.1 k1).1
  clear C T0 B0 hb1 t1 kk ks kb k0 k1 hW1
  go_wp2_with fail
  rw [HW.out]
  clear y0 y1 y2 y3 y4 y5 y6 f0 f1 f2 f3 f4 f5 f6 hg0 HW
  obtain ⟨y0, y1, y2, y3, y4, y5, y6, f0, f1, f2, f3, f4, f5, f6, hg0⟩ := look7 (TW.out).b0
  obtain ⟨z0, z1, z2, z3, z4, z5, z6, e0, e1, e2, e3, e4, e5, e6, hg1⟩ := look7 (TW.out).b1
  go_region
  all_goals
    go_wp2_with fail
    have BF := (st7_below BW.out (w.heap.size + 1) (.int .i64 R) (.slice A n c) (.bool dn) (.int .i64 fl) (.bool lt) (.int .i64 ac) (.int .i64 pt) (by omega)).drew
    exact bodyPost_ret (v := .tuple #[.int .i64 9, .agg #[.int .i64 R, .slice A n c, .bool dn, .int .i64 fl, .bool lt, .int .i64 ac, .int .i64 pt]]) (by simp [results, Try.results27, go_sem, *]) rfl ⟨A, n, c, L, rfl, rfl, HL.out, HR.out.below BF, Nw.same _ _ _ _, BF⟩
set_option maxHeartbeats 4000000 in
theorem rdelete_none (w : World) (R : Int) (A : Option Addr) (n c : Nat) (dn0 : Bool) (fl0 : Int) (lt0 : Bool) (ac0 pt0 : Int) (dn : Bool) (fl : Int) (lt : Bool) (ac pt : Int) (HB : ∀ W, Calls Try.prog 40 #[rv R A n c dn0 fl0 lt0 ac0 pt0] W fun e w' => e = .returned (.tuple #[.int .i64 0, .agg #[.int .i64 R, .slice A n c, .bool dn, .int .i64 fl, .bool lt, .int .i64 ac, .int .i64 pt]]) ∧ Below W.heap.size W w') (L : List RF) (hl : L.length = n) (hr : Rs w A L) (hn : n ≤ 1000) (s : ByteArray) (hf : fnd (fls L) s = none) :
    Calls Try.prog 27 #[rv R A n c dn0 fl0 lt0 ac0 pt0, .string s] w (RAct w A L 8 R dn fl lt ac pt (fls L)) := by
  have b0 := below_go (below_alloc w (rc R A n c dn0 fl0 lt0 ac0 pt0)) (below_alloc _ rc0)
  have C := Lib.hid (HB ((w.alloc (rc R A n c dn0 fl0 lt0 ac0 pt0)).alloc rc0))
  have T0 := Lib.hid (two_start w R A n c dn0 fl0 lt0 ac0 pt0)
  have B0 := Lib.hid b0
  have HR := Lib.hid hr
  have HL := Lib.hid hl
  clear HB hr hl b0
  go_enter Try.func27, Try.ntmps27
  go_wp2_with fail
  refine C.out.mono ?_
  rintro e w1 ⟨rfl, hb1⟩
  have t1 := T0.out.below hb1 (by simp)
  obtain ⟨y0, y1, y2, y3, y4, y5, y6, f0, f1, f2, f3, f4, f5, f6, hg0⟩ := look7 t1.b0
  obtain ⟨W1, hW1, k0, kk, ks, kb⟩ := boxed t1.b0 (.int .i64 R) (.slice A n c) (.bool dn) (.int .i64 fl) (.bool lt) (.int .i64 ac) (.int .i64 pt)
  have k1 : W1.heap[w.heap.size + 1]? = some rc0 := (kk _ (by omega)).trans t1.b1
  have BW := Lib.hid (kb _ _ (below_go B0.out hb1) (Nat.le_refl _))
  have TW := Lib.hid (Two.mk k0 k1)
  have HW := Lib.hid hW1
  have RW := Lib.hid (HR.out.below BW.out)
  have hsz : w.heap.size + 1 < W1.heap.size := (Array.getElem?_eq_some_iff.1 k1).1
  clear C T0 B0 hb1 t1 kk ks kb k0 k1 hW1
  go_wp2_with fail
  rw [HW.out]
  clear y0 y1 y2 y3 y4 y5 y6 f0 f1 f2 f3 f4 f5 f6 hg0 HW
  obtain ⟨y0, y1, y2, y3, y4, y5, y6, f0, f1, f2, f3, f4, f5, f6, hg0⟩ := look7 (TW.out).b0
  have CF := Lib.hid (rfind_any W1 R A n c dn fl lt ac pt L s HL.out RW.out.fls hn)
  go_wp2_with fail
  refine CF.out.mono ?_
  intro e w2 hF
  obtain ⟨h1, hb2⟩ := hF
  have BW2 := Lib.hid (below_go BW.out hb2)
  have T2 := TW.out.below hb2 hsz
  have TW2 := Lib.hid T2
  have hsz2 : w.heap.size + 1 < w2.heap.size := by have := hb2.size; omega
  clear CF hb2 T2 TW y0 y1 y2 y3 y4 y5 y6 f0 f1 f2 f3 f4 f5 f6 hg0
  have h2 : e = .returned (.int .i64 (-1)) := by
    rcases h1 with ⟨i, hi, he, hx⟩ | ⟨he, hx⟩
    · rw [hf] at hx; cases hx
    · exact he
  subst h2
  have BW := BW2
  have TW := TW2
  clear h1 hf RW
  go_wp2_with fail
  obtain ⟨y0, y1, y2, y3, y4, y5, y6, f0, f1, f2, f3, f4, f5, f6, hg0⟩ := look7 (TW.out).b0
  obtain ⟨z0, z1, z2, z3, z4, z5, z6, e0, e1, e2, e3, e4, e5, e6, hg1⟩ := look7 (TW.out).b1
  go_region
  all_goals
    go_wp2_with fail
    have BF := (st7_below BW.out (w.heap.size + 1) (.int .i64 R) (.slice A n c) (.bool dn) (.int .i64 fl) (.bool lt) (.int .i64 ac) (.int .i64 pt) (by omega)).drew
    exact bodyPost_ret (v := .tuple #[.int .i64 8, .agg #[.int .i64 R, .slice A n c, .bool dn, .int .i64 fl, .bool lt, .int .i64 ac, .int .i64 pt]]) (by simp [results, Try.results27, go_sem, *]) rfl ⟨A, n, c, L, rfl, rfl, HL.out, HR.out.below BF, Nw.same _ _ _ _, BF⟩
set_option maxHeartbeats 4000000 in
theorem rdelete_some (w : World) (R : Int) (A : Option Addr) (n c : Nat) (dn0 : Bool) (fl0 : Int) (lt0 : Bool) (ac0 pt0 : Int) (dn : Bool) (fl : Int) (lt : Bool) (ac pt : Int) (HB : ∀ W, Calls Try.prog 40 #[rv R A n c dn0 fl0 lt0 ac0 pt0] W fun e w' => e = .returned (.tuple #[.int .i64 0, .agg #[.int .i64 R, .slice A n c, .bool dn, .int .i64 fl, .bool lt, .int .i64 ac, .int .i64 pt]]) ∧ Below W.heap.size W w') (L : List RF) (hl : L.length = n) (hr : Rs w A L) (hn : n ≤ 1000) (s : ByteArray) (f : Fl) (hf : fnd (fls L) s = some f) :
    Calls Try.prog 27 #[rv R A n c dn0 fl0 lt0 ac0 pt0, .string s] w (RAct w A L 0 R dn fl lt ac pt (wo (fls L) s)) := by
  have b0 := below_go (below_alloc w (rc R A n c dn0 fl0 lt0 ac0 pt0)) (below_alloc _ rc0)
  have C := Lib.hid (HB ((w.alloc (rc R A n c dn0 fl0 lt0 ac0 pt0)).alloc rc0))
  have T0 := Lib.hid (two_start w R A n c dn0 fl0 lt0 ac0 pt0)
  have B0 := Lib.hid b0
  have HR := Lib.hid hr
  have HL := Lib.hid hl
  clear HB hr hl b0
  go_enter Try.func27, Try.ntmps27
  go_wp2_with fail
  refine C.out.mono ?_
  rintro e w1 ⟨rfl, hb1⟩
  have t1 := T0.out.below hb1 (by simp)
  obtain ⟨y0, y1, y2, y3, y4, y5, y6, f0, f1, f2, f3, f4, f5, f6, hg0⟩ := look7 t1.b0
  obtain ⟨W1, hW1, k0, kk, ks, kb⟩ := boxed t1.b0 (.int .i64 R) (.slice A n c) (.bool dn) (.int .i64 fl) (.bool lt) (.int .i64 ac) (.int .i64 pt)
  have k1 : W1.heap[w.heap.size + 1]? = some rc0 := (kk _ (by omega)).trans t1.b1
  have BW := Lib.hid (kb _ _ (below_go B0.out hb1) (Nat.le_refl _))
  have TW := Lib.hid (Two.mk k0 k1)
  have HW := Lib.hid hW1
  have RW := Lib.hid (HR.out.below BW.out)
  have hsz : w.heap.size + 1 < W1.heap.size := (Array.getElem?_eq_some_iff.1 k1).1
  clear C T0 B0 hb1 t1 kk ks kb k0 k1 hW1
  go_wp2_with fail
  rw [HW.out]
  clear y0 y1 y2 y3 y4 y5 y6 f0 f1 f2 f3 f4 f5 f6 hg0 HW
  obtain ⟨y0, y1, y2, y3, y4, y5, y6, f0, f1, f2, f3, f4, f5, f6, hg0⟩ := look7 (TW.out).b0
  have CF := Lib.hid (rfind_any W1 R A n c dn fl lt ac pt L s HL.out RW.out.fls hn)
  go_wp2_with fail
  refine CF.out.mono ?_
  intro e w2 hF
  obtain ⟨h1, hb2⟩ := hF
  have BW2 := Lib.hid (below_go BW.out hb2)
  have T2 := TW.out.below hb2 hsz
  have TW2 := Lib.hid T2
  have hsz2 : w.heap.size + 1 < w2.heap.size := by have := hb2.size; omega
  clear CF hb2 T2 TW y0 y1 y2 y3 y4 y5 y6 f0 f1 f2 f3 f4 f5 f6 hg0
  have h2 : ∃ i : Nat, i < n ∧ e = .returned (.int .i64 (i : Int)) ∧ (L.getD i rz).f = f := by
    rcases h1 with ⟨i, hi, he, hx⟩ | ⟨he, hx⟩
    · refine ⟨i, hi, he, ?_⟩
      rw [hf] at hx
      injection hx with hx
      exact hx.symm
    · rw [hf] at hx; cases hx
  obtain ⟨i, hi, rfl, hfi⟩ := h2
  have hiL : i < L.length := by rw [HL.out]; exact hi
  obtain ⟨b, off, rfl, x0, x1, x2⟩ := (HR.out.fls.below BW2.out) i hiL
  have hrm := getD_inR L i hiL
  obtain ⟨r, hri⟩ : ∃ r, L.getD i rz = r := ⟨_, rfl⟩
  rw [hri] at x0 x1 x2 hfi hrm
  subst hfi
  have HD := Lib.hid (HR.out.hdr r hrm)
  have HM := Lib.hid hrm
  obtain ⟨y0, y1, y2, y3, y4, y5, y6, f0, f1, f2, f3, f4, f5, f6, hg0⟩ := look7 (TW2.out).b0
  have hbl : b < w2.heap.size := World.block_lt_of_cell? _ _ x0
  have hi' : (i : Int) < (n : Int) := by omega
  have hi0 : (0 : Int) ≤ (i : Int) := by omega
  clear h1 hf RW hri hrm hiL
  have CO := Lib.hid (rwithout_any w2 R (some ⟨b, off, none⟩) n c dn fl lt ac pt L s HL.out (HR.out.fls.below BW2.out) hn)
  go_wp2_with fail
  refine CO.out.mono ?_
  rintro e w4 ⟨A4, n4, c4, rfl, hl4, ho4, hb4⟩
  have t4 := (TW2.out).below hb4 hsz2
  obtain ⟨z0, z1, z2, z3, z4, z5, z6, e0, e1, e2, e3, e4, e5, e6, hg1⟩ := look7 t4.b1
  have B4 := Lib.hid (below_go BW2.out hb4)
  have O4 := Lib.hid (And.intro hl4 (And.intro ho4 t4.b1))
  clear CO hb4 ho4 hl4 t4 TW2 BW2
  go_wp2_with fail
  have FIN := ract_fin (A := some ⟨b, off, none⟩) (L := L) O4.out.2.2 B4.out O4.out.2.1 hsz2 O4.out.1 (fun W5 b5 _ r' hr' => (HR.out.below b5).hdr r' (mem_rwo hr')) (fun r' hr' => .inl ⟨r', mem_rwo hr', rfl⟩) (.int .i64 R) (.slice A4 n4 c4) (.bool dn) (.int .i64 fl) (.bool lt) (.int .i64 ac) (.int .i64 pt) rfl
  exact bodyPost_ret (v := .tuple #[.int .i64 0, .agg #[.int .i64 R, .slice A4 n4 c4, .bool dn, .int .i64 fl, .bool lt, .int .i64 ac, .int .i64 pt]]) (by simp [results, Try.results27, go_sem, *]) rfl ⟨A4, n4, c4, _, rfl, fls_rwo L _, O4.out.1, FIN.1, FIN.2.1, FIN.2.2⟩
set_option maxHeartbeats 4000000 in
theorem rtruncate_cut (w : World) (R : Int) (A : Option Addr) (n c : Nat) (dn0 : Bool) (fl0 : Int) (lt0 : Bool) (ac0 pt0 : Int) (dn : Bool) (fl : Int) (lt : Bool) (ac pt : Int) (h : Int) (hh : 0 < h) (HB : ∀ W, Calls Try.prog 40 #[rv R A n c dn0 fl0 lt0 ac0 pt0] W fun e w' => e = .returned (.tuple #[.int .i64 h, .agg #[.int .i64 R, .slice A n c, .bool dn, .int .i64 fl, .bool lt, .int .i64 ac, .int .i64 pt]]) ∧ Below W.heap.size W w') (L : List RF) (hl : L.length = n) (hr : Rs w A L) (hn : n ≤ 1000) (s : ByteArray) (k : Int) :
    Calls Try.prog 26 #[rv R A n c dn0 fl0 lt0 ac0 pt0, .string s, .int .i64 k] w (RAct w A L 9 R dn fl lt ac pt (fls L)) := by
  have b0 := below_go (below_alloc w (rc R A n c dn0 fl0 lt0 ac0 pt0)) (below_alloc _ rc0)
  have C := Lib.hid (HB ((w.alloc (rc R A n c dn0 fl0 lt0 ac0 pt0)).alloc rc0))
  have T0 := Lib.hid (two_start w R A n c dn0 fl0 lt0 ac0 pt0)
  have B0 := Lib.hid b0
  have HR := Lib.hid hr
  have HL := Lib.hid hl
  clear HB hr hl b0
  go_enter Try.func26, Try.ntmps26
  go_wp2_with fail
  refine C.out.mono ?_
  rintro e w1 ⟨rfl, hb1⟩
  have t1 := T0.out.below hb1 (by simp)
  obtain ⟨y0, y1, y2, y3, y4, y5, y6, f0, f1, f2, f3, f4, f5, f6, hg0⟩ := look7 t1.b0
  obtain ⟨W1, hW1, k0, kk, ks, kb⟩ := boxed t1.b0 (.int .i64 R) (.slice A n c) (.bool dn) (.int .i64 fl) (.bool lt) (.int .i64 ac) (.int .i64 pt)
  have k1 : W1.heap[w.heap.size + 1]? = some rc0 := (kk _ (by omega)).trans t1.b1
  have BW := Lib.hid (kb _ _ (below_go B0.out hb1) (Nat.le_refl _))
  have TW := Lib.hid (Two.mk k0 k1)
  have HW := Lib.hid hW1
  have RW := Lib.hid (HR.out.below BW.out)
  have hsz : w.heap.size + 1 < W1.heap.size := (Array.getElem?_eq_some_iff.1 k1).1
  clear C T0 B0 hb1 t1 kk ks kb k0 k1 hW1
  go_wp2_with fail
  rw [HW.out]
  clear y0 y1 y2 y3 y4 y5 y6 f0 f1 f2 f3 f4 f5 f6 hg0 HW
  obtain ⟨y0, y1, y2, y3, y4, y5, y6, f0, f1, f2, f3, f4, f5, f6, hg0⟩ := look7 (TW.out).b0
  obtain ⟨z0, z1, z2, z3, z4, z5, z6, e0, e1, e2, e3, e4, e5, e6, hg1⟩ := look7 (TW.out).b1
  go_region
  all_goals
    go_wp2_with fail
    have BF := (st7_below BW.out (w.heap.size + 1) (.int .i64 R) (.slice A n c) (.bool dn) (.int .i64 fl) (.bool lt) (.int .i64 ac) (.int .i64 pt) (by omega)).drew
    exact bodyPost_ret (v := .tuple #[.int .i64 9, .agg #[.int .i64 R, .slice A n c, .bool dn, .int .i64 fl, .bool lt, .int .i64 ac, .int .i64 pt]]) (by simp [results, Try.results26, go_sem, *]) rfl ⟨A, n, c, L, rfl, rfl, HL.out, HR.out.below BF, Nw.same _ _ _ _, BF⟩
set_option maxHeartbeats 4000000 in
theorem rtruncate_none (w : World) (R : Int) (A : Option Addr) (n c : Nat) (dn0 : Bool) (fl0 : Int) (lt0 : Bool) (ac0 pt0 : Int) (dn : Bool) (fl : Int) (lt : Bool) (ac pt : Int) (HB : ∀ W, Calls Try.prog 40 #[rv R A n c dn0 fl0 lt0 ac0 pt0] W fun e w' => e = .returned (.tuple #[.int .i64 0, .agg #[.int .i64 R, .slice A n c, .bool dn, .int .i64 fl, .bool lt, .int .i64 ac, .int .i64 pt]]) ∧ Below W.heap.size W w') (L : List RF) (hl : L.length = n) (hr : Rs w A L) (hn : n ≤ 1000) (s : ByteArray) (k : Int) (hf : fnd (fls L) s = none) :
    Calls Try.prog 26 #[rv R A n c dn0 fl0 lt0 ac0 pt0, .string s, .int .i64 k] w (RAct w A L 8 R dn fl lt ac pt (fls L)) := by
  have b0 := below_go (below_alloc w (rc R A n c dn0 fl0 lt0 ac0 pt0)) (below_alloc _ rc0)
  have C := Lib.hid (HB ((w.alloc (rc R A n c dn0 fl0 lt0 ac0 pt0)).alloc rc0))
  have T0 := Lib.hid (two_start w R A n c dn0 fl0 lt0 ac0 pt0)
  have B0 := Lib.hid b0
  have HR := Lib.hid hr
  have HL := Lib.hid hl
  clear HB hr hl b0
  go_enter Try.func26, Try.ntmps26
  go_wp2_with fail
  refine C.out.mono ?_
  rintro e w1 ⟨rfl, hb1⟩
  have t1 := T0.out.below hb1 (by simp)
  obtain ⟨y0, y1, y2, y3, y4, y5, y6, f0, f1, f2, f3, f4, f5, f6, hg0⟩ := look7 t1.b0
  obtain ⟨W1, hW1, k0, kk, ks, kb⟩ := boxed t1.b0 (.int .i64 R) (.slice A n c) (.bool dn) (.int .i64 fl) (.bool lt) (.int .i64 ac) (.int .i64 pt)
  have k1 : W1.heap[w.heap.size + 1]? = some rc0 := (kk _ (by omega)).trans t1.b1
  have BW := Lib.hid (kb _ _ (below_go B0.out hb1) (Nat.le_refl _))
  have TW := Lib.hid (Two.mk k0 k1)
  have HW := Lib.hid hW1
  have RW := Lib.hid (HR.out.below BW.out)
  have hsz : w.heap.size + 1 < W1.heap.size := (Array.getElem?_eq_some_iff.1 k1).1
  clear C T0 B0 hb1 t1 kk ks kb k0 k1 hW1
  go_wp2_with fail
  rw [HW.out]
  clear y0 y1 y2 y3 y4 y5 y6 f0 f1 f2 f3 f4 f5 f6 hg0 HW
  obtain ⟨y0, y1, y2, y3, y4, y5, y6, f0, f1, f2, f3, f4, f5, f6, hg0⟩ := look7 (TW.out).b0
  have CF := Lib.hid (rfind_any W1 R A n c dn fl lt ac pt L s HL.out RW.out.fls hn)
  go_wp2_with fail
  refine CF.out.mono ?_
  intro e w2 hF
  obtain ⟨h1, hb2⟩ := hF
  have BW2 := Lib.hid (below_go BW.out hb2)
  have T2 := TW.out.below hb2 hsz
  have TW2 := Lib.hid T2
  have hsz2 : w.heap.size + 1 < w2.heap.size := by have := hb2.size; omega
  clear CF hb2 T2 TW y0 y1 y2 y3 y4 y5 y6 f0 f1 f2 f3 f4 f5 f6 hg0
  have h2 : e = .returned (.int .i64 (-1)) := by
    rcases h1 with ⟨i, hi, he, hx⟩ | ⟨he, hx⟩
    · rw [hf] at hx; cases hx
    · exact he
  subst h2
  have BW := BW2
  have TW := TW2
  clear h1 hf RW
  go_wp2_with fail
  obtain ⟨y0, y1, y2, y3, y4, y5, y6, f0, f1, f2, f3, f4, f5, f6, hg0⟩ := look7 (TW.out).b0
  obtain ⟨z0, z1, z2, z3, z4, z5, z6, e0, e1, e2, e3, e4, e5, e6, hg1⟩ := look7 (TW.out).b1
  go_region
  all_goals
    go_wp2_with fail
    have BF := (st7_below BW.out (w.heap.size + 1) (.int .i64 R) (.slice A n c) (.bool dn) (.int .i64 fl) (.bool lt) (.int .i64 ac) (.int .i64 pt) (by omega)).drew
    exact bodyPost_ret (v := .tuple #[.int .i64 8, .agg #[.int .i64 R, .slice A n c, .bool dn, .int .i64 fl, .bool lt, .int .i64 ac, .int .i64 pt]]) (by simp [results, Try.results26, go_sem, *]) rfl ⟨A, n, c, L, rfl, rfl, HL.out, HR.out.below BF, Nw.same _ _ _ _, BF⟩
set_option maxHeartbeats 4000000 in
theorem rtruncate_some (w : World) (R : Int) (A : Option Addr) (n c : Nat) (dn0 : Bool) (fl0 : Int) (lt0 : Bool) (ac0 pt0 : Int) (dn : Bool) (fl : Int) (lt : Bool) (ac pt : Int) (HB : ∀ W, Calls Try.prog 40 #[rv R A n c dn0 fl0 lt0 ac0 pt0] W fun e w' => e = .returned (.tuple #[.int .i64 0, .agg #[.int .i64 R, .slice A n c, .bool dn, .int .i64 fl, .bool lt, .int .i64 ac, .int .i64 pt]]) ∧ Below W.heap.size W w') (L : List RF) (hl : L.length = n) (hr : Rs w A L) (hn : n ≤ 1000) (s : ByteArray) (k : Nat) (f : Fl) (hf : fnd (fls L) s = some f) (hk : k ≤ f.bs.length) :
    Calls Try.prog 26 #[rv R A n c dn0 fl0 lt0 ac0 pt0, .string s, .int .i64 (k : Int)] w (RAct w A L 0 R dn fl lt ac pt (wi (fls L) (truF f k))) := by
  have b0 := below_go (below_alloc w (rc R A n c dn0 fl0 lt0 ac0 pt0)) (below_alloc _ rc0)
  have C := Lib.hid (HB ((w.alloc (rc R A n c dn0 fl0 lt0 ac0 pt0)).alloc rc0))
  have T0 := Lib.hid (two_start w R A n c dn0 fl0 lt0 ac0 pt0)
  have B0 := Lib.hid b0
  have HR := Lib.hid hr
  have HL := Lib.hid hl
  clear HB hr hl b0
  go_enter Try.func26, Try.ntmps26
  go_wp2_with fail
  refine C.out.mono ?_
  rintro e w1 ⟨rfl, hb1⟩
  have t1 := T0.out.below hb1 (by simp)
  obtain ⟨y0, y1, y2, y3, y4, y5, y6, f0, f1, f2, f3, f4, f5, f6, hg0⟩ := look7 t1.b0
  obtain ⟨W1, hW1, k0, kk, ks, kb⟩ := boxed t1.b0 (.int .i64 R) (.slice A n c) (.bool dn) (.int .i64 fl) (.bool lt) (.int .i64 ac) (.int .i64 pt)
  have k1 : W1.heap[w.heap.size + 1]? = some rc0 := (kk _ (by omega)).trans t1.b1
  have BW := Lib.hid (kb _ _ (below_go B0.out hb1) (Nat.le_refl _))
  have TW := Lib.hid (Two.mk k0 k1)
  have HW := Lib.hid hW1
  have RW := Lib.hid (HR.out.below BW.out)
  have hsz : w.heap.size + 1 < W1.heap.size := (Array.getElem?_eq_some_iff.1 k1).1
  clear C T0 B0 hb1 t1 kk ks kb k0 k1 hW1
  go_wp2_with fail
  rw [HW.out]
  clear y0 y1 y2 y3 y4 y5 y6 f0 f1 f2 f3 f4 f5 f6 hg0 HW
  obtain ⟨y0, y1, y2, y3, y4, y5, y6, f0, f1, f2, f3, f4, f5, f6, hg0⟩ := look7 (TW.out).b0
  have CF := Lib.hid (rfind_any W1 R A n c dn fl lt ac pt L s HL.out RW.out.fls hn)
  go_wp2_with fail
  refine CF.out.mono ?_
  intro e w2 hF
  obtain ⟨h1, hb2⟩ := hF
  have BW2 := Lib.hid (below_go BW.out hb2)
  have T2 := TW.out.below hb2 hsz
  have TW2 := Lib.hid T2
  have hsz2 : w.heap.size + 1 < w2.heap.size := by have := hb2.size; omega
  clear CF hb2 T2 TW y0 y1 y2 y3 y4 y5 y6 f0 f1 f2 f3 f4 f5 f6 hg0
  have h2 : ∃ i : Nat, i < n ∧ e = .returned (.int .i64 (i : Int)) ∧ (L.getD i rz).f = f := by
    rcases h1 with ⟨i, hi, he, hx⟩ | ⟨he, hx⟩
    · refine ⟨i, hi, he, ?_⟩
      rw [hf] at hx
      injection hx with hx
      exact hx.symm
    · rw [hf] at hx; cases hx
  obtain ⟨i, hi, rfl, hfi⟩ := h2
  have hiL : i < L.length := by rw [HL.out]; exact hi
  obtain ⟨b, off, rfl, x0, x1, x2⟩ := (HR.out.fls.below BW2.out) i hiL
  have hrm := getD_inR L i hiL
  obtain ⟨r, hri⟩ : ∃ r, L.getD i rz = r := ⟨_, rfl⟩
  rw [hri] at x0 x1 x2 hfi hrm
  subst hfi
  have HD := Lib.hid (HR.out.hdr r hrm)
  have HM := Lib.hid hrm
  obtain ⟨y0, y1, y2, y3, y4, y5, y6, f0, f1, f2, f3, f4, f5, f6, hg0⟩ := look7 (TW2.out).b0
  have hbl : b < w2.heap.size := World.block_lt_of_cell? _ _ x0
  have hi' : (i : Int) < (n : Int) := by omega
  have hi0 : (0 : Int) ≤ (i : Int) := by omega
  clear h1 hf RW hri hrm hiL
  have hlen : (r.f.bs.take k).length = k := by rw [List.length_take]; omega
  have HLEN := Lib.hid hlen
  clear hlen
  have hk0 : (0 : Int) ≤ (k : Int) := by omega
  have hk1 : ¬ (k : Int) < 0 := by omega
  have hk2 : ¬ (r.f.bs.length : Int) < (k : Int) := by omega
  have hk3 : (k : Int) ≤ (r.c : Int) := by have := HD.out.2.1; omega
  have hmin : min (r.f.sf : Int) (k : Int) = ((min r.f.sf k : Nat) : Int) := by omega
  have b3 := below_alloc w2 (.cells #[.string r.f.nm, .slice r.A k r.c, .int .i64 ((min r.f.sf k : Nat) : Int)] 43)
  have T3 := Lib.hid (TW2.out.below b3 hsz2)
  have B3 := Lib.hid (below_go BW2.out b3)
  have hsz3 : w.heap.size + 1 < (w2.alloc (.cells #[.string r.f.nm, .slice r.A k r.c, .int .i64 ((min r.f.sf k : Nat) : Int)] 43)).heap.size := by simp; omega
  have CW := Lib.hid (rwith_any (w2.alloc (.cells #[.string r.f.nm, .slice r.A k r.c, .int .i64 ((min r.f.sf k : Nat) : Int)] 43)) R (some ⟨b, off, none⟩) n c dn fl lt ac pt L ⟨truF r.f k, r.A, r.c⟩ HL.out (HR.out.fls.below B3.out) hn)
  clear b3 BW2 TW2
  have CW' : Hid (Calls Try.prog 43 #[rv R (some ⟨b, off, none⟩) n c dn fl lt ac pt, .agg #[.string r.f.nm, .slice r.A k r.c, .int .i64 ((min r.f.sf k : Nat) : Int)]] (w2.alloc (.cells #[.string r.f.nm, .slice r.A k r.c, .int .i64 ((min r.f.sf k : Nat) : Int)] 43)) (RRow (w2.alloc (.cells #[.string r.f.nm, .slice r.A k r.c, .int .i64 ((min r.f.sf k : Nat) : Int)] 43)) R dn fl lt ac pt (rwi L ⟨truF r.f k, r.A, r.c⟩))) := by
    have := CW.out
    simp only [truF] at this
    rw [HLEN.out] at this
    exact this
  have CW := CW'
  clear CW'
  go_wp2_with fail
  refine CW.out.mono ?_
  rintro e w4 ⟨A4, n4, c4, rfl, hl4, ho4, hb4⟩
  have t4 := (T3.out).below hb4 (by have := hsz3; omega)
  obtain ⟨z0, z1, z2, z3, z4, z5, z6, e0, e1, e2, e3, e4, e5, e6, hg1⟩ := look7 t4.b1
  have B4 := Lib.hid (below_go B3.out hb4)
  have O4 := Lib.hid (And.intro hl4 (And.intro ho4 t4.b1))
  clear CW hb4 ho4 hl4 t4 T3
  go_wp2_with fail
  have FIN := ract_fin (A := some ⟨b, off, none⟩) (L := L) O4.out.2.2 B4.out O4.out.2.1 hsz3 O4.out.1 (fun W5 b5 _ r' hr' => by
    rcases mem_rwi hr' with rfl | hr'
    · exact ⟨(HD.out.1.below b5).take k, (by show (r.f.bs.take k).length ≤ r.c; rw [HLEN.out]; omega), HD.out.2.2⟩
    · exact (HR.out.below b5).hdr r' hr') (fun r' hr' => by
    rcases mem_rwi hr' with rfl | hr'
    · exact .inl ⟨r, HM.out, rfl⟩
    · exact .inl ⟨r', hr', rfl⟩) (.int .i64 R) (.slice A4 n4 c4) (.bool dn) (.int .i64 fl) (.bool lt) (.int .i64 ac) (.int .i64 pt) rfl
  exact bodyPost_ret (v := .tuple #[.int .i64 0, .agg #[.int .i64 R, .slice A4 n4 c4, .bool dn, .int .i64 fl, .bool lt, .int .i64 ac, .int .i64 pt]]) (by simp [results, Try.results26, go_sem, *]) rfl ⟨A4, n4, c4, _, rfl, fls_rwi L _, O4.out.1, FIN.1, FIN.2.1, FIN.2.2⟩
end Go.Proofs.Ytahjodpaikhhmaa
