/- The document's Append. -/
import Derived.Test.YtahjodpaikhhmaaDkR5b
import Derived.Deep.RegionHeld3
import Derived.IntWalk
namespace Go.Proofs.Ytahjodpaikhhmaa
open Go Go.RowKit
set_option maxRecDepth 20000

set_option maxHeartbeats 4000000 in
theorem rappend_down (w : World) (R : Int) (A : Option Addr) (n c : Nat) (dn0 : Bool) (fl0 : Int) (lt0 : Bool) (ac0 pt0 : Int) (dn : Bool) (fl : Int) (lt : Bool) (ac pt : Int) (HB : ∀ W, Calls Try.prog 40 #[rv R A n c dn0 fl0 lt0 ac0 pt0] W fun e w' => e = .returned (.tuple #[.int .i64 2, .agg #[.int .i64 R, .slice A n c, .bool dn, .int .i64 fl, .bool lt, .int .i64 ac, .int .i64 pt]]) ∧ Below W.heap.size W w') (L : List RF) (hl : L.length = n) (hr : Rs w A L) (hn : n ≤ 1000)  (s : ByteArray) (hs : s.size ≤ maxLen) (Ab : Option Addr) (k cb : Nat) (bb : List Int) (hbl0 : bb.length = k) (hbb : Byt w Ab bb) (hbz : Ab = none → cb = 0) (hbc : k ≤ cb) (hk : k ≤ 100000) :
    Calls Try.prog 23 #[rv R A n c dn0 fl0 lt0 ac0 pt0, .string s, .slice Ab k cb] w (RAct w A L 9 R dn fl lt ac pt (fls L)) := by
  have b0 := below_go (below_alloc w (rc R A n c dn0 fl0 lt0 ac0 pt0)) (below_alloc _ rc0)
  have C := Lib.hid (HB ((w.alloc (rc R A n c dn0 fl0 lt0 ac0 pt0)).alloc rc0))
  have T0 := Lib.hid (two_start w R A n c dn0 fl0 lt0 ac0 pt0)
  have B0 := Lib.hid b0
  have HR := Lib.hid hr
  have HL := Lib.hid hl
  clear HB hr hl b0
  go_enter Try.func23, Try.ntmps23
  go_wp2_with fail
  refine C.out.mono ?_
  rintro e w1 ⟨rfl, hb1⟩
  have t1 := T0.out.below hb1 (by simp)
  obtain ⟨y0, y1, y2, y3, y4, y5, y6, f0, f1, f2, f3, f4, f5, f6, hg0⟩ := look7 t1.b0
  obtain ⟨W1, hW1, k0, kk, ks, kb⟩ := boxed t1.b0 (.int .i64 R) (.slice A n c) (.bool dn) (.int .i64 fl) (.bool lt) (.int .i64 ac) (.int .i64 pt)
  have k1 : W1.heap[w.heap.size + 1]? = some rc0 := (kk _ (by omega)).trans t1.b1
  have BW := Lib.hid (kb _ _ (below_go B0.out hb1) (Nat.le_refl _))
  have TW := Lib.hid (Two.mk k0 k1)
  have HW := Lib.hid hW1
  have RW := Lib.hid (HR.out.below BW.out)
  have hsz : w.heap.size + 1 < W1.heap.size := (Array.getElem?_eq_some_iff.1 k1).1
  clear C T0 B0 hb1 t1 kk ks kb k0 k1 hW1
  go_wp2_with fail
  rw [HW.out]
  clear y0 y1 y2 y3 y4 y5 y6 f0 f1 f2 f3 f4 f5 f6 hg0 HW
  obtain ⟨y0, y1, y2, y3, y4, y5, y6, f0, f1, f2, f3, f4, f5, f6, hg0⟩ := look7 (TW.out).b0
  obtain ⟨z0, z1, z2, z3, z4, z5, z6, e0, e1, e2, e3, e4, e5, e6, hg1⟩ := look7 (TW.out).b1
  go_region
  all_goals
    go_wp2_with fail
    have BF := (st7_below BW.out (w.heap.size + 1) (.int .i64 R) (.slice A n c) (.bool dn) (.int .i64 fl) (.bool lt) (.int .i64 ac) (.int .i64 pt) (by omega)).drew
    exact bodyPost_ret (v := .tuple #[.int .i64 9, .agg #[.int .i64 R, .slice A n c, .bool dn, .int .i64 fl, .bool lt, .int .i64 ac, .int .i64 pt]]) (by simp [results, Try.results23, go_sem, *]) rfl ⟨A, n, c, L, rfl, rfl, HL.out, HR.out.below BF, Nw.same _ _ _ _, BF⟩
set_option maxHeartbeats 4000000 in
theorem rappend_unnamed_n0 (w : World) (R : Int) (A : Option Addr) (n c : Nat) (dn0 : Bool) (fl0 : Int) (lt0 : Bool) (ac0 pt0 : Int) (dn : Bool) (fl : Int) (lt : Bool) (ac pt : Int) (HB : ∀ W, Calls Try.prog 40 #[rv R A n c dn0 fl0 lt0 ac0 pt0] W fun e w' => e = .returned (.tuple #[.int .i64 0, .agg #[.int .i64 R, .slice A n c, .bool dn, .int .i64 fl, .bool lt, .int .i64 ac, .int .i64 pt]]) ∧ Below W.heap.size W w') (L : List RF) (hl : L.length = n) (hr : Rs w A L) (hn : n ≤ 1000)  (s : ByteArray) (hs : s.size ≤ maxLen) (Ab : Option Addr) (k cb : Nat) (bb : List Int) (hbl0 : bb.length = k) (hbb : Byt w Ab bb) (hbz : Ab = none → cb = 0) (hbc : k ≤ cb) (hk : k ≤ 100000) (hf : fnd (fls L) s = none) (hnm : named s = false) (hu : usd (fls L) ≤ 900000) (hR0 : 0 ≤ R) (hR1 : R ≤ 16777216) :
    Calls Try.prog 23 #[rv R A n c dn0 fl0 lt0 ac0 pt0, .string s, .slice Ab k cb] w (RAct w A L 1 R dn fl lt ac pt (fls L)) := by
  have b0 := below_go (below_alloc w (rc R A n c dn0 fl0 lt0 ac0 pt0)) (below_alloc _ rc0)
  have C := Lib.hid (HB ((w.alloc (rc R A n c dn0 fl0 lt0 ac0 pt0)).alloc rc0))
  have T0 := Lib.hid (two_start w R A n c dn0 fl0 lt0 ac0 pt0)
  have B0 := Lib.hid b0
  have HR := Lib.hid hr
  have HL := Lib.hid hl
  clear HB hr hl b0
  go_enter Try.func23, Try.ntmps23
  go_wp2_with fail
  refine C.out.mono ?_
  rintro e w1 ⟨rfl, hb1⟩
  have t1 := T0.out.below hb1 (by simp)
  obtain ⟨y0, y1, y2, y3, y4, y5, y6, f0, f1, f2, f3, f4, f5, f6, hg0⟩ := look7 t1.b0
  obtain ⟨W1, hW1, k0, kk, ks, kb⟩ := boxed t1.b0 (.int .i64 R) (.slice A n c) (.bool dn) (.int .i64 fl) (.bool lt) (.int .i64 ac) (.int .i64 pt)
  have k1 : W1.heap[w.heap.size + 1]? = some rc0 := (kk _ (by omega)).trans t1.b1
  have BW := Lib.hid (kb _ _ (below_go B0.out hb1) (Nat.le_refl _))
  have TW := Lib.hid (Two.mk k0 k1)
  have HW := Lib.hid hW1
  have RW := Lib.hid (HR.out.below BW.out)
  have hsz : w.heap.size + 1 < W1.heap.size := (Array.getElem?_eq_some_iff.1 k1).1
  clear C T0 B0 hb1 t1 kk ks kb k0 k1 hW1
  go_wp2_with fail
  rw [HW.out]
  clear y0 y1 y2 y3 y4 y5 y6 f0 f1 f2 f3 f4 f5 f6 hg0 HW
  obtain ⟨y0, y1, y2, y3, y4, y5, y6, f0, f1, f2, f3, f4, f5, f6, hg0⟩ := look7 (TW.out).b0
  have CF := Lib.hid (rfind_any W1 R A n c dn fl lt ac pt L s HL.out RW.out.fls hn)
  go_wp2_with fail
  refine CF.out.mono ?_
  intro e w2 hF
  obtain ⟨h1, hb2⟩ := hF
  have BW2 := Lib.hid (below_go BW.out hb2)
  have T2 := TW.out.below hb2 hsz
  have TW2 := Lib.hid T2
  have hsz2 : w.heap.size + 1 < w2.heap.size := by have := hb2.size; omega
  clear CF hb2 T2 TW y0 y1 y2 y3 y4 y5 y6 f0 f1 f2 f3 f4 f5 f6 hg0
  have h2 : e = .returned (.int .i64 (-1)) := by
    rcases h1 with ⟨i, hi, he, hx⟩ | ⟨he, hx⟩
    · rw [hf] at hx; cases hx
    · exact he
  subst h2
  clear h1 hf RW
  obtain ⟨y0, y1, y2, y3, y4, y5, y6, f0, f1, f2, f3, f4, f5, f6, hg0⟩ := look7 (TW2.out).b0
  have b3 := below_alloc w2 (.cells #[.string s, .slice none 0 0, .int .i64 0] 43)
  obtain ⟨W3, hW3⟩ : ∃ W3, w2.alloc (.cells #[.string s, .slice none 0 0, .int .i64 0] 43) = W3 := ⟨_, rfl⟩
  have x3 : W3.heap[w2.heap.size]? = some (.cells #[.string s, .slice none 0 0, .int .i64 0] 43) := by rw [← hW3]; exact heap_alloc_new w2 _
  have t3 := TW2.out.below b3 hsz2
  have b4 := below_go BW2.out b3
  have hz3 : w2.heap.size < W3.heap.size := by rw [← hW3]; simp
  rw [hW3] at t3 b4
  have HW3 := Lib.hid hW3
  have T3 := Lib.hid t3
  have B3 := Lib.hid b4
  have X3 := Lib.hid x3
  clear b3 t3 b4 hW3 x3 BW2 TW2
  have CN := Lib.hid (fun W => rnamed_any s W hs)
  rw [hnm] at CN
  go_wp2_with fail
  rw [HW3.out]
  refine (CN.out _).mono ?_
  rintro e w9 ⟨rfl, rfl⟩
  clear CN HW3 y0 y1 y2 y3 y4 y5 y6 f0 f1 f2 f3 f4 f5 f6 hg0
  have hsz3 : w.heap.size + 1 < W3.heap.size := (Array.getElem?_eq_some_iff.1 T3.out.b1).1
  obtain ⟨y0, y1, y2, y3, y4, y5, y6, f0, f1, f2, f3, f4, f5, f6, hg0⟩ := look7 (T3.out).b0
  obtain ⟨z0, z1, z2, z3, z4, z5, z6, e0, e1, e2, e3, e4, e5, e6, hg1⟩ := look7 (T3.out).b1
  go_wp2_with fail
  go_region
  all_goals
    go_wp2_with fail
    have BF := (st7_below B3.out (w.heap.size + 1) (.int .i64 R) (.slice A n c) (.bool dn) (.int .i64 fl) (.bool lt) (.int .i64 ac) (.int .i64 pt) (by omega)).drew
    exact bodyPost_ret (v := .tuple #[.int .i64 1, .agg #[.int .i64 R, .slice A n c, .bool dn, .int .i64 fl, .bool lt, .int .i64 ac, .int .i64 pt]]) (by simp [results, Try.results23, go_sem, *]) rfl ⟨_, n, c, L, rfl, rfl, HL.out, HR.out.below BF, Nw.same _ _ _ _, BF⟩
set_option maxHeartbeats 4000000 in
theorem rappend_size_n0 (w : World) (R : Int) (A : Option Addr) (n c : Nat) (dn0 : Bool) (fl0 : Int) (lt0 : Bool) (ac0 pt0 : Int) (dn : Bool) (fl : Int) (lt : Bool) (ac pt : Int) (HB : ∀ W, Calls Try.prog 40 #[rv R A n c dn0 fl0 lt0 ac0 pt0] W fun e w' => e = .returned (.tuple #[.int .i64 0, .agg #[.int .i64 R, .slice A n c, .bool dn, .int .i64 fl, .bool lt, .int .i64 ac, .int .i64 pt]]) ∧ Below W.heap.size W w') (L : List RF) (hl : L.length = n) (hr : Rs w A L) (hn : n ≤ 1000)  (s : ByteArray) (hs : s.size ≤ maxLen) (Ab : Option Addr) (k cb : Nat) (bb : List Int) (hbl0 : bb.length = k) (hbb : Byt w Ab bb) (hbz : Ab = none → cb = 0) (hbc : k ≤ cb) (hk : k ≤ 100000) (hf : fnd (fls L) s = none) (hnm : named s = true) (hu : usd (fls L) ≤ 900000) (hR0 : 0 ≤ R) (hR1 : R ≤ 16777216) (hsize : R - (usd (fls L) : Int) < (k : Int)) :
    Calls Try.prog 23 #[rv R A n c dn0 fl0 lt0 ac0 pt0, .string s, .slice Ab k cb] w (RAct w A L 7 R dn fl lt ac pt (fls L)) := by
  have b0 := below_go (below_alloc w (rc R A n c dn0 fl0 lt0 ac0 pt0)) (below_alloc _ rc0)
  have C := Lib.hid (HB ((w.alloc (rc R A n c dn0 fl0 lt0 ac0 pt0)).alloc rc0))
  have T0 := Lib.hid (two_start w R A n c dn0 fl0 lt0 ac0 pt0)
  have B0 := Lib.hid b0
  have HR := Lib.hid hr
  have HL := Lib.hid hl
  clear HB hr hl b0
  go_enter Try.func23, Try.ntmps23
  go_wp2_with fail
  refine C.out.mono ?_
  rintro e w1 ⟨rfl, hb1⟩
  have t1 := T0.out.below hb1 (by simp)
  obtain ⟨y0, y1, y2, y3, y4, y5, y6, f0, f1, f2, f3, f4, f5, f6, hg0⟩ := look7 t1.b0
  obtain ⟨W1, hW1, k0, kk, ks, kb⟩ := boxed t1.b0 (.int .i64 R) (.slice A n c) (.bool dn) (.int .i64 fl) (.bool lt) (.int .i64 ac) (.int .i64 pt)
  have k1 : W1.heap[w.heap.size + 1]? = some rc0 := (kk _ (by omega)).trans t1.b1
  have BW := Lib.hid (kb _ _ (below_go B0.out hb1) (Nat.le_refl _))
  have TW := Lib.hid (Two.mk k0 k1)
  have HW := Lib.hid hW1
  have RW := Lib.hid (HR.out.below BW.out)
  have hsz : w.heap.size + 1 < W1.heap.size := (Array.getElem?_eq_some_iff.1 k1).1
  clear C T0 B0 hb1 t1 kk ks kb k0 k1 hW1
  go_wp2_with fail
  rw [HW.out]
  clear y0 y1 y2 y3 y4 y5 y6 f0 f1 f2 f3 f4 f5 f6 hg0 HW
  obtain ⟨y0, y1, y2, y3, y4, y5, y6, f0, f1, f2, f3, f4, f5, f6, hg0⟩ := look7 (TW.out).b0
  have CF := Lib.hid (rfind_any W1 R A n c dn fl lt ac pt L s HL.out RW.out.fls hn)
  go_wp2_with fail
  refine CF.out.mono ?_
  intro e w2 hF
  obtain ⟨h1, hb2⟩ := hF
  have BW2 := Lib.hid (below_go BW.out hb2)
  have T2 := TW.out.below hb2 hsz
  have TW2 := Lib.hid T2
  have hsz2 : w.heap.size + 1 < w2.heap.size := by have := hb2.size; omega
  clear CF hb2 T2 TW y0 y1 y2 y3 y4 y5 y6 f0 f1 f2 f3 f4 f5 f6 hg0
  have h2 : e = .returned (.int .i64 (-1)) := by
    rcases h1 with ⟨i, hi, he, hx⟩ | ⟨he, hx⟩
    · rw [hf] at hx; cases hx
    · exact he
  subst h2
  clear h1 hf RW
  obtain ⟨y0, y1, y2, y3, y4, y5, y6, f0, f1, f2, f3, f4, f5, f6, hg0⟩ := look7 (TW2.out).b0
  have b3 := below_alloc w2 (.cells #[.string s, .slice none 0 0, .int .i64 0] 43)
  obtain ⟨W3, hW3⟩ : ∃ W3, w2.alloc (.cells #[.string s, .slice none 0 0, .int .i64 0] 43) = W3 := ⟨_, rfl⟩
  have x3 : W3.heap[w2.heap.size]? = some (.cells #[.string s, .slice none 0 0, .int .i64 0] 43) := by rw [← hW3]; exact heap_alloc_new w2 _
  have t3 := TW2.out.below b3 hsz2
  have b4 := below_go BW2.out b3
  have hz3 : w2.heap.size < W3.heap.size := by rw [← hW3]; simp
  rw [hW3] at t3 b4
  have HW3 := Lib.hid hW3
  have T3 := Lib.hid t3
  have B3 := Lib.hid b4
  have X3 := Lib.hid x3
  clear b3 t3 b4 hW3 x3 BW2 TW2
  have CN := Lib.hid (fun W => rnamed_any s W hs)
  rw [hnm] at CN
  go_wp2_with fail
  rw [HW3.out]
  refine (CN.out _).mono ?_
  rintro e w9 ⟨rfl, rfl⟩
  clear CN HW3 y0 y1 y2 y3 y4 y5 y6 f0 f1 f2 f3 f4 f5 f6 hg0
  have hsz3 : w.heap.size + 1 < W3.heap.size := (Array.getElem?_eq_some_iff.1 T3.out.b1).1
  have SN : Hid (∀ W, Below W3.heap.size W3 W → W.cell? ⟨w.heap.size, 0, none⟩ = some (.int .i64 R) ∧ W.cell? ⟨w.heap.size, 1, none⟩ = some (.slice A n c) ∧ W.cell? ⟨w.heap.size, 2, none⟩ = some (.bool dn) ∧ W.cell? ⟨w.heap.size, 3, none⟩ = some (.int .i64 fl) ∧ W.cell? ⟨w.heap.size, 4, none⟩ = some (.bool lt) ∧ W.cell? ⟨w.heap.size, 5, none⟩ = some (.int .i64 ac) ∧ W.cell? ⟨w.heap.size, 6, none⟩ = some (.int .i64 pt)) := Lib.hid (fun W hW => by
    have t5 := T3.out.below hW hsz3
    obtain ⟨p0, p1, p2, p3, p4, p5, p6, -⟩ := look7 t5.b0
    exact ⟨p0, p1, p2, p3, p4, p5, p6⟩)
  have CU := Lib.hid (rused_any W3.drew R A n c dn fl lt ac pt L HL.out (HR.out.fls.below B3.out.drew) (by omega) hn)
  have hU := Lib.hid hu
  obtain ⟨u, hue⟩ : ∃ u, usd (fls L) = u := ⟨_, rfl⟩
  rw [hue] at CU hsize hu
  clear hue
  go_wp2_with fail
  have hdec : decide (R - (u : Int) < (k : Int)) = true := by simpa using hsize
  have hwr : IntKind.i64.wrap (R - (u : Int)) = R - (u : Int) := IntWalk.i64_in _ ⟨by omega, by omega⟩
  refine wp_region_noPanic ?_
  refine wp_region_held_drew (S := fun W => W.cell? ⟨w.heap.size, 0, none⟩ = some (.int .i64 R) ∧ W.cell? ⟨w.heap.size, 1, none⟩ = some (.slice A n c) ∧ W.cell? ⟨w.heap.size, 2, none⟩ = some (.bool dn) ∧ W.cell? ⟨w.heap.size, 3, none⟩ = some (.int .i64 fl) ∧ W.cell? ⟨w.heap.size, 4, none⟩ = some (.bool lt) ∧ W.cell? ⟨w.heap.size, 5, none⟩ = some (.int .i64 ac) ∧ W.cell? ⟨w.heap.size, 6, none⟩ = some (.int .i64 pt)) (by kernel_rfl) (SN.out _ (Below.refl _ W3).drew) (fun hHeld => ?_)
  refine wpAnyH_take (i := 0) (v := ?_) rfl (by kernel_rfl) (by kernel_rfl) (by kernel_rfl) (fun _ _ _ h => h) (Or.inl ⟨by rfl, ?_⟩) (by assumption) ?_
  rotate_left
  · (intro W hSw; simp only [List.getElem_toArray, List.getElem_cons_succ, List.getElem_cons_zero]; (try dsimp only at hSw); go_simp; with_reducible rfl)
  simp only [List.getElem_toArray, List.getElem_cons_succ, List.getElem_cons_zero, Act.put, List.setIfInBounds_toArray, List.set_cons_zero, List.set_cons_succ]
  refine wpAnyH_take (i := 1) (v := ?_) rfl (by kernel_rfl) (by kernel_rfl) (by kernel_rfl) (fun _ _ _ h => h) (Or.inl ⟨by rfl, ?_⟩) (by assumption) ?_
  rotate_left
  · (intro W hSw; simp only [List.getElem_toArray, List.getElem_cons_succ, List.getElem_cons_zero]; (try dsimp only at hSw); go_simp; with_reducible rfl)
  simp only [List.getElem_toArray, List.getElem_cons_succ, List.getElem_cons_zero, Act.put, List.setIfInBounds_toArray, List.set_cons_zero, List.set_cons_succ]
  refine wpAnyH_take (i := 2) (v := ?_) rfl (by kernel_rfl) (by kernel_rfl) (by kernel_rfl) (fun _ _ _ h => h) (Or.inl ⟨by rfl, ?_⟩) (by assumption) ?_
  rotate_left
  · (intro W hSw; simp only [List.getElem_toArray, List.getElem_cons_succ, List.getElem_cons_zero]; (try dsimp only at hSw); go_simp; with_reducible rfl)
  simp only [List.getElem_toArray, List.getElem_cons_succ, List.getElem_cons_zero, Act.put, List.setIfInBounds_toArray, List.set_cons_zero, List.set_cons_succ]
  refine wpAnyH_take (i := 3) (v := ?_) rfl (by kernel_rfl) (by kernel_rfl) (by kernel_rfl) (fun _ _ _ h => h) (Or.inl ⟨by rfl, ?_⟩) (by assumption) ?_
  rotate_left
  · (intro W hSw; simp only [List.getElem_toArray, List.getElem_cons_succ, List.getElem_cons_zero]; (try dsimp only at hSw); go_simp; with_reducible rfl)
  simp only [List.getElem_toArray, List.getElem_cons_succ, List.getElem_cons_zero, Act.put, List.setIfInBounds_toArray, List.set_cons_zero, List.set_cons_succ]
  refine wpAnyH_take (i := 4) (v := ?_) rfl (by kernel_rfl) (by kernel_rfl) (by kernel_rfl) (fun _ _ _ h => h) (Or.inl ⟨by rfl, ?_⟩) (by assumption) ?_
  rotate_left
  · (intro W hSw; simp only [List.getElem_toArray, List.getElem_cons_succ, List.getElem_cons_zero]; (try dsimp only at hSw); go_simp; with_reducible rfl)
  simp only [List.getElem_toArray, List.getElem_cons_succ, List.getElem_cons_zero, Act.put, List.setIfInBounds_toArray, List.set_cons_zero, List.set_cons_succ]
  refine wpAnyH_ready (rs := [5]) (by kernel_rfl) (by simp) ?_
  refine AllReadyH.cons rfl (fun K hK => ?_) AllReadyH.nil
  (try simp only [List.getElem_toArray, List.getElem_cons_succ, List.getElem_cons_zero])
  go_simp
  (with_reducible refine Calls.mono CU.out ?_)
  rintro e wU ⟨rfl, bU⟩
  have bU' := below_go (Below.refl _ W3).drew bU
  refine hK.out _ _ (SN.out _ bU') (fun hHeld2 => ?_)
  clear hK K hHeld CU
  (try simp only [Act.put, List.setIfInBounds_toArray, List.set_cons_zero, List.set_cons_succ])
  refine wpAnyH_take (i := 6) (v := ?_) rfl (by kernel_rfl) (by kernel_rfl) (by kernel_rfl) (fun _ _ _ h => h) (Or.inl ⟨by rfl, ?_⟩) (by assumption) ?_
  rotate_left
  · (intro W hSw; simp only [List.getElem_toArray, List.getElem_cons_succ, List.getElem_cons_zero]; (try dsimp only at hSw); go_simp; with_reducible rfl)
  simp only [List.getElem_toArray, List.getElem_cons_succ, List.getElem_cons_zero, Act.put, List.setIfInBounds_toArray, List.set_cons_zero, List.set_cons_succ]
  refine wpAnyH_take (i := 7) (v := ?_) rfl (by kernel_rfl) (by kernel_rfl) (by kernel_rfl) (fun _ _ _ h => h) (Or.inl ⟨by rfl, ?_⟩) (by assumption) ?_
  rotate_left
  · (intro W hSw; simp only [List.getElem_toArray, List.getElem_cons_succ, List.getElem_cons_zero]; (try dsimp only at hSw); go_simp; with_reducible rfl)
  simp only [List.getElem_toArray, List.getElem_cons_succ, List.getElem_cons_zero, Act.put, List.setIfInBounds_toArray, List.set_cons_zero, List.set_cons_succ]
  refine wpAnyH_take (i := 8) (v := ?_) rfl (by kernel_rfl) (by kernel_rfl) (by kernel_rfl) (fun _ _ _ h => h) (Or.inl ⟨by rfl, ?_⟩) (by assumption) ?_
  rotate_left
  · (intro W hSw; simp only [List.getElem_toArray, List.getElem_cons_succ, List.getElem_cons_zero]; (try dsimp only at hSw); go_simp; with_reducible rfl)
  simp only [List.getElem_toArray, List.getElem_cons_succ, List.getElem_cons_zero, Act.put, List.setIfInBounds_toArray, List.set_cons_zero, List.set_cons_succ]
  refine wpAnyH_take (i := 9) (v := undef) rfl (by kernel_rfl) (by kernel_rfl) (by kernel_rfl) (fun _ _ _ h => h) (Or.inr ⟨by rfl, rfl⟩) (by assumption) ?_
  simp only [List.getElem_toArray, List.getElem_cons_succ, List.getElem_cons_zero, Act.put, List.setIfInBounds_toArray, List.set_cons_zero, List.set_cons_succ]
  refine wpAnyH_take (i := 10) (v := undef) rfl (by kernel_rfl) (by kernel_rfl) (by kernel_rfl) (fun _ _ _ h => h) (Or.inr ⟨by rfl, rfl⟩) (by assumption) ?_
  simp only [List.getElem_toArray, List.getElem_cons_succ, List.getElem_cons_zero, Act.put, List.setIfInBounds_toArray, List.set_cons_zero, List.set_cons_succ]
  refine wpAnyH_take (i := 11) (v := undef) rfl (by kernel_rfl) (by kernel_rfl) (by kernel_rfl) (fun _ _ _ h => h) (Or.inr ⟨by rfl, rfl⟩) (by assumption) ?_
  simp only [List.getElem_toArray, List.getElem_cons_succ, List.getElem_cons_zero, Act.put, List.setIfInBounds_toArray, List.set_cons_zero, List.set_cons_succ]
  refine wpAnyH_take (i := 12) (v := undef) rfl (by kernel_rfl) (by kernel_rfl) (by kernel_rfl) (fun _ _ _ h => h) (Or.inr ⟨by rfl, rfl⟩) (by assumption) ?_
  simp only [List.getElem_toArray, List.getElem_cons_succ, List.getElem_cons_zero, Act.put, List.setIfInBounds_toArray, List.set_cons_zero, List.set_cons_succ]
  refine wpAnyH_take (i := 13) (v := undef) rfl (by kernel_rfl) (by kernel_rfl) (by kernel_rfl) (fun _ _ _ h => h) (Or.inr ⟨by rfl, rfl⟩) (by assumption) ?_
  simp only [List.getElem_toArray, List.getElem_cons_succ, List.getElem_cons_zero, Act.put, List.setIfInBounds_toArray, List.set_cons_zero, List.set_cons_succ]
  refine wpAnyH_take (i := 14) (v := undef) rfl (by kernel_rfl) (by kernel_rfl) (by kernel_rfl) (fun _ _ _ h => h) (Or.inr ⟨by rfl, rfl⟩) (by assumption) ?_
  simp only [List.getElem_toArray, List.getElem_cons_succ, List.getElem_cons_zero, Act.put, List.setIfInBounds_toArray, List.set_cons_zero, List.set_cons_succ]
  refine wpAnyH_take (i := 15) (v := undef) rfl (by kernel_rfl) (by kernel_rfl) (by kernel_rfl) (fun _ _ _ h => h) (Or.inr ⟨by rfl, rfl⟩) (by assumption) ?_
  simp only [List.getElem_toArray, List.getElem_cons_succ, List.getElem_cons_zero, Act.put, List.setIfInBounds_toArray, List.set_cons_zero, List.set_cons_succ]
  refine wpAnyH_take (i := 16) (v := undef) rfl (by kernel_rfl) (by kernel_rfl) (by kernel_rfl) (fun _ _ _ h => h) (Or.inr ⟨by rfl, rfl⟩) (by assumption) ?_
  simp only [List.getElem_toArray, List.getElem_cons_succ, List.getElem_cons_zero, Act.put, List.setIfInBounds_toArray, List.set_cons_zero, List.set_cons_succ]
  refine wpAnyH_take (i := 17) (v := ?_) rfl (by kernel_rfl) (by kernel_rfl) (by kernel_rfl) (fun _ _ _ h => h) (Or.inl ⟨by rfl, ?_⟩) (by assumption) ?_
  rotate_left
  · (intro W hSw; simp only [List.getElem_toArray, List.getElem_cons_succ, List.getElem_cons_zero]; (try dsimp only at hSw); go_simp; with_reducible rfl)
  simp only [List.getElem_toArray, List.getElem_cons_succ, List.getElem_cons_zero, Act.put, List.setIfInBounds_toArray, List.set_cons_zero, List.set_cons_succ]
  refine wpAnyH_done (by kernel_rfl) ?_ _
  refine NoPanic.normal ?_
  have TU := Lib.hid (T3.out.below bU' hsz3)
  have BU := Lib.hid (below_go B3.out bU')
  have XU := Lib.hid ((bU'.block w2.heap.size hz3).trans X3.out)
  have hszU : w.heap.size + 1 < wU.heap.size := by have := bU'.size; omega
  have hzU : w2.heap.size < wU.heap.size := by have := bU'.size; omega
  clear SN hHeld2 hdec hwr bU bU' T3 B3 X3
  obtain ⟨y0, y1, y2, y3, y4, y5, y6, f0, f1, f2, f3, f4, f5, f6, hg0⟩ := look7 (TU.out).b0
  obtain ⟨z0, z1, z2, z3, z4, z5, z6, e0, e1, e2, e3, e4, e5, e6, hg1⟩ := look7 (TU.out).b1
  go_wp2_with fail
  go_region
  all_goals
    go_wp2_with fail
    have BF := (st7_below BU.out (w.heap.size + 1) (.int .i64 R) (.slice A n c) (.bool dn) (.int .i64 fl) (.bool lt) (.int .i64 ac) (.int .i64 pt) (by omega)).drew
    exact bodyPost_ret (v := .tuple #[.int .i64 7, .agg #[.int .i64 R, .slice A n c, .bool dn, .int .i64 fl, .bool lt, .int .i64 ac, .int .i64 pt]]) (by simp [results, Try.results23, go_sem, *]) rfl ⟨_, n, c, L, rfl, rfl, HL.out, HR.out.below BF, Nw.same _ _ _ _, BF⟩
set_option maxHeartbeats 4000000 in
theorem rappend_count_n0 (w : World) (R : Int) (A : Option Addr) (n c : Nat) (dn0 : Bool) (fl0 : Int) (lt0 : Bool) (ac0 pt0 : Int) (dn : Bool) (fl : Int) (lt : Bool) (ac pt : Int) (HB : ∀ W, Calls Try.prog 40 #[rv R A n c dn0 fl0 lt0 ac0 pt0] W fun e w' => e = .returned (.tuple #[.int .i64 0, .agg #[.int .i64 R, .slice A n c, .bool dn, .int .i64 fl, .bool lt, .int .i64 ac, .int .i64 pt]]) ∧ Below W.heap.size W w') (L : List RF) (hl : L.length = n) (hr : Rs w A L) (hn : n ≤ 1000)  (s : ByteArray) (hs : s.size ≤ maxLen) (Ab : Option Addr) (k cb : Nat) (bb : List Int) (hbl0 : bb.length = k) (hbb : Byt w Ab bb) (hbz : Ab = none → cb = 0) (hbc : k ≤ cb) (hk : k ≤ 100000) (hf : fnd (fls L) s = none) (hnm : named s = true) (hu : usd (fls L) ≤ 900000) (hR0 : 0 ≤ R) (hR1 : R ≤ 16777216) (hsize : ¬ R - (usd (fls L) : Int) < (k : Int)) (hcnt : 256 ≤ n) :
    Calls Try.prog 23 #[rv R A n c dn0 fl0 lt0 ac0 pt0, .string s, .slice Ab k cb] w (RAct w A L 7 R dn fl lt ac pt (fls L)) := by
  have b0 := below_go (below_alloc w (rc R A n c dn0 fl0 lt0 ac0 pt0)) (below_alloc _ rc0)
  have C := Lib.hid (HB ((w.alloc (rc R A n c dn0 fl0 lt0 ac0 pt0)).alloc rc0))
  have T0 := Lib.hid (two_start w R A n c dn0 fl0 lt0 ac0 pt0)
  have B0 := Lib.hid b0
  have HR := Lib.hid hr
  have HL := Lib.hid hl
  clear HB hr hl b0
  go_enter Try.func23, Try.ntmps23
  go_wp2_with fail
  refine C.out.mono ?_
  rintro e w1 ⟨rfl, hb1⟩
  have t1 := T0.out.below hb1 (by simp)
  obtain ⟨y0, y1, y2, y3, y4, y5, y6, f0, f1, f2, f3, f4, f5, f6, hg0⟩ := look7 t1.b0
  obtain ⟨W1, hW1, k0, kk, ks, kb⟩ := boxed t1.b0 (.int .i64 R) (.slice A n c) (.bool dn) (.int .i64 fl) (.bool lt) (.int .i64 ac) (.int .i64 pt)
  have k1 : W1.heap[w.heap.size + 1]? = some rc0 := (kk _ (by omega)).trans t1.b1
  have BW := Lib.hid (kb _ _ (below_go B0.out hb1) (Nat.le_refl _))
  have TW := Lib.hid (Two.mk k0 k1)
  have HW := Lib.hid hW1
  have RW := Lib.hid (HR.out.below BW.out)
  have hsz : w.heap.size + 1 < W1.heap.size := (Array.getElem?_eq_some_iff.1 k1).1
  clear C T0 B0 hb1 t1 kk ks kb k0 k1 hW1
  go_wp2_with fail
  rw [HW.out]
  clear y0 y1 y2 y3 y4 y5 y6 f0 f1 f2 f3 f4 f5 f6 hg0 HW
  obtain ⟨y0, y1, y2, y3, y4, y5, y6, f0, f1, f2, f3, f4, f5, f6, hg0⟩ := look7 (TW.out).b0
  have CF := Lib.hid (rfind_any W1 R A n c dn fl lt ac pt L s HL.out RW.out.fls hn)
  go_wp2_with fail
  refine CF.out.mono ?_
  intro e w2 hF
  obtain ⟨h1, hb2⟩ := hF
  have BW2 := Lib.hid (below_go BW.out hb2)
  have T2 := TW.out.below hb2 hsz
  have TW2 := Lib.hid T2
  have hsz2 : w.heap.size + 1 < w2.heap.size := by have := hb2.size; omega
  clear CF hb2 T2 TW y0 y1 y2 y3 y4 y5 y6 f0 f1 f2 f3 f4 f5 f6 hg0
  have h2 : e = .returned (.int .i64 (-1)) := by
    rcases h1 with ⟨i, hi, he, hx⟩ | ⟨he, hx⟩
    · rw [hf] at hx; cases hx
    · exact he
  subst h2
  clear h1 hf RW
  obtain ⟨y0, y1, y2, y3, y4, y5, y6, f0, f1, f2, f3, f4, f5, f6, hg0⟩ := look7 (TW2.out).b0
  have b3 := below_alloc w2 (.cells #[.string s, .slice none 0 0, .int .i64 0] 43)
  obtain ⟨W3, hW3⟩ : ∃ W3, w2.alloc (.cells #[.string s, .slice none 0 0, .int .i64 0] 43) = W3 := ⟨_, rfl⟩
  have x3 : W3.heap[w2.heap.size]? = some (.cells #[.string s, .slice none 0 0, .int .i64 0] 43) := by rw [← hW3]; exact heap_alloc_new w2 _
  have t3 := TW2.out.below b3 hsz2
  have b4 := below_go BW2.out b3
  have hz3 : w2.heap.size < W3.heap.size := by rw [← hW3]; simp
  rw [hW3] at t3 b4
  have HW3 := Lib.hid hW3
  have T3 := Lib.hid t3
  have B3 := Lib.hid b4
  have X3 := Lib.hid x3
  clear b3 t3 b4 hW3 x3 BW2 TW2
  have CN := Lib.hid (fun W => rnamed_any s W hs)
  rw [hnm] at CN
  go_wp2_with fail
  rw [HW3.out]
  refine (CN.out _).mono ?_
  rintro e w9 ⟨rfl, rfl⟩
  clear CN HW3 y0 y1 y2 y3 y4 y5 y6 f0 f1 f2 f3 f4 f5 f6 hg0
  have hsz3 : w.heap.size + 1 < W3.heap.size := (Array.getElem?_eq_some_iff.1 T3.out.b1).1
  have hc1 : (256 : Int) ≤ (n : Int) := by omega
  have SN : Hid (∀ W, Below W3.heap.size W3 W → W.cell? ⟨w.heap.size, 0, none⟩ = some (.int .i64 R) ∧ W.cell? ⟨w.heap.size, 1, none⟩ = some (.slice A n c) ∧ W.cell? ⟨w.heap.size, 2, none⟩ = some (.bool dn) ∧ W.cell? ⟨w.heap.size, 3, none⟩ = some (.int .i64 fl) ∧ W.cell? ⟨w.heap.size, 4, none⟩ = some (.bool lt) ∧ W.cell? ⟨w.heap.size, 5, none⟩ = some (.int .i64 ac) ∧ W.cell? ⟨w.heap.size, 6, none⟩ = some (.int .i64 pt)) := Lib.hid (fun W hW => by
    have t5 := T3.out.below hW hsz3
    obtain ⟨p0, p1, p2, p3, p4, p5, p6, -⟩ := look7 t5.b0
    exact ⟨p0, p1, p2, p3, p4, p5, p6⟩)
  have CU := Lib.hid (rused_any W3.drew R A n c dn fl lt ac pt L HL.out (HR.out.fls.below B3.out.drew) (by omega) hn)
  have hU := Lib.hid hu
  obtain ⟨u, hue⟩ : ∃ u, usd (fls L) = u := ⟨_, rfl⟩
  rw [hue] at CU hsize hu
  clear hue
  go_wp2_with fail
  have hdec : decide (R - (u : Int) < (k : Int)) = false := by simpa using hsize
  have hwr : IntKind.i64.wrap (R - (u : Int)) = R - (u : Int) := IntWalk.i64_in _ ⟨by omega, by omega⟩
  refine wp_region_noPanic ?_
  refine wp_region_held_drew (S := fun W => W.cell? ⟨w.heap.size, 0, none⟩ = some (.int .i64 R) ∧ W.cell? ⟨w.heap.size, 1, none⟩ = some (.slice A n c) ∧ W.cell? ⟨w.heap.size, 2, none⟩ = some (.bool dn) ∧ W.cell? ⟨w.heap.size, 3, none⟩ = some (.int .i64 fl) ∧ W.cell? ⟨w.heap.size, 4, none⟩ = some (.bool lt) ∧ W.cell? ⟨w.heap.size, 5, none⟩ = some (.int .i64 ac) ∧ W.cell? ⟨w.heap.size, 6, none⟩ = some (.int .i64 pt)) (by kernel_rfl) (SN.out _ (Below.refl _ W3).drew) (fun hHeld => ?_)
  refine wpAnyH_take (i := 0) (v := ?_) rfl (by kernel_rfl) (by kernel_rfl) (by kernel_rfl) (fun _ _ _ h => h) (Or.inl ⟨by rfl, ?_⟩) (by assumption) ?_
  rotate_left
  · (intro W hSw; simp only [List.getElem_toArray, List.getElem_cons_succ, List.getElem_cons_zero]; (try dsimp only at hSw); go_simp; with_reducible rfl)
  simp only [List.getElem_toArray, List.getElem_cons_succ, List.getElem_cons_zero, Act.put, List.setIfInBounds_toArray, List.set_cons_zero, List.set_cons_succ]
  refine wpAnyH_take (i := 1) (v := ?_) rfl (by kernel_rfl) (by kernel_rfl) (by kernel_rfl) (fun _ _ _ h => h) (Or.inl ⟨by rfl, ?_⟩) (by assumption) ?_
  rotate_left
  · (intro W hSw; simp only [List.getElem_toArray, List.getElem_cons_succ, List.getElem_cons_zero]; (try dsimp only at hSw); go_simp; with_reducible rfl)
  simp only [List.getElem_toArray, List.getElem_cons_succ, List.getElem_cons_zero, Act.put, List.setIfInBounds_toArray, List.set_cons_zero, List.set_cons_succ]
  refine wpAnyH_take (i := 2) (v := ?_) rfl (by kernel_rfl) (by kernel_rfl) (by kernel_rfl) (fun _ _ _ h => h) (Or.inl ⟨by rfl, ?_⟩) (by assumption) ?_
  rotate_left
  · (intro W hSw; simp only [List.getElem_toArray, List.getElem_cons_succ, List.getElem_cons_zero]; (try dsimp only at hSw); go_simp; with_reducible rfl)
  simp only [List.getElem_toArray, List.getElem_cons_succ, List.getElem_cons_zero, Act.put, List.setIfInBounds_toArray, List.set_cons_zero, List.set_cons_succ]
  refine wpAnyH_take (i := 3) (v := ?_) rfl (by kernel_rfl) (by kernel_rfl) (by kernel_rfl) (fun _ _ _ h => h) (Or.inl ⟨by rfl, ?_⟩) (by assumption) ?_
  rotate_left
  · (intro W hSw; simp only [List.getElem_toArray, List.getElem_cons_succ, List.getElem_cons_zero]; (try dsimp only at hSw); go_simp; with_reducible rfl)
  simp only [List.getElem_toArray, List.getElem_cons_succ, List.getElem_cons_zero, Act.put, List.setIfInBounds_toArray, List.set_cons_zero, List.set_cons_succ]
  refine wpAnyH_take (i := 4) (v := ?_) rfl (by kernel_rfl) (by kernel_rfl) (by kernel_rfl) (fun _ _ _ h => h) (Or.inl ⟨by rfl, ?_⟩) (by assumption) ?_
  rotate_left
  · (intro W hSw; simp only [List.getElem_toArray, List.getElem_cons_succ, List.getElem_cons_zero]; (try dsimp only at hSw); go_simp; with_reducible rfl)
  simp only [List.getElem_toArray, List.getElem_cons_succ, List.getElem_cons_zero, Act.put, List.setIfInBounds_toArray, List.set_cons_zero, List.set_cons_succ]
  refine wpAnyH_ready (rs := [5]) (by kernel_rfl) (by simp) ?_
  refine AllReadyH.cons rfl (fun K hK => ?_) AllReadyH.nil
  (try simp only [List.getElem_toArray, List.getElem_cons_succ, List.getElem_cons_zero])
  go_simp
  (with_reducible refine Calls.mono CU.out ?_)
  rintro e wU ⟨rfl, bU⟩
  have bU' := below_go (Below.refl _ W3).drew bU
  refine hK.out _ _ (SN.out _ bU') (fun hHeld2 => ?_)
  clear hK K hHeld CU
  (try simp only [Act.put, List.setIfInBounds_toArray, List.set_cons_zero, List.set_cons_succ])
  refine wpAnyH_take (i := 6) (v := ?_) rfl (by kernel_rfl) (by kernel_rfl) (by kernel_rfl) (fun _ _ _ h => h) (Or.inl ⟨by rfl, ?_⟩) (by assumption) ?_
  rotate_left
  · (intro W hSw; simp only [List.getElem_toArray, List.getElem_cons_succ, List.getElem_cons_zero]; (try dsimp only at hSw); go_simp; with_reducible rfl)
  simp only [List.getElem_toArray, List.getElem_cons_succ, List.getElem_cons_zero, Act.put, List.setIfInBounds_toArray, List.set_cons_zero, List.set_cons_succ]
  refine wpAnyH_take (i := 7) (v := ?_) rfl (by kernel_rfl) (by kernel_rfl) (by kernel_rfl) (fun _ _ _ h => h) (Or.inl ⟨by rfl, ?_⟩) (by assumption) ?_
  rotate_left
  · (intro W hSw; simp only [List.getElem_toArray, List.getElem_cons_succ, List.getElem_cons_zero]; (try dsimp only at hSw); go_simp; with_reducible rfl)
  simp only [List.getElem_toArray, List.getElem_cons_succ, List.getElem_cons_zero, Act.put, List.setIfInBounds_toArray, List.set_cons_zero, List.set_cons_succ]
  refine wpAnyH_take (i := 8) (v := ?_) rfl (by kernel_rfl) (by kernel_rfl) (by kernel_rfl) (fun _ _ _ h => h) (Or.inl ⟨by rfl, ?_⟩) (by assumption) ?_
  rotate_left
  · (intro W hSw; simp only [List.getElem_toArray, List.getElem_cons_succ, List.getElem_cons_zero]; (try dsimp only at hSw); go_simp; with_reducible rfl)
  simp only [List.getElem_toArray, List.getElem_cons_succ, List.getElem_cons_zero, Act.put, List.setIfInBounds_toArray, List.set_cons_zero, List.set_cons_succ]
  refine wpAnyH_take (i := 9) (v := ?_) rfl (by kernel_rfl) (by kernel_rfl) (by kernel_rfl) (fun _ _ _ h => h) (Or.inl ⟨by rfl, ?_⟩) (by assumption) ?_
  rotate_left
  · (intro W hSw; simp only [List.getElem_toArray, List.getElem_cons_succ, List.getElem_cons_zero]; (try dsimp only at hSw); go_simp; with_reducible rfl)
  simp only [List.getElem_toArray, List.getElem_cons_succ, List.getElem_cons_zero, Act.put, List.setIfInBounds_toArray, List.set_cons_zero, List.set_cons_succ]
  refine wpAnyH_take (i := 10) (v := ?_) rfl (by kernel_rfl) (by kernel_rfl) (by kernel_rfl) (fun _ _ _ h => h) (Or.inl ⟨by rfl, ?_⟩) (by assumption) ?_
  rotate_left
  · (intro W hSw; simp only [List.getElem_toArray, List.getElem_cons_succ, List.getElem_cons_zero]; (try dsimp only at hSw); go_simp; with_reducible rfl)
  simp only [List.getElem_toArray, List.getElem_cons_succ, List.getElem_cons_zero, Act.put, List.setIfInBounds_toArray, List.set_cons_zero, List.set_cons_succ]
  refine wpAnyH_take (i := 11) (v := ?_) rfl (by kernel_rfl) (by kernel_rfl) (by kernel_rfl) (fun _ _ _ h => h) (Or.inl ⟨by rfl, ?_⟩) (by assumption) ?_
  rotate_left
  · (intro W hSw; simp only [List.getElem_toArray, List.getElem_cons_succ, List.getElem_cons_zero]; (try dsimp only at hSw); go_simp; with_reducible rfl)
  simp only [List.getElem_toArray, List.getElem_cons_succ, List.getElem_cons_zero, Act.put, List.setIfInBounds_toArray, List.set_cons_zero, List.set_cons_succ]
  refine wpAnyH_take (i := 12) (v := ?_) rfl (by kernel_rfl) (by kernel_rfl) (by kernel_rfl) (fun _ _ _ h => h) (Or.inl ⟨by rfl, ?_⟩) (by assumption) ?_
  rotate_left
  · (intro W hSw; simp only [List.getElem_toArray, List.getElem_cons_succ, List.getElem_cons_zero]; (try dsimp only at hSw); go_simp; with_reducible rfl)
  simp only [List.getElem_toArray, List.getElem_cons_succ, List.getElem_cons_zero, Act.put, List.setIfInBounds_toArray, List.set_cons_zero, List.set_cons_succ]
  refine wpAnyH_take (i := 13) (v := ?_) rfl (by kernel_rfl) (by kernel_rfl) (by kernel_rfl) (fun _ _ _ h => h) (Or.inl ⟨by rfl, ?_⟩) (by assumption) ?_
  rotate_left
  · (intro W hSw; simp only [List.getElem_toArray, List.getElem_cons_succ, List.getElem_cons_zero]; (try dsimp only at hSw); go_simp; with_reducible rfl)
  simp only [List.getElem_toArray, List.getElem_cons_succ, List.getElem_cons_zero, Act.put, List.setIfInBounds_toArray, List.set_cons_zero, List.set_cons_succ]
  refine wpAnyH_take (i := 14) (v := ?_) rfl (by kernel_rfl) (by kernel_rfl) (by kernel_rfl) (fun _ _ _ h => h) (Or.inl ⟨by rfl, ?_⟩) (by assumption) ?_
  rotate_left
  · (intro W hSw; simp only [List.getElem_toArray, List.getElem_cons_succ, List.getElem_cons_zero]; (try dsimp only at hSw); go_simp; with_reducible rfl)
  simp only [List.getElem_toArray, List.getElem_cons_succ, List.getElem_cons_zero, Act.put, List.setIfInBounds_toArray, List.set_cons_zero, List.set_cons_succ]
  refine wpAnyH_take (i := 15) (v := ?_) rfl (by kernel_rfl) (by kernel_rfl) (by kernel_rfl) (fun _ _ _ h => h) (Or.inl ⟨by rfl, ?_⟩) (by assumption) ?_
  rotate_left
  · (intro W hSw; simp only [List.getElem_toArray, List.getElem_cons_succ, List.getElem_cons_zero]; (try dsimp only at hSw); go_simp; with_reducible rfl)
  simp only [List.getElem_toArray, List.getElem_cons_succ, List.getElem_cons_zero, Act.put, List.setIfInBounds_toArray, List.set_cons_zero, List.set_cons_succ]
  refine wpAnyH_take (i := 16) (v := ?_) rfl (by kernel_rfl) (by kernel_rfl) (by kernel_rfl) (fun _ _ _ h => h) (Or.inl ⟨by rfl, ?_⟩) (by assumption) ?_
  rotate_left
  · (intro W hSw; simp only [List.getElem_toArray, List.getElem_cons_succ, List.getElem_cons_zero]; (try dsimp only at hSw); go_simp; with_reducible rfl)
  simp only [List.getElem_toArray, List.getElem_cons_succ, List.getElem_cons_zero, Act.put, List.setIfInBounds_toArray, List.set_cons_zero, List.set_cons_succ]
  refine wpAnyH_take (i := 17) (v := ?_) rfl (by kernel_rfl) (by kernel_rfl) (by kernel_rfl) (fun _ _ _ h => h) (Or.inl ⟨by rfl, ?_⟩) (by assumption) ?_
  rotate_left
  · (intro W hSw; simp only [List.getElem_toArray, List.getElem_cons_succ, List.getElem_cons_zero]; (try dsimp only at hSw); go_simp; with_reducible rfl)
  simp only [List.getElem_toArray, List.getElem_cons_succ, List.getElem_cons_zero, Act.put, List.setIfInBounds_toArray, List.set_cons_zero, List.set_cons_succ]
  refine wpAnyH_done (by kernel_rfl) ?_ _
  refine NoPanic.normal ?_
  have TU := Lib.hid (T3.out.below bU' hsz3)
  have BU := Lib.hid (below_go B3.out bU')
  have XU := Lib.hid ((bU'.block w2.heap.size hz3).trans X3.out)
  have hszU : w.heap.size + 1 < wU.heap.size := by have := bU'.size; omega
  have hzU : w2.heap.size < wU.heap.size := by have := bU'.size; omega
  clear SN hHeld2 hdec hwr bU bU' T3 B3 X3
  obtain ⟨y0, y1, y2, y3, y4, y5, y6, f0, f1, f2, f3, f4, f5, f6, hg0⟩ := look7 (TU.out).b0
  obtain ⟨z0, z1, z2, z3, z4, z5, z6, e0, e1, e2, e3, e4, e5, e6, hg1⟩ := look7 (TU.out).b1
  go_wp2_with fail
  go_region
  all_goals
    go_wp2_with fail
    have BF := (st7_below BU.out (w.heap.size + 1) (.int .i64 R) (.slice A n c) (.bool dn) (.int .i64 fl) (.bool lt) (.int .i64 ac) (.int .i64 pt) (by omega)).drew
    exact bodyPost_ret (v := .tuple #[.int .i64 7, .agg #[.int .i64 R, .slice A n c, .bool dn, .int .i64 fl, .bool lt, .int .i64 ac, .int .i64 pt]]) (by simp [results, Try.results23, go_sem, *]) rfl ⟨_, n, c, L, rfl, rfl, HL.out, HR.out.below BF, Nw.same _ _ _ _, BF⟩
set_option maxHeartbeats 4000000 in
theorem rappend_unnamed_y0 (w : World) (R : Int) (A : Option Addr) (n c : Nat) (dn0 : Bool) (fl0 : Int) (lt0 : Bool) (ac0 pt0 : Int) (dn : Bool) (fl : Int) (lt : Bool) (ac pt : Int) (HB : ∀ W, Calls Try.prog 40 #[rv R A n c dn0 fl0 lt0 ac0 pt0] W fun e w' => e = .returned (.tuple #[.int .i64 0, .agg #[.int .i64 R, .slice A n c, .bool dn, .int .i64 fl, .bool lt, .int .i64 ac, .int .i64 pt]]) ∧ Below W.heap.size W w') (L : List RF) (hl : L.length = n) (hr : Rs w A L) (hn : n ≤ 1000)  (s : ByteArray) (hs : s.size ≤ maxLen) (Ab : Option Addr) (k cb : Nat) (bb : List Int) (hbl0 : bb.length = k) (hbb : Byt w Ab bb) (hbz : Ab = none → cb = 0) (hbc : k ≤ cb) (hk : k ≤ 100000) (f : Fl) (hf : fnd (fls L) s = some f) (hnm : named s = false) (hu : usd (fls L) ≤ 900000) (hR0 : 0 ≤ R) (hR1 : R ≤ 16777216) :
    Calls Try.prog 23 #[rv R A n c dn0 fl0 lt0 ac0 pt0, .string s, .slice Ab k cb] w (RAct w A L 1 R dn fl lt ac pt (fls L)) := by
  have b0 := below_go (below_alloc w (rc R A n c dn0 fl0 lt0 ac0 pt0)) (below_alloc _ rc0)
  have C := Lib.hid (HB ((w.alloc (rc R A n c dn0 fl0 lt0 ac0 pt0)).alloc rc0))
  have T0 := Lib.hid (two_start w R A n c dn0 fl0 lt0 ac0 pt0)
  have B0 := Lib.hid b0
  have HR := Lib.hid hr
  have HL := Lib.hid hl
  clear HB hr hl b0
  go_enter Try.func23, Try.ntmps23
  go_wp2_with fail
  refine C.out.mono ?_
  rintro e w1 ⟨rfl, hb1⟩
  have t1 := T0.out.below hb1 (by simp)
  obtain ⟨y0, y1, y2, y3, y4, y5, y6, f0, f1, f2, f3, f4, f5, f6, hg0⟩ := look7 t1.b0
  obtain ⟨W1, hW1, k0, kk, ks, kb⟩ := boxed t1.b0 (.int .i64 R) (.slice A n c) (.bool dn) (.int .i64 fl) (.bool lt) (.int .i64 ac) (.int .i64 pt)
  have k1 : W1.heap[w.heap.size + 1]? = some rc0 := (kk _ (by omega)).trans t1.b1
  have BW := Lib.hid (kb _ _ (below_go B0.out hb1) (Nat.le_refl _))
  have TW := Lib.hid (Two.mk k0 k1)
  have HW := Lib.hid hW1
  have RW := Lib.hid (HR.out.below BW.out)
  have hsz : w.heap.size + 1 < W1.heap.size := (Array.getElem?_eq_some_iff.1 k1).1
  clear C T0 B0 hb1 t1 kk ks kb k0 k1 hW1
  go_wp2_with fail
  rw [HW.out]
  clear y0 y1 y2 y3 y4 y5 y6 f0 f1 f2 f3 f4 f5 f6 hg0 HW
  obtain ⟨y0, y1, y2, y3, y4, y5, y6, f0, f1, f2, f3, f4, f5, f6, hg0⟩ := look7 (TW.out).b0
  have CF := Lib.hid (rfind_any W1 R A n c dn fl lt ac pt L s HL.out RW.out.fls hn)
  go_wp2_with fail
  refine CF.out.mono ?_
  intro e w2 hF
  obtain ⟨h1, hb2⟩ := hF
  have BW2 := Lib.hid (below_go BW.out hb2)
  have T2 := TW.out.below hb2 hsz
  have TW2 := Lib.hid T2
  have hsz2 : w.heap.size + 1 < w2.heap.size := by have := hb2.size; omega
  clear CF hb2 T2 TW y0 y1 y2 y3 y4 y5 y6 f0 f1 f2 f3 f4 f5 f6 hg0
  have h2 : ∃ i : Nat, i < n ∧ e = .returned (.int .i64 (i : Int)) ∧ (L.getD i rz).f = f := by
    rcases h1 with ⟨i, hi, he, hx⟩ | ⟨he, hx⟩
    · refine ⟨i, hi, he, ?_⟩
      rw [hf] at hx
      injection hx with hx
      exact hx.symm
    · rw [hf] at hx; cases hx
  obtain ⟨i, hi, rfl, hfi⟩ := h2
  have hiL : i < L.length := by rw [HL.out]; exact hi
  obtain ⟨b, off, rfl, x0, x1, x2⟩ := (HR.out.fls.below BW2.out) i hiL
  have hrm := getD_inR L i hiL
  obtain ⟨r, hri⟩ : ∃ r, L.getD i rz = r := ⟨_, rfl⟩
  rw [hri] at x0 x1 x2 hfi hrm
  subst hfi
  have hnm0 : r.f.nm = s := (fnd_mem hf).2
  rw [hnm0] at x0
  have HNM := Lib.hid hnm0
  clear hnm0
  have HD := Lib.hid (HR.out.hdr r hrm)
  have HM := Lib.hid hrm
  obtain ⟨y0, y1, y2, y3, y4, y5, y6, f0, f1, f2, f3, f4, f5, f6, hg0⟩ := look7 (TW2.out).b0
  have hbl : b < w2.heap.size := World.block_lt_of_cell? _ _ x0
  have hi' : (i : Int) < (n : Int) := by omega
  have hi0 : (0 : Int) ≤ (i : Int) := by omega
  clear h1 hf RW hri hrm hiL
  have b3 := below_alloc w2 (.cells #[.string s, .slice r.A r.f.bs.length r.c, .int .i64 (r.f.sf : Int)] 43)
  obtain ⟨W3, hW3⟩ : ∃ W3, w2.alloc (.cells #[.string s, .slice r.A r.f.bs.length r.c, .int .i64 (r.f.sf : Int)] 43) = W3 := ⟨_, rfl⟩
  have x3 : W3.heap[w2.heap.size]? = some (.cells #[.string s, .slice r.A r.f.bs.length r.c, .int .i64 (r.f.sf : Int)] 43) := by rw [← hW3]; exact heap_alloc_new w2 _
  have t3 := TW2.out.below b3 hsz2
  have b4 := below_go BW2.out b3
  have hz3 : w2.heap.size < W3.heap.size := by rw [← hW3]; simp
  rw [hW3] at t3 b4
  have HW3 := Lib.hid hW3
  have T3 := Lib.hid t3
  have B3 := Lib.hid b4
  have X3 := Lib.hid x3
  clear b3 t3 b4 hW3 x3 BW2 TW2
  have CN := Lib.hid (fun W => rnamed_any s W hs)
  rw [hnm] at CN
  go_wp2_with fail
  rw [HW3.out]
  refine (CN.out _).mono ?_
  rintro e w9 ⟨rfl, rfl⟩
  clear CN HW3 y0 y1 y2 y3 y4 y5 y6 f0 f1 f2 f3 f4 f5 f6 hg0 x0 x1 x2
  have hsz3 : w.heap.size + 1 < W3.heap.size := (Array.getElem?_eq_some_iff.1 T3.out.b1).1
  obtain ⟨y0, y1, y2, y3, y4, y5, y6, f0, f1, f2, f3, f4, f5, f6, hg0⟩ := look7 (T3.out).b0
  obtain ⟨z0, z1, z2, z3, z4, z5, z6, e0, e1, e2, e3, e4, e5, e6, hg1⟩ := look7 (T3.out).b1
  go_wp2_with fail
  go_region
  all_goals
    go_wp2_with fail
    have BF := (st7_below B3.out (w.heap.size + 1) (.int .i64 R) (.slice (some ⟨b, off, none⟩) n c) (.bool dn) (.int .i64 fl) (.bool lt) (.int .i64 ac) (.int .i64 pt) (by omega)).drew
    exact bodyPost_ret (v := .tuple #[.int .i64 1, .agg #[.int .i64 R, .slice (some ⟨b, off, none⟩) n c, .bool dn, .int .i64 fl, .bool lt, .int .i64 ac, .int .i64 pt]]) (by simp [results, Try.results23, go_sem, *]) rfl ⟨_, n, c, L, rfl, rfl, HL.out, HR.out.below BF, Nw.same _ _ _ _, BF⟩
set_option maxHeartbeats 4000000 in
theorem rappend_size_y0 (w : World) (R : Int) (A : Option Addr) (n c : Nat) (dn0 : Bool) (fl0 : Int) (lt0 : Bool) (ac0 pt0 : Int) (dn : Bool) (fl : Int) (lt : Bool) (ac pt : Int) (HB : ∀ W, Calls Try.prog 40 #[rv R A n c dn0 fl0 lt0 ac0 pt0] W fun e w' => e = .returned (.tuple #[.int .i64 0, .agg #[.int .i64 R, .slice A n c, .bool dn, .int .i64 fl, .bool lt, .int .i64 ac, .int .i64 pt]]) ∧ Below W.heap.size W w') (L : List RF) (hl : L.length = n) (hr : Rs w A L) (hn : n ≤ 1000)  (s : ByteArray) (hs : s.size ≤ maxLen) (Ab : Option Addr) (k cb : Nat) (bb : List Int) (hbl0 : bb.length = k) (hbb : Byt w Ab bb) (hbz : Ab = none → cb = 0) (hbc : k ≤ cb) (hk : k ≤ 100000) (f : Fl) (hf : fnd (fls L) s = some f) (hnm : named s = true) (hu : usd (fls L) ≤ 900000) (hR0 : 0 ≤ R) (hR1 : R ≤ 16777216) (hsize : R - (usd (fls L) : Int) < (k : Int)) :
    Calls Try.prog 23 #[rv R A n c dn0 fl0 lt0 ac0 pt0, .string s, .slice Ab k cb] w (RAct w A L 7 R dn fl lt ac pt (fls L)) := by
  have b0 := below_go (below_alloc w (rc R A n c dn0 fl0 lt0 ac0 pt0)) (below_alloc _ rc0)
  have C := Lib.hid (HB ((w.alloc (rc R A n c dn0 fl0 lt0 ac0 pt0)).alloc rc0))
  have T0 := Lib.hid (two_start w R A n c dn0 fl0 lt0 ac0 pt0)
  have B0 := Lib.hid b0
  have HR := Lib.hid hr
  have HL := Lib.hid hl
  clear HB hr hl b0
  go_enter Try.func23, Try.ntmps23
  go_wp2_with fail
  refine C.out.mono ?_
  rintro e w1 ⟨rfl, hb1⟩
  have t1 := T0.out.below hb1 (by simp)
  obtain ⟨y0, y1, y2, y3, y4, y5, y6, f0, f1, f2, f3, f4, f5, f6, hg0⟩ := look7 t1.b0
  obtain ⟨W1, hW1, k0, kk, ks, kb⟩ := boxed t1.b0 (.int .i64 R) (.slice A n c) (.bool dn) (.int .i64 fl) (.bool lt) (.int .i64 ac) (.int .i64 pt)
  have k1 : W1.heap[w.heap.size + 1]? = some rc0 := (kk _ (by omega)).trans t1.b1
  have BW := Lib.hid (kb _ _ (below_go B0.out hb1) (Nat.le_refl _))
  have TW := Lib.hid (Two.mk k0 k1)
  have HW := Lib.hid hW1
  have RW := Lib.hid (HR.out.below BW.out)
  have hsz : w.heap.size + 1 < W1.heap.size := (Array.getElem?_eq_some_iff.1 k1).1
  clear C T0 B0 hb1 t1 kk ks kb k0 k1 hW1
  go_wp2_with fail
  rw [HW.out]
  clear y0 y1 y2 y3 y4 y5 y6 f0 f1 f2 f3 f4 f5 f6 hg0 HW
  obtain ⟨y0, y1, y2, y3, y4, y5, y6, f0, f1, f2, f3, f4, f5, f6, hg0⟩ := look7 (TW.out).b0
  have CF := Lib.hid (rfind_any W1 R A n c dn fl lt ac pt L s HL.out RW.out.fls hn)
  go_wp2_with fail
  refine CF.out.mono ?_
  intro e w2 hF
  obtain ⟨h1, hb2⟩ := hF
  have BW2 := Lib.hid (below_go BW.out hb2)
  have T2 := TW.out.below hb2 hsz
  have TW2 := Lib.hid T2
  have hsz2 : w.heap.size + 1 < w2.heap.size := by have := hb2.size; omega
  clear CF hb2 T2 TW y0 y1 y2 y3 y4 y5 y6 f0 f1 f2 f3 f4 f5 f6 hg0
  have h2 : ∃ i : Nat, i < n ∧ e = .returned (.int .i64 (i : Int)) ∧ (L.getD i rz).f = f := by
    rcases h1 with ⟨i, hi, he, hx⟩ | ⟨he, hx⟩
    · refine ⟨i, hi, he, ?_⟩
      rw [hf] at hx
      injection hx with hx
      exact hx.symm
    · rw [hf] at hx; cases hx
  obtain ⟨i, hi, rfl, hfi⟩ := h2
  have hiL : i < L.length := by rw [HL.out]; exact hi
  obtain ⟨b, off, rfl, x0, x1, x2⟩ := (HR.out.fls.below BW2.out) i hiL
  have hrm := getD_inR L i hiL
  obtain ⟨r, hri⟩ : ∃ r, L.getD i rz = r := ⟨_, rfl⟩
  rw [hri] at x0 x1 x2 hfi hrm
  subst hfi
  have hnm0 : r.f.nm = s := (fnd_mem hf).2
  rw [hnm0] at x0
  have HNM := Lib.hid hnm0
  clear hnm0
  have HD := Lib.hid (HR.out.hdr r hrm)
  have HM := Lib.hid hrm
  obtain ⟨y0, y1, y2, y3, y4, y5, y6, f0, f1, f2, f3, f4, f5, f6, hg0⟩ := look7 (TW2.out).b0
  have hbl : b < w2.heap.size := World.block_lt_of_cell? _ _ x0
  have hi' : (i : Int) < (n : Int) := by omega
  have hi0 : (0 : Int) ≤ (i : Int) := by omega
  clear h1 hf RW hri hrm hiL
  have b3 := below_alloc w2 (.cells #[.string s, .slice r.A r.f.bs.length r.c, .int .i64 (r.f.sf : Int)] 43)
  obtain ⟨W3, hW3⟩ : ∃ W3, w2.alloc (.cells #[.string s, .slice r.A r.f.bs.length r.c, .int .i64 (r.f.sf : Int)] 43) = W3 := ⟨_, rfl⟩
  have x3 : W3.heap[w2.heap.size]? = some (.cells #[.string s, .slice r.A r.f.bs.length r.c, .int .i64 (r.f.sf : Int)] 43) := by rw [← hW3]; exact heap_alloc_new w2 _
  have t3 := TW2.out.below b3 hsz2
  have b4 := below_go BW2.out b3
  have hz3 : w2.heap.size < W3.heap.size := by rw [← hW3]; simp
  rw [hW3] at t3 b4
  have HW3 := Lib.hid hW3
  have T3 := Lib.hid t3
  have B3 := Lib.hid b4
  have X3 := Lib.hid x3
  clear b3 t3 b4 hW3 x3 BW2 TW2
  have CN := Lib.hid (fun W => rnamed_any s W hs)
  rw [hnm] at CN
  go_wp2_with fail
  rw [HW3.out]
  refine (CN.out _).mono ?_
  rintro e w9 ⟨rfl, rfl⟩
  clear CN HW3 y0 y1 y2 y3 y4 y5 y6 f0 f1 f2 f3 f4 f5 f6 hg0 x0 x1 x2
  have hsz3 : w.heap.size + 1 < W3.heap.size := (Array.getElem?_eq_some_iff.1 T3.out.b1).1
  have SN : Hid (∀ W, Below W3.heap.size W3 W → W.cell? ⟨w.heap.size, 0, none⟩ = some (.int .i64 R) ∧ W.cell? ⟨w.heap.size, 1, none⟩ = some (.slice (some ⟨b, off, none⟩) n c) ∧ W.cell? ⟨w.heap.size, 2, none⟩ = some (.bool dn) ∧ W.cell? ⟨w.heap.size, 3, none⟩ = some (.int .i64 fl) ∧ W.cell? ⟨w.heap.size, 4, none⟩ = some (.bool lt) ∧ W.cell? ⟨w.heap.size, 5, none⟩ = some (.int .i64 ac) ∧ W.cell? ⟨w.heap.size, 6, none⟩ = some (.int .i64 pt)) := Lib.hid (fun W hW => by
    have t5 := T3.out.below hW hsz3
    obtain ⟨p0, p1, p2, p3, p4, p5, p6, -⟩ := look7 t5.b0
    exact ⟨p0, p1, p2, p3, p4, p5, p6⟩)
  have CU := Lib.hid (rused_any W3.drew R (some ⟨b, off, none⟩) n c dn fl lt ac pt L HL.out (HR.out.fls.below B3.out.drew) (by omega) hn)
  have hU := Lib.hid hu
  obtain ⟨u, hue⟩ : ∃ u, usd (fls L) = u := ⟨_, rfl⟩
  rw [hue] at CU hsize hu
  clear hue
  go_wp2_with fail
  have hdec : decide (R - (u : Int) < (k : Int)) = true := by simpa using hsize
  have hwr : IntKind.i64.wrap (R - (u : Int)) = R - (u : Int) := IntWalk.i64_in _ ⟨by omega, by omega⟩
  refine wp_region_noPanic ?_
  refine wp_region_held_drew (S := fun W => W.cell? ⟨w.heap.size, 0, none⟩ = some (.int .i64 R) ∧ W.cell? ⟨w.heap.size, 1, none⟩ = some (.slice (some ⟨b, off, none⟩) n c) ∧ W.cell? ⟨w.heap.size, 2, none⟩ = some (.bool dn) ∧ W.cell? ⟨w.heap.size, 3, none⟩ = some (.int .i64 fl) ∧ W.cell? ⟨w.heap.size, 4, none⟩ = some (.bool lt) ∧ W.cell? ⟨w.heap.size, 5, none⟩ = some (.int .i64 ac) ∧ W.cell? ⟨w.heap.size, 6, none⟩ = some (.int .i64 pt)) (by kernel_rfl) (SN.out _ (Below.refl _ W3).drew) (fun hHeld => ?_)
  refine wpAnyH_take (i := 0) (v := ?_) rfl (by kernel_rfl) (by kernel_rfl) (by kernel_rfl) (fun _ _ _ h => h) (Or.inl ⟨by rfl, ?_⟩) (by assumption) ?_
  rotate_left
  · (intro W hSw; simp only [List.getElem_toArray, List.getElem_cons_succ, List.getElem_cons_zero]; (try dsimp only at hSw); go_simp; with_reducible rfl)
  simp only [List.getElem_toArray, List.getElem_cons_succ, List.getElem_cons_zero, Act.put, List.setIfInBounds_toArray, List.set_cons_zero, List.set_cons_succ]
  refine wpAnyH_take (i := 1) (v := ?_) rfl (by kernel_rfl) (by kernel_rfl) (by kernel_rfl) (fun _ _ _ h => h) (Or.inl ⟨by rfl, ?_⟩) (by assumption) ?_
  rotate_left
  · (intro W hSw; simp only [List.getElem_toArray, List.getElem_cons_succ, List.getElem_cons_zero]; (try dsimp only at hSw); go_simp; with_reducible rfl)
  simp only [List.getElem_toArray, List.getElem_cons_succ, List.getElem_cons_zero, Act.put, List.setIfInBounds_toArray, List.set_cons_zero, List.set_cons_succ]
  refine wpAnyH_take (i := 2) (v := ?_) rfl (by kernel_rfl) (by kernel_rfl) (by kernel_rfl) (fun _ _ _ h => h) (Or.inl ⟨by rfl, ?_⟩) (by assumption) ?_
  rotate_left
  · (intro W hSw; simp only [List.getElem_toArray, List.getElem_cons_succ, List.getElem_cons_zero]; (try dsimp only at hSw); go_simp; with_reducible rfl)
  simp only [List.getElem_toArray, List.getElem_cons_succ, List.getElem_cons_zero, Act.put, List.setIfInBounds_toArray, List.set_cons_zero, List.set_cons_succ]
  refine wpAnyH_take (i := 3) (v := ?_) rfl (by kernel_rfl) (by kernel_rfl) (by kernel_rfl) (fun _ _ _ h => h) (Or.inl ⟨by rfl, ?_⟩) (by assumption) ?_
  rotate_left
  · (intro W hSw; simp only [List.getElem_toArray, List.getElem_cons_succ, List.getElem_cons_zero]; (try dsimp only at hSw); go_simp; with_reducible rfl)
  simp only [List.getElem_toArray, List.getElem_cons_succ, List.getElem_cons_zero, Act.put, List.setIfInBounds_toArray, List.set_cons_zero, List.set_cons_succ]
  refine wpAnyH_take (i := 4) (v := ?_) rfl (by kernel_rfl) (by kernel_rfl) (by kernel_rfl) (fun _ _ _ h => h) (Or.inl ⟨by rfl, ?_⟩) (by assumption) ?_
  rotate_left
  · (intro W hSw; simp only [List.getElem_toArray, List.getElem_cons_succ, List.getElem_cons_zero]; (try dsimp only at hSw); go_simp; with_reducible rfl)
  simp only [List.getElem_toArray, List.getElem_cons_succ, List.getElem_cons_zero, Act.put, List.setIfInBounds_toArray, List.set_cons_zero, List.set_cons_succ]
  refine wpAnyH_ready (rs := [5]) (by kernel_rfl) (by simp) ?_
  refine AllReadyH.cons rfl (fun K hK => ?_) AllReadyH.nil
  (try simp only [List.getElem_toArray, List.getElem_cons_succ, List.getElem_cons_zero])
  go_simp
  (with_reducible refine Calls.mono CU.out ?_)
  rintro e wU ⟨rfl, bU⟩
  have bU' := below_go (Below.refl _ W3).drew bU
  refine hK.out _ _ (SN.out _ bU') (fun hHeld2 => ?_)
  clear hK K hHeld CU
  (try simp only [Act.put, List.setIfInBounds_toArray, List.set_cons_zero, List.set_cons_succ])
  refine wpAnyH_take (i := 6) (v := ?_) rfl (by kernel_rfl) (by kernel_rfl) (by kernel_rfl) (fun _ _ _ h => h) (Or.inl ⟨by rfl, ?_⟩) (by assumption) ?_
  rotate_left
  · (intro W hSw; simp only [List.getElem_toArray, List.getElem_cons_succ, List.getElem_cons_zero]; (try dsimp only at hSw); go_simp; with_reducible rfl)
  simp only [List.getElem_toArray, List.getElem_cons_succ, List.getElem_cons_zero, Act.put, List.setIfInBounds_toArray, List.set_cons_zero, List.set_cons_succ]
  refine wpAnyH_take (i := 7) (v := ?_) rfl (by kernel_rfl) (by kernel_rfl) (by kernel_rfl) (fun _ _ _ h => h) (Or.inl ⟨by rfl, ?_⟩) (by assumption) ?_
  rotate_left
  · (intro W hSw; simp only [List.getElem_toArray, List.getElem_cons_succ, List.getElem_cons_zero]; (try dsimp only at hSw); go_simp; with_reducible rfl)
  simp only [List.getElem_toArray, List.getElem_cons_succ, List.getElem_cons_zero, Act.put, List.setIfInBounds_toArray, List.set_cons_zero, List.set_cons_succ]
  refine wpAnyH_take (i := 8) (v := ?_) rfl (by kernel_rfl) (by kernel_rfl) (by kernel_rfl) (fun _ _ _ h => h) (Or.inl ⟨by rfl, ?_⟩) (by assumption) ?_
  rotate_left
  · (intro W hSw; simp only [List.getElem_toArray, List.getElem_cons_succ, List.getElem_cons_zero]; (try dsimp only at hSw); go_simp; with_reducible rfl)
  simp only [List.getElem_toArray, List.getElem_cons_succ, List.getElem_cons_zero, Act.put, List.setIfInBounds_toArray, List.set_cons_zero, List.set_cons_succ]
  refine wpAnyH_take (i := 9) (v := undef) rfl (by kernel_rfl) (by kernel_rfl) (by kernel_rfl) (fun _ _ _ h => h) (Or.inr ⟨by rfl, rfl⟩) (by assumption) ?_
  simp only [List.getElem_toArray, List.getElem_cons_succ, List.getElem_cons_zero, Act.put, List.setIfInBounds_toArray, List.set_cons_zero, List.set_cons_succ]
  refine wpAnyH_take (i := 10) (v := undef) rfl (by kernel_rfl) (by kernel_rfl) (by kernel_rfl) (fun _ _ _ h => h) (Or.inr ⟨by rfl, rfl⟩) (by assumption) ?_
  simp only [List.getElem_toArray, List.getElem_cons_succ, List.getElem_cons_zero, Act.put, List.setIfInBounds_toArray, List.set_cons_zero, List.set_cons_succ]
  refine wpAnyH_take (i := 11) (v := undef) rfl (by kernel_rfl) (by kernel_rfl) (by kernel_rfl) (fun _ _ _ h => h) (Or.inr ⟨by rfl, rfl⟩) (by assumption) ?_
  simp only [List.getElem_toArray, List.getElem_cons_succ, List.getElem_cons_zero, Act.put, List.setIfInBounds_toArray, List.set_cons_zero, List.set_cons_succ]
  refine wpAnyH_take (i := 12) (v := undef) rfl (by kernel_rfl) (by kernel_rfl) (by kernel_rfl) (fun _ _ _ h => h) (Or.inr ⟨by rfl, rfl⟩) (by assumption) ?_
  simp only [List.getElem_toArray, List.getElem_cons_succ, List.getElem_cons_zero, Act.put, List.setIfInBounds_toArray, List.set_cons_zero, List.set_cons_succ]
  refine wpAnyH_take (i := 13) (v := undef) rfl (by kernel_rfl) (by kernel_rfl) (by kernel_rfl) (fun _ _ _ h => h) (Or.inr ⟨by rfl, rfl⟩) (by assumption) ?_
  simp only [List.getElem_toArray, List.getElem_cons_succ, List.getElem_cons_zero, Act.put, List.setIfInBounds_toArray, List.set_cons_zero, List.set_cons_succ]
  refine wpAnyH_take (i := 14) (v := undef) rfl (by kernel_rfl) (by kernel_rfl) (by kernel_rfl) (fun _ _ _ h => h) (Or.inr ⟨by rfl, rfl⟩) (by assumption) ?_
  simp only [List.getElem_toArray, List.getElem_cons_succ, List.getElem_cons_zero, Act.put, List.setIfInBounds_toArray, List.set_cons_zero, List.set_cons_succ]
  refine wpAnyH_take (i := 15) (v := undef) rfl (by kernel_rfl) (by kernel_rfl) (by kernel_rfl) (fun _ _ _ h => h) (Or.inr ⟨by rfl, rfl⟩) (by assumption) ?_
  simp only [List.getElem_toArray, List.getElem_cons_succ, List.getElem_cons_zero, Act.put, List.setIfInBounds_toArray, List.set_cons_zero, List.set_cons_succ]
  refine wpAnyH_take (i := 16) (v := undef) rfl (by kernel_rfl) (by kernel_rfl) (by kernel_rfl) (fun _ _ _ h => h) (Or.inr ⟨by rfl, rfl⟩) (by assumption) ?_
  simp only [List.getElem_toArray, List.getElem_cons_succ, List.getElem_cons_zero, Act.put, List.setIfInBounds_toArray, List.set_cons_zero, List.set_cons_succ]
  refine wpAnyH_take (i := 17) (v := ?_) rfl (by kernel_rfl) (by kernel_rfl) (by kernel_rfl) (fun _ _ _ h => h) (Or.inl ⟨by rfl, ?_⟩) (by assumption) ?_
  rotate_left
  · (intro W hSw; simp only [List.getElem_toArray, List.getElem_cons_succ, List.getElem_cons_zero]; (try dsimp only at hSw); go_simp; with_reducible rfl)
  simp only [List.getElem_toArray, List.getElem_cons_succ, List.getElem_cons_zero, Act.put, List.setIfInBounds_toArray, List.set_cons_zero, List.set_cons_succ]
  refine wpAnyH_done (by kernel_rfl) ?_ _
  refine NoPanic.normal ?_
  have TU := Lib.hid (T3.out.below bU' hsz3)
  have BU := Lib.hid (below_go B3.out bU')
  have XU := Lib.hid ((bU'.block w2.heap.size hz3).trans X3.out)
  have hszU : w.heap.size + 1 < wU.heap.size := by have := bU'.size; omega
  have hzU : w2.heap.size < wU.heap.size := by have := bU'.size; omega
  clear SN hHeld2 hdec hwr bU bU' T3 B3 X3
  obtain ⟨y0, y1, y2, y3, y4, y5, y6, f0, f1, f2, f3, f4, f5, f6, hg0⟩ := look7 (TU.out).b0
  obtain ⟨z0, z1, z2, z3, z4, z5, z6, e0, e1, e2, e3, e4, e5, e6, hg1⟩ := look7 (TU.out).b1
  go_wp2_with fail
  go_region
  all_goals
    go_wp2_with fail
    have BF := (st7_below BU.out (w.heap.size + 1) (.int .i64 R) (.slice (some ⟨b, off, none⟩) n c) (.bool dn) (.int .i64 fl) (.bool lt) (.int .i64 ac) (.int .i64 pt) (by omega)).drew
    exact bodyPost_ret (v := .tuple #[.int .i64 7, .agg #[.int .i64 R, .slice (some ⟨b, off, none⟩) n c, .bool dn, .int .i64 fl, .bool lt, .int .i64 ac, .int .i64 pt]]) (by simp [results, Try.results23, go_sem, *]) rfl ⟨_, n, c, L, rfl, rfl, HL.out, HR.out.below BF, Nw.same _ _ _ _, BF⟩
set_option maxHeartbeats 4000000 in
theorem rappend_unnamed_n1 (w : World) (R : Int) (A : Option Addr) (n c : Nat) (dn0 : Bool) (fl0 : Int) (lt0 : Bool) (ac0 pt0 : Int) (dn : Bool) (fl : Int) (lt : Bool) (ac pt : Int) (HB : ∀ W, Calls Try.prog 40 #[rv R A n c dn0 fl0 lt0 ac0 pt0] W fun e w' => e = .returned (.tuple #[.int .i64 1, .agg #[.int .i64 R, .slice A n c, .bool dn, .int .i64 fl, .bool lt, .int .i64 ac, .int .i64 pt]]) ∧ Below W.heap.size W w') (L : List RF) (hl : L.length = n) (hr : Rs w A L) (hn : n ≤ 1000)  (s : ByteArray) (hs : s.size ≤ maxLen) (Ab : Option Addr) (k cb : Nat) (bb : List Int) (hbl0 : bb.length = k) (hbb : Byt w Ab bb) (hbz : Ab = none → cb = 0) (hbc : k ≤ cb) (hk : k ≤ 100000) (hf : fnd (fls L) s = none) (hnm : named s = false) (hu : usd (fls L) ≤ 900000) (hR0 : 0 ≤ R) (hR1 : R ≤ 16777216) :
    Calls Try.prog 23 #[rv R A n c dn0 fl0 lt0 ac0 pt0, .string s, .slice Ab k cb] w (RAct w A L 9 R dn fl lt ac pt (fls L)) := by
  have b0 := below_go (below_alloc w (rc R A n c dn0 fl0 lt0 ac0 pt0)) (below_alloc _ rc0)
  have C := Lib.hid (HB ((w.alloc (rc R A n c dn0 fl0 lt0 ac0 pt0)).alloc rc0))
  have T0 := Lib.hid (two_start w R A n c dn0 fl0 lt0 ac0 pt0)
  have B0 := Lib.hid b0
  have HR := Lib.hid hr
  have HL := Lib.hid hl
  clear HB hr hl b0
  go_enter Try.func23, Try.ntmps23
  go_wp2_with fail
  refine C.out.mono ?_
  rintro e w1 ⟨rfl, hb1⟩
  have t1 := T0.out.below hb1 (by simp)
  obtain ⟨y0, y1, y2, y3, y4, y5, y6, f0, f1, f2, f3, f4, f5, f6, hg0⟩ := look7 t1.b0
  obtain ⟨W1, hW1, k0, kk, ks, kb⟩ := boxed t1.b0 (.int .i64 R) (.slice A n c) (.bool dn) (.int .i64 fl) (.bool lt) (.int .i64 ac) (.int .i64 pt)
  have k1 : W1.heap[w.heap.size + 1]? = some rc0 := (kk _ (by omega)).trans t1.b1
  have BW := Lib.hid (kb _ _ (below_go B0.out hb1) (Nat.le_refl _))
  have TW := Lib.hid (Two.mk k0 k1)
  have HW := Lib.hid hW1
  have RW := Lib.hid (HR.out.below BW.out)
  have hsz : w.heap.size + 1 < W1.heap.size := (Array.getElem?_eq_some_iff.1 k1).1
  clear C T0 B0 hb1 t1 kk ks kb k0 k1 hW1
  go_wp2_with fail
  rw [HW.out]
  clear y0 y1 y2 y3 y4 y5 y6 f0 f1 f2 f3 f4 f5 f6 hg0 HW
  obtain ⟨y0, y1, y2, y3, y4, y5, y6, f0, f1, f2, f3, f4, f5, f6, hg0⟩ := look7 (TW.out).b0
  have CF := Lib.hid (rfind_any W1 R A n c dn fl lt ac pt L s HL.out RW.out.fls hn)
  go_wp2_with fail
  refine CF.out.mono ?_
  intro e w2 hF
  obtain ⟨h1, hb2⟩ := hF
  have BW2 := Lib.hid (below_go BW.out hb2)
  have T2 := TW.out.below hb2 hsz
  have TW2 := Lib.hid T2
  have hsz2 : w.heap.size + 1 < w2.heap.size := by have := hb2.size; omega
  clear CF hb2 T2 TW y0 y1 y2 y3 y4 y5 y6 f0 f1 f2 f3 f4 f5 f6 hg0
  have h2 : e = .returned (.int .i64 (-1)) := by
    rcases h1 with ⟨i, hi, he, hx⟩ | ⟨he, hx⟩
    · rw [hf] at hx; cases hx
    · exact he
  subst h2
  clear h1 hf RW
  obtain ⟨y0, y1, y2, y3, y4, y5, y6, f0, f1, f2, f3, f4, f5, f6, hg0⟩ := look7 (TW2.out).b0
  have b3 := below_alloc w2 (.cells #[.string s, .slice none 0 0, .int .i64 0] 43)
  obtain ⟨W3, hW3⟩ : ∃ W3, w2.alloc (.cells #[.string s, .slice none 0 0, .int .i64 0] 43) = W3 := ⟨_, rfl⟩
  have x3 : W3.heap[w2.heap.size]? = some (.cells #[.string s, .slice none 0 0, .int .i64 0] 43) := by rw [← hW3]; exact heap_alloc_new w2 _
  have t3 := TW2.out.below b3 hsz2
  have b4 := below_go BW2.out b3
  have hz3 : w2.heap.size < W3.heap.size := by rw [← hW3]; simp
  rw [hW3] at t3 b4
  have HW3 := Lib.hid hW3
  have T3 := Lib.hid t3
  have B3 := Lib.hid b4
  have X3 := Lib.hid x3
  clear b3 t3 b4 hW3 x3 BW2 TW2
  have CN := Lib.hid (fun W => rnamed_any s W hs)
  rw [hnm] at CN
  go_wp2_with fail
  rw [HW3.out]
  refine (CN.out _).mono ?_
  rintro e w9 ⟨rfl, rfl⟩
  clear CN HW3 y0 y1 y2 y3 y4 y5 y6 f0 f1 f2 f3 f4 f5 f6 hg0
  have hsz3 : w.heap.size + 1 < W3.heap.size := (Array.getElem?_eq_some_iff.1 T3.out.b1).1
  obtain ⟨rr, hrr⟩ : ∃ rr, pt0.tmod ((k : Int) + 1) = rr := ⟨_, rfl⟩
  have HRR := Lib.hid hrr
  clear hrr
  obtain ⟨y0, y1, y2, y3, y4, y5, y6, f0, f1, f2, f3, f4, f5, f6, hg0⟩ := look7 (T3.out).b0
  obtain ⟨z0, z1, z2, z3, z4, z5, z6, e0, e1, e2, e3, e4, e5, e6, hg1⟩ := look7 (T3.out).b1
  go_wp2_with fail
  go_region
  all_goals
    go_wp2_with fail
    have BF := (st7_below B3.out (w.heap.size + 1) (.int .i64 R) (.slice A n c) (.bool dn) (.int .i64 fl) (.bool lt) (.int .i64 ac) (.int .i64 pt) (by omega)).drew
    exact bodyPost_ret (v := .tuple #[.int .i64 9, .agg #[.int .i64 R, .slice A n c, .bool dn, .int .i64 fl, .bool lt, .int .i64 ac, .int .i64 pt]]) (by simp [results, Try.results23, go_sem, *]) rfl ⟨_, n, c, L, rfl, rfl, HL.out, HR.out.below BF, Nw.same _ _ _ _, BF⟩
set_option maxHeartbeats 4000000 in
theorem rappend_size_n1 (w : World) (R : Int) (A : Option Addr) (n c : Nat) (dn0 : Bool) (fl0 : Int) (lt0 : Bool) (ac0 pt0 : Int) (dn : Bool) (fl : Int) (lt : Bool) (ac pt : Int) (HB : ∀ W, Calls Try.prog 40 #[rv R A n c dn0 fl0 lt0 ac0 pt0] W fun e w' => e = .returned (.tuple #[.int .i64 1, .agg #[.int .i64 R, .slice A n c, .bool dn, .int .i64 fl, .bool lt, .int .i64 ac, .int .i64 pt]]) ∧ Below W.heap.size W w') (L : List RF) (hl : L.length = n) (hr : Rs w A L) (hn : n ≤ 1000)  (s : ByteArray) (hs : s.size ≤ maxLen) (Ab : Option Addr) (k cb : Nat) (bb : List Int) (hbl0 : bb.length = k) (hbb : Byt w Ab bb) (hbz : Ab = none → cb = 0) (hbc : k ≤ cb) (hk : k ≤ 100000) (hf : fnd (fls L) s = none) (hnm : named s = true) (hu : usd (fls L) ≤ 900000) (hR0 : 0 ≤ R) (hR1 : R ≤ 16777216) (hsize : R - (usd (fls L) : Int) < (k : Int)) :
    Calls Try.prog 23 #[rv R A n c dn0 fl0 lt0 ac0 pt0, .string s, .slice Ab k cb] w (RAct w A L 9 R dn fl lt ac pt (fls L)) := by
  have b0 := below_go (below_alloc w (rc R A n c dn0 fl0 lt0 ac0 pt0)) (below_alloc _ rc0)
  have C := Lib.hid (HB ((w.alloc (rc R A n c dn0 fl0 lt0 ac0 pt0)).alloc rc0))
  have T0 := Lib.hid (two_start w R A n c dn0 fl0 lt0 ac0 pt0)
  have B0 := Lib.hid b0
  have HR := Lib.hid hr
  have HL := Lib.hid hl
  clear HB hr hl b0
  go_enter Try.func23, Try.ntmps23
  go_wp2_with fail
  refine C.out.mono ?_
  rintro e w1 ⟨rfl, hb1⟩
  have t1 := T0.out.below hb1 (by simp)
  obtain ⟨y0, y1, y2, y3, y4, y5, y6, f0, f1, f2, f3, f4, f5, f6, hg0⟩ := look7 t1.b0
  obtain ⟨W1, hW1, k0, kk, ks, kb⟩ := boxed t1.b0 (.int .i64 R) (.slice A n c) (.bool dn) (.int .i64 fl) (.bool lt) (.int .i64 ac) (.int .i64 pt)
  have k1 : W1.heap[w.heap.size + 1]? = some rc0 := (kk _ (by omega)).trans t1.b1
  have BW := Lib.hid (kb _ _ (below_go B0.out hb1) (Nat.le_refl _))
  have TW := Lib.hid (Two.mk k0 k1)
  have HW := Lib.hid hW1
  have RW := Lib.hid (HR.out.below BW.out)
  have hsz : w.heap.size + 1 < W1.heap.size := (Array.getElem?_eq_some_iff.1 k1).1
  clear C T0 B0 hb1 t1 kk ks kb k0 k1 hW1
  go_wp2_with fail
  rw [HW.out]
  clear y0 y1 y2 y3 y4 y5 y6 f0 f1 f2 f3 f4 f5 f6 hg0 HW
  obtain ⟨y0, y1, y2, y3, y4, y5, y6, f0, f1, f2, f3, f4, f5, f6, hg0⟩ := look7 (TW.out).b0
  have CF := Lib.hid (rfind_any W1 R A n c dn fl lt ac pt L s HL.out RW.out.fls hn)
  go_wp2_with fail
  refine CF.out.mono ?_
  intro e w2 hF
  obtain ⟨h1, hb2⟩ := hF
  have BW2 := Lib.hid (below_go BW.out hb2)
  have T2 := TW.out.below hb2 hsz
  have TW2 := Lib.hid T2
  have hsz2 : w.heap.size + 1 < w2.heap.size := by have := hb2.size; omega
  clear CF hb2 T2 TW y0 y1 y2 y3 y4 y5 y6 f0 f1 f2 f3 f4 f5 f6 hg0
  have h2 : e = .returned (.int .i64 (-1)) := by
    rcases h1 with ⟨i, hi, he, hx⟩ | ⟨he, hx⟩
    · rw [hf] at hx; cases hx
    · exact he
  subst h2
  clear h1 hf RW
  obtain ⟨y0, y1, y2, y3, y4, y5, y6, f0, f1, f2, f3, f4, f5, f6, hg0⟩ := look7 (TW2.out).b0
  have b3 := below_alloc w2 (.cells #[.string s, .slice none 0 0, .int .i64 0] 43)
  obtain ⟨W3, hW3⟩ : ∃ W3, w2.alloc (.cells #[.string s, .slice none 0 0, .int .i64 0] 43) = W3 := ⟨_, rfl⟩
  have x3 : W3.heap[w2.heap.size]? = some (.cells #[.string s, .slice none 0 0, .int .i64 0] 43) := by rw [← hW3]; exact heap_alloc_new w2 _
  have t3 := TW2.out.below b3 hsz2
  have b4 := below_go BW2.out b3
  have hz3 : w2.heap.size < W3.heap.size := by rw [← hW3]; simp
  rw [hW3] at t3 b4
  have HW3 := Lib.hid hW3
  have T3 := Lib.hid t3
  have B3 := Lib.hid b4
  have X3 := Lib.hid x3
  clear b3 t3 b4 hW3 x3 BW2 TW2
  have CN := Lib.hid (fun W => rnamed_any s W hs)
  rw [hnm] at CN
  go_wp2_with fail
  rw [HW3.out]
  refine (CN.out _).mono ?_
  rintro e w9 ⟨rfl, rfl⟩
  clear CN HW3 y0 y1 y2 y3 y4 y5 y6 f0 f1 f2 f3 f4 f5 f6 hg0
  have hsz3 : w.heap.size + 1 < W3.heap.size := (Array.getElem?_eq_some_iff.1 T3.out.b1).1
  obtain ⟨rr, hrr⟩ : ∃ rr, pt0.tmod ((k : Int) + 1) = rr := ⟨_, rfl⟩
  have HRR := Lib.hid hrr
  clear hrr
  have SN : Hid (∀ W, Below W3.heap.size W3 W → W.cell? ⟨w.heap.size, 0, none⟩ = some (.int .i64 R) ∧ W.cell? ⟨w.heap.size, 1, none⟩ = some (.slice A n c) ∧ W.cell? ⟨w.heap.size, 2, none⟩ = some (.bool dn) ∧ W.cell? ⟨w.heap.size, 3, none⟩ = some (.int .i64 fl) ∧ W.cell? ⟨w.heap.size, 4, none⟩ = some (.bool lt) ∧ W.cell? ⟨w.heap.size, 5, none⟩ = some (.int .i64 ac) ∧ W.cell? ⟨w.heap.size, 6, none⟩ = some (.int .i64 pt)) := Lib.hid (fun W hW => by
    have t5 := T3.out.below hW hsz3
    obtain ⟨p0, p1, p2, p3, p4, p5, p6, -⟩ := look7 t5.b0
    exact ⟨p0, p1, p2, p3, p4, p5, p6⟩)
  have CU := Lib.hid (rused_any W3.drew R A n c dn fl lt ac pt L HL.out (HR.out.fls.below B3.out.drew) (by omega) hn)
  have hU := Lib.hid hu
  obtain ⟨u, hue⟩ : ∃ u, usd (fls L) = u := ⟨_, rfl⟩
  rw [hue] at CU hsize hu
  clear hue
  go_wp2_with fail
  have hdec : decide (R - (u : Int) < (k : Int)) = true := by simpa using hsize
  have hwr : IntKind.i64.wrap (R - (u : Int)) = R - (u : Int) := IntWalk.i64_in _ ⟨by omega, by omega⟩
  refine wp_region_noPanic ?_
  refine wp_region_held_drew (S := fun W => W.cell? ⟨w.heap.size, 0, none⟩ = some (.int .i64 R) ∧ W.cell? ⟨w.heap.size, 1, none⟩ = some (.slice A n c) ∧ W.cell? ⟨w.heap.size, 2, none⟩ = some (.bool dn) ∧ W.cell? ⟨w.heap.size, 3, none⟩ = some (.int .i64 fl) ∧ W.cell? ⟨w.heap.size, 4, none⟩ = some (.bool lt) ∧ W.cell? ⟨w.heap.size, 5, none⟩ = some (.int .i64 ac) ∧ W.cell? ⟨w.heap.size, 6, none⟩ = some (.int .i64 pt)) (by kernel_rfl) (SN.out _ (Below.refl _ W3).drew) (fun hHeld => ?_)
  refine wpAnyH_take (i := 0) (v := ?_) rfl (by kernel_rfl) (by kernel_rfl) (by kernel_rfl) (fun _ _ _ h => h) (Or.inl ⟨by rfl, ?_⟩) (by assumption) ?_
  rotate_left
  · (intro W hSw; simp only [List.getElem_toArray, List.getElem_cons_succ, List.getElem_cons_zero]; (try dsimp only at hSw); go_simp; with_reducible rfl)
  simp only [List.getElem_toArray, List.getElem_cons_succ, List.getElem_cons_zero, Act.put, List.setIfInBounds_toArray, List.set_cons_zero, List.set_cons_succ]
  refine wpAnyH_take (i := 1) (v := ?_) rfl (by kernel_rfl) (by kernel_rfl) (by kernel_rfl) (fun _ _ _ h => h) (Or.inl ⟨by rfl, ?_⟩) (by assumption) ?_
  rotate_left
  · (intro W hSw; simp only [List.getElem_toArray, List.getElem_cons_succ, List.getElem_cons_zero]; (try dsimp only at hSw); go_simp; with_reducible rfl)
  simp only [List.getElem_toArray, List.getElem_cons_succ, List.getElem_cons_zero, Act.put, List.setIfInBounds_toArray, List.set_cons_zero, List.set_cons_succ]
  refine wpAnyH_take (i := 2) (v := ?_) rfl (by kernel_rfl) (by kernel_rfl) (by kernel_rfl) (fun _ _ _ h => h) (Or.inl ⟨by rfl, ?_⟩) (by assumption) ?_
  rotate_left
  · (intro W hSw; simp only [List.getElem_toArray, List.getElem_cons_succ, List.getElem_cons_zero]; (try dsimp only at hSw); go_simp; with_reducible rfl)
  simp only [List.getElem_toArray, List.getElem_cons_succ, List.getElem_cons_zero, Act.put, List.setIfInBounds_toArray, List.set_cons_zero, List.set_cons_succ]
  refine wpAnyH_take (i := 3) (v := ?_) rfl (by kernel_rfl) (by kernel_rfl) (by kernel_rfl) (fun _ _ _ h => h) (Or.inl ⟨by rfl, ?_⟩) (by assumption) ?_
  rotate_left
  · (intro W hSw; simp only [List.getElem_toArray, List.getElem_cons_succ, List.getElem_cons_zero]; (try dsimp only at hSw); go_simp; with_reducible rfl)
  simp only [List.getElem_toArray, List.getElem_cons_succ, List.getElem_cons_zero, Act.put, List.setIfInBounds_toArray, List.set_cons_zero, List.set_cons_succ]
  refine wpAnyH_take (i := 4) (v := ?_) rfl (by kernel_rfl) (by kernel_rfl) (by kernel_rfl) (fun _ _ _ h => h) (Or.inl ⟨by rfl, ?_⟩) (by assumption) ?_
  rotate_left
  · (intro W hSw; simp only [List.getElem_toArray, List.getElem_cons_succ, List.getElem_cons_zero]; (try dsimp only at hSw); go_simp; with_reducible rfl)
  simp only [List.getElem_toArray, List.getElem_cons_succ, List.getElem_cons_zero, Act.put, List.setIfInBounds_toArray, List.set_cons_zero, List.set_cons_succ]
  refine wpAnyH_ready (rs := [5]) (by kernel_rfl) (by simp) ?_
  refine AllReadyH.cons rfl (fun K hK => ?_) AllReadyH.nil
  (try simp only [List.getElem_toArray, List.getElem_cons_succ, List.getElem_cons_zero])
  go_simp
  (with_reducible refine Calls.mono CU.out ?_)
  rintro e wU ⟨rfl, bU⟩
  have bU' := below_go (Below.refl _ W3).drew bU
  refine hK.out _ _ (SN.out _ bU') (fun hHeld2 => ?_)
  clear hK K hHeld CU
  (try simp only [Act.put, List.setIfInBounds_toArray, List.set_cons_zero, List.set_cons_succ])
  refine wpAnyH_take (i := 6) (v := ?_) rfl (by kernel_rfl) (by kernel_rfl) (by kernel_rfl) (fun _ _ _ h => h) (Or.inl ⟨by rfl, ?_⟩) (by assumption) ?_
  rotate_left
  · (intro W hSw; simp only [List.getElem_toArray, List.getElem_cons_succ, List.getElem_cons_zero]; (try dsimp only at hSw); go_simp; with_reducible rfl)
  simp only [List.getElem_toArray, List.getElem_cons_succ, List.getElem_cons_zero, Act.put, List.setIfInBounds_toArray, List.set_cons_zero, List.set_cons_succ]
  refine wpAnyH_take (i := 7) (v := ?_) rfl (by kernel_rfl) (by kernel_rfl) (by kernel_rfl) (fun _ _ _ h => h) (Or.inl ⟨by rfl, ?_⟩) (by assumption) ?_
  rotate_left
  · (intro W hSw; simp only [List.getElem_toArray, List.getElem_cons_succ, List.getElem_cons_zero]; (try dsimp only at hSw); go_simp; with_reducible rfl)
  simp only [List.getElem_toArray, List.getElem_cons_succ, List.getElem_cons_zero, Act.put, List.setIfInBounds_toArray, List.set_cons_zero, List.set_cons_succ]
  refine wpAnyH_take (i := 8) (v := ?_) rfl (by kernel_rfl) (by kernel_rfl) (by kernel_rfl) (fun _ _ _ h => h) (Or.inl ⟨by rfl, ?_⟩) (by assumption) ?_
  rotate_left
  · (intro W hSw; simp only [List.getElem_toArray, List.getElem_cons_succ, List.getElem_cons_zero]; (try dsimp only at hSw); go_simp; with_reducible rfl)
  simp only [List.getElem_toArray, List.getElem_cons_succ, List.getElem_cons_zero, Act.put, List.setIfInBounds_toArray, List.set_cons_zero, List.set_cons_succ]
  refine wpAnyH_take (i := 9) (v := undef) rfl (by kernel_rfl) (by kernel_rfl) (by kernel_rfl) (fun _ _ _ h => h) (Or.inr ⟨by rfl, rfl⟩) (by assumption) ?_
  simp only [List.getElem_toArray, List.getElem_cons_succ, List.getElem_cons_zero, Act.put, List.setIfInBounds_toArray, List.set_cons_zero, List.set_cons_succ]
  refine wpAnyH_take (i := 10) (v := undef) rfl (by kernel_rfl) (by kernel_rfl) (by kernel_rfl) (fun _ _ _ h => h) (Or.inr ⟨by rfl, rfl⟩) (by assumption) ?_
  simp only [List.getElem_toArray, List.getElem_cons_succ, List.getElem_cons_zero, Act.put, List.setIfInBounds_toArray, List.set_cons_zero, List.set_cons_succ]
  refine wpAnyH_take (i := 11) (v := undef) rfl (by kernel_rfl) (by kernel_rfl) (by kernel_rfl) (fun _ _ _ h => h) (Or.inr ⟨by rfl, rfl⟩) (by assumption) ?_
  simp only [List.getElem_toArray, List.getElem_cons_succ, List.getElem_cons_zero, Act.put, List.setIfInBounds_toArray, List.set_cons_zero, List.set_cons_succ]
  refine wpAnyH_take (i := 12) (v := undef) rfl (by kernel_rfl) (by kernel_rfl) (by kernel_rfl) (fun _ _ _ h => h) (Or.inr ⟨by rfl, rfl⟩) (by assumption) ?_
  simp only [List.getElem_toArray, List.getElem_cons_succ, List.getElem_cons_zero, Act.put, List.setIfInBounds_toArray, List.set_cons_zero, List.set_cons_succ]
  refine wpAnyH_take (i := 13) (v := undef) rfl (by kernel_rfl) (by kernel_rfl) (by kernel_rfl) (fun _ _ _ h => h) (Or.inr ⟨by rfl, rfl⟩) (by assumption) ?_
  simp only [List.getElem_toArray, List.getElem_cons_succ, List.getElem_cons_zero, Act.put, List.setIfInBounds_toArray, List.set_cons_zero, List.set_cons_succ]
  refine wpAnyH_take (i := 14) (v := undef) rfl (by kernel_rfl) (by kernel_rfl) (by kernel_rfl) (fun _ _ _ h => h) (Or.inr ⟨by rfl, rfl⟩) (by assumption) ?_
  simp only [List.getElem_toArray, List.getElem_cons_succ, List.getElem_cons_zero, Act.put, List.setIfInBounds_toArray, List.set_cons_zero, List.set_cons_succ]
  refine wpAnyH_take (i := 15) (v := undef) rfl (by kernel_rfl) (by kernel_rfl) (by kernel_rfl) (fun _ _ _ h => h) (Or.inr ⟨by rfl, rfl⟩) (by assumption) ?_
  simp only [List.getElem_toArray, List.getElem_cons_succ, List.getElem_cons_zero, Act.put, List.setIfInBounds_toArray, List.set_cons_zero, List.set_cons_succ]
  refine wpAnyH_take (i := 16) (v := undef) rfl (by kernel_rfl) (by kernel_rfl) (by kernel_rfl) (fun _ _ _ h => h) (Or.inr ⟨by rfl, rfl⟩) (by assumption) ?_
  simp only [List.getElem_toArray, List.getElem_cons_succ, List.getElem_cons_zero, Act.put, List.setIfInBounds_toArray, List.set_cons_zero, List.set_cons_succ]
  refine wpAnyH_take (i := 17) (v := ?_) rfl (by kernel_rfl) (by kernel_rfl) (by kernel_rfl) (fun _ _ _ h => h) (Or.inl ⟨by rfl, ?_⟩) (by assumption) ?_
  rotate_left
  · (intro W hSw; simp only [List.getElem_toArray, List.getElem_cons_succ, List.getElem_cons_zero]; (try dsimp only at hSw); go_simp; with_reducible rfl)
  simp only [List.getElem_toArray, List.getElem_cons_succ, List.getElem_cons_zero, Act.put, List.setIfInBounds_toArray, List.set_cons_zero, List.set_cons_succ]
  refine wpAnyH_done (by kernel_rfl) ?_ _
  refine NoPanic.normal ?_
  have TU := Lib.hid (T3.out.below bU' hsz3)
  have BU := Lib.hid (below_go B3.out bU')
  have XU := Lib.hid ((bU'.block w2.heap.size hz3).trans X3.out)
  have hszU : w.heap.size + 1 < wU.heap.size := by have := bU'.size; omega
  have hzU : w2.heap.size < wU.heap.size := by have := bU'.size; omega
  clear SN hHeld2 hdec hwr bU bU' T3 B3 X3
  obtain ⟨y0, y1, y2, y3, y4, y5, y6, f0, f1, f2, f3, f4, f5, f6, hg0⟩ := look7 (TU.out).b0
  obtain ⟨z0, z1, z2, z3, z4, z5, z6, e0, e1, e2, e3, e4, e5, e6, hg1⟩ := look7 (TU.out).b1
  go_wp2_with fail
  go_region
  all_goals
    go_wp2_with fail
    have BF := (st7_below BU.out (w.heap.size + 1) (.int .i64 R) (.slice A n c) (.bool dn) (.int .i64 fl) (.bool lt) (.int .i64 ac) (.int .i64 pt) (by omega)).drew
    exact bodyPost_ret (v := .tuple #[.int .i64 9, .agg #[.int .i64 R, .slice A n c, .bool dn, .int .i64 fl, .bool lt, .int .i64 ac, .int .i64 pt]]) (by simp [results, Try.results23, go_sem, *]) rfl ⟨_, n, c, L, rfl, rfl, HL.out, HR.out.below BF, Nw.same _ _ _ _, BF⟩
set_option maxHeartbeats 4000000 in
theorem rappend_count_n1 (w : World) (R : Int) (A : Option Addr) (n c : Nat) (dn0 : Bool) (fl0 : Int) (lt0 : Bool) (ac0 pt0 : Int) (dn : Bool) (fl : Int) (lt : Bool) (ac pt : Int) (HB : ∀ W, Calls Try.prog 40 #[rv R A n c dn0 fl0 lt0 ac0 pt0] W fun e w' => e = .returned (.tuple #[.int .i64 1, .agg #[.int .i64 R, .slice A n c, .bool dn, .int .i64 fl, .bool lt, .int .i64 ac, .int .i64 pt]]) ∧ Below W.heap.size W w') (L : List RF) (hl : L.length = n) (hr : Rs w A L) (hn : n ≤ 1000)  (s : ByteArray) (hs : s.size ≤ maxLen) (Ab : Option Addr) (k cb : Nat) (bb : List Int) (hbl0 : bb.length = k) (hbb : Byt w Ab bb) (hbz : Ab = none → cb = 0) (hbc : k ≤ cb) (hk : k ≤ 100000) (hf : fnd (fls L) s = none) (hnm : named s = true) (hu : usd (fls L) ≤ 900000) (hR0 : 0 ≤ R) (hR1 : R ≤ 16777216) (hsize : ¬ R - (usd (fls L) : Int) < (k : Int)) (hcnt : 256 ≤ n) :
    Calls Try.prog 23 #[rv R A n c dn0 fl0 lt0 ac0 pt0, .string s, .slice Ab k cb] w (RAct w A L 9 R dn fl lt ac pt (fls L)) := by
  have b0 := below_go (below_alloc w (rc R A n c dn0 fl0 lt0 ac0 pt0)) (below_alloc _ rc0)
  have C := Lib.hid (HB ((w.alloc (rc R A n c dn0 fl0 lt0 ac0 pt0)).alloc rc0))
  have T0 := Lib.hid (two_start w R A n c dn0 fl0 lt0 ac0 pt0)
  have B0 := Lib.hid b0
  have HR := Lib.hid hr
  have HL := Lib.hid hl
  clear HB hr hl b0
  go_enter Try.func23, Try.ntmps23
  go_wp2_with fail
  refine C.out.mono ?_
  rintro e w1 ⟨rfl, hb1⟩
  have t1 := T0.out.below hb1 (by simp)
  obtain ⟨y0, y1, y2, y3, y4, y5, y6, f0, f1, f2, f3, f4, f5, f6, hg0⟩ := look7 t1.b0
  obtain ⟨W1, hW1, k0, kk, ks, kb⟩ := boxed t1.b0 (.int .i64 R) (.slice A n c) (.bool dn) (.int .i64 fl) (.bool lt) (.int .i64 ac) (.int .i64 pt)
  have k1 : W1.heap[w.heap.size + 1]? = some rc0 := (kk _ (by omega)).trans t1.b1
  have BW := Lib.hid (kb _ _ (below_go B0.out hb1) (Nat.le_refl _))
  have TW := Lib.hid (Two.mk k0 k1)
  have HW := Lib.hid hW1
  have RW := Lib.hid (HR.out.below BW.out)
  have hsz : w.heap.size + 1 < W1.heap.size := (Array.getElem?_eq_some_iff.1 k1).1
  clear C T0 B0 hb1 t1 kk ks kb k0 k1 hW1
  go_wp2_with fail
  rw [HW.out]
  clear y0 y1 y2 y3 y4 y5 y6 f0 f1 f2 f3 f4 f5 f6 hg0 HW
  obtain ⟨y0, y1, y2, y3, y4, y5, y6, f0, f1, f2, f3, f4, f5, f6, hg0⟩ := look7 (TW.out).b0
  have CF := Lib.hid (rfind_any W1 R A n c dn fl lt ac pt L s HL.out RW.out.fls hn)
  go_wp2_with fail
  refine CF.out.mono ?_
  intro e w2 hF
  obtain ⟨h1, hb2⟩ := hF
  have BW2 := Lib.hid (below_go BW.out hb2)
  have T2 := TW.out.below hb2 hsz
  have TW2 := Lib.hid T2
  have hsz2 : w.heap.size + 1 < w2.heap.size := by have := hb2.size; omega
  clear CF hb2 T2 TW y0 y1 y2 y3 y4 y5 y6 f0 f1 f2 f3 f4 f5 f6 hg0
  have h2 : e = .returned (.int .i64 (-1)) := by
    rcases h1 with ⟨i, hi, he, hx⟩ | ⟨he, hx⟩
    · rw [hf] at hx; cases hx
    · exact he
  subst h2
  clear h1 hf RW
  obtain ⟨y0, y1, y2, y3, y4, y5, y6, f0, f1, f2, f3, f4, f5, f6, hg0⟩ := look7 (TW2.out).b0
  have b3 := below_alloc w2 (.cells #[.string s, .slice none 0 0, .int .i64 0] 43)
  obtain ⟨W3, hW3⟩ : ∃ W3, w2.alloc (.cells #[.string s, .slice none 0 0, .int .i64 0] 43) = W3 := ⟨_, rfl⟩
  have x3 : W3.heap[w2.heap.size]? = some (.cells #[.string s, .slice none 0 0, .int .i64 0] 43) := by rw [← hW3]; exact heap_alloc_new w2 _
  have t3 := TW2.out.below b3 hsz2
  have b4 := below_go BW2.out b3
  have hz3 : w2.heap.size < W3.heap.size := by rw [← hW3]; simp
  rw [hW3] at t3 b4
  have HW3 := Lib.hid hW3
  have T3 := Lib.hid t3
  have B3 := Lib.hid b4
  have X3 := Lib.hid x3
  clear b3 t3 b4 hW3 x3 BW2 TW2
  have CN := Lib.hid (fun W => rnamed_any s W hs)
  rw [hnm] at CN
  go_wp2_with fail
  rw [HW3.out]
  refine (CN.out _).mono ?_
  rintro e w9 ⟨rfl, rfl⟩
  clear CN HW3 y0 y1 y2 y3 y4 y5 y6 f0 f1 f2 f3 f4 f5 f6 hg0
  have hsz3 : w.heap.size + 1 < W3.heap.size := (Array.getElem?_eq_some_iff.1 T3.out.b1).1
  obtain ⟨rr, hrr⟩ : ∃ rr, pt0.tmod ((k : Int) + 1) = rr := ⟨_, rfl⟩
  have HRR := Lib.hid hrr
  clear hrr
  have hc1 : (256 : Int) ≤ (n : Int) := by omega
  have SN : Hid (∀ W, Below W3.heap.size W3 W → W.cell? ⟨w.heap.size, 0, none⟩ = some (.int .i64 R) ∧ W.cell? ⟨w.heap.size, 1, none⟩ = some (.slice A n c) ∧ W.cell? ⟨w.heap.size, 2, none⟩ = some (.bool dn) ∧ W.cell? ⟨w.heap.size, 3, none⟩ = some (.int .i64 fl) ∧ W.cell? ⟨w.heap.size, 4, none⟩ = some (.bool lt) ∧ W.cell? ⟨w.heap.size, 5, none⟩ = some (.int .i64 ac) ∧ W.cell? ⟨w.heap.size, 6, none⟩ = some (.int .i64 pt)) := Lib.hid (fun W hW => by
    have t5 := T3.out.below hW hsz3
    obtain ⟨p0, p1, p2, p3, p4, p5, p6, -⟩ := look7 t5.b0
    exact ⟨p0, p1, p2, p3, p4, p5, p6⟩)
  have CU := Lib.hid (rused_any W3.drew R A n c dn fl lt ac pt L HL.out (HR.out.fls.below B3.out.drew) (by omega) hn)
  have hU := Lib.hid hu
  obtain ⟨u, hue⟩ : ∃ u, usd (fls L) = u := ⟨_, rfl⟩
  rw [hue] at CU hsize hu
  clear hue
  go_wp2_with fail
  have hdec : decide (R - (u : Int) < (k : Int)) = false := by simpa using hsize
  have hwr : IntKind.i64.wrap (R - (u : Int)) = R - (u : Int) := IntWalk.i64_in _ ⟨by omega, by omega⟩
  refine wp_region_noPanic ?_
  refine wp_region_held_drew (S := fun W => W.cell? ⟨w.heap.size, 0, none⟩ = some (.int .i64 R) ∧ W.cell? ⟨w.heap.size, 1, none⟩ = some (.slice A n c) ∧ W.cell? ⟨w.heap.size, 2, none⟩ = some (.bool dn) ∧ W.cell? ⟨w.heap.size, 3, none⟩ = some (.int .i64 fl) ∧ W.cell? ⟨w.heap.size, 4, none⟩ = some (.bool lt) ∧ W.cell? ⟨w.heap.size, 5, none⟩ = some (.int .i64 ac) ∧ W.cell? ⟨w.heap.size, 6, none⟩ = some (.int .i64 pt)) (by kernel_rfl) (SN.out _ (Below.refl _ W3).drew) (fun hHeld => ?_)
  refine wpAnyH_take (i := 0) (v := ?_) rfl (by kernel_rfl) (by kernel_rfl) (by kernel_rfl) (fun _ _ _ h => h) (Or.inl ⟨by rfl, ?_⟩) (by assumption) ?_
  rotate_left
  · (intro W hSw; simp only [List.getElem_toArray, List.getElem_cons_succ, List.getElem_cons_zero]; (try dsimp only at hSw); go_simp; with_reducible rfl)
  simp only [List.getElem_toArray, List.getElem_cons_succ, List.getElem_cons_zero, Act.put, List.setIfInBounds_toArray, List.set_cons_zero, List.set_cons_succ]
  refine wpAnyH_take (i := 1) (v := ?_) rfl (by kernel_rfl) (by kernel_rfl) (by kernel_rfl) (fun _ _ _ h => h) (Or.inl ⟨by rfl, ?_⟩) (by assumption) ?_
  rotate_left
  · (intro W hSw; simp only [List.getElem_toArray, List.getElem_cons_succ, List.getElem_cons_zero]; (try dsimp only at hSw); go_simp; with_reducible rfl)
  simp only [List.getElem_toArray, List.getElem_cons_succ, List.getElem_cons_zero, Act.put, List.setIfInBounds_toArray, List.set_cons_zero, List.set_cons_succ]
  refine wpAnyH_take (i := 2) (v := ?_) rfl (by kernel_rfl) (by kernel_rfl) (by kernel_rfl) (fun _ _ _ h => h) (Or.inl ⟨by rfl, ?_⟩) (by assumption) ?_
  rotate_left
  · (intro W hSw; simp only [List.getElem_toArray, List.getElem_cons_succ, List.getElem_cons_zero]; (try dsimp only at hSw); go_simp; with_reducible rfl)
  simp only [List.getElem_toArray, List.getElem_cons_succ, List.getElem_cons_zero, Act.put, List.setIfInBounds_toArray, List.set_cons_zero, List.set_cons_succ]
  refine wpAnyH_take (i := 3) (v := ?_) rfl (by kernel_rfl) (by kernel_rfl) (by kernel_rfl) (fun _ _ _ h => h) (Or.inl ⟨by rfl, ?_⟩) (by assumption) ?_
  rotate_left
  · (intro W hSw; simp only [List.getElem_toArray, List.getElem_cons_succ, List.getElem_cons_zero]; (try dsimp only at hSw); go_simp; with_reducible rfl)
  simp only [List.getElem_toArray, List.getElem_cons_succ, List.getElem_cons_zero, Act.put, List.setIfInBounds_toArray, List.set_cons_zero, List.set_cons_succ]
  refine wpAnyH_take (i := 4) (v := ?_) rfl (by kernel_rfl) (by kernel_rfl) (by kernel_rfl) (fun _ _ _ h => h) (Or.inl ⟨by rfl, ?_⟩) (by assumption) ?_
  rotate_left
  · (intro W hSw; simp only [List.getElem_toArray, List.getElem_cons_succ, List.getElem_cons_zero]; (try dsimp only at hSw); go_simp; with_reducible rfl)
  simp only [List.getElem_toArray, List.getElem_cons_succ, List.getElem_cons_zero, Act.put, List.setIfInBounds_toArray, List.set_cons_zero, List.set_cons_succ]
  refine wpAnyH_ready (rs := [5]) (by kernel_rfl) (by simp) ?_
  refine AllReadyH.cons rfl (fun K hK => ?_) AllReadyH.nil
  (try simp only [List.getElem_toArray, List.getElem_cons_succ, List.getElem_cons_zero])
  go_simp
  (with_reducible refine Calls.mono CU.out ?_)
  rintro e wU ⟨rfl, bU⟩
  have bU' := below_go (Below.refl _ W3).drew bU
  refine hK.out _ _ (SN.out _ bU') (fun hHeld2 => ?_)
  clear hK K hHeld CU
  (try simp only [Act.put, List.setIfInBounds_toArray, List.set_cons_zero, List.set_cons_succ])
  refine wpAnyH_take (i := 6) (v := ?_) rfl (by kernel_rfl) (by kernel_rfl) (by kernel_rfl) (fun _ _ _ h => h) (Or.inl ⟨by rfl, ?_⟩) (by assumption) ?_
  rotate_left
  · (intro W hSw; simp only [List.getElem_toArray, List.getElem_cons_succ, List.getElem_cons_zero]; (try dsimp only at hSw); go_simp; with_reducible rfl)
  simp only [List.getElem_toArray, List.getElem_cons_succ, List.getElem_cons_zero, Act.put, List.setIfInBounds_toArray, List.set_cons_zero, List.set_cons_succ]
  refine wpAnyH_take (i := 7) (v := ?_) rfl (by kernel_rfl) (by kernel_rfl) (by kernel_rfl) (fun _ _ _ h => h) (Or.inl ⟨by rfl, ?_⟩) (by assumption) ?_
  rotate_left
  · (intro W hSw; simp only [List.getElem_toArray, List.getElem_cons_succ, List.getElem_cons_zero]; (try dsimp only at hSw); go_simp; with_reducible rfl)
  simp only [List.getElem_toArray, List.getElem_cons_succ, List.getElem_cons_zero, Act.put, List.setIfInBounds_toArray, List.set_cons_zero, List.set_cons_succ]
  refine wpAnyH_take (i := 8) (v := ?_) rfl (by kernel_rfl) (by kernel_rfl) (by kernel_rfl) (fun _ _ _ h => h) (Or.inl ⟨by rfl, ?_⟩) (by assumption) ?_
  rotate_left
  · (intro W hSw; simp only [List.getElem_toArray, List.getElem_cons_succ, List.getElem_cons_zero]; (try dsimp only at hSw); go_simp; with_reducible rfl)
  simp only [List.getElem_toArray, List.getElem_cons_succ, List.getElem_cons_zero, Act.put, List.setIfInBounds_toArray, List.set_cons_zero, List.set_cons_succ]
  refine wpAnyH_take (i := 9) (v := ?_) rfl (by kernel_rfl) (by kernel_rfl) (by kernel_rfl) (fun _ _ _ h => h) (Or.inl ⟨by rfl, ?_⟩) (by assumption) ?_
  rotate_left
  · (intro W hSw; simp only [List.getElem_toArray, List.getElem_cons_succ, List.getElem_cons_zero]; (try dsimp only at hSw); go_simp; with_reducible rfl)
  simp only [List.getElem_toArray, List.getElem_cons_succ, List.getElem_cons_zero, Act.put, List.setIfInBounds_toArray, List.set_cons_zero, List.set_cons_succ]
  refine wpAnyH_take (i := 10) (v := ?_) rfl (by kernel_rfl) (by kernel_rfl) (by kernel_rfl) (fun _ _ _ h => h) (Or.inl ⟨by rfl, ?_⟩) (by assumption) ?_
  rotate_left
  · (intro W hSw; simp only [List.getElem_toArray, List.getElem_cons_succ, List.getElem_cons_zero]; (try dsimp only at hSw); go_simp; with_reducible rfl)
  simp only [List.getElem_toArray, List.getElem_cons_succ, List.getElem_cons_zero, Act.put, List.setIfInBounds_toArray, List.set_cons_zero, List.set_cons_succ]
  refine wpAnyH_take (i := 11) (v := ?_) rfl (by kernel_rfl) (by kernel_rfl) (by kernel_rfl) (fun _ _ _ h => h) (Or.inl ⟨by rfl, ?_⟩) (by assumption) ?_
  rotate_left
  · (intro W hSw; simp only [List.getElem_toArray, List.getElem_cons_succ, List.getElem_cons_zero]; (try dsimp only at hSw); go_simp; with_reducible rfl)
  simp only [List.getElem_toArray, List.getElem_cons_succ, List.getElem_cons_zero, Act.put, List.setIfInBounds_toArray, List.set_cons_zero, List.set_cons_succ]
  refine wpAnyH_take (i := 12) (v := ?_) rfl (by kernel_rfl) (by kernel_rfl) (by kernel_rfl) (fun _ _ _ h => h) (Or.inl ⟨by rfl, ?_⟩) (by assumption) ?_
  rotate_left
  · (intro W hSw; simp only [List.getElem_toArray, List.getElem_cons_succ, List.getElem_cons_zero]; (try dsimp only at hSw); go_simp; with_reducible rfl)
  simp only [List.getElem_toArray, List.getElem_cons_succ, List.getElem_cons_zero, Act.put, List.setIfInBounds_toArray, List.set_cons_zero, List.set_cons_succ]
  refine wpAnyH_take (i := 13) (v := ?_) rfl (by kernel_rfl) (by kernel_rfl) (by kernel_rfl) (fun _ _ _ h => h) (Or.inl ⟨by rfl, ?_⟩) (by assumption) ?_
  rotate_left
  · (intro W hSw; simp only [List.getElem_toArray, List.getElem_cons_succ, List.getElem_cons_zero]; (try dsimp only at hSw); go_simp; with_reducible rfl)
  simp only [List.getElem_toArray, List.getElem_cons_succ, List.getElem_cons_zero, Act.put, List.setIfInBounds_toArray, List.set_cons_zero, List.set_cons_succ]
  refine wpAnyH_take (i := 14) (v := ?_) rfl (by kernel_rfl) (by kernel_rfl) (by kernel_rfl) (fun _ _ _ h => h) (Or.inl ⟨by rfl, ?_⟩) (by assumption) ?_
  rotate_left
  · (intro W hSw; simp only [List.getElem_toArray, List.getElem_cons_succ, List.getElem_cons_zero]; (try dsimp only at hSw); go_simp; with_reducible rfl)
  simp only [List.getElem_toArray, List.getElem_cons_succ, List.getElem_cons_zero, Act.put, List.setIfInBounds_toArray, List.set_cons_zero, List.set_cons_succ]
  refine wpAnyH_take (i := 15) (v := ?_) rfl (by kernel_rfl) (by kernel_rfl) (by kernel_rfl) (fun _ _ _ h => h) (Or.inl ⟨by rfl, ?_⟩) (by assumption) ?_
  rotate_left
  · (intro W hSw; simp only [List.getElem_toArray, List.getElem_cons_succ, List.getElem_cons_zero]; (try dsimp only at hSw); go_simp; with_reducible rfl)
  simp only [List.getElem_toArray, List.getElem_cons_succ, List.getElem_cons_zero, Act.put, List.setIfInBounds_toArray, List.set_cons_zero, List.set_cons_succ]
  refine wpAnyH_take (i := 16) (v := ?_) rfl (by kernel_rfl) (by kernel_rfl) (by kernel_rfl) (fun _ _ _ h => h) (Or.inl ⟨by rfl, ?_⟩) (by assumption) ?_
  rotate_left
  · (intro W hSw; simp only [List.getElem_toArray, List.getElem_cons_succ, List.getElem_cons_zero]; (try dsimp only at hSw); go_simp; with_reducible rfl)
  simp only [List.getElem_toArray, List.getElem_cons_succ, List.getElem_cons_zero, Act.put, List.setIfInBounds_toArray, List.set_cons_zero, List.set_cons_succ]
  refine wpAnyH_take (i := 17) (v := ?_) rfl (by kernel_rfl) (by kernel_rfl) (by kernel_rfl) (fun _ _ _ h => h) (Or.inl ⟨by rfl, ?_⟩) (by assumption) ?_
  rotate_left
  · (intro W hSw; simp only [List.getElem_toArray, List.getElem_cons_succ, List.getElem_cons_zero]; (try dsimp only at hSw); go_simp; with_reducible rfl)
  simp only [List.getElem_toArray, List.getElem_cons_succ, List.getElem_cons_zero, Act.put, List.setIfInBounds_toArray, List.set_cons_zero, List.set_cons_succ]
  refine wpAnyH_done (by kernel_rfl) ?_ _
  refine NoPanic.normal ?_
  have TU := Lib.hid (T3.out.below bU' hsz3)
  have BU := Lib.hid (below_go B3.out bU')
  have XU := Lib.hid ((bU'.block w2.heap.size hz3).trans X3.out)
  have hszU : w.heap.size + 1 < wU.heap.size := by have := bU'.size; omega
  have hzU : w2.heap.size < wU.heap.size := by have := bU'.size; omega
  clear SN hHeld2 hdec hwr bU bU' T3 B3 X3
  obtain ⟨y0, y1, y2, y3, y4, y5, y6, f0, f1, f2, f3, f4, f5, f6, hg0⟩ := look7 (TU.out).b0
  obtain ⟨z0, z1, z2, z3, z4, z5, z6, e0, e1, e2, e3, e4, e5, e6, hg1⟩ := look7 (TU.out).b1
  go_wp2_with fail
  go_region
  all_goals
    go_wp2_with fail
    have BF := (st7_below BU.out (w.heap.size + 1) (.int .i64 R) (.slice A n c) (.bool dn) (.int .i64 fl) (.bool lt) (.int .i64 ac) (.int .i64 pt) (by omega)).drew
    exact bodyPost_ret (v := .tuple #[.int .i64 9, .agg #[.int .i64 R, .slice A n c, .bool dn, .int .i64 fl, .bool lt, .int .i64 ac, .int .i64 pt]]) (by simp [results, Try.results23, go_sem, *]) rfl ⟨_, n, c, L, rfl, rfl, HL.out, HR.out.below BF, Nw.same _ _ _ _, BF⟩
set_option maxHeartbeats 4000000 in
theorem rappend_unnamed_y1 (w : World) (R : Int) (A : Option Addr) (n c : Nat) (dn0 : Bool) (fl0 : Int) (lt0 : Bool) (ac0 pt0 : Int) (dn : Bool) (fl : Int) (lt : Bool) (ac pt : Int) (HB : ∀ W, Calls Try.prog 40 #[rv R A n c dn0 fl0 lt0 ac0 pt0] W fun e w' => e = .returned (.tuple #[.int .i64 1, .agg #[.int .i64 R, .slice A n c, .bool dn, .int .i64 fl, .bool lt, .int .i64 ac, .int .i64 pt]]) ∧ Below W.heap.size W w') (L : List RF) (hl : L.length = n) (hr : Rs w A L) (hn : n ≤ 1000)  (s : ByteArray) (hs : s.size ≤ maxLen) (Ab : Option Addr) (k cb : Nat) (bb : List Int) (hbl0 : bb.length = k) (hbb : Byt w Ab bb) (hbz : Ab = none → cb = 0) (hbc : k ≤ cb) (hk : k ≤ 100000) (f : Fl) (hf : fnd (fls L) s = some f) (hnm : named s = false) (hu : usd (fls L) ≤ 900000) (hR0 : 0 ≤ R) (hR1 : R ≤ 16777216) :
    Calls Try.prog 23 #[rv R A n c dn0 fl0 lt0 ac0 pt0, .string s, .slice Ab k cb] w (RAct w A L 9 R dn fl lt ac pt (fls L)) := by
  have b0 := below_go (below_alloc w (rc R A n c dn0 fl0 lt0 ac0 pt0)) (below_alloc _ rc0)
  have C := Lib.hid (HB ((w.alloc (rc R A n c dn0 fl0 lt0 ac0 pt0)).alloc rc0))
  have T0 := Lib.hid (two_start w R A n c dn0 fl0 lt0 ac0 pt0)
  have B0 := Lib.hid b0
  have HR := Lib.hid hr
  have HL := Lib.hid hl
  clear HB hr hl b0
  go_enter Try.func23, Try.ntmps23
  go_wp2_with fail
  refine C.out.mono ?_
  rintro e w1 ⟨rfl, hb1⟩
  have t1 := T0.out.below hb1 (by simp)
  obtain ⟨y0, y1, y2, y3, y4, y5, y6, f0, f1, f2, f3, f4, f5, f6, hg0⟩ := look7 t1.b0
  obtain ⟨W1, hW1, k0, kk, ks, kb⟩ := boxed t1.b0 (.int .i64 R) (.slice A n c) (.bool dn) (.int .i64 fl) (.bool lt) (.int .i64 ac) (.int .i64 pt)
  have k1 : W1.heap[w.heap.size + 1]? = some rc0 := (kk _ (by omega)).trans t1.b1
  have BW := Lib.hid (kb _ _ (below_go B0.out hb1) (Nat.le_refl _))
  have TW := Lib.hid (Two.mk k0 k1)
  have HW := Lib.hid hW1
  have RW := Lib.hid (HR.out.below BW.out)
  have hsz : w.heap.size + 1 < W1.heap.size := (Array.getElem?_eq_some_iff.1 k1).1
  clear C T0 B0 hb1 t1 kk ks kb k0 k1 hW1
  go_wp2_with fail
  rw [HW.out]
  clear y0 y1 y2 y3 y4 y5 y6 f0 f1 f2 f3 f4 f5 f6 hg0 HW
  obtain ⟨y0, y1, y2, y3, y4, y5, y6, f0, f1, f2, f3, f4, f5, f6, hg0⟩ := look7 (TW.out).b0
  have CF := Lib.hid (rfind_any W1 R A n c dn fl lt ac pt L s HL.out RW.out.fls hn)
  go_wp2_with fail
  refine CF.out.mono ?_
  intro e w2 hF
  obtain ⟨h1, hb2⟩ := hF
  have BW2 := Lib.hid (below_go BW.out hb2)
  have T2 := TW.out.below hb2 hsz
  have TW2 := Lib.hid T2
  have hsz2 : w.heap.size + 1 < w2.heap.size := by have := hb2.size; omega
  clear CF hb2 T2 TW y0 y1 y2 y3 y4 y5 y6 f0 f1 f2 f3 f4 f5 f6 hg0
  have h2 : ∃ i : Nat, i < n ∧ e = .returned (.int .i64 (i : Int)) ∧ (L.getD i rz).f = f := by
    rcases h1 with ⟨i, hi, he, hx⟩ | ⟨he, hx⟩
    · refine ⟨i, hi, he, ?_⟩
      rw [hf] at hx
      injection hx with hx
      exact hx.symm
    · rw [hf] at hx; cases hx
  obtain ⟨i, hi, rfl, hfi⟩ := h2
  have hiL : i < L.length := by rw [HL.out]; exact hi
  obtain ⟨b, off, rfl, x0, x1, x2⟩ := (HR.out.fls.below BW2.out) i hiL
  have hrm := getD_inR L i hiL
  obtain ⟨r, hri⟩ : ∃ r, L.getD i rz = r := ⟨_, rfl⟩
  rw [hri] at x0 x1 x2 hfi hrm
  subst hfi
  have hnm0 : r.f.nm = s := (fnd_mem hf).2
  rw [hnm0] at x0
  have HNM := Lib.hid hnm0
  clear hnm0
  have HD := Lib.hid (HR.out.hdr r hrm)
  have HM := Lib.hid hrm
  obtain ⟨y0, y1, y2, y3, y4, y5, y6, f0, f1, f2, f3, f4, f5, f6, hg0⟩ := look7 (TW2.out).b0
  have hbl : b < w2.heap.size := World.block_lt_of_cell? _ _ x0
  have hi' : (i : Int) < (n : Int) := by omega
  have hi0 : (0 : Int) ≤ (i : Int) := by omega
  clear h1 hf RW hri hrm hiL
  have b3 := below_alloc w2 (.cells #[.string s, .slice r.A r.f.bs.length r.c, .int .i64 (r.f.sf : Int)] 43)
  obtain ⟨W3, hW3⟩ : ∃ W3, w2.alloc (.cells #[.string s, .slice r.A r.f.bs.length r.c, .int .i64 (r.f.sf : Int)] 43) = W3 := ⟨_, rfl⟩
  have x3 : W3.heap[w2.heap.size]? = some (.cells #[.string s, .slice r.A r.f.bs.length r.c, .int .i64 (r.f.sf : Int)] 43) := by rw [← hW3]; exact heap_alloc_new w2 _
  have t3 := TW2.out.below b3 hsz2
  have b4 := below_go BW2.out b3
  have hz3 : w2.heap.size < W3.heap.size := by rw [← hW3]; simp
  rw [hW3] at t3 b4
  have HW3 := Lib.hid hW3
  have T3 := Lib.hid t3
  have B3 := Lib.hid b4
  have X3 := Lib.hid x3
  clear b3 t3 b4 hW3 x3 BW2 TW2
  have CN := Lib.hid (fun W => rnamed_any s W hs)
  rw [hnm] at CN
  go_wp2_with fail
  rw [HW3.out]
  refine (CN.out _).mono ?_
  rintro e w9 ⟨rfl, rfl⟩
  clear CN HW3 y0 y1 y2 y3 y4 y5 y6 f0 f1 f2 f3 f4 f5 f6 hg0 x0 x1 x2
  have hsz3 : w.heap.size + 1 < W3.heap.size := (Array.getElem?_eq_some_iff.1 T3.out.b1).1
  obtain ⟨rr, hrr⟩ : ∃ rr, pt0.tmod ((k : Int) + 1) = rr := ⟨_, rfl⟩
  have HRR := Lib.hid hrr
  clear hrr
  obtain ⟨y0, y1, y2, y3, y4, y5, y6, f0, f1, f2, f3, f4, f5, f6, hg0⟩ := look7 (T3.out).b0
  obtain ⟨z0, z1, z2, z3, z4, z5, z6, e0, e1, e2, e3, e4, e5, e6, hg1⟩ := look7 (T3.out).b1
  go_wp2_with fail
  go_region
  all_goals
    go_wp2_with fail
    have BF := (st7_below B3.out (w.heap.size + 1) (.int .i64 R) (.slice (some ⟨b, off, none⟩) n c) (.bool dn) (.int .i64 fl) (.bool lt) (.int .i64 ac) (.int .i64 pt) (by omega)).drew
    exact bodyPost_ret (v := .tuple #[.int .i64 9, .agg #[.int .i64 R, .slice (some ⟨b, off, none⟩) n c, .bool dn, .int .i64 fl, .bool lt, .int .i64 ac, .int .i64 pt]]) (by simp [results, Try.results23, go_sem, *]) rfl ⟨_, n, c, L, rfl, rfl, HL.out, HR.out.below BF, Nw.same _ _ _ _, BF⟩
set_option maxHeartbeats 4000000 in
theorem rappend_size_y1 (w : World) (R : Int) (A : Option Addr) (n c : Nat) (dn0 : Bool) (fl0 : Int) (lt0 : Bool) (ac0 pt0 : Int) (dn : Bool) (fl : Int) (lt : Bool) (ac pt : Int) (HB : ∀ W, Calls Try.prog 40 #[rv R A n c dn0 fl0 lt0 ac0 pt0] W fun e w' => e = .returned (.tuple #[.int .i64 1, .agg #[.int .i64 R, .slice A n c, .bool dn, .int .i64 fl, .bool lt, .int .i64 ac, .int .i64 pt]]) ∧ Below W.heap.size W w') (L : List RF) (hl : L.length = n) (hr : Rs w A L) (hn : n ≤ 1000)  (s : ByteArray) (hs : s.size ≤ maxLen) (Ab : Option Addr) (k cb : Nat) (bb : List Int) (hbl0 : bb.length = k) (hbb : Byt w Ab bb) (hbz : Ab = none → cb = 0) (hbc : k ≤ cb) (hk : k ≤ 100000) (f : Fl) (hf : fnd (fls L) s = some f) (hnm : named s = true) (hu : usd (fls L) ≤ 900000) (hR0 : 0 ≤ R) (hR1 : R ≤ 16777216) (hsize : R - (usd (fls L) : Int) < (k : Int)) :
    Calls Try.prog 23 #[rv R A n c dn0 fl0 lt0 ac0 pt0, .string s, .slice Ab k cb] w (RAct w A L 9 R dn fl lt ac pt (fls L)) := by
  have b0 := below_go (below_alloc w (rc R A n c dn0 fl0 lt0 ac0 pt0)) (below_alloc _ rc0)
  have C := Lib.hid (HB ((w.alloc (rc R A n c dn0 fl0 lt0 ac0 pt0)).alloc rc0))
  have T0 := Lib.hid (two_start w R A n c dn0 fl0 lt0 ac0 pt0)
  have B0 := Lib.hid b0
  have HR := Lib.hid hr
  have HL := Lib.hid hl
  clear HB hr hl b0
  go_enter Try.func23, Try.ntmps23
  go_wp2_with fail
  refine C.out.mono ?_
  rintro e w1 ⟨rfl, hb1⟩
  have t1 := T0.out.below hb1 (by simp)
  obtain ⟨y0, y1, y2, y3, y4, y5, y6, f0, f1, f2, f3, f4, f5, f6, hg0⟩ := look7 t1.b0
  obtain ⟨W1, hW1, k0, kk, ks, kb⟩ := boxed t1.b0 (.int .i64 R) (.slice A n c) (.bool dn) (.int .i64 fl) (.bool lt) (.int .i64 ac) (.int .i64 pt)
  have k1 : W1.heap[w.heap.size + 1]? = some rc0 := (kk _ (by omega)).trans t1.b1
  have BW := Lib.hid (kb _ _ (below_go B0.out hb1) (Nat.le_refl _))
  have TW := Lib.hid (Two.mk k0 k1)
  have HW := Lib.hid hW1
  have RW := Lib.hid (HR.out.below BW.out)
  have hsz : w.heap.size + 1 < W1.heap.size := (Array.getElem?_eq_some_iff.1 k1).1
  clear C T0 B0 hb1 t1 kk ks kb k0 k1 hW1
  go_wp2_with fail
  rw [HW.out]
  clear y0 y1 y2 y3 y4 y5 y6 f0 f1 f2 f3 f4 f5 f6 hg0 HW
  obtain ⟨y0, y1, y2, y3, y4, y5, y6, f0, f1, f2, f3, f4, f5, f6, hg0⟩ := look7 (TW.out).b0
  have CF := Lib.hid (rfind_any W1 R A n c dn fl lt ac pt L s HL.out RW.out.fls hn)
  go_wp2_with fail
  refine CF.out.mono ?_
  intro e w2 hF
  obtain ⟨h1, hb2⟩ := hF
  have BW2 := Lib.hid (below_go BW.out hb2)
  have T2 := TW.out.below hb2 hsz
  have TW2 := Lib.hid T2
  have hsz2 : w.heap.size + 1 < w2.heap.size := by have := hb2.size; omega
  clear CF hb2 T2 TW y0 y1 y2 y3 y4 y5 y6 f0 f1 f2 f3 f4 f5 f6 hg0
  have h2 : ∃ i : Nat, i < n ∧ e = .returned (.int .i64 (i : Int)) ∧ (L.getD i rz).f = f := by
    rcases h1 with ⟨i, hi, he, hx⟩ | ⟨he, hx⟩
    · refine ⟨i, hi, he, ?_⟩
      rw [hf] at hx
      injection hx with hx
      exact hx.symm
    · rw [hf] at hx; cases hx
  obtain ⟨i, hi, rfl, hfi⟩ := h2
  have hiL : i < L.length := by rw [HL.out]; exact hi
  obtain ⟨b, off, rfl, x0, x1, x2⟩ := (HR.out.fls.below BW2.out) i hiL
  have hrm := getD_inR L i hiL
  obtain ⟨r, hri⟩ : ∃ r, L.getD i rz = r := ⟨_, rfl⟩
  rw [hri] at x0 x1 x2 hfi hrm
  subst hfi
  have hnm0 : r.f.nm = s := (fnd_mem hf).2
  rw [hnm0] at x0
  have HNM := Lib.hid hnm0
  clear hnm0
  have HD := Lib.hid (HR.out.hdr r hrm)
  have HM := Lib.hid hrm
  obtain ⟨y0, y1, y2, y3, y4, y5, y6, f0, f1, f2, f3, f4, f5, f6, hg0⟩ := look7 (TW2.out).b0
  have hbl : b < w2.heap.size := World.block_lt_of_cell? _ _ x0
  have hi' : (i : Int) < (n : Int) := by omega
  have hi0 : (0 : Int) ≤ (i : Int) := by omega
  clear h1 hf RW hri hrm hiL
  have b3 := below_alloc w2 (.cells #[.string s, .slice r.A r.f.bs.length r.c, .int .i64 (r.f.sf : Int)] 43)
  obtain ⟨W3, hW3⟩ : ∃ W3, w2.alloc (.cells #[.string s, .slice r.A r.f.bs.length r.c, .int .i64 (r.f.sf : Int)] 43) = W3 := ⟨_, rfl⟩
  have x3 : W3.heap[w2.heap.size]? = some (.cells #[.string s, .slice r.A r.f.bs.length r.c, .int .i64 (r.f.sf : Int)] 43) := by rw [← hW3]; exact heap_alloc_new w2 _
  have t3 := TW2.out.below b3 hsz2
  have b4 := below_go BW2.out b3
  have hz3 : w2.heap.size < W3.heap.size := by rw [← hW3]; simp
  rw [hW3] at t3 b4
  have HW3 := Lib.hid hW3
  have T3 := Lib.hid t3
  have B3 := Lib.hid b4
  have X3 := Lib.hid x3
  clear b3 t3 b4 hW3 x3 BW2 TW2
  have CN := Lib.hid (fun W => rnamed_any s W hs)
  rw [hnm] at CN
  go_wp2_with fail
  rw [HW3.out]
  refine (CN.out _).mono ?_
  rintro e w9 ⟨rfl, rfl⟩
  clear CN HW3 y0 y1 y2 y3 y4 y5 y6 f0 f1 f2 f3 f4 f5 f6 hg0 x0 x1 x2
  have hsz3 : w.heap.size + 1 < W3.heap.size := (Array.getElem?_eq_some_iff.1 T3.out.b1).1
  obtain ⟨rr, hrr⟩ : ∃ rr, pt0.tmod ((k : Int) + 1) = rr := ⟨_, rfl⟩
  have HRR := Lib.hid hrr
  clear hrr
  have SN : Hid (∀ W, Below W3.heap.size W3 W → W.cell? ⟨w.heap.size, 0, none⟩ = some (.int .i64 R) ∧ W.cell? ⟨w.heap.size, 1, none⟩ = some (.slice (some ⟨b, off, none⟩) n c) ∧ W.cell? ⟨w.heap.size, 2, none⟩ = some (.bool dn) ∧ W.cell? ⟨w.heap.size, 3, none⟩ = some (.int .i64 fl) ∧ W.cell? ⟨w.heap.size, 4, none⟩ = some (.bool lt) ∧ W.cell? ⟨w.heap.size, 5, none⟩ = some (.int .i64 ac) ∧ W.cell? ⟨w.heap.size, 6, none⟩ = some (.int .i64 pt)) := Lib.hid (fun W hW => by
    have t5 := T3.out.below hW hsz3
    obtain ⟨p0, p1, p2, p3, p4, p5, p6, -⟩ := look7 t5.b0
    exact ⟨p0, p1, p2, p3, p4, p5, p6⟩)
  have CU := Lib.hid (rused_any W3.drew R (some ⟨b, off, none⟩) n c dn fl lt ac pt L HL.out (HR.out.fls.below B3.out.drew) (by omega) hn)
  have hU := Lib.hid hu
  obtain ⟨u, hue⟩ : ∃ u, usd (fls L) = u := ⟨_, rfl⟩
  rw [hue] at CU hsize hu
  clear hue
  go_wp2_with fail
  have hdec : decide (R - (u : Int) < (k : Int)) = true := by simpa using hsize
  have hwr : IntKind.i64.wrap (R - (u : Int)) = R - (u : Int) := IntWalk.i64_in _ ⟨by omega, by omega⟩
  refine wp_region_noPanic ?_
  refine wp_region_held_drew (S := fun W => W.cell? ⟨w.heap.size, 0, none⟩ = some (.int .i64 R) ∧ W.cell? ⟨w.heap.size, 1, none⟩ = some (.slice (some ⟨b, off, none⟩) n c) ∧ W.cell? ⟨w.heap.size, 2, none⟩ = some (.bool dn) ∧ W.cell? ⟨w.heap.size, 3, none⟩ = some (.int .i64 fl) ∧ W.cell? ⟨w.heap.size, 4, none⟩ = some (.bool lt) ∧ W.cell? ⟨w.heap.size, 5, none⟩ = some (.int .i64 ac) ∧ W.cell? ⟨w.heap.size, 6, none⟩ = some (.int .i64 pt)) (by kernel_rfl) (SN.out _ (Below.refl _ W3).drew) (fun hHeld => ?_)
  refine wpAnyH_take (i := 0) (v := ?_) rfl (by kernel_rfl) (by kernel_rfl) (by kernel_rfl) (fun _ _ _ h => h) (Or.inl ⟨by rfl, ?_⟩) (by assumption) ?_
  rotate_left
  · (intro W hSw; simp only [List.getElem_toArray, List.getElem_cons_succ, List.getElem_cons_zero]; (try dsimp only at hSw); go_simp; with_reducible rfl)
  simp only [List.getElem_toArray, List.getElem_cons_succ, List.getElem_cons_zero, Act.put, List.setIfInBounds_toArray, List.set_cons_zero, List.set_cons_succ]
  refine wpAnyH_take (i := 1) (v := ?_) rfl (by kernel_rfl) (by kernel_rfl) (by kernel_rfl) (fun _ _ _ h => h) (Or.inl ⟨by rfl, ?_⟩) (by assumption) ?_
  rotate_left
  · (intro W hSw; simp only [List.getElem_toArray, List.getElem_cons_succ, List.getElem_cons_zero]; (try dsimp only at hSw); go_simp; with_reducible rfl)
  simp only [List.getElem_toArray, List.getElem_cons_succ, List.getElem_cons_zero, Act.put, List.setIfInBounds_toArray, List.set_cons_zero, List.set_cons_succ]
  refine wpAnyH_take (i := 2) (v := ?_) rfl (by kernel_rfl) (by kernel_rfl) (by kernel_rfl) (fun _ _ _ h => h) (Or.inl ⟨by rfl, ?_⟩) (by assumption) ?_
  rotate_left
  · (intro W hSw; simp only [List.getElem_toArray, List.getElem_cons_succ, List.getElem_cons_zero]; (try dsimp only at hSw); go_simp; with_reducible rfl)
  simp only [List.getElem_toArray, List.getElem_cons_succ, List.getElem_cons_zero, Act.put, List.setIfInBounds_toArray, List.set_cons_zero, List.set_cons_succ]
  refine wpAnyH_take (i := 3) (v := ?_) rfl (by kernel_rfl) (by kernel_rfl) (by kernel_rfl) (fun _ _ _ h => h) (Or.inl ⟨by rfl, ?_⟩) (by assumption) ?_
  rotate_left
  · (intro W hSw; simp only [List.getElem_toArray, List.getElem_cons_succ, List.getElem_cons_zero]; (try dsimp only at hSw); go_simp; with_reducible rfl)
  simp only [List.getElem_toArray, List.getElem_cons_succ, List.getElem_cons_zero, Act.put, List.setIfInBounds_toArray, List.set_cons_zero, List.set_cons_succ]
  refine wpAnyH_take (i := 4) (v := ?_) rfl (by kernel_rfl) (by kernel_rfl) (by kernel_rfl) (fun _ _ _ h => h) (Or.inl ⟨by rfl, ?_⟩) (by assumption) ?_
  rotate_left
  · (intro W hSw; simp only [List.getElem_toArray, List.getElem_cons_succ, List.getElem_cons_zero]; (try dsimp only at hSw); go_simp; with_reducible rfl)
  simp only [List.getElem_toArray, List.getElem_cons_succ, List.getElem_cons_zero, Act.put, List.setIfInBounds_toArray, List.set_cons_zero, List.set_cons_succ]
  refine wpAnyH_ready (rs := [5]) (by kernel_rfl) (by simp) ?_
  refine AllReadyH.cons rfl (fun K hK => ?_) AllReadyH.nil
  (try simp only [List.getElem_toArray, List.getElem_cons_succ, List.getElem_cons_zero])
  go_simp
  (with_reducible refine Calls.mono CU.out ?_)
  rintro e wU ⟨rfl, bU⟩
  have bU' := below_go (Below.refl _ W3).drew bU
  refine hK.out _ _ (SN.out _ bU') (fun hHeld2 => ?_)
  clear hK K hHeld CU
  (try simp only [Act.put, List.setIfInBounds_toArray, List.set_cons_zero, List.set_cons_succ])
  refine wpAnyH_take (i := 6) (v := ?_) rfl (by kernel_rfl) (by kernel_rfl) (by kernel_rfl) (fun _ _ _ h => h) (Or.inl ⟨by rfl, ?_⟩) (by assumption) ?_
  rotate_left
  · (intro W hSw; simp only [List.getElem_toArray, List.getElem_cons_succ, List.getElem_cons_zero]; (try dsimp only at hSw); go_simp; with_reducible rfl)
  simp only [List.getElem_toArray, List.getElem_cons_succ, List.getElem_cons_zero, Act.put, List.setIfInBounds_toArray, List.set_cons_zero, List.set_cons_succ]
  refine wpAnyH_take (i := 7) (v := ?_) rfl (by kernel_rfl) (by kernel_rfl) (by kernel_rfl) (fun _ _ _ h => h) (Or.inl ⟨by rfl, ?_⟩) (by assumption) ?_
  rotate_left
  · (intro W hSw; simp only [List.getElem_toArray, List.getElem_cons_succ, List.getElem_cons_zero]; (try dsimp only at hSw); go_simp; with_reducible rfl)
  simp only [List.getElem_toArray, List.getElem_cons_succ, List.getElem_cons_zero, Act.put, List.setIfInBounds_toArray, List.set_cons_zero, List.set_cons_succ]
  refine wpAnyH_take (i := 8) (v := ?_) rfl (by kernel_rfl) (by kernel_rfl) (by kernel_rfl) (fun _ _ _ h => h) (Or.inl ⟨by rfl, ?_⟩) (by assumption) ?_
  rotate_left
  · (intro W hSw; simp only [List.getElem_toArray, List.getElem_cons_succ, List.getElem_cons_zero]; (try dsimp only at hSw); go_simp; with_reducible rfl)
  simp only [List.getElem_toArray, List.getElem_cons_succ, List.getElem_cons_zero, Act.put, List.setIfInBounds_toArray, List.set_cons_zero, List.set_cons_succ]
  refine wpAnyH_take (i := 9) (v := undef) rfl (by kernel_rfl) (by kernel_rfl) (by kernel_rfl) (fun _ _ _ h => h) (Or.inr ⟨by rfl, rfl⟩) (by assumption) ?_
  simp only [List.getElem_toArray, List.getElem_cons_succ, List.getElem_cons_zero, Act.put, List.setIfInBounds_toArray, List.set_cons_zero, List.set_cons_succ]
  refine wpAnyH_take (i := 10) (v := undef) rfl (by kernel_rfl) (by kernel_rfl) (by kernel_rfl) (fun _ _ _ h => h) (Or.inr ⟨by rfl, rfl⟩) (by assumption) ?_
  simp only [List.getElem_toArray, List.getElem_cons_succ, List.getElem_cons_zero, Act.put, List.setIfInBounds_toArray, List.set_cons_zero, List.set_cons_succ]
  refine wpAnyH_take (i := 11) (v := undef) rfl (by kernel_rfl) (by kernel_rfl) (by kernel_rfl) (fun _ _ _ h => h) (Or.inr ⟨by rfl, rfl⟩) (by assumption) ?_
  simp only [List.getElem_toArray, List.getElem_cons_succ, List.getElem_cons_zero, Act.put, List.setIfInBounds_toArray, List.set_cons_zero, List.set_cons_succ]
  refine wpAnyH_take (i := 12) (v := undef) rfl (by kernel_rfl) (by kernel_rfl) (by kernel_rfl) (fun _ _ _ h => h) (Or.inr ⟨by rfl, rfl⟩) (by assumption) ?_
  simp only [List.getElem_toArray, List.getElem_cons_succ, List.getElem_cons_zero, Act.put, List.setIfInBounds_toArray, List.set_cons_zero, List.set_cons_succ]
  refine wpAnyH_take (i := 13) (v := undef) rfl (by kernel_rfl) (by kernel_rfl) (by kernel_rfl) (fun _ _ _ h => h) (Or.inr ⟨by rfl, rfl⟩) (by assumption) ?_
  simp only [List.getElem_toArray, List.getElem_cons_succ, List.getElem_cons_zero, Act.put, List.setIfInBounds_toArray, List.set_cons_zero, List.set_cons_succ]
  refine wpAnyH_take (i := 14) (v := undef) rfl (by kernel_rfl) (by kernel_rfl) (by kernel_rfl) (fun _ _ _ h => h) (Or.inr ⟨by rfl, rfl⟩) (by assumption) ?_
  simp only [List.getElem_toArray, List.getElem_cons_succ, List.getElem_cons_zero, Act.put, List.setIfInBounds_toArray, List.set_cons_zero, List.set_cons_succ]
  refine wpAnyH_take (i := 15) (v := undef) rfl (by kernel_rfl) (by kernel_rfl) (by kernel_rfl) (fun _ _ _ h => h) (Or.inr ⟨by rfl, rfl⟩) (by assumption) ?_
  simp only [List.getElem_toArray, List.getElem_cons_succ, List.getElem_cons_zero, Act.put, List.setIfInBounds_toArray, List.set_cons_zero, List.set_cons_succ]
  refine wpAnyH_take (i := 16) (v := undef) rfl (by kernel_rfl) (by kernel_rfl) (by kernel_rfl) (fun _ _ _ h => h) (Or.inr ⟨by rfl, rfl⟩) (by assumption) ?_
  simp only [List.getElem_toArray, List.getElem_cons_succ, List.getElem_cons_zero, Act.put, List.setIfInBounds_toArray, List.set_cons_zero, List.set_cons_succ]
  refine wpAnyH_take (i := 17) (v := ?_) rfl (by kernel_rfl) (by kernel_rfl) (by kernel_rfl) (fun _ _ _ h => h) (Or.inl ⟨by rfl, ?_⟩) (by assumption) ?_
  rotate_left
  · (intro W hSw; simp only [List.getElem_toArray, List.getElem_cons_succ, List.getElem_cons_zero]; (try dsimp only at hSw); go_simp; with_reducible rfl)
  simp only [List.getElem_toArray, List.getElem_cons_succ, List.getElem_cons_zero, Act.put, List.setIfInBounds_toArray, List.set_cons_zero, List.set_cons_succ]
  refine wpAnyH_done (by kernel_rfl) ?_ _
  refine NoPanic.normal ?_
  have TU := Lib.hid (T3.out.below bU' hsz3)
  have BU := Lib.hid (below_go B3.out bU')
  have XU := Lib.hid ((bU'.block w2.heap.size hz3).trans X3.out)
  have hszU : w.heap.size + 1 < wU.heap.size := by have := bU'.size; omega
  have hzU : w2.heap.size < wU.heap.size := by have := bU'.size; omega
  clear SN hHeld2 hdec hwr bU bU' T3 B3 X3
  obtain ⟨y0, y1, y2, y3, y4, y5, y6, f0, f1, f2, f3, f4, f5, f6, hg0⟩ := look7 (TU.out).b0
  obtain ⟨z0, z1, z2, z3, z4, z5, z6, e0, e1, e2, e3, e4, e5, e6, hg1⟩ := look7 (TU.out).b1
  go_wp2_with fail
  go_region
  all_goals
    go_wp2_with fail
    have BF := (st7_below BU.out (w.heap.size + 1) (.int .i64 R) (.slice (some ⟨b, off, none⟩) n c) (.bool dn) (.int .i64 fl) (.bool lt) (.int .i64 ac) (.int .i64 pt) (by omega)).drew
    exact bodyPost_ret (v := .tuple #[.int .i64 9, .agg #[.int .i64 R, .slice (some ⟨b, off, none⟩) n c, .bool dn, .int .i64 fl, .bool lt, .int .i64 ac, .int .i64 pt]]) (by simp [results, Try.results23, go_sem, *]) rfl ⟨_, n, c, L, rfl, rfl, HL.out, HR.out.below BF, Nw.same _ _ _ _, BF⟩
end Go.Proofs.Ytahjodpaikhhmaa
