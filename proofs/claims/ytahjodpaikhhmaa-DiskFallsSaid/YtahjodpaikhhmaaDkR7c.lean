/- The document's Append. -/
import Derived.Test.YtahjodpaikhhmaaDkR7
import Derived.Deep.RegionHeld3
import Derived.IntWalk
namespace Go.Proofs.Ytahjodpaikhhmaa
open Go Go.RowKit
set_option maxRecDepth 20000

set_option maxHeartbeats 1000000 in
theorem rappend_ok_y0 (w : World) (R : Int) (A : Option Addr) (n c : Nat) (dn0 : Bool) (fl0 : Int) (lt0 : Bool) (ac0 pt0 : Int) (dn : Bool) (fl : Int) (lt : Bool) (ac pt : Int) (HB : ∀ W, Calls Try.prog 40 #[rv R A n c dn0 fl0 lt0 ac0 pt0] W fun e w' => e = .returned (.tuple #[.int .i64 0, .agg #[.int .i64 R, .slice A n c, .bool dn, .int .i64 fl, .bool lt, .int .i64 ac, .int .i64 pt]]) ∧ Below W.heap.size W w') (L : List RF) (hl : L.length = n) (hr : Rs w A L) (hn : n ≤ 1000)  (s : ByteArray) (hs : s.size ≤ maxLen) (Ab : Option Addr) (k cb : Nat) (bb : List Int) (hbl0 : bb.length = k) (hbb : Byt w Ab bb) (hbz : Ab = none → cb = 0) (hbc : k ≤ cb) (hk : k ≤ 100000) (f : Fl) (hf : fnd (fls L) s = some f) (hnm : named s = true) (hu : usd (fls L) ≤ 900000) (hR0 : 0 ≤ R) (hR1 : R ≤ 16777216) (hsize : ¬ R - (usd (fls L) : Int) < (k : Int)) :
    Calls Try.prog 23 #[rv R A n c dn0 fl0 lt0 ac0 pt0, .string s, .slice Ab k cb] w (RAct w A L 0 R dn fl lt ac pt (wi (fls L) ⟨s, f.bs ++ bb, f.sf⟩)) := by
  have HBB := Lib.hid hbb
  have HBL := Lib.hid hbl0
  have HBZ := Lib.hid hbz
  clear hbb hbl0 hbz
  have b0 := below_go (below_alloc w (rc R A n c dn0 fl0 lt0 ac0 pt0)) (below_alloc _ rc0)
  have C := Lib.hid (HB ((w.alloc (rc R A n c dn0 fl0 lt0 ac0 pt0)).alloc rc0))
  have T0 := Lib.hid (two_start w R A n c dn0 fl0 lt0 ac0 pt0)
  have B0 := Lib.hid b0
  have HR := Lib.hid hr
  have HL := Lib.hid hl
  clear HB hr hl b0
  go_enter Try.func23, Try.ntmps23
  go_wp2_with fail
  refine C.out.mono ?_
  rintro e w1 ⟨rfl, hb1⟩
  have t1 := T0.out.below hb1 (by simp)
  obtain ⟨y0, y1, y2, y3, y4, y5, y6, f0, f1, f2, f3, f4, f5, f6, hg0⟩ := look7 t1.b0
  obtain ⟨W1, hW1, k0, kk, ks, kb⟩ := boxed t1.b0 (.int .i64 R) (.slice A n c) (.bool dn) (.int .i64 fl) (.bool lt) (.int .i64 ac) (.int .i64 pt)
  have k1 : W1.heap[w.heap.size + 1]? = some rc0 := (kk _ (by omega)).trans t1.b1
  have BW := Lib.hid (kb _ _ (below_go B0.out hb1) (Nat.le_refl _))
  have TW := Lib.hid (Two.mk k0 k1)
  have HW := Lib.hid hW1
  have RW := Lib.hid (HR.out.below BW.out)
  have hsz : w.heap.size + 1 < W1.heap.size := (Array.getElem?_eq_some_iff.1 k1).1
  clear C T0 B0 hb1 t1 kk ks kb k0 k1 hW1
  go_wp2_with fail
  rw [HW.out]
  clear y0 y1 y2 y3 y4 y5 y6 f0 f1 f2 f3 f4 f5 f6 hg0 HW
  obtain ⟨y0, y1, y2, y3, y4, y5, y6, f0, f1, f2, f3, f4, f5, f6, hg0⟩ := look7 (TW.out).b0
  have CF := Lib.hid (rfind_any W1 R A n c dn fl lt ac pt L s HL.out RW.out.fls hn)
  go_wp2_with fail
  refine CF.out.mono ?_
  intro e w2 hF
  obtain ⟨h1, hb2⟩ := hF
  have BW2 := Lib.hid (below_go BW.out hb2)
  have T2 := TW.out.below hb2 hsz
  have TW2 := Lib.hid T2
  have hsz2 : w.heap.size + 1 < w2.heap.size := by have := hb2.size; omega
  clear CF hb2 T2 TW y0 y1 y2 y3 y4 y5 y6 f0 f1 f2 f3 f4 f5 f6 hg0
  have h2 : ∃ i : Nat, i < n ∧ e = .returned (.int .i64 (i : Int)) ∧ (L.getD i rz).f = f := by
    rcases h1 with ⟨i, hi, he, hx⟩ | ⟨he, hx⟩
    · refine ⟨i, hi, he, ?_⟩
      rw [hf] at hx
      injection hx with hx
      exact hx.symm
    · rw [hf] at hx; cases hx
  obtain ⟨i, hi, rfl, hfi⟩ := h2
  have hiL : i < L.length := by rw [HL.out]; exact hi
  obtain ⟨b, off, rfl, x0, x1, x2⟩ := (HR.out.fls.below BW2.out) i hiL
  have hrm := getD_inR L i hiL
  obtain ⟨r, hri⟩ : ∃ r, L.getD i rz = r := ⟨_, rfl⟩
  rw [hri] at x0 x1 x2 hfi hrm
  subst hfi
  have hnm0 : r.f.nm = s := (fnd_mem hf).2
  rw [hnm0] at x0
  have HNM := Lib.hid hnm0
  clear hnm0
  have HD := Lib.hid (HR.out.hdr r hrm)
  have HM := Lib.hid hrm
  obtain ⟨y0, y1, y2, y3, y4, y5, y6, f0, f1, f2, f3, f4, f5, f6, hg0⟩ := look7 (TW2.out).b0
  have hbl : b < w2.heap.size := World.block_lt_of_cell? _ _ x0
  have hi' : (i : Int) < (n : Int) := by omega
  have hi0 : (0 : Int) ≤ (i : Int) := by omega
  clear h1 hf RW hri hrm hiL
  have b3 := below_alloc w2 (.cells #[.string s, .slice r.A r.f.bs.length r.c, .int .i64 (r.f.sf : Int)] 43)
  obtain ⟨W3, hW3⟩ : ∃ W3, w2.alloc (.cells #[.string s, .slice r.A r.f.bs.length r.c, .int .i64 (r.f.sf : Int)] 43) = W3 := ⟨_, rfl⟩
  have x3 : W3.heap[w2.heap.size]? = some (.cells #[.string s, .slice r.A r.f.bs.length r.c, .int .i64 (r.f.sf : Int)] 43) := by rw [← hW3]; exact heap_alloc_new w2 _
  have t3 := TW2.out.below b3 hsz2
  have b4 := below_go BW2.out b3
  have hz3 : w2.heap.size < W3.heap.size := by rw [← hW3]; simp
  rw [hW3] at t3 b4
  have HW3 := Lib.hid hW3
  have T3 := Lib.hid t3
  have B3 := Lib.hid b4
  have X3 := Lib.hid x3
  clear b3 t3 b4 hW3 x3 BW2 TW2
  have CN := Lib.hid (fun W => rnamed_any s W hs)
  rw [hnm] at CN
  go_wp2_with fail
  rw [HW3.out]
  refine (CN.out _).mono ?_
  rintro e w9 ⟨rfl, rfl⟩
  clear CN HW3 y0 y1 y2 y3 y4 y5 y6 f0 f1 f2 f3 f4 f5 f6 hg0 x0 x1 x2
  have hsz3 : w.heap.size + 1 < W3.heap.size := (Array.getElem?_eq_some_iff.1 T3.out.b1).1
  have SN : Hid (∀ W, Below W3.heap.size W3 W → W.cell? ⟨w.heap.size, 0, none⟩ = some (.int .i64 R) ∧ W.cell? ⟨w.heap.size, 1, none⟩ = some (.slice (some ⟨b, off, none⟩) n c) ∧ W.cell? ⟨w.heap.size, 2, none⟩ = some (.bool dn) ∧ W.cell? ⟨w.heap.size, 3, none⟩ = some (.int .i64 fl) ∧ W.cell? ⟨w.heap.size, 4, none⟩ = some (.bool lt) ∧ W.cell? ⟨w.heap.size, 5, none⟩ = some (.int .i64 ac) ∧ W.cell? ⟨w.heap.size, 6, none⟩ = some (.int .i64 pt)) := Lib.hid (fun W hW => by
    have t5 := T3.out.below hW hsz3
    obtain ⟨p0, p1, p2, p3, p4, p5, p6, -⟩ := look7 t5.b0
    exact ⟨p0, p1, p2, p3, p4, p5, p6⟩)
  have CU := Lib.hid (rused_any W3.drew R (some ⟨b, off, none⟩) n c dn fl lt ac pt L HL.out (HR.out.fls.below B3.out.drew) (by omega) hn)
  have hU := Lib.hid hu
  obtain ⟨u, hue⟩ : ∃ u, usd (fls L) = u := ⟨_, rfl⟩
  rw [hue] at CU hsize hu
  clear hue
  go_wp2_with fail
  have hdec : decide (R - (u : Int) < (k : Int)) = false := by simpa using hsize
  have hwr : IntKind.i64.wrap (R - (u : Int)) = R - (u : Int) := IntWalk.i64_in _ ⟨by omega, by omega⟩
  refine wp_region_noPanic ?_
  refine wp_region_held_drew (S := fun W => W.cell? ⟨w.heap.size, 0, none⟩ = some (.int .i64 R) ∧ W.cell? ⟨w.heap.size, 1, none⟩ = some (.slice (some ⟨b, off, none⟩) n c) ∧ W.cell? ⟨w.heap.size, 2, none⟩ = some (.bool dn) ∧ W.cell? ⟨w.heap.size, 3, none⟩ = some (.int .i64 fl) ∧ W.cell? ⟨w.heap.size, 4, none⟩ = some (.bool lt) ∧ W.cell? ⟨w.heap.size, 5, none⟩ = some (.int .i64 ac) ∧ W.cell? ⟨w.heap.size, 6, none⟩ = some (.int .i64 pt)) (by kernel_rfl) (SN.out _ (Below.refl _ W3).drew) (fun hHeld => ?_)
  refine wpAnyH_take (i := 0) (v := ?_) rfl (by kernel_rfl) (by kernel_rfl) (by kernel_rfl) (fun _ _ _ h => h) (Or.inl ⟨by rfl, ?_⟩) (by assumption) ?_
  rotate_left
  · (intro W hSw; simp only [List.getElem_toArray, List.getElem_cons_succ, List.getElem_cons_zero]; (try dsimp only at hSw); go_simp; with_reducible rfl)
  simp only [List.getElem_toArray, List.getElem_cons_succ, List.getElem_cons_zero, Act.put, List.setIfInBounds_toArray, List.set_cons_zero, List.set_cons_succ]
  refine wpAnyH_take (i := 1) (v := ?_) rfl (by kernel_rfl) (by kernel_rfl) (by kernel_rfl) (fun _ _ _ h => h) (Or.inl ⟨by rfl, ?_⟩) (by assumption) ?_
  rotate_left
  · (intro W hSw; simp only [List.getElem_toArray, List.getElem_cons_succ, List.getElem_cons_zero]; (try dsimp only at hSw); go_simp; with_reducible rfl)
  simp only [List.getElem_toArray, List.getElem_cons_succ, List.getElem_cons_zero, Act.put, List.setIfInBounds_toArray, List.set_cons_zero, List.set_cons_succ]
  refine wpAnyH_take (i := 2) (v := ?_) rfl (by kernel_rfl) (by kernel_rfl) (by kernel_rfl) (fun _ _ _ h => h) (Or.inl ⟨by rfl, ?_⟩) (by assumption) ?_
  rotate_left
  · (intro W hSw; simp only [List.getElem_toArray, List.getElem_cons_succ, List.getElem_cons_zero]; (try dsimp only at hSw); go_simp; with_reducible rfl)
  simp only [List.getElem_toArray, List.getElem_cons_succ, List.getElem_cons_zero, Act.put, List.setIfInBounds_toArray, List.set_cons_zero, List.set_cons_succ]
  refine wpAnyH_take (i := 3) (v := ?_) rfl (by kernel_rfl) (by kernel_rfl) (by kernel_rfl) (fun _ _ _ h => h) (Or.inl ⟨by rfl, ?_⟩) (by assumption) ?_
  rotate_left
  · (intro W hSw; simp only [List.getElem_toArray, List.getElem_cons_succ, List.getElem_cons_zero]; (try dsimp only at hSw); go_simp; with_reducible rfl)
  simp only [List.getElem_toArray, List.getElem_cons_succ, List.getElem_cons_zero, Act.put, List.setIfInBounds_toArray, List.set_cons_zero, List.set_cons_succ]
  refine wpAnyH_take (i := 4) (v := ?_) rfl (by kernel_rfl) (by kernel_rfl) (by kernel_rfl) (fun _ _ _ h => h) (Or.inl ⟨by rfl, ?_⟩) (by assumption) ?_
  rotate_left
  · (intro W hSw; simp only [List.getElem_toArray, List.getElem_cons_succ, List.getElem_cons_zero]; (try dsimp only at hSw); go_simp; with_reducible rfl)
  simp only [List.getElem_toArray, List.getElem_cons_succ, List.getElem_cons_zero, Act.put, List.setIfInBounds_toArray, List.set_cons_zero, List.set_cons_succ]
  refine wpAnyH_ready (rs := [5]) (by kernel_rfl) (by simp) ?_
  refine AllReadyH.cons rfl (fun K hK => ?_) AllReadyH.nil
  (try simp only [List.getElem_toArray, List.getElem_cons_succ, List.getElem_cons_zero])
  go_simp
  (with_reducible refine Calls.mono CU.out ?_)
  rintro e wU ⟨rfl, bU⟩
  have bU' := below_go (Below.refl _ W3).drew bU
  refine hK.out _ _ (SN.out _ bU') (fun hHeld2 => ?_)
  clear hK K hHeld CU
  (try simp only [Act.put, List.setIfInBounds_toArray, List.set_cons_zero, List.set_cons_succ])
  refine wpAnyH_take (i := 6) (v := ?_) rfl (by kernel_rfl) (by kernel_rfl) (by kernel_rfl) (fun _ _ _ h => h) (Or.inl ⟨by rfl, ?_⟩) (by assumption) ?_
  rotate_left
  · (intro W hSw; simp only [List.getElem_toArray, List.getElem_cons_succ, List.getElem_cons_zero]; (try dsimp only at hSw); go_simp; with_reducible rfl)
  simp only [List.getElem_toArray, List.getElem_cons_succ, List.getElem_cons_zero, Act.put, List.setIfInBounds_toArray, List.set_cons_zero, List.set_cons_succ]
  refine wpAnyH_take (i := 7) (v := ?_) rfl (by kernel_rfl) (by kernel_rfl) (by kernel_rfl) (fun _ _ _ h => h) (Or.inl ⟨by rfl, ?_⟩) (by assumption) ?_
  rotate_left
  · (intro W hSw; simp only [List.getElem_toArray, List.getElem_cons_succ, List.getElem_cons_zero]; (try dsimp only at hSw); go_simp; with_reducible rfl)
  simp only [List.getElem_toArray, List.getElem_cons_succ, List.getElem_cons_zero, Act.put, List.setIfInBounds_toArray, List.set_cons_zero, List.set_cons_succ]
  refine wpAnyH_take (i := 8) (v := ?_) rfl (by kernel_rfl) (by kernel_rfl) (by kernel_rfl) (fun _ _ _ h => h) (Or.inl ⟨by rfl, ?_⟩) (by assumption) ?_
  rotate_left
  · (intro W hSw; simp only [List.getElem_toArray, List.getElem_cons_succ, List.getElem_cons_zero]; (try dsimp only at hSw); go_simp; with_reducible rfl)
  simp only [List.getElem_toArray, List.getElem_cons_succ, List.getElem_cons_zero, Act.put, List.setIfInBounds_toArray, List.set_cons_zero, List.set_cons_succ]
  refine wpAnyH_take (i := 9) (v := ?_) rfl (by kernel_rfl) (by kernel_rfl) (by kernel_rfl) (fun _ _ _ h => h) (Or.inl ⟨by rfl, ?_⟩) (by assumption) ?_
  rotate_left
  · (intro W hSw; simp only [List.getElem_toArray, List.getElem_cons_succ, List.getElem_cons_zero]; (try dsimp only at hSw); go_simp; with_reducible rfl)
  simp only [List.getElem_toArray, List.getElem_cons_succ, List.getElem_cons_zero, Act.put, List.setIfInBounds_toArray, List.set_cons_zero, List.set_cons_succ]
  refine wpAnyH_take (i := 10) (v := ?_) rfl (by kernel_rfl) (by kernel_rfl) (by kernel_rfl) (fun _ _ _ h => h) (Or.inl ⟨by rfl, ?_⟩) (by assumption) ?_
  rotate_left
  · (intro W hSw; simp only [List.getElem_toArray, List.getElem_cons_succ, List.getElem_cons_zero]; (try dsimp only at hSw); go_simp; with_reducible rfl)
  simp only [List.getElem_toArray, List.getElem_cons_succ, List.getElem_cons_zero, Act.put, List.setIfInBounds_toArray, List.set_cons_zero, List.set_cons_succ]
  refine wpAnyH_take (i := 11) (v := ?_) rfl (by kernel_rfl) (by kernel_rfl) (by kernel_rfl) (fun _ _ _ h => h) (Or.inl ⟨by rfl, ?_⟩) (by assumption) ?_
  rotate_left
  · (intro W hSw; simp only [List.getElem_toArray, List.getElem_cons_succ, List.getElem_cons_zero]; (try dsimp only at hSw); go_simp; with_reducible rfl)
  simp only [List.getElem_toArray, List.getElem_cons_succ, List.getElem_cons_zero, Act.put, List.setIfInBounds_toArray, List.set_cons_zero, List.set_cons_succ]
  refine wpAnyH_take (i := 12) (v := undef) rfl (by kernel_rfl) (by kernel_rfl) (by kernel_rfl) (fun _ _ _ h => h) (Or.inr ⟨by rfl, rfl⟩) (by assumption) ?_
  simp only [List.getElem_toArray, List.getElem_cons_succ, List.getElem_cons_zero, Act.put, List.setIfInBounds_toArray, List.set_cons_zero, List.set_cons_succ]
  refine wpAnyH_take (i := 13) (v := undef) rfl (by kernel_rfl) (by kernel_rfl) (by kernel_rfl) (fun _ _ _ h => h) (Or.inr ⟨by rfl, rfl⟩) (by assumption) ?_
  simp only [List.getElem_toArray, List.getElem_cons_succ, List.getElem_cons_zero, Act.put, List.setIfInBounds_toArray, List.set_cons_zero, List.set_cons_succ]
  refine wpAnyH_take (i := 14) (v := undef) rfl (by kernel_rfl) (by kernel_rfl) (by kernel_rfl) (fun _ _ _ h => h) (Or.inr ⟨by rfl, rfl⟩) (by assumption) ?_
  simp only [List.getElem_toArray, List.getElem_cons_succ, List.getElem_cons_zero, Act.put, List.setIfInBounds_toArray, List.set_cons_zero, List.set_cons_succ]
  refine wpAnyH_take (i := 15) (v := undef) rfl (by kernel_rfl) (by kernel_rfl) (by kernel_rfl) (fun _ _ _ h => h) (Or.inr ⟨by rfl, rfl⟩) (by assumption) ?_
  simp only [List.getElem_toArray, List.getElem_cons_succ, List.getElem_cons_zero, Act.put, List.setIfInBounds_toArray, List.set_cons_zero, List.set_cons_succ]
  refine wpAnyH_take (i := 16) (v := ?_) rfl (by kernel_rfl) (by kernel_rfl) (by kernel_rfl) (fun _ _ _ h => h) (Or.inl ⟨by rfl, ?_⟩) (by assumption) ?_
  rotate_left
  · (intro W hSw; simp only [List.getElem_toArray, List.getElem_cons_succ, List.getElem_cons_zero]; (try dsimp only at hSw); go_simp; with_reducible rfl)
  simp only [List.getElem_toArray, List.getElem_cons_succ, List.getElem_cons_zero, Act.put, List.setIfInBounds_toArray, List.set_cons_zero, List.set_cons_succ]
  refine wpAnyH_take (i := 17) (v := ?_) rfl (by kernel_rfl) (by kernel_rfl) (by kernel_rfl) (fun _ _ _ h => h) (Or.inl ⟨by rfl, ?_⟩) (by assumption) ?_
  rotate_left
  · (intro W hSw; simp only [List.getElem_toArray, List.getElem_cons_succ, List.getElem_cons_zero]; (try dsimp only at hSw); go_simp; with_reducible rfl)
  simp only [List.getElem_toArray, List.getElem_cons_succ, List.getElem_cons_zero, Act.put, List.setIfInBounds_toArray, List.set_cons_zero, List.set_cons_succ]
  refine wpAnyH_done (by kernel_rfl) ?_ _
  refine NoPanic.normal ?_
  have TU := Lib.hid (T3.out.below bU' hsz3)
  have BU := Lib.hid (below_go B3.out bU')
  have XU := Lib.hid ((bU'.block w2.heap.size hz3).trans X3.out)
  have hszU : w.heap.size + 1 < wU.heap.size := by have := bU'.size; omega
  have hzU : w2.heap.size < wU.heap.size := by have := bU'.size; omega
  clear SN hHeld2 hdec hwr bU bU' T3 B3 X3
  have hq : r.f.bs.length ≤ 900000 := by
    have := usd_mem (l := fls L) (f := r.f) (List.mem_map.2 ⟨r, HM.out, rfl⟩); have := hU.out; omega
  have ba := below_alloc wU (.cells #[] 5)
  have OE := Lib.hid (Own.empty wU)
  have BE := Lib.hid (below_go BU.out ba)
  have YE := Lib.hid ((HD.out.1.below BE.out))
  have RX := Lib.hid (show ∀ c ∈ r.f.bs, 0 ≤ c ∧ c < 256 from HD.out.1.2)
  have LL := Lib.hid HBL.out
  have hu3 : wU.heap.size ≤ (wU.alloc (.cells #[] 5)).heap.size := by simp
  obtain ⟨x0, x1, x2, g0, g1, g2, -⟩ := look3 XU.out
  clear ba
  have tok : True := trivial
  have F5 : Hid (∀ w5, Below wU.heap.size (wU.alloc (.cells #[] 5)) w5 → Below w.heap.size w w5 ∧ wU.heap.size ≤ w5.heap.size) := Lib.hid (fun w5 h5 => ⟨BE.out.trans (h5.mono (by have := BU.out.size; omega)), by have := h5.size; omega⟩)
  have hne1 : w.heap.size ≠ w2.heap.size := by omega
  have hne2 : w.heap.size + 1 ≠ w2.heap.size := by omega
  have F6 : Hid (∀ w6, Below wU.heap.size (wU.alloc (.cells #[] 5)) w6 → Two w6 w.heap.size R (some ⟨b, off, none⟩) n c dn fl lt ac pt ∧ w6.heap[w2.heap.size]? = some (.cells #[.string s, .slice r.A r.f.bs.length r.c, .int .i64 (r.f.sf : Int)] 43)) := Lib.hid (fun w6 h6 => by
    have b6 := below_go (Below.refl _ wU) (below_alloc wU (.cells #[] 5))
    have b7 : Below wU.heap.size wU w6 := b6.trans h6
    exact ⟨TU.out.below b7 hszU, (b7.block _ hzU).trans XU.out⟩)
  go_wp2_with (first
    | (at_builtin; have _t := tok; refine wp_app _ _ _ rfl rfl wU.heap.size _ [] rfl OE.out r.A (r.f.bs.length) r.c r.f.bs rfl rfl YE.out HD.out.2.2 (by simp) (r.f.bs.length) (by simp) (by omega) hu3 ?_; intro A5 c5 w5 hO5 hY5 hb5; have K5 := Lib.hid (And.intro (show Own w5 wU.heap.size (.slice A5 (r.f.bs.length) c5) r.f.bs from by simpa using hO5) hb5); have b5 := (F5.out w5 hb5).1; have s5 := (F5.out w5 hb5).2; have Y5 := Lib.hid (HBB.out.below b5); obtain ⟨q0, q1, q2, j0, j1, j2, hz5⟩ := look3 (F6.out w5 hb5).2; clear tok _t hO5 hY5 hb5 b5)
    | (at_builtin; refine wp_app _ _ _ rfl rfl wU.heap.size _ r.f.bs rfl K5.out.1 Ab (k) cb bb rfl LL.out Y5.out HBZ.out RX.out (r.f.bs.length + k) (by rw [List.length_append, LL.out]) (by omega) s5 ?_; intro A6 c6 w6 hO6 hY6 hb6; have hb7 := K5.out.2.trans hb6; have K6 := Lib.hid (And.intro hO6 (And.intro hY6 hb7)); have f6 := F6.out w6 hb7; obtain ⟨y0, y1, y2, y3, y4, y5, y6, -⟩ := look7 f6.1.b0; obtain ⟨u0, u1, u2, e0, e1, e2, hz6⟩ := look3 f6.2; clear hO6 hY6 hb6 hb7 f6))
  have hln : (r.f.bs ++ bb).length = (r.f.bs.length + k) := by rw [List.length_append, LL.out]
  have a6 := K6.out.1.addr
  have t6 := (F6.out w6 K6.out.2.2).1
  have b6 := F5.out w6 K6.out.2.2
  have T7 : Two (w6.setCell ⟨w2.heap.size, 1, none⟩ (.slice A6 (r.f.bs.length + k) c6)) w.heap.size R (some ⟨b, off, none⟩) n c dn fl lt ac pt := ⟨(heap_setCell_other w6 ⟨w2.heap.size, 1, none⟩ w.heap.size _ (by show w.heap.size ≠ w2.heap.size; omega)).trans t6.b0, (heap_setCell_other w6 ⟨w2.heap.size, 1, none⟩ (w.heap.size + 1) _ (by show w.heap.size + 1 ≠ w2.heap.size; omega)).trans t6.b1⟩
  have B7 : Below w.heap.size w (w6.setCell ⟨w2.heap.size, 1, none⟩ (.slice A6 (r.f.bs.length + k) c6)) := b6.1.setCell (p := ⟨w2.heap.size, 1, none⟩) (by show w.heap.size ≤ w2.heap.size; omega) _
  have Y7 : Byt (w6.setCell ⟨w2.heap.size, 1, none⟩ (.slice A6 (r.f.bs.length + k) c6)) A6 (r.f.bs ++ bb) := K6.out.2.1.blk (fun x e => heap_setCell_other w6 ⟨w2.heap.size, 1, none⟩ x.block _ (by have := (a6 x e).1; show x.block ≠ w2.heap.size; omega))
  have hs7 : w.heap.size + 1 < (w6.setCell ⟨w2.heap.size, 1, none⟩ (.slice A6 (r.f.bs.length + k) c6)).heap.size := by have := b6.2; simp; omega
  have CW : Hid (Calls Try.prog 43 #[.agg #[.int .i64 R, .slice (some ⟨b, off, none⟩) n c, .bool dn, .int .i64 fl, .bool lt, .int .i64 ac, .int .i64 pt], .agg #[.string s, .slice A6 (r.f.bs.length + k) c6, .int .i64 (r.f.sf : Int)]] (w6.setCell ⟨w2.heap.size, 1, none⟩ (.slice A6 (r.f.bs.length + k) c6)) (RRow (w6.setCell ⟨w2.heap.size, 1, none⟩ (.slice A6 (r.f.bs.length + k) c6)) R dn fl lt ac pt (rwi L ⟨⟨s, r.f.bs ++ bb, r.f.sf⟩, A6, c6⟩))) := by
    have := rwith_any (w6.setCell ⟨w2.heap.size, 1, none⟩ (.slice A6 (r.f.bs.length + k) c6)) R (some ⟨b, off, none⟩) n c dn fl lt ac pt L ⟨⟨s, r.f.bs ++ bb, r.f.sf⟩, A6, c6⟩ HL.out (HR.out.fls.below B7) hn
    simp only at this
    rw [hln] at this
    exact this
  have LC := Lib.hid (show (r.f.bs.length + k) ≤ c6 ∧ (A6 = none → c6 = 0) from ⟨by have := K6.out.1.le (by rw [List.length_append, LL.out]); omega, K6.out.1.capz⟩)
  have HLN := Lib.hid hln
  have HA6 := Lib.hid (And.intro a6 b6.2)
  have HT7 := Lib.hid T7
  have HB7 := Lib.hid B7
  have HY7 := Lib.hid Y7
  clear hln a6 t6 b6 T7 B7 Y7 y0 y1 y2 y3 y4 y5 y6 u0 u1 u2 e0 e1 e2 q0 q1 q2 j0 j1 j2 x0 x1 x2 g0 g1 g2 F5 F6 K6 K5 OE YE BE
  refine CW.out.mono ?_
  rintro e w8 ⟨A4, n4, c4, rfl, hl4, ho4, hb4⟩
  have t8 := HT7.out.below hb4 hs7
  obtain ⟨y0, y1, y2, y3, y4, y5, y6, f0, f1, f2, f3, f4, f5, f6, hg0⟩ := look7 t8.b0
  obtain ⟨W9, hW9, k0, kk, ks, kb⟩ := boxed t8.b0 (.int .i64 R) (.slice A4 n4 c4) (.bool dn) (.int .i64 fl) (.bool lt) (.int .i64 ac) (.int .i64 pt)
  have k1 : W9.heap[w.heap.size + 1]? = some rc0 := (kk _ (by omega)).trans t8.b1
  have B9 := kb _ _ (below_go HB7.out hb4) (Nat.le_refl _)
  have O9 : OwnF W9 (w6.setCell ⟨w2.heap.size, 1, none⟩ (.slice A6 (r.f.bs.length + k) c6)).heap.size (.slice A4 n4 c4) (rwi L ⟨⟨s, r.f.bs ++ bb, r.f.sf⟩, A6, c6⟩) := ho4.same (fun j hj _ => kk j (by omega))
  have Y9 : Byt W9 A6 (r.f.bs ++ bb) := (HY7.out.below hb4).blk (fun x e => kk x.block (by have := (HA6.out.1 x e).1; omega))
  have s9 : (w6.setCell ⟨w2.heap.size, 1, none⟩ (.slice A6 (r.f.bs.length + k) c6)).heap.size ≤ W9.heap.size := by have := hb4.size; omega
  have HW9 := Lib.hid hW9
  have K9 := Lib.hid (And.intro k0 (And.intro k1 (And.intro B9 (And.intro O9 (And.intro Y9 (And.intro s9 hl4))))))
  clear hW9 k0 k1 kk ks kb t8 hb4 ho4 hl4 CW B9 O9 Y9 s9 HT7 HB7 HY7
  go_wp2_with fail
  rw [HW9.out]
  clear y0 y1 y2 y3 y4 y5 y6 f0 f1 f2 f3 f4 f5 f6 hg0 HW9
  obtain ⟨y0, y1, y2, y3, y4, y5, y6, f0, f1, f2, f3, f4, f5, f6, hg0⟩ := look7 K9.out.1
  obtain ⟨z0, z1, z2, z3, z4, z5, z6, e0, e1, e2, e3, e4, e5, e6, hg1⟩ := look7 K9.out.2.1
  have FIN := Lib.hid (fun W5 hW5 => ract_fin (A := (some ⟨b, off, none⟩)) (L := L) K9.out.2.1 K9.out.2.2.1 K9.out.2.2.2.1 hs7 K9.out.2.2.2.2.2.2 (fun W5 b5 hk r' hr' => by
    rcases mem_rwi hr' with rfl | hr'
    · exact ⟨K9.out.2.2.2.2.1.blk (fun x e => hk x.block (by have := (HA6.out.1 x e).1; omega)), by show (r.f.bs ++ bb).length ≤ c6; rw [HLN.out]; exact LC.out.1, LC.out.2⟩
    · exact (HR.out.below b5).hdr r' hr') (fun r' hr' => by
    rcases mem_rwi hr' with rfl | hr'
    · refine .inr (fun x e => ⟨by have := (HA6.out.1 x e).1; omega, ?_⟩)
      have h1 := (HA6.out.1 x e).2
      have h2 := K9.out.2.2.2.2.2.1
      simp at h2
      omega
    · exact .inl ⟨r', hr', rfl⟩) (.int .i64 R) (.slice A4 n4 c4) (.bool dn) (.int .i64 fl) (.bool lt) (.int .i64 ac) (.int .i64 pt) (W5 := W5) hW5)
  go_region
  all_goals
    go_wp2_with fail
    refine bodyPost_ret (v := .tuple #[.int .i64 0, .agg #[.int .i64 R, .slice A4 n4 c4, .bool dn, .int .i64 fl, .bool lt, .int .i64 ac, .int .i64 pt]]) (by simp [results, Try.results23, go_sem, *]) rfl ?_
    obtain ⟨W5, hW5⟩ : ∃ W5, (((((((W9.setCell ⟨w.heap.size + 1, 0, none⟩ (.int .i64 R)).setCell ⟨w.heap.size + 1, 1, none⟩ (.slice A4 n4 c4)).setCell ⟨w.heap.size + 1, 2, none⟩ (.bool dn)).setCell ⟨w.heap.size + 1, 3, none⟩ (.int .i64 fl)).setCell ⟨w.heap.size + 1, 4, none⟩ (.bool lt)).setCell ⟨w.heap.size + 1, 5, none⟩ (.int .i64 ac)).setCell ⟨w.heap.size + 1, 6, none⟩ (.int .i64 pt)) = W5 := ⟨_, rfl⟩
    rw [hW5]
    have FF := FIN.out W5 hW5
    have G1 : Rs W5.drew A4 (rwi L ⟨⟨s, r.f.bs ++ bb, r.f.sf⟩, A6, c6⟩) := FF.1.below ((Below.refl W5.heap.size W5).drew)
    have G2 : Nw w _ L W5.drew A4 (rwi L ⟨⟨s, r.f.bs ++ bb, r.f.sf⟩, A6, c6⟩) := ⟨FF.2.1.a, FF.2.1.h⟩
    exact ⟨A4, n4, c4, rwi L ⟨⟨s, r.f.bs ++ bb, r.f.sf⟩, A6, c6⟩, rfl, fls_rwi L ⟨⟨s, r.f.bs ++ bb, r.f.sf⟩, A6, c6⟩, K9.out.2.2.2.2.2.2, G1, G2, FF.2.2.drew⟩
end Go.Proofs.Ytahjodpaikhhmaa
