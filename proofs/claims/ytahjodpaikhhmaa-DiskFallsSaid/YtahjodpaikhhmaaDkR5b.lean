/- The document's Rename. -/
import Derived.Test.YtahjodpaikhhmaaDkR5
import Derived.Deep.RegionHeld3
namespace Go.Proofs.Ytahjodpaikhhmaa
open Go Go.RowKit
set_option maxRecDepth 20000

theorem rwo_rwi_mem {L : List RF} {s : ByteArray} {r x : RF} (h : x ∈ rwi (rwo L s) r) : x = r ∨ x ∈ L := by
  rcases mem_rwi h with e | e
  · exact .inl e
  · exact .inr (mem_rwo e)
set_option maxHeartbeats 600000 in
theorem rrename_some (w : World) (R : Int) (A : Option Addr) (n c : Nat) (dn0 : Bool) (fl0 : Int) (lt0 : Bool) (ac0 pt0 : Int) (dn : Bool) (fl : Int) (lt : Bool) (ac pt : Int) (HB : ∀ W, Calls Try.prog 40 #[rv R A n c dn0 fl0 lt0 ac0 pt0] W fun e w' => e = .returned (.tuple #[.int .i64 0, .agg #[.int .i64 R, .slice A n c, .bool dn, .int .i64 fl, .bool lt, .int .i64 ac, .int .i64 pt]]) ∧ Below W.heap.size W w') (L : List RF) (hl : L.length = n) (hr : Rs w A L) (hn : n ≤ 1000) (s t : ByteArray) (ht : t.size ≤ maxLen) (hnm : named t = true) (f : Fl) (hf : fnd (fls L) s = some f) :
    Calls Try.prog 25 #[rv R A n c dn0 fl0 lt0 ac0 pt0, .string s, .string t] w (RAct w A L 0 R dn fl lt ac pt (wi (wo (fls L) s) ⟨t, f.bs, f.sf⟩)) := by
  have b0 := below_go (below_alloc w (rc R A n c dn0 fl0 lt0 ac0 pt0)) (below_alloc _ rc0)
  have C := Lib.hid (HB ((w.alloc (rc R A n c dn0 fl0 lt0 ac0 pt0)).alloc rc0))
  have T0 := Lib.hid (two_start w R A n c dn0 fl0 lt0 ac0 pt0)
  have B0 := Lib.hid b0
  have HR := Lib.hid hr
  have HL := Lib.hid hl
  clear HB hr hl b0
  go_enter Try.func25, Try.ntmps25
  go_wp2_with fail
  refine C.out.mono ?_
  rintro e w1 ⟨rfl, hb1⟩
  have t1 := T0.out.below hb1 (by simp)
  obtain ⟨y0, y1, y2, y3, y4, y5, y6, f0, f1, f2, f3, f4, f5, f6, hg0⟩ := look7 t1.b0
  obtain ⟨W1, hW1, k0, kk, ks, kb⟩ := boxed t1.b0 (.int .i64 R) (.slice A n c) (.bool dn) (.int .i64 fl) (.bool lt) (.int .i64 ac) (.int .i64 pt)
  have k1 : W1.heap[w.heap.size + 1]? = some rc0 := (kk _ (by omega)).trans t1.b1
  have BW := Lib.hid (kb _ _ (below_go B0.out hb1) (Nat.le_refl _))
  have TW := Lib.hid (Two.mk k0 k1)
  have HW := Lib.hid hW1
  have RW := Lib.hid (HR.out.below BW.out)
  have hsz : w.heap.size + 1 < W1.heap.size := (Array.getElem?_eq_some_iff.1 k1).1
  clear C T0 B0 hb1 t1 kk ks kb k0 k1 hW1
  go_wp2_with fail
  rw [HW.out]
  clear y0 y1 y2 y3 y4 y5 y6 f0 f1 f2 f3 f4 f5 f6 hg0 HW
  obtain ⟨y0, y1, y2, y3, y4, y5, y6, f0, f1, f2, f3, f4, f5, f6, hg0⟩ := look7 (TW.out).b0
  have CN := Lib.hid (fun W => rnamed_any t W ht)
  rw [hnm] at CN
  refine (CN.out _).mono ?_
  rintro e w9 ⟨rfl, rfl⟩
  clear CN
  go_wp2_with fail
  clear y0 y1 y2 y3 y4 y5 y6 f0 f1 f2 f3 f4 f5 f6 hg0
  obtain ⟨y0, y1, y2, y3, y4, y5, y6, f0, f1, f2, f3, f4, f5, f6, hg0⟩ := look7 (TW.out).b0
  have CF := Lib.hid (rfind_any W1 R A n c dn fl lt ac pt L s HL.out RW.out.fls hn)
  refine CF.out.mono ?_
  intro e w2 hF
  obtain ⟨h1, hb2⟩ := hF
  have BW2 := Lib.hid (below_go BW.out hb2)
  have T2 := TW.out.below hb2 hsz
  have TW2 := Lib.hid T2
  have hsz2 : w.heap.size + 1 < w2.heap.size := by have := hb2.size; omega
  clear CF hb2 T2 TW y0 y1 y2 y3 y4 y5 y6 f0 f1 f2 f3 f4 f5 f6 hg0
  have h2 : ∃ i : Nat, i < n ∧ e = .returned (.int .i64 (i : Int)) ∧ (L.getD i rz).f = f := by
    rcases h1 with ⟨i, hi, he, hx⟩ | ⟨he, hx⟩
    · refine ⟨i, hi, he, ?_⟩
      rw [hf] at hx
      injection hx with hx
      exact hx.symm
    · rw [hf] at hx; cases hx
  obtain ⟨i, hi, rfl, hfi⟩ := h2
  have hiL : i < L.length := by rw [HL.out]; exact hi
  obtain ⟨b, off, rfl, x0, x1, x2⟩ := (HR.out.fls.below BW2.out) i hiL
  have hrm := getD_inR L i hiL
  obtain ⟨r, hri⟩ : ∃ r, L.getD i rz = r := ⟨_, rfl⟩
  rw [hri] at x0 x1 x2 hfi hrm
  subst hfi
  have HD := Lib.hid (HR.out.hdr r hrm)
  have HM := Lib.hid hrm
  obtain ⟨y0, y1, y2, y3, y4, y5, y6, f0, f1, f2, f3, f4, f5, f6, hg0⟩ := look7 (TW2.out).b0
  have hbl : b < w2.heap.size := World.block_lt_of_cell? _ _ x0
  have hi' : (i : Int) < (n : Int) := by omega
  have hi0 : (0 : Int) ≤ (i : Int) := by omega
  clear h1 hf RW hri hrm hiL
  have b3 := (below_alloc w2 (.cells #[.string t, .slice r.A r.f.bs.length r.c, .int .i64 (r.f.sf : Int)] 43)).drew
  have T3 := TW2.out.below b3 hsz2
  have B3 := below_go BW2.out b3
  have hsz3 : w.heap.size + 1 < (w2.alloc (.cells #[.string t, .slice r.A r.f.bs.length r.c, .int .i64 (r.f.sf : Int)] 43)).drew.heap.size := by show _ < (w2.alloc (.cells #[.string t, .slice r.A r.f.bs.length r.c, .int .i64 (r.f.sf : Int)] 43)).heap.size; simp; omega
  have SN : Hid (∀ W, Below (w2.alloc (.cells #[.string t, .slice r.A r.f.bs.length r.c, .int .i64 (r.f.sf : Int)] 43)).drew.heap.size (w2.alloc (.cells #[.string t, .slice r.A r.f.bs.length r.c, .int .i64 (r.f.sf : Int)] 43)).drew W → W.cell? ⟨w.heap.size, 0, none⟩ = some (.int .i64 R) ∧ W.cell? ⟨w.heap.size, 1, none⟩ = some (.slice (some ⟨b, off, none⟩) n c) ∧ W.cell? ⟨w.heap.size, 2, none⟩ = some (.bool dn) ∧ W.cell? ⟨w.heap.size, 3, none⟩ = some (.int .i64 fl) ∧ W.cell? ⟨w.heap.size, 4, none⟩ = some (.bool lt) ∧ W.cell? ⟨w.heap.size, 5, none⟩ = some (.int .i64 ac) ∧ W.cell? ⟨w.heap.size, 6, none⟩ = some (.int .i64 pt) ∧ W.cell? ⟨w2.heap.size, 0, none⟩ = some (.string t) ∧ W.cell? ⟨w2.heap.size, 1, none⟩ = some (.slice r.A r.f.bs.length r.c) ∧ W.cell? ⟨w2.heap.size, 2, none⟩ = some (.int .i64 (r.f.sf : Int))) := Lib.hid (fun W hW => by
    have t5 := T3.below hW hsz3
    obtain ⟨p0, p1, p2, p3, p4, p5, p6, -⟩ := look7 t5.b0
    have q : ∀ j v, (w2.alloc (.cells #[.string t, .slice r.A r.f.bs.length r.c, .int .i64 (r.f.sf : Int)] 43)).cell? ⟨w2.heap.size, j, none⟩ = some v → W.cell? ⟨w2.heap.size, j, none⟩ = some v := fun j v h => (hW.cell (p := ⟨w2.heap.size, j, none⟩) (World.block_lt_of_cell? _ _ h)).trans h
    exact ⟨p0, p1, p2, p3, p4, p5, p6, q 0 _ (by simp [go_sem]), q 1 _ (by simp [go_sem]), q 2 _ (by simp [go_sem])⟩)
  have S0 := SN.out _ (Below.refl _ _)
  have CO := Lib.hid (rwithout_any (w2.alloc (.cells #[.string t, .slice r.A r.f.bs.length r.c, .int .i64 (r.f.sf : Int)] 43)).drew R (some ⟨b, off, none⟩) n c dn fl lt ac pt L s HL.out (HR.out.fls.below B3) hn)
  have HB3 := Lib.hid B3
  have HT3 := Lib.hid T3
  have NX : Hid (∀ w3 A3 n3 c3, (rwo L s).length = n3 → OwnF w3 (w2.alloc (.cells #[.string t, .slice r.A r.f.bs.length r.c, .int .i64 (r.f.sf : Int)] 43)).drew.heap.size (.slice A3 n3 c3) (rwo L s) → Below (w2.alloc (.cells #[.string t, .slice r.A r.f.bs.length r.c, .int .i64 (r.f.sf : Int)] 43)).drew.heap.size (w2.alloc (.cells #[.string t, .slice r.A r.f.bs.length r.c, .int .i64 (r.f.sf : Int)] 43)).drew w3 →
      Calls Try.prog 43 #[.agg #[.int .i64 R, .slice A3 n3 c3, .bool dn, .int .i64 fl, .bool lt, .int .i64 ac, .int .i64 pt], .agg #[.string t, .slice r.A r.f.bs.length r.c, .int .i64 (r.f.sf : Int)]] w3 (RRow w3 R dn fl lt ac pt (rwi (rwo L s) ⟨⟨t, r.f.bs, r.f.sf⟩, r.A, r.c⟩))) := Lib.hid (fun w3 A3 n3 c3 hl3 ho3 hb3 => by
    obtain ⟨A3', c3', e3, f3, -, -⟩ := ho3.form
    rw [hl3] at e3
    injection e3 with e31 e32 e33
    subst e31
    exact rwith_any w3 R A3 n3 c3 dn fl lt ac pt (rwo L s) ⟨⟨t, r.f.bs, r.f.sf⟩, r.A, r.c⟩ hl3 f3 (by have := rwo_len L s; have := HL.out; omega))
  clear b3 T3 B3 BW2 TW2
  go_wp2_with fail
  refine wp_region_noPanic ?_
  refine wp_region_held_drew (S := fun W => W.cell? ⟨w.heap.size, 0, none⟩ = some (.int .i64 R) ∧ W.cell? ⟨w.heap.size, 1, none⟩ = some (.slice (some ⟨b, off, none⟩) n c) ∧ W.cell? ⟨w.heap.size, 2, none⟩ = some (.bool dn) ∧ W.cell? ⟨w.heap.size, 3, none⟩ = some (.int .i64 fl) ∧ W.cell? ⟨w.heap.size, 4, none⟩ = some (.bool lt) ∧ W.cell? ⟨w.heap.size, 5, none⟩ = some (.int .i64 ac) ∧ W.cell? ⟨w.heap.size, 6, none⟩ = some (.int .i64 pt) ∧ W.cell? ⟨w2.heap.size, 0, none⟩ = some (.string t) ∧ W.cell? ⟨w2.heap.size, 1, none⟩ = some (.slice r.A r.f.bs.length r.c) ∧ W.cell? ⟨w2.heap.size, 2, none⟩ = some (.int .i64 (r.f.sf : Int))) (by kernel_rfl) (S0) (fun hHeld => ?_)
  refine wpAnyH_take (i := 0) (v := ?_) rfl (by kernel_rfl) (by kernel_rfl) (by kernel_rfl) (fun _ _ _ h => h) (Or.inl ⟨by rfl, ?_⟩) (by assumption) ?_
  rotate_left
  · (intro W hSw; simp only [List.getElem_toArray, List.getElem_cons_succ, List.getElem_cons_zero]; (try dsimp only at hSw); go_simp; with_reducible rfl)
  simp only [List.getElem_toArray, List.getElem_cons_succ, List.getElem_cons_zero, Act.put, List.setIfInBounds_toArray, List.set_cons_zero, List.set_cons_succ]
  refine wpAnyH_take (i := 1) (v := ?_) rfl (by kernel_rfl) (by kernel_rfl) (by kernel_rfl) (fun _ _ _ h => h) (Or.inl ⟨by rfl, ?_⟩) (by assumption) ?_
  rotate_left
  · (intro W hSw; simp only [List.getElem_toArray, List.getElem_cons_succ, List.getElem_cons_zero]; (try dsimp only at hSw); go_simp; with_reducible rfl)
  simp only [List.getElem_toArray, List.getElem_cons_succ, List.getElem_cons_zero, Act.put, List.setIfInBounds_toArray, List.set_cons_zero, List.set_cons_succ]
  refine wpAnyH_take (i := 3) (v := ?_) rfl (by kernel_rfl) (by kernel_rfl) (by kernel_rfl) (fun _ _ _ h => h) (Or.inl ⟨by rfl, ?_⟩) (by assumption) ?_
  rotate_left
  · (intro W hSw; simp only [List.getElem_toArray, List.getElem_cons_succ, List.getElem_cons_zero]; (try dsimp only at hSw); go_simp; with_reducible rfl)
  simp only [List.getElem_toArray, List.getElem_cons_succ, List.getElem_cons_zero, Act.put, List.setIfInBounds_toArray, List.set_cons_zero, List.set_cons_succ]
  refine wpAnyH_ready (rs := [2]) (by kernel_rfl) (by simp) ?_
  refine AllReadyH.cons rfl (fun K hK => ?_) AllReadyH.nil
  (try simp only [List.getElem_toArray, List.getElem_cons_succ, List.getElem_cons_zero])
  go_simp
  (with_reducible refine Calls.mono CO.out ?_)
  rintro e w3 ⟨A3, n3, c3, rfl, hl3, ho3, hb3⟩
  have hS3 := SN.out w3 hb3
  have CW := Lib.hid (NX.out w3 A3 n3 c3 hl3 ho3 hb3)
  have K3 := Lib.hid (And.intro hl3 (And.intro ho3 hb3))
  clear hl3 ho3 hb3
  refine hK.out _ _ hS3 (fun hHeld2 => ?_)
  clear hK K hHeld CO NX S0
  (try simp only [Act.put, List.setIfInBounds_toArray, List.set_cons_zero, List.set_cons_succ])
  refine wpAnyH_ready (rs := [4]) (by kernel_rfl) (by simp) ?_
  refine AllReadyH.cons rfl (fun K hK => ?_) AllReadyH.nil
  (try simp only [List.getElem_toArray, List.getElem_cons_succ, List.getElem_cons_zero])
  go_simp
  (with_reducible refine Calls.mono CW.out ?_)
  rintro e w4 ⟨A4, n4, c4, rfl, hl4, ho4, hb4⟩
  have hb5 := below_go K3.out.2.2 hb4
  have hS4 := SN.out w4 hb5
  have t4 := HT3.out.below hb5 hsz3
  obtain ⟨z0, z1, z2, z3, z4, z5, z6, e0, e1, e2, e3, e4, e5, e6, hg1⟩ := look7 t4.b1
  have K4 := Lib.hid (And.intro hl4 (And.intro ho4 (And.intro t4.b1 (And.intro (below_go HB3.out hb5) K3.out.2.2.size))))
  clear hl4 ho4 hb4 hb5 t4 CW SN
  refine hK.out _ _ hS4 (fun hHeld3 => ?_)
  clear hK K hHeld2 hS3
  (try simp only [Act.put, List.setIfInBounds_toArray, List.set_cons_zero, List.set_cons_succ])
  refine wpAnyH_take (i := 5) (v := ?_) rfl (by kernel_rfl) (by kernel_rfl) (by kernel_rfl) (fun _ _ _ h => h) (Or.inl ⟨by rfl, ?_⟩) (by assumption) ?_
  rotate_left
  · (intro W hSw; simp only [List.getElem_toArray, List.getElem_cons_succ, List.getElem_cons_zero]; (try dsimp only at hSw); go_simp; with_reducible rfl)
  simp only [List.getElem_toArray, List.getElem_cons_succ, List.getElem_cons_zero, Act.put, List.setIfInBounds_toArray, List.set_cons_zero, List.set_cons_succ]
  refine wpAnyH_ready (rs := [6]) (by kernel_rfl) (by simp) ?_
  refine AllReadyH.cons rfl (fun K hK => ?_) AllReadyH.nil
  (try simp only [List.getElem_toArray, List.getElem_cons_succ, List.getElem_cons_zero])
  go_simp
  refine hK.out _ _ ?_ (fun hHeld4 => ?_)
  · (refine ⟨?_, ?_, ?_, ?_, ?_, ?_, ?_, ?_, ?_, ?_⟩ <;> simp [go_sem, *])
  clear hK K hHeld3
  (try simp only [Act.put, List.setIfInBounds_toArray, List.set_cons_zero, List.set_cons_succ])
  refine wpAnyH_done (by kernel_rfl) ?_ _
  refine NoPanic.normal ?_
  have FIN := ract_fin (A := some ⟨b, off, none⟩) (L := L) K4.out.2.2.1 K4.out.2.2.2.1 K4.out.2.1 (by have := K4.out.2.2.2.2; omega) K4.out.1 (fun W5 b5 _ r' hr' => by
    rcases rwo_rwi_mem hr' with rfl | hr'
    · exact ⟨HD.out.1.below b5, HD.out.2⟩
    · exact (HR.out.below b5).hdr r' hr') (fun r' hr' => by
    rcases rwo_rwi_mem hr' with rfl | hr'
    · exact .inl ⟨r, HM.out, rfl⟩
    · exact .inl ⟨r', hr', rfl⟩) (.int .i64 R) (.slice A4 n4 c4) (.bool dn) (.int .i64 fl) (.bool lt) (.int .i64 ac) (.int .i64 pt) rfl
  clear hHeld4 hS4 HB3 HT3 x0 x1 x2 y0 y1 y2 y3 y4 y5 y6 f0 f1 f2 f3 f4 f5 f6
  go_wp2_with fail
  exact bodyPost_ret (v := .tuple #[.int .i64 0, .agg #[.int .i64 R, .slice A4 n4 c4, .bool dn, .int .i64 fl, .bool lt, .int .i64 ac, .int .i64 pt]]) (by simp [results, Try.results25, go_sem, *]) rfl ⟨A4, n4, c4, _, rfl, by rw [fls_rwi, fls_rwo], K4.out.1, FIN.1, FIN.2.1, FIN.2.2⟩
end Go.Proofs.Ytahjodpaikhhmaa
