/- The program's Get of what Put wrote. -/
import Derived.Test.YtilgoghnoeohnaaDoorCdZ
import Derived.Test.YtilgoghnoeohnaaDoorCdO
import Derived.Test.YtilgoghnoeohnaaDoorMQ
namespace Go.Proofs.YtilgoghnoeohnaaDoor
open Go Go.RowKit Pk Rl
set_option maxRecDepth 20000

theorem mp_dpt {L : List Nd} {W : Int} (h : mp L W = 0) : dpt 33 L ≤ 8 := by
  unfold mp at h
  by_cases c1 : 32 < L.length
  · rw [if_pos c1] at h; omega
  rw [if_neg c1] at h
  by_cases c2 : (frn L).length < L.length ∨ fmd 33 L = false
  · rw [if_pos c2] at h; omega
  rw [if_neg c2] at h
  by_cases c3 : L.any bad = true
  · rw [if_pos c3] at h; omega
  rw [if_neg c3] at h
  by_cases c4 : 8 < dpt 33 L
  · rw [if_pos c4] at h; omega
  omega
/- what Get answers to what Put wrote -/
def CG (w : World) (W : Int) (L : List Nd) (e : Ending) (w' : World) : Prop :=
  ∃ (A : Option Addr) (k c : Nat) (D : List Nd), e = .returned (.tuple #[ptv A k c W, .int .i64 0]) ∧ Pt w' A k c D ∧ D.map vn = L.map zn ∧ Below w.heap.size w w'
theorem qb_lens {w : World} {B : Nat} {v : Value} {D : List Nd} (h : OwnN w B v D) : ∀ u ∈ D, u.p.L.length = u.p.n ∧ u.g.L.length = u.g.n := fun u hu => ⟨(h.2 u hu).1.len, (h.2 u hu).2.1.len⟩
set_option maxHeartbeats 8000000 in
theorem cget_ok (b off len cap : Nat) (L : List Nd) (W : Nat) (w : World) (hm : mp L (W : Int) = 0) (hN : ∀ v ∈ L, Nfit w v) (hlen : (cwr L W).length = len) (hl : len ≤ 100000) (hc : len ≤ cap) (hb : Byt w (some ⟨b, off, none⟩) (cwr L W)) (hbr : b < w.heap.size) (hT : Tab w) (hW : W < 18446744073709551616) :
    Calls Tryd.prog 9 #[.slice (some ⟨b, off, none⟩) len cap] w fun e w' => CG w (W : Int) L e w' := by
  obtain ⟨hF, _, _⟩ := mp_fit hm
  have hd := mp_dpt hm
  have h33 := hF.len
  have EW : cwr L W = wrt W ++ (wT 33 L ++ []) := by rw [List.append_nil, hF.wr]; rfl
  obtain ⟨w1, hw1⟩ : ∃ X, w.alloc (ptobj none 0 0 0) = X := ⟨_, rfl⟩
  have b1 : Below w.heap.size w w1 := hw1 ▸ below_alloc w _
  have P1 := Lib.hid (show PtB w1 w.heap.size none 0 0 0 from hw1 ▸ PtB.alloc w none 0 0 0)
  have s1 : w1.heap.size = w.heap.size + 1 := by rw [← hw1, World.size_alloc]
  obtain ⟨i, hi⟩ : ∃ i, (wrt W).length = i := ⟨_, rfl⟩
  have G0 := get_any (some ⟨b, off, none⟩) len cap (cwr L W) 0 w1 hlen hl hc (hb.below b1)
  obtain ⟨g1, g2, g3⟩ := got [] (wL L L.length) W hW (cwr L W) rfl 0 rfl
  rw [g1, g2, g3, hi, Int.zero_add] at G0
  have GG := Lib.hid G0
  obtain ⟨w2, hw2⟩ : ∃ X, w1.alloc (.cells #[.slice (some ⟨b, off, none⟩) len cap, .int .i64 (i : Int), .slice none 0 0] 67) = X := ⟨_, rfl⟩
  have b2 : Below w1.heap.size w1 w2 := hw2 ▸ below_alloc w1 _
  have S0 : GS w1 w2 w1.heap.size (w1.heap.size + 1) b off len cap i none 0 0 [] := ⟨by rw [← hw2]; exact heap_alloc_new w1 _, OwnN.nil _ _, rfl, b2, by rw [← hw2, World.size_alloc]; exact Nat.le_refl _⟩
  have RP := Lib.hid (reads_any w1 w1.heap.size (w1.heap.size + 1) b off len cap (cwr L W) (Nat.le_refl _) (Nat.lt_succ_self _) hlen hl hc (hb.below b1) (by omega) (hT.below b1) 33 L 0 hF.bl hF.fm hF.fr (by omega) (fun v hv => (hN v hv).below b1) (Int.le_refl _) (by omega) (wrt W) [] w2 none 0 0 [] EW (by rw [hi]; exact S0) (by omega))
  have EL : (wrt W ++ wT 33 L).length = len := by rw [← hlen, EW, List.append_nil]
  rw [EL] at RP
  have MZ := Lib.hid (fun (D : List Nd) (h : D.map vn = L.map zn) (h1 : ∀ v ∈ D, v.p.L.length = v.p.n ∧ v.g.L.length = v.g.n) => (mp_zn h h1 (fun v hv => ⟨(hN v hv).ok.p.len, (hN v hv).ok.g.len⟩) (W : Int)).trans hm)
  have TM := Lib.hid (fun a n c D w hP hT => tmay_any a n c D (W : Int) w hP hT)
  have B1 := Lib.hid b1
  have HT := Lib.hid hT
  have S1 := Lib.hid s1
  have HW2 := Lib.hid hw2
  have L33 := Lib.hid h33
  clear hm hN hlen hb hT hF hd h33 EW EL b1 s1 G0 g1 g2 g3 hi b2 S0 hw2
  go_enter Tryd.func9, Tryd.ntmps9
  go_upto_region 1 with fail
  clear hw1
  go_wp2_with fail
  refine GG.out.mono ?_
  rintro e w' ⟨rfl, rfl⟩
  clear GG
  go_upto_region 5 with fail
  rw [HW2.out]
  go_wp2_with fail
  refine RP.out.mono ?_
  rintro e w3 ⟨A, k, c, D, rfl, hG, hk, hD⟩
  rw [List.nil_append] at hG
  rw [Nat.zero_add] at hk
  have hgt := hG.rb.cells
  have P3 := Lib.hid (P1.out.below hG.bel (by have := S1.out; omega))
  have hm0 := MZ.out D hD (qb_lens hG.own)
  have b4 := below_alloc w3 (ptobj A k c (W : Int))
  have OW := Lib.hid (hG.own.below b4)
  have BE := Lib.hid (below_go (below_go B1.out hG.bel) b4)
  have T4 := Lib.hid (TM.out A k c D _ ((hG.own.pt hG.len (by have := L33.out; omega)).below b4) (HT.out.below BE.out))
  rw [hm0] at T4
  have HD := Lib.hid hD
  have HK := Lib.hid hG.len
  have z3 : w.heap.size < w3.heap.size := P3.out.lt
  obtain ⟨x0, x1, x2⟩ := hgt
  have z4 : w1.heap.size < w3.heap.size := World.block_lt_of_cell? _ _ x0
  have hk2 : (k : Int) ≤ 33 := by have := L33.out; omega
  clear hG hD hm0 b4 RP MZ TM hk
  have E4 : (w3.alloc (ptobj A k c (W : Int))).heap.size = w3.heap.size + 1 := World.size_alloc _ _
  have y0 : (w3.alloc (ptobj A k c (W : Int))).cell? ⟨w3.heap.size, 0, none⟩ = some (.slice A k c) := (PtB.alloc w3 A k c (W : Int)).c0
  have y1 : (w3.alloc (ptobj A k c (W : Int))).cell? ⟨w3.heap.size, 1, none⟩ = some (.int .u64 (W : Int)) := (PtB.alloc w3 A k c (W : Int)).c1
  have P4 := Lib.hid (P3.out.next (below_alloc w3 (ptobj A k c (W : Int))))
  have Y0 := Lib.hid y0
  have Y1 := Lib.hid y1
  have E4H := Lib.hid E4
  clear y0 y1 E4
  go_wp2_with fail
  refine T4.out.mono ?_
  rintro e w5 ⟨rfl, hb⟩
  have P5 := Lib.hid (P4.out.next hb)
  have O5 := Lib.hid (OW.out.below hb)
  have B5 := Lib.hid (below_go BE.out hb)
  have y0 := (hb.cell (World.block_lt_of_cell? _ _ Y0.out)).trans Y0.out
  have y1 := (hb.cell (World.block_lt_of_cell? _ _ Y1.out)).trans Y1.out
  have z5 : w.heap.size < w5.heap.size := P5.out.lt
  have z6 : w3.heap.size < w5.heap.size := World.block_lt_of_cell? _ _ y0
  have f0 := P5.out.free 0
  have f1 := P5.out.free 1
  have n3 : w3.heap.size ≠ w.heap.size := by omega
  have c0 := P5.out.c0
  have c1 := P5.out.c1
  clear hb T4 x0 x1 x2 Y0 Y1 P4
  go_wp2_with fail
  have OF := Lib.hid ((O5.out.set w.heap.size 0 (by have := S1.out; omega) (.slice A k c)).set w.heap.size 1 (by have := S1.out; omega) (.int .u64 (W : Int)))
  have BF := Lib.hid ((B5.out.setCell (p := ⟨w.heap.size, 0, none⟩) (Nat.le_refl _) (.slice A k c)).setCell (p := ⟨w.heap.size, 1, none⟩) (Nat.le_refl _) (.int .u64 (W : Int)))
  refine bodyPost_ret (v := .tuple #[ptv A k c (W : Int), .int .i64 0]) (by simp [results, Tryd.results9, go_sem, *]) rfl ⟨A, k, c, D, rfl, OF.out.pt HK.out (by omega), HD.out, BF.out⟩
end Go.Proofs.YtilgoghnoeohnaaDoor
