/- Contracts, joined: AuZ, AuY, AuF. -/
import Derived.Test.YtpnllbojifnopaaGreatDoorYB2
import Derived.Test.YtpnllbojifnopaaGreatDoorYB3
import Derived.Test.YtpnllbojifnopaaGreatDoorMY
namespace Go.Proofs.YtpnllbojifnopaaGreatDoor
open Go Go.RowKit Pk Rl
set_option maxRecDepth 20000
structure Top (L : List Nd) : Prop where
  fm : fmd 33 L = true
  fr : frn L = L
  len : L.length ≤ 32
  cn : cnt 33 L ≤ 32
  pl : plc 33 L = (cnt 33 L : Int)
theorem mp_top {L : List Nd} {W : Int} (h : mp L W = 0) : Top L := by
  unfold mp at h
  by_cases c1 : 32 < L.length
  · rw [if_pos c1] at h; omega
  rw [if_neg c1] at h
  by_cases c2 : (frn L).length < L.length ∨ fmd 33 L = false
  · rw [if_pos c2] at h; omega
  rw [if_neg c2] at h
  by_cases c3 : L.any bad = true
  · rw [if_pos c3] at h; omega
  rw [if_neg c3] at h
  by_cases c4 : 8 < dpt 33 L
  · rw [if_pos c4] at h; omega
  rw [if_neg c4] at h
  by_cases c5 : W < 1 ∨ 1048576 < W
  · rw [if_pos c5] at h; omega
  rw [if_neg c5] at h
  by_cases c6 : 32 < plc 33 L
  · rw [if_pos c6] at h; omega
  rw [not_or] at c2
  have h2 : fmd 33 L = true := by simpa using c2.2
  have hne : L ≠ [] := fmd_ne h2
  have hl := frn_len L
  have e : (frn L).length = L.length := by omega
  have hfn : frn L ≠ [] := fun e0 => hne (List.eq_nil_of_length_eq_zero (by rw [← e, e0]; rfl))
  have hfr : frn L = L := by rw [frn_take L hfn, e, List.take_of_length_le (Nat.le_refl _)]
  have hc := au_cn 33 L h2 hfr
  have hd : cnt 33 L ≤ 32 * 8 ^ 8 := Nat.le_trans hc.d (Nat.mul_le_mul (by omega) (Nat.pow_le_pow_right (by omega) (by have := (dpt_pos 33 L).1; omega)))
  have hw : plc 33 L = (cnt 33 L : Int) := by rw [hc.w, wrap_id _ (by omega) (by omega)]
  exact ⟨h2, hfr, by omega, by omega, hw⟩
abbrev autv (Ap : Option Addr) (kp cp : Nat) (a b : Nat) (Ae : Option Addr) (ke ce : Nat) : Value := .agg #[.slice Ap kp cp, .int .u32 (a : Int), .int .u32 (b : Int), .slice Ae ke ce]
def CoN (n : Int) (w : World) (e : Ending) (w' : World) : Prop := e = .returned (.tuple #[autv none 0 0 0 0 none 0 0, .int .i64 n]) ∧ Below w.heap.size w w'
def CoA (s : Res) (w : World) (e : Ending) (w' : World) : Prop := ∃ r Ap kp cp Ae ke ce Ps Es, e = .returned (.tuple #[autv Ap kp cp s.1 s.2.1 Ae ke ce, .int .i64 0]) ∧ Mi w' r Ap kp cp Ae ke ce Ps Es ∧ Ps.map vq = s.2.2.1 ∧ (Es.map ve).Perm s.2.2.2 ∧ Kyl Es ∧ w.heap.size ≤ r ∧ Below w.heap.size w w'
def AB (w : World) (g : Nat) (Ap : Option Addr) (kp cp : Nat) (a b : Int) (Ae : Option Addr) (ke ce : Nat) : Prop := w.heap[g]? = some (.cells #[.slice Ap kp cp, .int .u32 a, .int .u32 b, .slice Ae ke ce] 36 (0, 0))
theorem AB.cells {w : World} {g : Nat} {Ap : Option Addr} {kp cp : Nat} {a b : Int} {Ae : Option Addr} {ke ce : Nat} (h : AB w g Ap kp cp a b Ae ke ce) : w.cell? ⟨g, 0, none⟩ = some (.slice Ap kp cp) ∧ w.cell? ⟨g, 1, none⟩ = some (.int .u32 a) ∧ w.cell? ⟨g, 2, none⟩ = some (.int .u32 b) ∧ w.cell? ⟨g, 3, none⟩ = some (.slice Ae ke ce) ∧ ∀ j, w.frozen? ⟨g, j, none⟩ = false := by
  refine ⟨by rw [cell_of_row w g _ _ _ _ h]; rfl, by rw [cell_of_row w g _ _ _ _ h]; rfl, by rw [cell_of_row w g _ _ _ _ h]; rfl, by rw [cell_of_row w g _ _ _ _ h]; rfl, fun j => ?_⟩
  simp [World.frozen?, AB] at h ⊢
  simp [h]
theorem AB.lt {w : World} {g : Nat} {Ap : Option Addr} {kp cp : Nat} {a b : Int} {Ae : Option Addr} {ke ce : Nat} (h : AB w g Ap kp cp a b Ae ke ce) : g < w.heap.size := (Array.getElem?_eq_some_iff.1 h).1
theorem AB.below {B : Nat} {w w' : World} {g : Nat} {Ap : Option Addr} {kp cp : Nat} {a b : Int} {Ae : Option Addr} {ke ce : Nat} (h : AB w g Ap kp cp a b Ae ke ce) (hb : Below B w w') (hg : g < B) : AB w' g Ap kp cp a b Ae ke ce := by unfold AB; rw [hb.block g hg]; exact h
theorem Mi.low {W : World} {r : Nat} {Ap : Option Addr} {kp cp : Nat} {Ae : Option Addr} {ke ce : Nat} {Ps : List Qu} {Es : List Ed} (h : Mi W r Ap kp cp Ae ke ce Ps Es) (g j : Nat) (hg : g < r) (v : Value) : Mi (W.setCell ⟨g, j, none⟩ v) r Ap kp cp Ae ke ce Ps Es :=
  ⟨by rw [heap_setCell_other W ⟨g, j, none⟩ r v (by show r ≠ g; omega)]; exact h.box,
    row_same h.rp (fun x cur ho hh => by rw [heap_setCell_other W ⟨g, j, none⟩ x v (by have := (World.ownsRow.lt h.rp x ho).1; show x ≠ g; omega)]; exact hh),
    row_same h.re (fun x cur ho hh => by rw [heap_setCell_other W ⟨g, j, none⟩ x v (by have := (World.ownsRow.lt h.re x ho).1; show x ≠ g; omega)]; exact hh), h.lp, h.le,
    fun q hq => ⟨(h.qp q hq).own.setCell g j (by omega) v, (h.qp q hq).len, (h.qp q hq).few, (h.qp q hq).ok⟩, fun d hd => ⟨(h.qe d hd).own.setCell g j (by omega) v, (h.qe d hd).len, (h.qe d hd).few, (h.qe d hd).ok⟩⟩
set_option maxHeartbeats 4000000 in
theorem comp_no (A : Option Addr) (n c : Nat) (L : List Nd) (win : Int) (w : World) (hP : Pt w A n c L) (hT : Tab w) (hm : mp L win ≠ 0) :
    Calls Tryz.prog 14 #[ptv A n c win] w fun e w' => CoN (mp L win) w e w' := by
  obtain ⟨w1, hw1⟩ : ∃ X, (w.alloc (ptobj A n c win)).alloc (.cells #[.slice none 0 0, .int .u32 0, .int .u32 0, .slice none 0 0] 36) = X := ⟨_, rfl⟩
  have b1 : Below w.heap.size w w1 := hw1 ▸ below_go (below_alloc w _) (below_alloc _ _)
  have P0 : PtB w1 w.heap.size A n c win := hw1 ▸ (PtB.alloc w A n c win).next (below_alloc _ _)
  have A0 : AB w1 (w.heap.size + 1) none 0 0 0 0 none 0 0 := by rw [← hw1, ← World.size_alloc w (ptobj A n c win)]; exact heap_alloc_new _ _
  have TM := Lib.hid (tmay_any A n c L win w1 (hP.below b1) (hT.below b1))
  obtain ⟨m, hme⟩ : ∃ z, mp L win = z := ⟨_, rfl⟩
  rw [hme] at TM hm ⊢
  have h1 : (m != 0) = true := by simp [hm]
  have B1 := Lib.hid b1
  have AA := Lib.hid A0
  have k0 := P0.c0
  have k1 := P0.c1
  have zA := A0.lt
  clear hP hT b1 P0 A0 hme
  go_enter Tryz.func14, Tryz.ntmps14
  go_upto_region 1 with fail
  clear hw1
  go_wp2_with fail
  refine TM.out.mono ?_
  rintro e w2 ⟨rfl, hb⟩
  have A2 := Lib.hid (AA.out.below hb zA)
  have B2 := Lib.hid (below_go B1.out hb)
  obtain ⟨a0, a1, a2, a3, af⟩ := A2.out.cells
  have f0 := af 0
  have f1 := af 1
  have f2 := af 2
  have f3 := af 3
  have z2 := A2.out.lt
  have BF := Lib.hid ((((B2.out.setCell (p := ⟨w.heap.size + 1, 0, none⟩) (Nat.le_succ _) (.slice none 0 0)).setCell (p := ⟨w.heap.size + 1, 1, none⟩) (Nat.le_succ _) (.int .u32 0)).setCell (p := ⟨w.heap.size + 1, 2, none⟩) (Nat.le_succ _) (.int .u32 0)).setCell (p := ⟨w.heap.size + 1, 3, none⟩) (Nat.le_succ _) (.slice none 0 0))
  clear hb af TM k0 k1 A2 B2 AA
  go_wp2_with fail
  refine bodyPost_ret (v := .tuple #[autv none 0 0 0 0 none 0 0, .int .i64 m]) (by simp [results, Tryz.results14, go_sem, *]) rfl ⟨rfl, BF.out⟩
end Go.Proofs.YtpnllbojifnopaaGreatDoor
namespace Go.Proofs.YtpnllbojifnopaaGreatDoor
open Go Go.RowKit Pk Rl
set_option maxRecDepth 20000
def CoX (s : Res) (w : World) (e : Ending) (w' : World) : Prop := (64 < s.2.2.2.length ∧ CoN 12 w e w') ∨ (s.2.2.2.length ≤ 64 ∧ CoA s w e w')
set_option maxHeartbeats 8000000 in
theorem comp_yes (A : Option Addr) (n c : Nat) (L : List Nd) (win : Int) (w : World) (hP : Pt w A n c L) (hT : Tab w) (hT5 : Tab5 w) (hm : mp L win = 0) :
    Calls Tryz.prog 14 #[ptv A n c win] w fun e w' => CoX (au 33 L 0) w e w' := by
  obtain ⟨w1, hw1⟩ : ∃ X, (w.alloc (ptobj A n c win)).alloc (.cells #[.slice none 0 0, .int .u32 0, .int .u32 0, .slice none 0 0] 36) = X := ⟨_, rfl⟩
  have b1 : Below w.heap.size w w1 := hw1 ▸ below_go (below_alloc w _) (below_alloc _ _)
  have P0 : PtB w1 w.heap.size A n c win := hw1 ▸ (PtB.alloc w A n c win).next (below_alloc _ _)
  have A0 : AB w1 (w.heap.size + 1) none 0 0 0 0 none 0 0 := by rw [← hw1, ← World.size_alloc w (ptobj A n c win)]; exact heap_alloc_new _ _
  have TM := Lib.hid (tmay_any A n c L win w1 (hP.below b1) (hT.below b1))
  rw [hm] at TM
  have HM := mp_top hm
  have hcn := au_cn 33 L HM.fm HM.fr
  have hPl : (au 33 L 0).2.2.1.length ≤ 32 := by rw [hcn.p 0]; exact HM.cn
  have hEl : (au 33 L 0).2.2.2.length ≤ 1081344 := by
    have h1 := hcn.e 0
    have h2 := HM.cn
    have : 1024 * 33 * cnt 33 L ≤ 1024 * 33 * 32 := Nat.mul_le_mul_left _ h2
    omega
  have AC1 := Lib.hid (fun r (hr : w.heap.size ≤ r) W (hW : Mk W r [] []) (hb : Below w.heap.size w W) => pat_any w r hr hT5 33 L HM.fm HM.fr (by have := HM.len; omega) W A n c [] [] hW hb hP (by simpa using hPl) (by simp only [List.length_nil, Nat.zero_add]; omega))
  simp only [List.length_nil] at AC1
  obtain ⟨S, hS⟩ : ∃ S, au 33 L 0 = S := ⟨_, rfl⟩
  rw [hS] at AC1 hEl ⊢
  obtain ⟨s1, s2, sP, sE⟩ := S
  simp only at hEl
  have B1 := Lib.hid b1
  have AA := Lib.hid A0
  have PP := Lib.hid P0
  have k0 := P0.c0
  have k1 := P0.c1
  have zA := A0.lt
  clear hP hT hT5 b1 P0 A0 hm hS hcn hPl HM
  go_enter Tryz.func14, Tryz.ntmps14
  go_upto_region 1 with fail
  clear hw1
  go_wp2_with fail
  refine TM.out.mono ?_
  rintro e w2 ⟨rfl, hb⟩
  have zA2 : w.heap.size + 1 < w2.heap.size := Nat.lt_of_lt_of_le zA hb.size
  have n3 := below_alloc w2 (.cells #[.slice none 0 0, .slice none 0 0] 119)
  have A3 := Lib.hid ((AA.out.below hb zA).below n3 zA2)
  have P3 := Lib.hid ((PP.out.next hb).next n3)
  have B3 := Lib.hid (below_go (below_go B1.out hb) n3)
  have M3 := Lib.hid (show Mk (w2.alloc (.cells #[.slice none 0 0, .slice none 0 0] 119)) w2.heap.size [] [] from
    ⟨none, 0, 0, none, 0, 0, [], [], ⟨heap_alloc_new w2 _, World.ownsRow_nil _ _ 45 3, World.ownsRow_nil _ _ 47 6, rfl, rfl, by simp, by simp⟩, rfl, rfl⟩)
  have zr : w.heap.size + 1 < w2.heap.size := zA2
  have CA := Lib.hid (AC1.out w2.heap.size (by omega) _ M3.out B3.out)
  clear hb n3 TM AC1 AA PP k0 k1 zA B1 M3
  go_upto_region 5 with fail
  generalize w2.alloc (.cells #[.slice none 0 0, .slice none 0 0] 119) = w3 at A3 P3 B3 CA ⊢
  generalize w2.heap.size = r at zA2 zr CA ⊢
  have k0 := P3.out.c0
  have k1 := P3.out.c1
  go_wp2_with fail
  refine CA.out.mono ?_
  rintro e w4 ⟨rfl, hMk, hKa⟩
  rw [List.nil_append, List.nil_append] at hMk
  obtain ⟨Ap, kp, cp, Ae, ke, ce, Ps, Es, hMi, hPs, hEs⟩ := hMk
  have hke : ke = sE.length := by have h1 := congrArg List.length hEs; rw [List.length_map, hMi.le] at h1; exact h1
  have n5 := below_alloc w4 (eobj s1 s2)
  have A5 := Lib.hid ((A3.out.below hKa.o zr).below n5 (by have := hMi.lt; omega))
  have M5 := Lib.hid (hMi.same (W' := w4.alloc (eobj s1 s2)) (fun x o hx _ => by rw [n5.block x (Array.getElem?_eq_some_iff.1 hx).1]; exact hx))
  have B5 := Lib.hid (below_go (B3.out.trans (hKa.o.mono (by omega))) n5)
  have E5 := Lib.hid (EB.alloc w4 s1 s2)
  have z5 : r < w4.heap.size := hMi.lt
  have HPs := Lib.hid hPs
  have HEs := Lib.hid hEs
  clear hMi hPs hEs n5 hKa A3 P3 B3 CA k0 k1
  go_upto_region 6 with fail
  generalize w4.alloc (eobj s1 s2) = w5 at A5 M5 B5 E5 ⊢
  generalize w4.heap.size = b6 at E5 z5 ⊢
  obtain ⟨m0, m1, _⟩ := M5.out.cells
  have zm := M5.out.lt
  by_cases hbig : 64 < sE.length
  · have hb1 : decide ((64 : Int) < (ke : Int)) = true := by simp; omega
    have hb2 : (64 : Int) < (ke : Int) := by omega
    obtain ⟨a0, a1, a2, a3, af⟩ := A5.out.cells
    have f0 := af 0
    have f1 := af 1
    have f2 := af 2
    have f3 := af 3
    have z2 := A5.out.lt
    have BF := Lib.hid ((((B5.out.setCell (p := ⟨w.heap.size + 1, 0, none⟩) (Nat.le_succ _) (.slice none 0 0)).setCell (p := ⟨w.heap.size + 1, 1, none⟩) (Nat.le_succ _) (.int .u32 0)).setCell (p := ⟨w.heap.size + 1, 2, none⟩) (Nat.le_succ _) (.int .u32 0)).setCell (p := ⟨w.heap.size + 1, 3, none⟩) (Nat.le_succ _) (.slice none 0 0))
    clear af A5 M5 B5 E5 HPs HEs hke
    go_wp2_with fail
    refine bodyPost_ret (v := .tuple #[autv none 0 0 0 0 none 0 0, .int .i64 12]) (by simp [results, Tryz.results14, go_sem, *]) rfl (.inl ⟨hbig, rfl, BF.out⟩)
  · have hb1 : decide ((64 : Int) < (ke : Int)) = false := by simp; omega
    have hb2 : ¬ (64 : Int) < (ke : Int) := by omega
    have SO := Lib.hid (sortE_any r Ap kp cp Ae ke ce Ps Es w5 M5.out (by omega))
    have HK := Lib.hid hke
    clear hke
    go_wp2_with fail
    refine SO.out.mono ?_
    rintro e w6 ⟨⟨v, rfl⟩, Es', hperm, hkyl, hMi, hKa⟩
    have A6 := Lib.hid (A5.out.below hKa.o zr)
    have E6 := Lib.hid (E5.out.ka hKa (by omega))
    have B6 := Lib.hid (B5.out.trans (hKa.o.mono (by omega)))
    have M6 := Lib.hid hMi
    have KL := Lib.hid (And.intro hperm hkyl)
    clear hperm hkyl hMi hKa A5 M5 B5 E5 SO m0 m1 zm
    obtain ⟨m0, m1, _⟩ := M6.out.cells
    obtain ⟨e0, e1, _⟩ := E6.out.cells
    obtain ⟨a0, a1, a2, a3, af⟩ := A6.out.cells
    have f0 := af 0
    have f1 := af 1
    have f2 := af 2
    have f3 := af 3
    have zm := M6.out.lt
    have ze := E6.out.lt
    have za := A6.out.lt
    have BF := Lib.hid ((((B6.out.setCell (p := ⟨w.heap.size + 1, 0, none⟩) (Nat.le_succ _) (.slice Ap kp cp)).setCell (p := ⟨w.heap.size + 1, 1, none⟩) (Nat.le_succ _) (.int .u32 (s1 : Int))).setCell (p := ⟨w.heap.size + 1, 2, none⟩) (Nat.le_succ _) (.int .u32 (s2 : Int))).setCell (p := ⟨w.heap.size + 1, 3, none⟩) (Nat.le_succ _) (.slice Ae ke ce))
    have MF := Lib.hid ((((M6.out.low (w.heap.size + 1) 0 zr (.slice Ap kp cp)).low (w.heap.size + 1) 1 zr (.int .u32 (s1 : Int))).low (w.heap.size + 1) 2 zr (.int .u32 (s2 : Int))).low (w.heap.size + 1) 3 zr (.slice Ae ke ce))
    have hle : sE.length ≤ 64 := by omega
    clear af A6 E6 B6 M6 HK
    go_wp2_with fail
    refine bodyPost_ret (v := .tuple #[autv Ap kp cp s1 s2 Ae ke ce, .int .i64 0]) (by simp [results, Tryz.results14, go_sem, *]) rfl (.inr ⟨hle, r, Ap, kp, cp, Ae, ke, ce, Ps, Es', rfl, MF.out, HPs.out, ?_, KL.out.2, by omega, BF.out⟩)
    have := KL.out.1.map ve
    rwa [HEs.out] at this
end Go.Proofs.YtpnllbojifnopaaGreatDoor
namespace Go.Proofs.YtpnllbojifnopaaGreatDoor
open Go Go.RowKit Pk Rl
set_option maxRecDepth 20000
theorem au_one (k n : Nat) (t : Int) : au (k + 1) [one t] n = (2 ^ n, 2 ^ n, [(false, t, [])], []) := by
  unfold au
  have h : ([one t].headD nz).k = 1 := rfl
  rw [if_neg (by rw [h]; decide), if_neg (by rw [h]; decide), if_neg (by rw [h]; decide)]
  rfl
theorem btz1 : btz 1 = [0] := by decide
theorem btz2 : btz 2 = [1] := by decide
theorem btz0 : btz 0 = [] := by decide
theorem au_two : au 33 two 0 = (1, 2, [(false, 1, []), (false, 2, [])], [(0, 1, false, vq qz)]) := by
  unfold au
  rw [if_pos (show (two.headD nz).k = 2 by decide), pts_two]
  unfold ch chf
  simp only [List.foldl_cons, List.foldl_nil, List.length_cons, List.length_nil]
  have h1 : cst (au 32) 0 (two.headD nz).y (vq (two.headD nz).g) 2 cs0 [one 1] = ⟨1, 0, 1, 1, [(false, 1, [])], [], 1⟩ := by
    unfold cst cs0
    rw [show (0 : Nat) + ([] : List VQ).length = 0 from rfl, au_one 31]
    simp [jn, jnO, btz0]
  rw [h1]
  have h2 : cst (au 32) 0 (two.headD nz).y (vq (two.headD nz).g) 2 ⟨1, 0, 1, 1, [(false, 1, [])], [], 1⟩ [one 2] = ⟨1, 2, 2, 2, [(false, 1, []), (false, 2, [])], [(0, 1, false, vq qz)], 2⟩ := by
    unfold cst
    rw [show (0 : Nat) + ([(false, (1 : Int), [])] : List VQ).length = 1 from rfl, au_one 31]
    simp [jn, jnO, jnI, btz1, btz2]
  rw [h2]
theorem two_any (w : World) : Calls Tryz.prog 42 #[.int .u8 1, .int .u8 2] w fun e w' => (∃ g, e = .returned (ptv (some ⟨g, 0, none⟩) 3 3 10) ∧ Nds w' (some ⟨g, 0, none⟩) two) ∧ Below w.heap.size w w' := by
  go_enter Tryz.func42, Tryz.ntmps42
  go_wp2_with fail
  refine bodyPost_ret (v := ptv (some ⟨w.heap.size + 1, 0, none⟩) 3 3 10) (by simp [results, Tryz.results42, go_sem, *]) rfl ⟨⟨_, rfl, fun i hi => ⟨_, _, rfl, ?_⟩⟩, below_go (below_alloc w _) (below_alloc _ _)⟩
  have : i = 0 ∨ i = 1 ∨ i = 2 := by simp [two] at hi; omega
  rcases this with rfl | rfl | rfl <;> (refine ⟨?_, ?_, ?_, ?_, ?_, ?_, ?_, ?_, ?_, ?_, ?_⟩ <;> simp [go_sem])
theorem mp_two10 : mp two 10 = 0 := mp_two0
end Go.Proofs.YtpnllbojifnopaaGreatDoor
