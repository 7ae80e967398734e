/- The document's Get of any bytes. -/
import Derived.Test.YtmooblbnkjaenaaSnR0
namespace Go.Proofs.Ytmooblbnkjaenaa
open Go Go.RowKit Pk
set_option maxRecDepth 20000

theorem gq_bad (l : List Int) (e : Nat) (h : (s6 l).2 = e) (h0 : e ≠ 0) : gq l = ⟨0, 0, false, 0, []⟩ := by unfold gq; rw [if_neg (by rw [h]; exact h0)]
set_option maxHeartbeats 16000000 in
theorem rget16_any (A0 : Option Addr) (m c0 : Nat) (l : List Int) (w : World) (hl : l.length = m) (hm : m ≤ 100000) (hb : Byt w A0 l) :
    Calls Try.prog 11 #[.slice A0 m c0] w fun e w' => GeX l w e w' := by
  have HL := Lib.hid hl
  have HR := Lib.hid hb.2
  have G := Lib.hid (fun (W : World) (hB : Below w.heap.size w W) (p : Int) => rget_any A0 m c0 l p W hl hm (hb.below hB))
  have HB := Lib.hid (fun (W : World) (hB : Below w.heap.size w W) => hb.below hB)
  have V0 : Hid (Lv w (((w.alloc (.cells #[.int .u64 0, .int .u64 0, .bool false, .int .u64 0, .slice none 0 0] 25)).alloc (.cells #[.int .u64 0, .int .u64 0, .bool false, .int .u64 0, .slice none 0 0] 25)).alloc (.cells #[.int .u64 0, .int .u64 0, .bool false, .int .u64 0, .slice none 0 0] 25)) 0 0 false 0 none 0 0 []) := Lib.hid (Lv.start w _ rfl)
  clear hb
  go_enter Try.func11, Try.ntmps11
  go_upto_region 3 with fail
  generalize (((w.alloc (.cells #[.int .u64 0, .int .u64 0, .bool false, .int .u64 0, .slice none 0 0] 25)).alloc (.cells #[.int .u64 0, .int .u64 0, .bool false, .int .u64 0, .slice none 0 0] 25)).alloc (.cells #[.int .u64 0, .int .u64 0, .bool false, .int .u64 0, .slice none 0 0] 25)) = w0 at V0 ⊢
  go_wp2_with fail
  refine (G.out w0 V0.out.bel 0).mono ?_
  rintro _ _ ⟨rfl, rfl⟩
  obtain ⟨K0, K0h⟩ : ∃ x, gK l 0 = x := ⟨_, rfl⟩
  obtain ⟨N0, N0h⟩ : ∃ x, gN l 0 = x := ⟨_, rfl⟩
  obtain ⟨E0, E0h⟩ : ∃ x, gE l 0 = x := ⟨_, rfl⟩
  rw [K0h, N0h, E0h]
  have S1 := Lib.hid (show s1 l = (K0, E0) by unfold s1; rw [(rds0 l 0).1, K0h, E0h])
  have R0 := Lib.hid (show rdn l (0, 0) = N0 by rw [(rds0 l 0).2, N0h])
  have LN0 := Lib.hid (show N0 < 18446744073709551616 by rw [← N0h]; exact g_lt l 0 HR.out)
  clear K0h N0h E0h
  by_cases e0 : E0 = 0
  case neg =>
    have d1 : ((E0 : Int) == 0) = false := by simp; omega
    have HE := Lib.hid (show (s6 l).2 = E0 by rw [e_s1 l (by rw [S1.out]; exact e0), S1.out])
    have GQ := Lib.hid (gq_bad l _ HE.out e0)
    have EN := Lib.hid (V0.out.end_ 0 0 false 0 none 0 0)
    obtain ⟨⟨y0, y1, y2, y3, y4⟩, ⟨x0, x1, x2, x3, x4⟩, z0, z1, z2, z3, z4⟩ := V0.out.c
    clear V0
    go_wp2_with fail
    show bodyPost _ _ _ _ _ (set5 w0 w.heap.size 0 0 false 0 none 0 0)
    clear x0 x1 x2 x3 x4 y0 y1 y2 y3 y4 z0 z1 z2 z3 z4
    generalize set5 w0 w.heap.size 0 0 false 0 none 0 0 = wf at EN ⊢
    obtain ⟨k0, k1, k2, k3, k4, _⟩ := sto_cells EN.out.1
    refine bodyPost_ret (v := .tuple #[stv 0 0 false 0 none 0 0, .int .i64 (E0 : Int)]) ?_ rfl ⟨none, 0, 0, by rw [GQ.out, HE.out]; first | rfl | skip, by rw [GQ.out]; rfl, by rw [GQ.out]; exact Lib.hid (Rus.nil _ _), EN.out.2.2⟩
    simp [results, Try.results11, go_sem, *]
  subst e0
  obtain ⟨g0, g1, g2, g3, g4, gf⟩ := sto_cells V0.out.ss
  have sf := gf 0
  clear gf
  have V1 := Lib.hid (V0.out.field 0 (.int .u64 (N0 : Int)) (next' := N0) (last' := 0) (fl' := false) (fat' := 0) rfl)
  clear V0
  go_upto_region 7 with fail
  generalize w0.setCell ⟨w.heap.size + 1 + 1, 0, none⟩ (.int .u64 (N0 : Int)) = v1 at V1 ⊢
  clear sf g0 g1 g2 g3 g4
  go_wp2_with fail
  refine (G.out v1 V1.out.bel K0).mono ?_
  rintro _ _ ⟨rfl, rfl⟩
  obtain ⟨K1, K1h⟩ : ∃ x, gK l K0 = x := ⟨_, rfl⟩
  obtain ⟨N1, N1h⟩ : ∃ x, gN l K0 = x := ⟨_, rfl⟩
  obtain ⟨E1, E1h⟩ : ∃ x, gE l K0 = x := ⟨_, rfl⟩
  rw [K1h, N1h, E1h]
  have S2 := Lib.hid (show s2 l = (K1, E1) by unfold s2; rw [S1.out, (rds0 l K0).1, K1h, E1h])
  have R1 := Lib.hid (show rdn l (s1 l) = N1 by rw [S1.out, (rds0 l K0).2, N1h])
  have LN1 := Lib.hid (show N1 < 18446744073709551616 by rw [← N1h]; exact g_lt l K0 HR.out)
  have KB := Lib.hid (fun (k : E1 = 0) => show 0 ≤ K1 by have := (g_ok l K0 HR.out (by rw [E1h]; exact k)); rw [K1h] at this; omega)
  clear K1h N1h E1h
  by_cases e1 : E1 = 0
  case neg =>
    have d1 : ((E1 : Int) == 0) = false := by simp; omega
    have HE := Lib.hid (show (s6 l).2 = E1 by rw [e_s2 l (by rw [S2.out]; exact e1), S2.out])
    have GQ := Lib.hid (gq_bad l _ HE.out e1)
    have EN := Lib.hid (V1.out.end_ 0 0 false 0 none 0 0)
    obtain ⟨⟨y0, y1, y2, y3, y4⟩, ⟨x0, x1, x2, x3, x4⟩, z0, z1, z2, z3, z4⟩ := V1.out.c
    clear V1
    go_wp2_with fail
    show bodyPost _ _ _ _ _ (set5 v1 w.heap.size 0 0 false 0 none 0 0)
    clear x0 x1 x2 x3 x4 y0 y1 y2 y3 y4 z0 z1 z2 z3 z4
    generalize set5 v1 w.heap.size 0 0 false 0 none 0 0 = wf at EN ⊢
    obtain ⟨k0, k1, k2, k3, k4, _⟩ := sto_cells EN.out.1
    refine bodyPost_ret (v := .tuple #[stv 0 0 false 0 none 0 0, .int .i64 (E1 : Int)]) ?_ rfl ⟨none, 0, 0, by rw [GQ.out, HE.out]; first | rfl | skip, by rw [GQ.out]; rfl, by rw [GQ.out]; exact Lib.hid (Rus.nil _ _), EN.out.2.2⟩
    simp [results, Try.results11, go_sem, *]
  subst e1
  obtain ⟨q, rfl⟩ : ∃ q : Nat, K1 = (q : Int) := ⟨K1.toNat, by have := KB.out rfl; omega⟩
  clear KB
  obtain ⟨g0, g1, g2, g3, g4, gf⟩ := sto_cells V1.out.ss
  have sf := gf 1
  clear gf
  have V2 := Lib.hid (V1.out.field 1 (.int .u64 (N1 : Int)) (next' := N0) (last' := N1) (fl' := false) (fat' := 0) rfl)
  clear V1
  go_upto_region 11 with fail
  generalize v1.setCell ⟨w.heap.size + 1 + 1, 1, none⟩ (.int .u64 (N1 : Int)) = v2 at V2 ⊢
  clear sf g0 g1 g2 g3 g4
  by_cases cq : q < m
  case neg =>
    have d1 : decide ((m : Int) ≤ (q : Int)) = true := decide_eq_true (by omega)
    have d1' : decide (m ≤ q) = true := decide_eq_true (by omega)
    have S3 := show s3 l = ((q : Int), 3) by unfold s3 fgs; rw [S2.out, if_neg (by simp), if_neg (by have := HL.out; simp only; omega)]
    have HE := Lib.hid (show (s6 l).2 = 3 by rw [e_s3 l (by rw [S3]; simp), S3])
    have GQ := Lib.hid (gq_bad l _ HE.out (by decide))
    have EN := Lib.hid (V2.out.end_ 0 0 false 0 none 0 0)
    obtain ⟨⟨y0, y1, y2, y3, y4⟩, ⟨x0, x1, x2, x3, x4⟩, z0, z1, z2, z3, z4⟩ := V2.out.c
    clear V2
    go_wp2_with fail
    show bodyPost _ _ _ _ _ (set5 v2 w.heap.size 0 0 false 0 none 0 0)
    clear x0 x1 x2 x3 x4 y0 y1 y2 y3 y4 z0 z1 z2 z3 z4
    generalize set5 v2 w.heap.size 0 0 false 0 none 0 0 = wf at EN ⊢
    obtain ⟨k0, k1, k2, k3, k4, _⟩ := sto_cells EN.out.1
    refine bodyPost_ret (v := .tuple #[stv 0 0 false 0 none 0 0, .int .i64 3]) ?_ rfl ⟨none, 0, 0, by rw [GQ.out, HE.out]; first | rfl | skip, by rw [GQ.out]; rfl, by rw [GQ.out]; exact Lib.hid (Rus.nil _ _), EN.out.2.2⟩
    simp [results, Try.results11, go_sem, *]
  have d1 : decide ((m : Int) ≤ (q : Int)) = false := decide_eq_false (by omega)
  have d1' : decide (m ≤ q) = false := decide_eq_false (by omega)
  have hlq : q < l.length := by have := HL.out; omega
  obtain ⟨bb, off, rfl, kb⟩ := (HB.out v2 V2.out.bel).1 q hlq
  have RX : 0 ≤ l.getD q 0 ∧ l.getD q 0 < 256 := HR.out _ (by rw [List.getD_eq_getElem?_getD, List.getElem?_eq_getElem hlq]; exact List.getElem_mem _)
  obtain ⟨x, hx⟩ : ∃ x, l.getD q 0 = x := ⟨_, rfl⟩
  have HX := Lib.hid hx
  rw [hx] at RX kb
  clear hx
  have SX := Lib.hid (show s3 l = ((q : Int) + 1, if x ≤ 1 then 0 else 2) ∧ fgb l (s2 l) = decide (x = 1) by
    unfold s3 fgs fgb
    rw [S2.out, if_neg (by simp), if_pos (by simp only; omega)]
    simp only [Int.toNat_natCast, HX.out]
    refine ⟨trivial, ?_⟩
    by_cases cx : x = 1
    · rw [decide_eq_true cx, decide_eq_true ⟨trivial, by omega, by omega, cx⟩]
    · rw [decide_eq_false cx, decide_eq_false (fun k => cx k.2.2.2)])
  by_cases cx : 1 < x
  · have d2 : decide (1 < x) = true := decide_eq_true cx
    have HE := Lib.hid (show (s6 l).2 = 2 by
      have e := SX.out.1
      rw [if_neg (by omega)] at e
      rw [e_s3 l (by rw [e]; simp), e])
    have GQ := Lib.hid (gq_bad l _ HE.out (by decide))
    have EN := Lib.hid (V2.out.end_ 0 0 false 0 none 0 0)
    obtain ⟨⟨y0, y1, y2, y3, y4⟩, ⟨x0, x1, x2, x3, x4⟩, z0, z1, z2, z3, z4⟩ := V2.out.c
    clear V2
    go_wp2_with fail
    show bodyPost _ _ _ _ _ (set5 v2 w.heap.size 0 0 false 0 none 0 0)
    clear x0 x1 x2 x3 x4 y0 y1 y2 y3 y4 z0 z1 z2 z3 z4
    generalize set5 v2 w.heap.size 0 0 false 0 none 0 0 = wf at EN ⊢
    obtain ⟨k0, k1, k2, k3, k4, _⟩ := sto_cells EN.out.1
    refine bodyPost_ret (v := .tuple #[stv 0 0 false 0 none 0 0, .int .i64 2]) ?_ rfl ⟨none, 0, 0, by rw [GQ.out, HE.out]; first | rfl | skip, by rw [GQ.out]; rfl, by rw [GQ.out]; exact Lib.hid (Rus.nil _ _), EN.out.2.2⟩
    simp [results, Try.results11, go_sem, *]
  have d2 : decide (1 < x) = false := decide_eq_false cx
  have S3 := Lib.hid (show s3 l = ((q : Int) + 1, 0) by rw [SX.out.1, if_pos (by omega)])
  obtain ⟨g0, g1, g2, g3, g4, gf⟩ := sto_cells V2.out.ss
  have sf := gf 2
  clear gf
  have hw : IntKind.i64.wrap ((q : Int) + 1) = (q : Int) + 1 := by rw [IntKind.wrap_i64]; omega
  obtain ⟨fl, hfl⟩ : ∃ fl, decide (x = 1) = fl := ⟨_, rfl⟩
  have d3 : (x == 1) = fl := by rw [← hfl]; by_cases h : x = 1 <;> simp [h]
  have HF := Lib.hid (SX.out.2.trans hfl)
  have V3 := Lib.hid (V2.out.field 2 (.bool fl) (next' := N0) (last' := N1) (fl' := fl) (fat' := 0) rfl)
  clear V2 hfl SX
  go_upto_region 16 with fail
  generalize v2.setCell ⟨w.heap.size + 1 + 1, 2, none⟩ (.bool fl) = v3 at V3 ⊢
  clear sf g0 g1 g2 g3 g4 kb d1 d1' d2 d3 RX cx
  go_wp2_with fail
  refine (G.out v3 V3.out.bel ((q : Int) + 1)).mono ?_
  rintro _ _ ⟨rfl, rfl⟩
  obtain ⟨K2, K2h⟩ : ∃ x, gK l ((q : Int) + 1) = x := ⟨_, rfl⟩
  obtain ⟨N2, N2h⟩ : ∃ x, gN l ((q : Int) + 1) = x := ⟨_, rfl⟩
  obtain ⟨E2, E2h⟩ : ∃ x, gE l ((q : Int) + 1) = x := ⟨_, rfl⟩
  rw [K2h, N2h, E2h]
  have S4 := Lib.hid (show s4 l = (K2, E2) by unfold s4; rw [S3.out, (rds0 l _).1, K2h, E2h])
  have R3 := Lib.hid (show rdn l (s3 l) = N2 by rw [S3.out, (rds0 l _).2, N2h])
  have LN2 := Lib.hid (show N2 < 18446744073709551616 by rw [← N2h]; exact g_lt l _ HR.out)
  have KB := Lib.hid (fun (k : E2 = 0) => show 0 ≤ K2 ∧ K2 ≤ (m : Int) by have := (g_ok l _ HR.out (by rw [E2h]; exact k)); rw [K2h, HL.out] at this; omega)
  clear K2h N2h E2h hw
  by_cases e2 : E2 = 0
  case neg =>
    have d1 : ((E2 : Int) == 0) = false := by simp; omega
    have HE := Lib.hid (show (s6 l).2 = E2 by rw [e_s4 l (by rw [S4.out]; exact e2), S4.out])
    have GQ := Lib.hid (gq_bad l _ HE.out e2)
    have EN := Lib.hid (V3.out.end_ 0 0 false 0 none 0 0)
    obtain ⟨⟨y0, y1, y2, y3, y4⟩, ⟨x0, x1, x2, x3, x4⟩, z0, z1, z2, z3, z4⟩ := V3.out.c
    clear V3
    go_wp2_with fail
    show bodyPost _ _ _ _ _ (set5 v3 w.heap.size 0 0 false 0 none 0 0)
    clear x0 x1 x2 x3 x4 y0 y1 y2 y3 y4 z0 z1 z2 z3 z4
    generalize set5 v3 w.heap.size 0 0 false 0 none 0 0 = wf at EN ⊢
    obtain ⟨k0, k1, k2, k3, k4, _⟩ := sto_cells EN.out.1
    refine bodyPost_ret (v := .tuple #[stv 0 0 false 0 none 0 0, .int .i64 (E2 : Int)]) ?_ rfl ⟨none, 0, 0, by rw [GQ.out, HE.out]; first | rfl | skip, by rw [GQ.out]; rfl, by rw [GQ.out]; exact Lib.hid (Rus.nil _ _), EN.out.2.2⟩
    simp [results, Try.results11, go_sem, *]
  subst e2
  obtain ⟨kq, rfl⟩ : ∃ kq : Nat, K2 = (kq : Int) := ⟨K2.toNat, by have := KB.out rfl; omega⟩
  have KL := Lib.hid (show kq ≤ m by have := KB.out rfl; omega)
  clear KB hlq cq
  have HS := Lib.hid (fun (L : List Ru) (fa : Nat) (z : Sg) (hL : (if fl then [] else rsL l (s3 l)) = L) (hfa : (if fl then rdn l (s3 l) else 0) = fa) (hz : s5 l = z) => show sq l = ⟨N0, N1, fl, fa, L⟩ ∧ s6 l = mst (mst z (decide (z.1 = (m : Int))) 2) (wr N0 N1 fl fa L) 1 by
    have e : sq l = ⟨N0, N1, fl, fa, L⟩ := by unfold sq; rw [R0.out, R1.out, HF.out, hL, hfa]
    exact ⟨e, by unfold s6; rw [e, hz, HL.out]⟩)
  cases fl
  case true =>
    skip
    have HZ := Lib.hid (HS.out [] N2 ((kq : Int), 0) rfl (by rw [if_pos rfl, R3.out]) (by unfold s5; rw [HF.out, if_pos rfl, S4.out]))
    obtain ⟨g0, g1, g2, g3, g4, gf⟩ := sto_cells V3.out.ss
    have gf3 := gf 3
    have V4 := Lib.hid (V3.out.field 3 (.int .u64 (N2 : Int)) (next' := N0) (last' := N1) (fl' := true) (fat' := N2) rfl)
    clear V3 gf HS
    go_upto_region 27 with fail
    generalize v3.setCell ⟨w.heap.size + 1 + 1, 3, none⟩ (.int .u64 (N2 : Int)) = v4 at V4 ⊢
    clear g0 g1 g2 g3 g4 gf3
    go_loopw [11, 7] (fun v y W => v = .int .u64 0 ∧ y = .int .i64 (kq : Int) ∧ Hid (Lv w W N0 N1 true N2 none 0 0 [])) (fun _ _ _ => 0)
    case atStart => exact ⟨rfl, rfl, Lib.hid V4.out⟩
    case round =>
      obtain ⟨rfl, rfl, VL⟩ := hrel
      clear V4
      have KM := KL.out
      by_cases ck : kq < m
      · have d1 : decide ((kq : Int) < (m : Int)) = true := decide_eq_true (by omega)
        have d1' : decide (kq < m) = true := decide_eq_true ck
        have HE := Lib.hid (show (s6 l).2 = 2 by rw [HZ.out.2]; (try simp only); rw [decide_eq_false (by omega)]; rfl)
        have GQ := Lib.hid (gq_bad l _ HE.out (by decide))
        have EN := Lib.hid (VL.out.end_ 0 0 false 0 none 0 0)
        obtain ⟨⟨y0, y1, y2, y3, y4⟩, ⟨x0, x1, x2, x3, x4⟩, z0, z1, z2, z3, z4⟩ := VL.out.c
        clear VL
        go_wp2_with fail
        show bodyPost _ _ _ _ _ (set5 wr w.heap.size 0 0 false 0 none 0 0)
        clear x0 x1 x2 x3 x4 y0 y1 y2 y3 y4 z0 z1 z2 z3 z4
        generalize set5 wr w.heap.size 0 0 false 0 none 0 0 = wf at EN ⊢
        obtain ⟨k0, k1, k2, k3, k4, _⟩ := sto_cells EN.out.1
        refine bodyPost_ret (v := .tuple #[stv 0 0 false 0 none 0 0, .int .i64 2]) ?_ rfl ⟨none, 0, 0, by rw [GQ.out, HE.out]; first | rfl | skip, by rw [GQ.out]; rfl, by rw [GQ.out]; exact Lib.hid (Rus.nil _ _), EN.out.2.2⟩
        simp [results, Try.results11, go_sem, *]
      have d1 : decide ((kq : Int) < (m : Int)) = false := decide_eq_false (by omega)
      have d1' : decide (kq < m) = false := decide_eq_false ck
      have HY := Lib.hid (show s6 l = mst ((kq : Int), 0) (Go.Proofs.Ytmooblbnkjaenaa.wr N0 N1 true N2 []) 1 by rw [HZ.out.2]; (try simp only); rw [decide_eq_true (by omega), mst_yes])
      have HQ := Lib.hid HZ.out.1
      have MC := Lib.hid (may_any N0 N1 true N2 none 0 0 [] wr VL.out.l (by omega) VL.out.rus)
      obtain ⟨g0, g1, g2, g3, g4, _⟩ := sto_cells VL.out.ss
      obtain ⟨ok, hok⟩ : ∃ ok, Go.Proofs.Ytmooblbnkjaenaa.wr N0 N1 true N2 [] = ok := ⟨_, rfl⟩
      rw [hok] at MC HY
      clear hok HZ ck
      go_wp2_with fail
      refine MC.out.mono ?_
      rintro _ w6 ⟨rfl, hb6⟩
      have V6 := Lib.hid (VL.out.next hb6)
      clear hb6 VL g0 g1 g2 g3 g4 MC d1 d1'
      cases ok
      · have HE := Lib.hid (show (s6 l).2 = 1 by rw [HY.out]; rfl)
        have GQ := Lib.hid (gq_bad l _ HE.out (by decide))
        have EN := Lib.hid (V6.out.end_ 0 0 false 0 none 0 0)
        obtain ⟨⟨y0, y1, y2, y3, y4⟩, ⟨x0, x1, x2, x3, x4⟩, z0, z1, z2, z3, z4⟩ := V6.out.c
        clear V6
        go_wp2_with fail
        show bodyPost _ _ _ _ _ (set5 w6 w.heap.size 0 0 false 0 none 0 0)
        clear x0 x1 x2 x3 x4 y0 y1 y2 y3 y4 z0 z1 z2 z3 z4
        generalize set5 w6 w.heap.size 0 0 false 0 none 0 0 = wf at EN ⊢
        obtain ⟨k0, k1, k2, k3, k4, _⟩ := sto_cells EN.out.1
        refine bodyPost_ret (v := .tuple #[stv 0 0 false 0 none 0 0, .int .i64 1]) ?_ rfl ⟨none, 0, 0, by rw [GQ.out, HE.out]; first | rfl | skip, by rw [GQ.out]; rfl, by rw [GQ.out]; exact Lib.hid (Rus.nil _ _), EN.out.2.2⟩
        simp [results, Try.results11, go_sem, *]
      · have HE := Lib.hid (show (s6 l).2 = 0 by rw [HY.out, mst_yes])
        have GQ := Lib.hid (show gq l = ⟨N0, N1, true, N2, []⟩ by unfold gq; rw [if_pos HE.out, HQ.out])
        have EN := Lib.hid (V6.out.end_ N0 N1 true N2 none 0 0)
        have LK := Lib.hid V6.out.l
        obtain ⟨g0, g1, g2, g3, g4, _⟩ := sto_cells V6.out.ss
        obtain ⟨⟨_, _, _, _, _⟩, ⟨x0, x1, x2, x3, x4⟩, z0, z1, z2, z3, z4⟩ := V6.out.c
        clear V6
        go_wp2_with fail
        show bodyPost _ _ _ _ _ (set5 w6 w.heap.size N0 N1 true N2 none 0 0)
        clear g0 g1 g2 g3 g4 x0 x1 x2 x3 x4 z0 z1 z2 z3 z4
        generalize set5 w6 w.heap.size N0 N1 true N2 none 0 0 = wf at EN ⊢
        obtain ⟨k0, k1, k2, k3, k4, _⟩ := sto_cells EN.out.1
        refine bodyPost_ret (v := .tuple #[stv N0 N1 true N2 none 0 0, .int .i64 0]) ?_ rfl ⟨_, _, _, by rw [GQ.out, HE.out]; rfl, by rw [GQ.out]; exact LK.out, by rw [GQ.out]; exact Lib.hid EN.out.2.1, EN.out.2.2⟩
        simp [results, Try.results11, go_sem, *]
  obtain ⟨_, _, g2, _, _, _⟩ := sto_cells V3.out.ss
  by_cases c64 : 64 < N2
  · have d1 : decide ((64 : Int) < (N2 : Int)) = true := decide_eq_true (by omega)
    have d1' : decide (64 < N2) = true := decide_eq_true c64
    have HE := Lib.hid (show (s6 l).2 = 12 by
      have e : s5 l = ((kq : Int), 12) := by
        unfold s5
        rw [HF.out, if_neg (by simp)]
        unfold rsS
        rw [R3.out, if_pos c64]
        show ((s4 l).1, 12) = _
        rw [S4.out]
      rw [s6_of l (by rw [e]; simp), e])
    have GQ := Lib.hid (gq_bad l _ HE.out (by decide))
    have EN := Lib.hid (V3.out.end_ 0 0 false 0 none 0 0)
    obtain ⟨⟨y0, y1, y2, y3, y4⟩, ⟨x0, x1, x2, x3, x4⟩, z0, z1, z2, z3, z4⟩ := V3.out.c
    clear V3
    go_wp2_with fail
    show bodyPost _ _ _ _ _ (set5 v3 w.heap.size 0 0 false 0 none 0 0)
    clear x0 x1 x2 x3 x4 y0 y1 y2 y3 y4 z0 z1 z2 z3 z4
    generalize set5 v3 w.heap.size 0 0 false 0 none 0 0 = wf at EN ⊢
    obtain ⟨k0, k1, k2, k3, k4, _⟩ := sto_cells EN.out.1
    refine bodyPost_ret (v := .tuple #[stv 0 0 false 0 none 0 0, .int .i64 12]) ?_ rfl ⟨none, 0, 0, by rw [GQ.out, HE.out]; first | rfl | skip, by rw [GQ.out]; rfl, by rw [GQ.out]; exact Lib.hid (Rus.nil _ _), EN.out.2.2⟩
    simp [results, Try.results11, go_sem, *]
  have d1 : decide ((64 : Int) < (N2 : Int)) = false := decide_eq_false (by omega)
  have d1' : decide (64 < N2) = false := decide_eq_false c64
  have H64 := Lib.hid c64
  have HZ0 := Lib.hid (fun (R : List Ru) (z : Sg) (hz : rrs l N2 rz ((kq : Int), 0) = (R, z)) => HS.out R 0 z (by rw [if_neg (by simp)]; unfold rsL; rw [R3.out, if_neg c64]; show (rrs l N2 rz (s4 l)).1 = R; rw [S4.out, hz]) (by rw [if_neg (by simp)]) (by unfold s5; rw [HF.out, if_neg (by simp)]; unfold rsS; rw [R3.out, if_neg c64]; show (rrs l N2 rz (s4 l)).2 = z; rw [S4.out, hz]))
  have HER := Lib.hid (fun (R : List Ru) (j : Nat) (p : Ru) (σ : Sg) (hT : rrs l N2 rz ((kq : Int), 0) = (R ++ (rrs l (j + 1) p σ).1, (rrs l (j + 1) p σ).2)) (e : Nat) (he : (ons l p σ).2 = e) (h0 : e ≠ 0) => s6_runs l HF.out N2 R3.out c64 R j p σ (by rw [S4.out]; exact hT) e he h0)
  clear HS c64
  go_upto_region 27 with fail
  clear g2 d1 d1'
  go_loopw [11, 9, 10, 7] (fun vi vs vt vk W => ∃ (i : Nat) (p : Ru) (K : Nat) (A : Option Addr) (k c : Nat) (R : List Ru), vi = .int .u64 (i : Int) ∧ vs = .int .u64 (p.s : Int) ∧ vt = .int .u64 (p.t : Int) ∧ vk = .int .i64 (K : Int) ∧ i ≤ N2 ∧ Hid (Lv w W N0 N1 false 0 A k c R ∧ R.length = i ∧ K ≤ m ∧ Okr p ∧ rrs l N2 rz ((kq : Int), 0) = (R ++ (rrs l (N2 - i) p ((K : Int), 0)).1, (rrs l (N2 - i) p ((K : Int), 0)).2))) (fun vi _ _ _ _ => N2 - (intOf vi).toNat)
  case atStart => exact ⟨0, rz, kq, none, 0, 0, [], rfl, rfl, rfl, rfl, by omega, Lib.hid ⟨V3.out, rfl, KL.out, ⟨by decide, by decide, by decide⟩, rfl⟩⟩
  case round =>
    obtain ⟨i, p, K, A, k, c, R, rfl, rfl, rfl, rfl, hi, H⟩ := hrel
    have VL := Lib.hid H.out.1
    have HI := Lib.hid H.out.2
    clear V3 H
    by_cases ci : i < N2
    · obtain ⟨ps, pt, px⟩ := p
      obtain ⟨j, hj⟩ : ∃ j, N2 - i = j + 1 := ⟨N2 - i - 1, by omega⟩
      have HJ := Lib.hid (show N2 - (i + 1) = j by omega)
      have OKP := Lib.hid HI.out.2.2.1
      have TOT := Lib.hid HI.out.2.2.2
      have psl : ps < 18446744073709551616 := OKP.out.s
      have ptl : pt < 18446744073709551616 := OKP.out.t
      rw [hj] at TOT
      have di : decide ((i : Int) < (N2 : Int)) = true := decide_eq_true (by omega)
      clear hj
      go_wp2_with fail
      refine (G.out wr VL.out.bel (K : Int)).mono ?_
      rintro _ _ ⟨rfl, rfl⟩
      obtain ⟨KX, KXh⟩ : ∃ x, gK l (K : Int) = x := ⟨_, rfl⟩
      obtain ⟨X, Xh⟩ : ∃ x, gN l (K : Int) = x := ⟨_, rfl⟩
      obtain ⟨EX, EXh⟩ : ∃ x, gE l (K : Int) = x := ⟨_, rfl⟩
      rw [KXh, Xh, EXh]
      by_cases ex : EX = 0
      case neg =>
        have d1 : ((EX : Int) == 0) = false := by simp; omega
        have HE := Lib.hid (HER.out R j ⟨ps, pt, px⟩ ((K : Int), 0) TOT.out EX (by rw [ons_1 l ⟨ps, pt, px⟩ _ _ (abs_e l ps K (by rw [EXh]; exact ex)) (by rw [EXh]; exact ex)]; exact EXh) ex)
        have GQ := Lib.hid (gq_bad l _ HE.out ex)
        have EN := Lib.hid (VL.out.end_ 0 0 false 0 none 0 0)
        obtain ⟨⟨y0, y1, y2, y3, y4⟩, ⟨x0, x1, x2, x3, x4⟩, z0, z1, z2, z3, z4⟩ := VL.out.c
        clear VL
        go_wp2_with fail
        show bodyPost _ _ _ _ _ (set5 wr w.heap.size 0 0 false 0 none 0 0)
        clear x0 x1 x2 x3 x4 y0 y1 y2 y3 y4 z0 z1 z2 z3 z4
        generalize set5 wr w.heap.size 0 0 false 0 none 0 0 = wf at EN ⊢
        obtain ⟨k0, k1, k2, k3, k4, _⟩ := sto_cells EN.out.1
        refine bodyPost_ret (v := .tuple #[stv 0 0 false 0 none 0 0, .int .i64 (EX : Int)]) ?_ rfl ⟨none, 0, 0, by rw [GQ.out, HE.out]; first | rfl | skip, by rw [GQ.out]; rfl, by rw [GQ.out]; exact Lib.hid (Rus.nil _ _), EN.out.2.2⟩
        simp [results, Try.results11, go_sem, *]
      subst ex
      have XL := Lib.hid (show X < 18446744073709551616 by rw [← Xh]; exact g_lt l _ HR.out)
      have hsub : IntKind.u64.wrap (18446744073709551615 - (ps : Int)) = ((18446744073709551615 - ps : Nat) : Int) := by have := OKP.out.s; simp only at this; rw [IntKind.wrap_u64]; omega
      by_cases cx : 18446744073709551615 - ps < X
      · have d1 : decide (((18446744073709551615 - ps : Nat) : Int) < (X : Int)) = true := decide_eq_true (by omega)
        have d1' : decide (18446744073709551615 - ps < X) = true := decide_eq_true cx
        have HE := Lib.hid (HER.out R j ⟨ps, pt, px⟩ ((K : Int), 0) TOT.out 5 (by rw [ons_1 l ⟨ps, pt, px⟩ _ _ (abs_5 l ps K EXh (by rw [Xh]; have := OKP.out.s; simp only at this; omega)) (by simp)]) (by decide))
        have GQ := Lib.hid (gq_bad l _ HE.out (by decide))
        have EN := Lib.hid (VL.out.end_ 0 0 false 0 none 0 0)
        obtain ⟨⟨y0, y1, y2, y3, y4⟩, ⟨x0, x1, x2, x3, x4⟩, z0, z1, z2, z3, z4⟩ := VL.out.c
        clear VL
        go_wp2_with fail
        show bodyPost _ _ _ _ _ (set5 wr w.heap.size 0 0 false 0 none 0 0)
        clear x0 x1 x2 x3 x4 y0 y1 y2 y3 y4 z0 z1 z2 z3 z4
        generalize set5 wr w.heap.size 0 0 false 0 none 0 0 = wf at EN ⊢
        obtain ⟨k0, k1, k2, k3, k4, _⟩ := sto_cells EN.out.1
        refine bodyPost_ret (v := .tuple #[stv 0 0 false 0 none 0 0, .int .i64 5]) ?_ rfl ⟨none, 0, 0, by rw [GQ.out, HE.out]; first | rfl | skip, by rw [GQ.out]; rfl, by rw [GQ.out]; exact Lib.hid (Rus.nil _ _), EN.out.2.2⟩
        simp [results, Try.results11, go_sem, *]
      have d1 : decide (((18446744073709551615 - ps : Nat) : Int) < (X : Int)) = false := decide_eq_false (by omega)
      have d1' : decide (18446744073709551615 - ps < X) = false := decide_eq_false cx
      have hadd : IntKind.u64.wrap ((ps : Int) + (X : Int)) = ((ps + X : Nat) : Int) := by rw [IntKind.wrap_u64]; omega
      have AX := Lib.hid (show abs l ps ((K : Int), 0) = (KX, 0) ∧ abn l ps ((K : Int), 0) = ps + X by have := abs_0 l ps K EXh (by rw [Xh]; omega); rw [KXh, Xh] at this; exact this)
      clear KXh Xh EXh
      go_wp2_with fail
      refine (G.out wr VL.out.bel KX).mono ?_
      rintro _ _ ⟨rfl, rfl⟩
      obtain ⟨KY, KYh⟩ : ∃ x, gK l KX = x := ⟨_, rfl⟩
      obtain ⟨Y, Yh⟩ : ∃ x, gN l KX = x := ⟨_, rfl⟩
      obtain ⟨EY, EYh⟩ : ∃ x, gE l KX = x := ⟨_, rfl⟩
      rw [KYh, Yh, EYh]
      by_cases ey : EY = 0
      case neg =>
        have d2 : ((EY : Int) == 0) = false := by simp; omega
        have HE := Lib.hid (HER.out R j ⟨ps, pt, px⟩ ((K : Int), 0) TOT.out EY (by rw [ons_2 l ⟨ps, pt, px⟩ _ _ _ AX.out.1 (abs_e l pt KX (by rw [EYh]; exact ey)) (by rw [EYh]; exact ey)]; exact EYh) ey)
        have GQ := Lib.hid (gq_bad l _ HE.out ey)
        have EN := Lib.hid (VL.out.end_ 0 0 false 0 none 0 0)
        obtain ⟨⟨y0, y1, y2, y3, y4⟩, ⟨x0, x1, x2, x3, x4⟩, z0, z1, z2, z3, z4⟩ := VL.out.c
        clear VL
        go_wp2_with fail
        show bodyPost _ _ _ _ _ (set5 wr w.heap.size 0 0 false 0 none 0 0)
        clear x0 x1 x2 x3 x4 y0 y1 y2 y3 y4 z0 z1 z2 z3 z4
        generalize set5 wr w.heap.size 0 0 false 0 none 0 0 = wf at EN ⊢
        obtain ⟨k0, k1, k2, k3, k4, _⟩ := sto_cells EN.out.1
        refine bodyPost_ret (v := .tuple #[stv 0 0 false 0 none 0 0, .int .i64 (EY : Int)]) ?_ rfl ⟨none, 0, 0, by rw [GQ.out, HE.out]; first | rfl | skip, by rw [GQ.out]; rfl, by rw [GQ.out]; exact Lib.hid (Rus.nil _ _), EN.out.2.2⟩
        simp [results, Try.results11, go_sem, *]
      subst ey
      have YL := Lib.hid (show Y < 18446744073709551616 by rw [← Yh]; exact g_lt l _ HR.out)
      have hsub2 : IntKind.u64.wrap (18446744073709551615 - (pt : Int)) = ((18446744073709551615 - pt : Nat) : Int) := by have := OKP.out.t; simp only at this; rw [IntKind.wrap_u64]; omega
      by_cases cy : 18446744073709551615 - pt < Y
      · have d2 : decide (((18446744073709551615 - pt : Nat) : Int) < (Y : Int)) = true := decide_eq_true (by omega)
        have d2' : decide (18446744073709551615 - pt < Y) = true := decide_eq_true cy
        have HE := Lib.hid (HER.out R j ⟨ps, pt, px⟩ ((K : Int), 0) TOT.out 5 (by rw [ons_2 l ⟨ps, pt, px⟩ _ _ _ AX.out.1 (abs_5 l pt KX EYh (by rw [Yh]; have := OKP.out.t; simp only at this; omega)) (by simp)]) (by decide))
        have GQ := Lib.hid (gq_bad l _ HE.out (by decide))
        have EN := Lib.hid (VL.out.end_ 0 0 false 0 none 0 0)
        obtain ⟨⟨y0, y1, y2, y3, y4⟩, ⟨x0, x1, x2, x3, x4⟩, z0, z1, z2, z3, z4⟩ := VL.out.c
        clear VL
        go_wp2_with fail
        show bodyPost _ _ _ _ _ (set5 wr w.heap.size 0 0 false 0 none 0 0)
        clear x0 x1 x2 x3 x4 y0 y1 y2 y3 y4 z0 z1 z2 z3 z4
        generalize set5 wr w.heap.size 0 0 false 0 none 0 0 = wf at EN ⊢
        obtain ⟨k0, k1, k2, k3, k4, _⟩ := sto_cells EN.out.1
        refine bodyPost_ret (v := .tuple #[stv 0 0 false 0 none 0 0, .int .i64 5]) ?_ rfl ⟨none, 0, 0, by rw [GQ.out, HE.out]; first | rfl | skip, by rw [GQ.out]; rfl, by rw [GQ.out]; exact Lib.hid (Rus.nil _ _), EN.out.2.2⟩
        simp [results, Try.results11, go_sem, *]
      have d2 : decide (((18446744073709551615 - pt : Nat) : Int) < (Y : Int)) = false := decide_eq_false (by omega)
      have d2' : decide (18446744073709551615 - pt < Y) = false := decide_eq_false cy
      have hadd2 : IntKind.u64.wrap ((pt : Int) + (Y : Int)) = ((pt + Y : Nat) : Int) := by rw [IntKind.wrap_u64]; omega
      have AY := Lib.hid (show abs l pt (KX, 0) = (KY, 0) ∧ abn l pt (KX, 0) = pt + Y by have := abs_0 l pt KX EYh (by rw [Yh]; omega); rw [KYh, Yh] at this; exact this)
      clear KYh Yh EYh
      go_wp2_with fail
      refine (G.out wr VL.out.bel KY).mono ?_
      rintro _ _ ⟨rfl, rfl⟩
      obtain ⟨KZ, KZh⟩ : ∃ x, gK l KY = x := ⟨_, rfl⟩
      obtain ⟨Z, Zh⟩ : ∃ x, gN l KY = x := ⟨_, rfl⟩
      obtain ⟨EZ, EZh⟩ : ∃ x, gE l KY = x := ⟨_, rfl⟩
      rw [KZh, Zh, EZh]
      have ON := Lib.hid (show onr l ⟨ps, pt, px⟩ ((K : Int), 0) = ⟨ps + X, pt + Y, Z⟩ ∧ ons l ⟨ps, pt, px⟩ ((K : Int), 0) = (KZ, EZ) by
        unfold onr ons
        rw [AX.out.1, AX.out.2]
        show (⟨ps + X, abn l pt (KX, 0), rdn l (abs l pt (KX, 0))⟩ : Ru) = _ ∧ rds l (abs l pt (KX, 0)) = _
        rw [AY.out.1, AY.out.2, (rds0 l KY).1, (rds0 l KY).2, Zh, KZh, EZh]
        exact ⟨rfl, rfl⟩)
      by_cases ez : EZ = 0
      case neg =>
        have d3 : ((EZ : Int) == 0) = false := by simp; omega
        have HE := Lib.hid (HER.out R j ⟨ps, pt, px⟩ ((K : Int), 0) TOT.out EZ (by rw [ON.out.2]) ez)
        have GQ := Lib.hid (gq_bad l _ HE.out ez)
        have EN := Lib.hid (VL.out.end_ 0 0 false 0 none 0 0)
        obtain ⟨⟨y0, y1, y2, y3, y4⟩, ⟨x0, x1, x2, x3, x4⟩, z0, z1, z2, z3, z4⟩ := VL.out.c
        clear VL
        go_wp2_with fail
        show bodyPost _ _ _ _ _ (set5 wr w.heap.size 0 0 false 0 none 0 0)
        clear x0 x1 x2 x3 x4 y0 y1 y2 y3 y4 z0 z1 z2 z3 z4
        generalize set5 wr w.heap.size 0 0 false 0 none 0 0 = wf at EN ⊢
        obtain ⟨k0, k1, k2, k3, k4, _⟩ := sto_cells EN.out.1
        refine bodyPost_ret (v := .tuple #[stv 0 0 false 0 none 0 0, .int .i64 (EZ : Int)]) ?_ rfl ⟨none, 0, 0, by rw [GQ.out, HE.out]; first | rfl | skip, by rw [GQ.out]; rfl, by rw [GQ.out]; exact Lib.hid (Rus.nil _ _), EN.out.2.2⟩
        simp [results, Try.results11, go_sem, *]
      subst ez
      have KZB := Lib.hid (show 0 ≤ KZ ∧ KZ ≤ (m : Int) by have := (g_ok l KY HR.out EZh); rw [KZh, HL.out] at this; omega)
      have ZL := Lib.hid (show Z < 18446744073709551616 by rw [← Zh]; exact g_lt l _ HR.out)
      clear KZh Zh EZh
      obtain ⟨kz, rfl⟩ : ∃ kz : Nat, KZ = (kz : Int) := ⟨KZ.toNat, by have := KZB.out; omega⟩
      obtain ⟨_, _, _, _, g4, gf⟩ := sto_cells VL.out.ss
      have gf4 := gf 4
      have VV : Hid (∀ W, W = wr.alloc (robj ⟨ps + X, pt + Y, Z⟩) → Lv w W N0 N1 false 0 A k c R) := Lib.hid (fun W h => by subst h; exact VL.out.next (below_alloc _ _))
      have NB := Lib.hid (below_alloc wr (robj ⟨ps + X, pt + Y, Z⟩))
      have O8 := Lib.hid (OwnRu.below VL.out.o NB.out)
      have MB := Lib.hid (robj_cells (heap_alloc_new wr (robj ⟨ps + X, pt + Y, Z⟩)))
      have SZ := Lib.hid (Nat.le_trans VL.out.size NB.out.size)
      have RL := Lib.hid VL.out.l
      clear gf VL
      go_wp2_with (at_builtin; refine wp_appRu (.tmp 135) (.tmp 140) _ rfl rfl (w.heap.size + 1 + 1 + 1) _ R rfl O8.out wr.heap.size rfl ⟨ps + X, pt + Y, Z⟩ MB.out.1 MB.out.2.1 MB.out.2.2.1 (by have := HI.out.1; have := H64.out; omega) SZ.out (k + 1) (by rw [RL.out]) ?_; intro A9 c9 w9 ho9 hb9; have VM := Lib.hid ((VV.out _ rfl).more hb9 ho9); have ff : w9.frozen? ⟨w.heap.size + 1 + 1, 4, none⟩ = false := (sto_cells ((hb9.block _ (by omega)).trans (VV.out _ rfl).ss)).2.2.2.2.2 4; have fc := (sto_cells ((hb9.block _ (by omega)).trans (VV.out _ rfl).ss)).2.2.2.2.1; clear ho9 hb9 O8 MB SZ)
      have hwi : IntKind.u64.wrap ((i : Int) + 1) = ((i + 1 : Nat) : Int) := by have := H64.out; rw [IntKind.wrap_u64]; omega
      refine ⟨⟨i + 1, ⟨ps + X, pt + Y, Z⟩, kz, A9, k + 1, c9, R ++ [⟨ps + X, pt + Y, Z⟩], by go_num, by go_num, by go_num, rfl, by omega, Lib.hid ⟨VM.out, by rw [List.length_append, HI.out.1]; rfl, by have := KZB.out; omega, ⟨by simp only; omega, by simp only; omega, ZL.out⟩, ?_⟩⟩, by simp [intOf]; omega⟩
      rw [HJ.out, TOT.out]
      have e1 := ON.out.1
      have e2 := ON.out.2
      simp only [rrs, List.append_assoc]
      rw [e1, e2]
      rfl
    obtain rfl : i = N2 := by omega
    have HZ := Lib.hid (HZ0.out R ((K : Int), 0) (by have := HI.out.2.2.2; rw [Nat.sub_self] at this; simpa [rrs] using this))
    have di : decide ((i : Int) < (i : Int)) = false := by simp
    have KM := HI.out.2.1
    by_cases ck : K < m
    · have d1 : decide ((K : Int) < (m : Int)) = true := decide_eq_true (by omega)
      have d1' : decide (K < m) = true := decide_eq_true ck
      have HE := Lib.hid (show (s6 l).2 = 2 by rw [HZ.out.2]; (try simp only); rw [decide_eq_false (by omega)]; rfl)
      have GQ := Lib.hid (gq_bad l _ HE.out (by decide))
      have EN := Lib.hid (VL.out.end_ 0 0 false 0 none 0 0)
      obtain ⟨⟨y0, y1, y2, y3, y4⟩, ⟨x0, x1, x2, x3, x4⟩, z0, z1, z2, z3, z4⟩ := VL.out.c
      clear VL
      go_wp2_with fail
      show bodyPost _ _ _ _ _ (set5 wr w.heap.size 0 0 false 0 none 0 0)
      clear x0 x1 x2 x3 x4 y0 y1 y2 y3 y4 z0 z1 z2 z3 z4
      generalize set5 wr w.heap.size 0 0 false 0 none 0 0 = wf at EN ⊢
      obtain ⟨k0, k1, k2, k3, k4, _⟩ := sto_cells EN.out.1
      refine bodyPost_ret (v := .tuple #[stv 0 0 false 0 none 0 0, .int .i64 2]) ?_ rfl ⟨none, 0, 0, by rw [GQ.out, HE.out]; first | rfl | skip, by rw [GQ.out]; rfl, by rw [GQ.out]; exact Lib.hid (Rus.nil _ _), EN.out.2.2⟩
      simp [results, Try.results11, go_sem, *]
    have d1 : decide ((K : Int) < (m : Int)) = false := decide_eq_false (by omega)
    have d1' : decide (K < m) = false := decide_eq_false ck
    have HY := Lib.hid (show s6 l = mst ((K : Int), 0) (Go.Proofs.Ytmooblbnkjaenaa.wr N0 N1 false 0 R) 1 by rw [HZ.out.2]; (try simp only); rw [decide_eq_true (by omega), mst_yes])
    have HQ := Lib.hid HZ.out.1
    have MC := Lib.hid (may_any N0 N1 false 0 A k c R wr VL.out.l (by have := HI.out.1; have := VL.out.l; have := H64.out; omega) VL.out.rus)
    obtain ⟨g0, g1, g2, g3, g4, _⟩ := sto_cells VL.out.ss
    obtain ⟨ok, hok⟩ : ∃ ok, Go.Proofs.Ytmooblbnkjaenaa.wr N0 N1 false 0 R = ok := ⟨_, rfl⟩
    rw [hok] at MC HY
    clear hok HZ ck
    go_wp2_with fail
    refine MC.out.mono ?_
    rintro _ w6 ⟨rfl, hb6⟩
    have V6 := Lib.hid (VL.out.next hb6)
    clear hb6 VL g0 g1 g2 g3 g4 MC d1 d1'
    cases ok
    · have HE := Lib.hid (show (s6 l).2 = 1 by rw [HY.out]; rfl)
      have GQ := Lib.hid (gq_bad l _ HE.out (by decide))
      have EN := Lib.hid (V6.out.end_ 0 0 false 0 none 0 0)
      obtain ⟨⟨y0, y1, y2, y3, y4⟩, ⟨x0, x1, x2, x3, x4⟩, z0, z1, z2, z3, z4⟩ := V6.out.c
      clear V6
      go_wp2_with fail
      show bodyPost _ _ _ _ _ (set5 w6 w.heap.size 0 0 false 0 none 0 0)
      clear x0 x1 x2 x3 x4 y0 y1 y2 y3 y4 z0 z1 z2 z3 z4
      generalize set5 w6 w.heap.size 0 0 false 0 none 0 0 = wf at EN ⊢
      obtain ⟨k0, k1, k2, k3, k4, _⟩ := sto_cells EN.out.1
      refine bodyPost_ret (v := .tuple #[stv 0 0 false 0 none 0 0, .int .i64 1]) ?_ rfl ⟨none, 0, 0, by rw [GQ.out, HE.out]; first | rfl | skip, by rw [GQ.out]; rfl, by rw [GQ.out]; exact Lib.hid (Rus.nil _ _), EN.out.2.2⟩
      simp [results, Try.results11, go_sem, *]
    · have HE := Lib.hid (show (s6 l).2 = 0 by rw [HY.out, mst_yes])
      have GQ := Lib.hid (show gq l = ⟨N0, N1, false, 0, R⟩ by unfold gq; rw [if_pos HE.out, HQ.out])
      have EN := Lib.hid (V6.out.end_ N0 N1 false 0 A k c)
      have LK := Lib.hid V6.out.l
      obtain ⟨g0, g1, g2, g3, g4, _⟩ := sto_cells V6.out.ss
      obtain ⟨⟨_, _, _, _, _⟩, ⟨x0, x1, x2, x3, x4⟩, z0, z1, z2, z3, z4⟩ := V6.out.c
      clear V6
      go_wp2_with fail
      show bodyPost _ _ _ _ _ (set5 w6 w.heap.size N0 N1 false 0 A k c)
      clear g0 g1 g2 g3 g4 x0 x1 x2 x3 x4 z0 z1 z2 z3 z4
      generalize set5 w6 w.heap.size N0 N1 false 0 A k c = wf at EN ⊢
      obtain ⟨k0, k1, k2, k3, k4, _⟩ := sto_cells EN.out.1
      refine bodyPost_ret (v := .tuple #[stv N0 N1 false 0 A k c, .int .i64 0]) ?_ rfl ⟨_, _, _, by rw [GQ.out, HE.out]; rfl, by rw [GQ.out]; exact LK.out, by rw [GQ.out]; exact Lib.hid EN.out.2.1, EN.out.2.2⟩
      simp [results, Try.results11, go_sem, *]
end Go.Proofs.Ytmooblbnkjaenaa
