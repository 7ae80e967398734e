/- ValueGets: the walk of the statement's own function. -/
import Derived.Test.YtfhppababngiiaaVlPuts
import Derived.Deep.RegionHeld3
namespace Go.Proofs.Ytfhppababngiiaa
open Go Go.RowKit Pk Rl


set_option maxHeartbeats 4000000 in
theorem gets_bad (a : Option Addr) (len cap : Nat) (l : List Int) (p : Int) (K : Int) (E : Nat) (k n : Int) (r : Nat) (s : ByteArray) (w : World) (hl : l.length = len) (hm : len ≤ 2000) (hb : Byt w a l) (hE : ((E : Int) != 0) = true)
    (G1 : Hid (∀ w, Byt w a l → Calls Try.prog 18 #[.slice a len cap, .int .i64 p] w fun e w' => e = .returned (got3 (vl k n r s) K (E : Int)) ∧ Below w.heap.size w w'))
    (G2 : Hid (∀ w, Byt w a l → Calls Try.prog 19 #[.slice a len cap, .int .i64 p] w fun e w' => e = .returned (got3 (vl k n r s) K (E : Int)) ∧ Below w.heap.size w w'))
    (SM : Hid (∀ w, Calls Try.prog 15 #[vl k n r s, vl k n r s] w fun e w' => e = .returned (.bool true) ∧ Below w.heap.size w w'))
    (SZ : Hid (∀ w, Calls Try.prog 15 #[vl k n r s, v0] w fun e w' => e = .returned (.bool true) ∧ Below w.heap.size w w')) :
    Calls Try.prog 5 #[.slice a len cap, .int .i64 p] w fun e w' => e = .returned (.bool true) ∧ Below w.heap.size w w' := by
  have FX := Lib.hid fixed_any
  have HB := Lib.hid hb
  have HL := Lib.hid hl
  have sf := run_store_float
  have hd : decide ((2000 : Int) < (len : Int)) = false := by simp; omega
  have hdn : decide (2000 < len) = false := by simp; omega
  clear hl hb hm
  go_enter Try.func5, Try.ntmps5
  go_wp2_with fail
  refine (G1.out _ HB.out).mono ?_
  rintro e w1 ⟨rfl, hbl⟩
  have V1 := Lib.hid (At4.alloc w1 k n r s)
  have B1 := Lib.hid (hbl.alloc hbl.size (vcells k n r s))
  clear hbl G1
  go_wp2_with fail
  refine (G2.out _ (HB.out.below B1.out)).mono ?_
  rintro e w2 ⟨rfl, hbl⟩
  have V2 := Lib.hid ((V1.out.next hbl).next ((Below.refl w2.heap.size w2).alloc (Nat.le_refl _) (vcells k n r s)))
  have U2 := Lib.hid (At4.alloc w2 k n r s)
  have B2 := Lib.hid ((below_go B1.out hbl).alloc (Nat.le_trans B1.out.size hbl.size) (vcells k n r s))
  clear hbl G2 V1 B1
  go_wp2_with fail
  refine (FX.out _).mono ?_
  rintro e w3 ⟨rfl, hbl⟩
  have V3 := Lib.hid (V2.out.next hbl)
  have U3 := Lib.hid (U2.out.next hbl)
  have B3 := Lib.hid (below_go B2.out hbl)
  clear hbl FX V2 U2 B2
  obtain ⟨c0, c1, c2, c3⟩ := V3.out
  obtain ⟨d0, d1, d2, d3⟩ := U3.out
  go_wp2_with fail
  refine (SM.out _).mono ?_
  rintro e w4 ⟨rfl, hbl⟩
  have V4 := Lib.hid (V3.out.next hbl)
  have B4 := Lib.hid (below_go B3.out hbl)
  clear hbl V3 U3 B3 c0 c1 c2 c3 d0 d1 d2 d3
  obtain ⟨c0, c1, c2, c3⟩ := V4.out
  go_wp2_with fail
  refine (SZ.out _).mono ?_
  rintro e w5 ⟨rfl, hbl⟩
  have B5 := Lib.hid (below_go B4.out hbl)
  clear hbl
  go_wp2_with fail
  go_ret
  exact ⟨rfl, B5.out⟩

theorem keep7 {w W W' : World} {m : Nat} {p0 p1 p2 p3 : Addr} {x0 x1 x2 x3 : Value} {S1 S2 : World → Prop}
    (hb : Below W.heap.size W W') (h : W.cell? p0 = some x0 ∧ W.cell? p1 = some x1 ∧ W.cell? p2 = some x2 ∧ W.cell? p3 = some x3 ∧ S1 W ∧ S2 W ∧ Below m w W ∧ m ≤ W.heap.size) (hS : ∀ V, Below m w V → S1 V ∧ S2 V) :
    W'.cell? p0 = some x0 ∧ W'.cell? p1 = some x1 ∧ W'.cell? p2 = some x2 ∧ W'.cell? p3 = some x3 ∧ S1 W' ∧ S2 W' ∧ Below m w W' ∧ m ≤ W'.heap.size := by
  obtain ⟨h0, h1, h2, h3, _, _, hw, hz⟩ := h
  have z := hb.size
  have hB := hw.trans (hb.mono hz)
  refine ⟨?_, ?_, ?_, ?_, (hS W' hB).1, (hS W' hB).2, hB, by omega⟩
  · rw [hb.cell (World.block_lt_of_cell? _ _ h0)]; exact h0
  · rw [hb.cell (World.block_lt_of_cell? _ _ h1)]; exact h1
  · rw [hb.cell (World.block_lt_of_cell? _ _ h2)]; exact h2
  · rw [hb.cell (World.block_lt_of_cell? _ _ h3)]; exact h3
set_option maxHeartbeats 8000000 in
set_option maxRecDepth 100000 in
theorem gets_ok (bb off : Nat) (len cap : Nat) (l : List Int) (p K : Nat) (k n : Int) (r : Nat) (s : ByteArray) (q : List Int) (w : World) (hl : l.length = len) (hm : len ≤ 2000) (hc : len ≤ cap) (hb : Byt w (some ⟨bb, off, none⟩) l)
    (h1 : p < K) (h2 : K ≤ len) (hcut : (l.drop p).take (K - p) = q)
    (G1 : Hid (∀ w, Byt w (some ⟨bb, off, none⟩) l → Calls Try.prog 18 #[.slice (some ⟨bb, off, none⟩) len cap, .int .i64 (p : Int)] w fun e w' => e = .returned (got3 (vl k n r s) (K : Int) 0) ∧ Below w.heap.size w w'))
    (G2 : Hid (∀ w, Byt w (some ⟨bb, off, none⟩) l → Calls Try.prog 19 #[.slice (some ⟨bb, off, none⟩) len cap, .int .i64 (p : Int)] w fun e w' => e = .returned (got3 (vl k n r s) (K : Int) 0) ∧ Below w.heap.size w w'))
    (SM : Hid (∀ w, Calls Try.prog 15 #[vl k n r s, vl k n r s] w fun e w' => e = .returned (.bool true) ∧ Below w.heap.size w w'))
    (MY : Hid (∀ w, Calls Try.prog 12 #[vl k n r s] w fun e w' => e = .returned (.bool true) ∧ Below w.heap.size w w'))
    (PU : Hid (∀ w, Calls Try.prog 16 #[.slice none 0 0, vl k n r s] w fun e w' => ∃ A' k' c', e = .returned (.tuple #[.slice A' k' c', .int .i64 0]) ∧ ([] ++ q).length = k' ∧ Own w' w.heap.size (.slice A' k' c') ([] ++ q) ∧ Below w.heap.size w w')) :
    Calls Try.prog 5 #[.slice (some ⟨bb, off, none⟩) len cap, .int .i64 (p : Int)] w fun e w' => e = .returned (.bool true) ∧ Below w.heap.size w w' := by
  have FX := Lib.hid fixed_any
  have HB := Lib.hid hb
  have HL := Lib.hid hl
  have sf := run_store_float
  have hd : decide ((2000 : Int) < (len : Int)) = false := by simp; omega
  have hdn : decide (2000 < len) = false := by simp; omega
  have RQ := Lib.hid (show ∀ c ∈ q, 0 ≤ c ∧ c < 256 by rw [← hcut]; exact fun c hc => hb.2 c (List.mem_of_mem_drop (List.mem_of_mem_take hc)))
  have C2 := Lib.hid (fun w' (hbl : Below w.heap.size w w') => run_str w' (some ⟨bb, off + p, none⟩) (K - p) (cap - p) q (by rw [← hcut]; exact cut_len l p (K - p) (by omega)) (by rw [← hcut]; exact byt_cut (hb.below hbl) p (K - p) (by omega)))
  rw [List.nil_append] at PU
  clear hl hb hm hcut
  go_enter Try.func5, Try.ntmps5
  go_wp2_with fail
  refine (G1.out _ HB.out).mono ?_
  rintro e w1 ⟨rfl, hbl⟩
  have V1 := Lib.hid (At4.alloc w1 k n r s)
  have B1 := Lib.hid (hbl.alloc hbl.size (vcells k n r s))
  clear hbl G1
  go_wp2_with fail
  refine (G2.out _ (HB.out.below B1.out)).mono ?_
  rintro e w2 ⟨rfl, hbl⟩
  have V2 := Lib.hid ((V1.out.next hbl).next ((Below.refl w2.heap.size w2).alloc (Nat.le_refl _) (vcells k n r s)))
  have U2 := Lib.hid (At4.alloc w2 k n r s)
  have B2 := Lib.hid ((below_go B1.out hbl).alloc (Nat.le_trans B1.out.size hbl.size) (vcells k n r s))
  clear hbl G2 V1 B1
  go_wp2_with fail
  refine (FX.out _).mono ?_
  rintro e w3 ⟨rfl, hbl⟩
  have V3 := Lib.hid (V2.out.next hbl)
  have U3 := Lib.hid (U2.out.next hbl)
  have B3 := Lib.hid (below_go B2.out hbl)
  clear hbl FX V2 U2 B2
  obtain ⟨c0, c1, c2, c3⟩ := V3.out
  obtain ⟨d0, d1, d2, d3⟩ := U3.out
  go_wp2_with fail
  refine (SM.out _).mono ?_
  rintro e w4 ⟨rfl, hbl⟩
  have V4 := Lib.hid (V3.out.next hbl)
  have B4 := Lib.hid (below_go B3.out hbl)
  clear hbl V3 U3 B3 c0 c1 c2 c3 d0 d1 d2 d3
  obtain ⟨c0, c1, c2, c3⟩ := V4.out
  go_wp2_with fail
  refine (PU.out _).mono ?_
  rintro e w5 ⟨A5, k5, cp5, rfl, hk5, ho5, hbl⟩
  have V5 := Lib.hid (V4.out.next hbl)
  have B5 := Lib.hid (below_go B4.out hbl)
  have O5 := Lib.hid ho5
  have K5 := Lib.hid hk5
  clear hbl ho5 hk5 V4 B4 c0 c1 c2 c3 PU SM
  have CS := Lib.hid (fun V (hV : Below w5.heap.size w5 V) => And.intro ((O5.out.below hV).str RQ.out K5.out) (C2.out V (below_go B5.out hV)))
  have CD := Lib.hid (CS.out w5.drew (Below.refl _ _).drew)
  obtain ⟨c0, c1, c2, c3⟩ := V5.out
  have hcq : (cap = p) = False := by simp; omega
  have t1 : decide (K ≤ len) = true := by simp; omega
  have t2 : decide ((0 : Int) ≤ (p : Int)) = true := by simp
  have t3 : decide (p ≤ K) = true := by simp; omega
  have t4 : K ≤ cap := by omega
  have t5 : p ≤ K := by omega
  go_wp2_with fail
  go_region_held3 (fun W => W.cell? ⟨w1.heap.size, 0, none⟩ = some (.int .u8 k) ∧ W.cell? ⟨w1.heap.size, 1, none⟩ = some (.int .i64 n) ∧ W.cell? ⟨w1.heap.size, 2, none⟩ = some (.float .f64 r) ∧ W.cell? ⟨w1.heap.size, 3, none⟩ = some (.string s) ∧ (convert 36 9 (.slice A5 k5 cp5)).run Try.prog W = .ok (.string (strOfNums q)) W ∧ (convert 36 9 (.slice (some ⟨bb, off + p, none⟩) (K - p) (cap - p))).run Try.prog W = .ok (.string (strOfNums q)) W ∧ Below w5.heap.size w5 W ∧ w5.heap.size ≤ W.heap.size)
    (first | (with_reducible assumption) | exact ⟨c0, c1, c2, c3, CD.out.1, CD.out.2, (Below.refl _ _).drew, Nat.le_refl _⟩ | exact keep7 (S1 := fun W => (convert 36 9 (.slice A5 k5 cp5)).run Try.prog W = .ok (.string (strOfNums q)) W) (S2 := fun W => (convert 36 9 (.slice (some ⟨bb, off + p, none⟩) (K - p) (cap - p))).run Try.prog W = .ok (.string (strOfNums q)) W) b1 (by assumption) CS.out)
    (first
      | (go_at_call 12; (with_reducible refine (MY.out _).mono ?_); rintro e w' ⟨rfl, b1⟩))
  all_goals (rename_i hHeld; have HW := Lib.hid (below_go B5.out hHeld.2.2.2.2.2.2.1); clear hHeld; go_wp2_with fail; go_ret; exact ⟨rfl, HW.out⟩)

set_option maxHeartbeats 1000000 in
theorem gets_great (a : Option Addr) (len cap : Nat) (p : Int) (w : World) (hx : len ≤ 9223372036854775807) (h : 2000 < len) :
    Calls Try.prog 5 #[.slice a len cap, .int .i64 p] w fun e w' => e = .returned (.bool true) ∧ Below w.heap.size w w' := by
  have FX := Lib.hid fixed_any
  go_enter Try.func5, Try.ntmps5
  go_wp2_with fail
  refine (FX.out _).mono ?_
  rintro e w' ⟨rfl, hb⟩
  go_wp2_with fail
  go_ret
  exact ⟨rfl, hb⟩
theorem gets_walk (a : Option Addr) (len cap : Nat) (l : List Int) (p : Int) (w : World) (hl : l.length = len) (hx : len ≤ maxLen) (hc : len ≤ cap) (h1 : p ≤ 9223372036854775807) (hb : Byt w a l) :
    Calls Try.prog 5 #[.slice a len cap, .int .i64 p] w fun e w' => e = .returned (.bool true) ∧ Below w.heap.size w w' := by
  unfold maxLen at hx
  by_cases c : 2000 < len
  · exact gets_great a len cap p w (by omega) c
  have G1 := fun w hb => vget_any a len cap l p w hl (by omega) hc h1 hb
  have G2 := fun w hb => rvget_any a len cap l p w hl (by omega) hc h1 hb
  have F1 := vg_only l p hb.2 (by omega)
  have F2 := vg_bad l p
  obtain ⟨x, hx2⟩ : ∃ x, vg l p = x := ⟨_, rfl⟩
  rw [hx2] at G1 G2 F1 F2
  obtain ⟨⟨k, n, r, s⟩, K, E⟩ := x
  clear hx2
  by_cases hE : E = 0
  · subst hE
    obtain ⟨q, K', rfl, rfl, o⟩ := F1 rfl
    have hq : q < K' := by
      have h := o.cut
      rcases Nat.lt_or_ge q K' with g | g
      · exact g
      · rw [show K' - q = 0 by omega, List.take_zero] at h
        exact absurd (congrArg List.length h) (by unfold wv; simp)
    have ht := o.top
    obtain ⟨bb, off, rfl, _⟩ := hb.1 0 (by omega)
    exact gets_ok bb off len cap l q K' k n r s _ w hl (by omega) hc hb hq (by omega) o.cut (Lib.hid G1) (Lib.hid G2)
      (Lib.hid fun w => by have := rvsame_any k n r s k n r s o.re o.re w; rwa [sm_self] at this)
      (Lib.hid fun w => by have := may_any k n r s o.re w; rwa [o.mayb] at this)
      (Lib.hid fun w => vput_any none 0 0 [] k n r s w o.mayb o.lo o.hi o.re rfl (by omega) (fun _ => rfl) (Byt.nil w))
  · have e := F2 hE
    simp only [Prod.mk.injEq] at e
    obtain ⟨rfl, rfl, rfl, rfl⟩ := e
    have S := fun w => rvsame_any 0 0 0 ⟨#[]⟩ 0 0 0 ⟨#[]⟩ (by omega) (by omega) w
    rw [sm_self] at S
    exact gets_bad a len cap l p K E 0 0 0 ⟨#[]⟩ w hl (by omega) hb (by simp; omega) (Lib.hid G1) (Lib.hid G2) (Lib.hid S) (Lib.hid S)
end Go.Proofs.Ytfhppababngiiaa
