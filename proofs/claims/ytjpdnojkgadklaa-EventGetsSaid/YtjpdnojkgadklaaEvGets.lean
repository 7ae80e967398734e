/- EventGets: the walk of the statement's own function. -/
import Derived.Test.YtjpdnojkgadklaaEvFix
import Derived.Deep.RegionHeld3
namespace Go.Proofs.Ytjpdnojkgadklaa
open Go Go.RowKit Pk Rl
set_option maxRecDepth 20000

set_option maxHeartbeats 4000000 in
theorem gets_bad (a : Option Addr) (len cap : Nat) (l : List Int) (p : Int) (t K : Int) (E : Nat) (L : List VV) (w : World) (hl : l.length = len) (hm : len ≤ 3000) (hb : Byt w a l) (hE : ((E : Int) != 0) = true)
    (G1 : Hid (∀ w, Byt w a l → Calls Try.prog 17 #[.slice a len cap, .int .i64 p] w fun e w' => ∃ A k c', e = .returned (got3 (ev t A k c') K (E : Int)) ∧ L.length = k ∧ OwnV w' w.heap.size (.slice A k c') L ∧ Below w.heap.size w w'))
    (G2 : Hid (∀ w, Byt w a l → Calls Try.prog 18 #[.slice a len cap, .int .i64 p] w fun e w' => ∃ A k c', e = .returned (got3 (ev t A k c') K (E : Int)) ∧ L.length = k ∧ OwnV w' w.heap.size (.slice A k c') L ∧ Below w.heap.size w w'))
    (h8 : L.length ≤ 8) (hk : ∀ v ∈ L, Okv v) :
    Calls Try.prog 4 #[.slice a len cap, .int .i64 p] w fun e w' => e = .returned (.bool true) ∧ Below w.heap.size w w' := by
  have FX := Lib.hid fixed_any
  have HB := Lib.hid hb
  have SM := Lib.hid (fun A k c A' k' c' w h1 h2 h3 h4 => resame_any t t A A' k c k' c' L L w h1 h2 (by omega) h3 h4 hk hk)
  rw [esm_self] at SM
  have hd : decide ((3000 : Int) < (len : Int)) = false := by simp; omega
  have hdn : decide (3000 < len) = false := by simp; omega
  clear hl hb hm h8 hk
  go_enter Try.func4, Try.ntmps4
  go_wp2_with fail
  refine (G1.out _ HB.out).mono ?_
  rintro e w1 ⟨A1, k1, c1, rfl, hk1, ho1, hbl⟩
  have K1 := Lib.hid hk1
  have V1 := Lib.hid (Evt.alloc w1 t A1 k1 c1)
  have O1 := Lib.hid (ho1.below (below_alloc w1 (ecells t A1 k1 c1)))
  have B1 := Lib.hid (below_go hbl (below_alloc w1 (ecells t A1 k1 c1)))
  clear hbl G1 ho1 hk1
  go_wp2_with fail
  refine (G2.out _ (HB.out.below B1.out)).mono ?_
  rintro e w2 ⟨A2, k2, c2, rfl, hk2, ho2, hbl⟩
  have K2 := Lib.hid hk2
  have D2 := Lib.hid (below_go hbl (below_alloc w2 (ecells t A2 k2 c2)))
  have V2 := Lib.hid (V1.out.next D2.out)
  have O2 := Lib.hid (O1.out.below D2.out)
  have U2 := Lib.hid (Evt.alloc w2 t A2 k2 c2)
  have P2 := Lib.hid (ho2.below (below_alloc w2 (ecells t A2 k2 c2)))
  have B2 := Lib.hid (below_go B1.out D2.out)
  clear hbl G2 V1 B1 O1 D2 ho2 hk2
  go_wp2_with fail
  refine (FX.out _).mono ?_
  rintro e w3 ⟨rfl, hbl⟩
  have V3 := Lib.hid (V2.out.next hbl)
  have U3 := Lib.hid (U2.out.next hbl)
  have S3 := Lib.hid (SM.out A1 k1 c1 A2 k2 c2 w3 K1.out K2.out (O2.out.below hbl).vals (P2.out.below hbl).vals)
  have B3 := Lib.hid (below_go B2.out hbl)
  clear hbl FX V2 U2 B2 SM O2 P2
  obtain ⟨c0, d1⟩ := V3.out
  obtain ⟨d0, d2⟩ := U3.out
  go_wp2_with fail
  refine S3.out.mono ?_
  rintro e w4 ⟨rfl, hbl⟩
  have B4 := Lib.hid (below_go B3.out hbl)
  clear hbl V3 U3 B3 c0 d1 d0 d2 S3
  go_wp2_with fail
  go_ret
  exact ⟨rfl, B4.out⟩

set_option maxHeartbeats 8000000 in
set_option maxRecDepth 100000 in
theorem gets_ok (bb off : Nat) (len cap : Nat) (l : List Int) (p K : Nat) (t : Int) (L : List VV) (q : List Int) (w : World) (hl : l.length = len) (hm : len ≤ 3000) (hc : len ≤ cap) (hb : Byt w (some ⟨bb, off, none⟩) l)
    (h1 : p + 2 ≤ K) (h2 : K ≤ len) (hcut : (l.drop p).take (K - p) = q)
    (G1 : Hid (∀ w, Byt w (some ⟨bb, off, none⟩) l → Calls Try.prog 17 #[.slice (some ⟨bb, off, none⟩) len cap, .int .i64 (p : Int)] w fun e w' => ∃ A k c', e = .returned (got3 (ev t A k c') (K : Int) 0) ∧ L.length = k ∧ OwnV w' w.heap.size (.slice A k c') L ∧ Below w.heap.size w w'))
    (G2 : Hid (∀ w, Byt w (some ⟨bb, off, none⟩) l → Calls Try.prog 18 #[.slice (some ⟨bb, off, none⟩) len cap, .int .i64 (p : Int)] w fun e w' => ∃ A k c', e = .returned (got3 (ev t A k c') (K : Int) 0) ∧ L.length = k ∧ OwnV w' w.heap.size (.slice A k c') L ∧ Below w.heap.size w w'))
    (h8 : L.length ≤ 8) (hk : ∀ v ∈ L, Okv v)
    (PU : Hid (∀ A k c w, L.length = k → Vals w A L → Calls Try.prog 11 #[.slice none 0 0, ev t A k c] w fun e w' => ∃ A' k' c', e = .returned (.tuple #[.slice A' k' c', .int .i64 0]) ∧ ([] ++ q).length = k' ∧ Own w' w.heap.size (.slice A' k' c') ([] ++ q) ∧ Below w.heap.size w w')) :
    Calls Try.prog 4 #[.slice (some ⟨bb, off, none⟩) len cap, .int .i64 (p : Int)] w fun e w' => e = .returned (.bool true) ∧ Below w.heap.size w w' := by
  have FX := Lib.hid fixed_any
  have HB := Lib.hid hb
  have SM := Lib.hid (fun A k c A' k' c' w h1 h2 h3 h4 => resame_any t t A A' k c k' c' L L w h1 h2 (by omega) h3 h4 hk hk)
  rw [esm_self] at SM
  have hd : decide ((3000 : Int) < (len : Int)) = false := by simp; omega
  have hdn : decide (3000 < len) = false := by simp; omega
  have RQ := Lib.hid (show ∀ c ∈ q, 0 ≤ c ∧ c < 256 by rw [← hcut]; exact fun c hc => hb.2 c (List.mem_of_mem_drop (List.mem_of_mem_take hc)))
  have C2 := Lib.hid (fun w' (hbl : Below w.heap.size w w') => run_str w' (some ⟨bb, off + p, none⟩) (K - p) (cap - p) q (by rw [← hcut]; exact cut_len l p (K - p) (by omega)) (by rw [← hcut]; exact byt_cut (hb.below hbl) p (K - p) (by omega)))
  clear hl hb hm h8 hk hcut
  go_enter Try.func4, Try.ntmps4
  go_wp2_with fail
  refine (G1.out _ HB.out).mono ?_
  rintro e w1 ⟨A1, k1, c1, rfl, hk1, ho1, hbl⟩
  have K1 := Lib.hid hk1
  have V1 := Lib.hid (Evt.alloc w1 t A1 k1 c1)
  have O1 := Lib.hid (ho1.below (below_alloc w1 (ecells t A1 k1 c1)))
  have B1 := Lib.hid (below_go hbl (below_alloc w1 (ecells t A1 k1 c1)))
  clear hbl G1 ho1 hk1
  go_wp2_with fail
  refine (G2.out _ (HB.out.below B1.out)).mono ?_
  rintro e w2 ⟨A2, k2, c2, rfl, hk2, ho2, hbl⟩
  have K2 := Lib.hid hk2
  have D2 := Lib.hid (below_go hbl (below_alloc w2 (ecells t A2 k2 c2)))
  have V2 := Lib.hid (V1.out.next D2.out)
  have O2 := Lib.hid (O1.out.below D2.out)
  have U2 := Lib.hid (Evt.alloc w2 t A2 k2 c2)
  have P2 := Lib.hid (ho2.below (below_alloc w2 (ecells t A2 k2 c2)))
  have B2 := Lib.hid (below_go B1.out D2.out)
  clear hbl G2 V1 B1 O1 D2 ho2 hk2
  go_wp2_with fail
  refine (FX.out _).mono ?_
  rintro e w3 ⟨rfl, hbl⟩
  have V3 := Lib.hid (V2.out.next hbl)
  have U3 := Lib.hid (U2.out.next hbl)
  have O3 := Lib.hid (O2.out.below hbl)
  have S3 := Lib.hid (SM.out A1 k1 c1 A2 k2 c2 w3 K1.out K2.out O3.out.vals (P2.out.below hbl).vals)
  have B3 := Lib.hid (below_go B2.out hbl)
  clear hbl FX V2 U2 B2 SM O2 P2
  obtain ⟨c0, d1⟩ := V3.out
  obtain ⟨d0, d2⟩ := U3.out
  go_wp2_with fail
  refine S3.out.mono ?_
  rintro e w4 ⟨rfl, hbl⟩
  have B4 := Lib.hid (below_go B3.out hbl)
  have V4 := Lib.hid (V3.out.next hbl)
  have P4 := Lib.hid (PU.out A1 k1 c1 w4 K1.out (O3.out.below hbl).vals)
  rw [List.nil_append] at P4
  clear hbl V3 U3 B3 c0 d1 d0 d2 S3 O3 PU
  obtain ⟨c0, d1⟩ := V4.out
  go_wp2_with fail
  refine P4.out.mono ?_
  rintro e w5 ⟨A5, k5, cp5, rfl, hk5, ho5, hbl⟩
  have B5 := Lib.hid (below_go B4.out hbl)
  have s1 := (ho5.below (Below.refl _ w5).drew).str RQ.out hk5
  have s2 := C2.out w5.drew B5.out.drew
  have s3 := ho5.str RQ.out hk5
  have s4 := C2.out w5 B5.out
  clear hbl ho5 hk5 V4 B4 c0 d1 P4 RQ C2
  have hcq : (cap = p) = False := by simp; omega
  have t1 : decide (K ≤ len) = true := by simp; omega
  have t2 : decide ((0 : Int) ≤ (p : Int)) = true := by simp
  have t3 : decide (p ≤ K) = true := by simp; omega
  have t4 : K ≤ cap := by omega
  have t5 : p ≤ K := by omega
  go_wp2_with fail
  go_region_held3 (fun W => (convert 22 9 (.slice A5 k5 cp5)).run Try.prog W = .ok (.string (strOfNums q)) W ∧ (convert 22 9 (.slice (some ⟨bb, off + p, none⟩) (K - p) (cap - p))).run Try.prog W = .ok (.string (strOfNums q)) W ∧ Below w.heap.size w W)
    (first | (with_reducible assumption) | exact ⟨s1, s2, B5.out.drew⟩)
    (fail)
  all_goals (rename_i hHeld; have HW := Lib.hid hHeld.2.2; clear hHeld; go_wp2_with fail; go_ret; exact ⟨rfl, HW.out⟩)

set_option maxHeartbeats 1000000 in
theorem gets_great (a : Option Addr) (len cap : Nat) (p : Int) (w : World) (hx : len ≤ 9223372036854775807) (h : 3000 < len) :
    Calls Try.prog 4 #[.slice a len cap, .int .i64 p] w fun e w' => e = .returned (.bool true) ∧ Below w.heap.size w w' := by
  have FX := Lib.hid fixed_any
  go_enter Try.func4, Try.ntmps4
  go_wp2_with fail
  refine (FX.out _).mono ?_
  rintro e w' ⟨rfl, hb⟩
  go_wp2_with fail
  go_ret
  exact ⟨rfl, hb⟩

theorem gets_walk (a : Option Addr) (len cap : Nat) (l : List Int) (p : Int) (w : World) (hl : l.length = len) (hx : len ≤ maxLen) (hc : len ≤ cap) (h1 : p ≤ 9223372036854775807) (hb : Byt w a l) :
    Calls Try.prog 4 #[.slice a len cap, .int .i64 p] w fun e w' => e = .returned (.bool true) ∧ Below w.heap.size w w' := by
  unfold maxLen at hx
  by_cases c : 3000 < len
  · exact gets_great a len cap p w (by omega) c
  have G1 := fun w hb => eget_any a len cap l p w hl (by omega) hc h1 hb
  have G2 := fun w hb => reget_any a len cap l p w hl (by omega) hc h1 hb
  have h8 := eg_len l p hb.2 (by omega)
  have hk := eg_ok l p hb.2 (by omega)
  by_cases hE : (eg l p).e = 0
  · obtain ⟨q, K, rfl, e2, f1, f2, f3, f4, f5⟩ := eg_only l p hb.2 (by omega) hE
    rw [e2, hE] at G1 G2
    obtain ⟨bb, off, rfl, _⟩ := hb.1 0 (by omega)
    exact gets_ok bb off len cap l q K _ _ _ w hl (by omega) hc hb f1 (by omega) f3 (Lib.hid G1) (Lib.hid G2) h8 hk
      (Lib.hid fun A k c w hn hv => eput_any none 0 0 [] _ A k c _ w rfl (by omega) (fun _ => rfl) (Byt.nil w) f5 hn hv hk f4)
  · exact gets_bad a len cap l p _ _ _ _ w hl (by omega) hb (by simpa using hE) (Lib.hid G1) (Lib.hid G2) h8 hk
end Go.Proofs.Ytjpdnojkgadklaa
