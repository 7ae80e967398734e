/- EventReads: the walk of the statement's own function. -/
import Derived.Test.YtjpdnojkgadklaaEvLog
namespace Go.Proofs.Ytjpdnojkgadklaa
open Go Go.RowKit Pk Rl
set_option maxRecDepth 20000

set_option maxHeartbeats 4000000 in
theorem reads_all (b : Option Addr) (len cap : Nat) (l : List Int) (P S T : Nat) (t : Int) (L : List VV) (E : Nat) (w : World) (hl : l.length = len) (hm : len ≤ 3000) (hb : Byt w b l)
    (G1 : Hid (∀ w, Byt w b l → Calls Try.prog 21 #[.slice b len cap] w fun e w' => ∃ A k c', e = .returned (got2 P S T t A k c' (E : Int)) ∧ L.length = k ∧ OwnV w' w.heap.size (.slice A k c') L ∧ Below w.heap.size w w'))
    (G2 : Hid (∀ w, Byt w b l → Calls Try.prog 23 #[.slice b len cap] w fun e w' => ∃ A k c', e = .returned (got2 P S T t A k c' (E : Int)) ∧ L.length = k ∧ OwnV w' w.heap.size (.slice A k c') L ∧ Below w.heap.size w w'))
    (h8 : L.length ≤ 8) (hk : ∀ v ∈ L, Okv v)
    (hE : Hid (E ≠ 0 ∨ E = 0 ∧ ∀ A k c w, L.length = k → Vals w A L → Calls Try.prog 19 #[lg P S T t A k c] w fun e w' => ∃ A' k' c', e = .returned (.tuple #[.slice A' k' c', .int .i64 0]) ∧ l.length = k' ∧ Own w' w.heap.size (.slice A' k' c') l ∧ Below w.heap.size w w')) :
    Calls Try.prog 6 #[.slice b len cap] w fun e w' => e = .returned (.bool true) ∧ Below w.heap.size w w' := by
  have FX := Lib.hid fixed_any
  have HB := Lib.hid hb
  have HL := Lib.hid hl
  have SM := Lib.hid (fun A k c A' k' c' w (h1 : L.length = k) (h2 : L.length = k') (h3 : Vals w A L) (h4 : Vals w A' L) => slog_any P S T t t A A' k c k' c' w true (Lib.hid fun w1 hw => by
    have := resame_any t t A A' k c k' c' L L w1 h1 h2 (by omega) (h3.below hw) (h4.below hw) hk hk
    rwa [esm_self] at this))
  have hd : decide ((3000 : Int) < (len : Int)) = false := by simp; omega
  have hdn : decide (3000 < len) = false := by simp; omega
  clear hl hb hm h8 hk
  go_enter Try.func6, Try.ntmps6
  go_wp2_with fail
  refine (G1.out _ HB.out).mono ?_
  rintro e w1 ⟨A1, k1, c1, rfl, hk1, ho1, hbl⟩
  have K1 := Lib.hid hk1
  have V1 := Lib.hid (Lgt.alloc w1 P S T t A1 k1 c1)
  have O1 := Lib.hid (ho1.below (below_alloc w1 (lcells P S T t A1 k1 c1)))
  have B1 := Lib.hid (below_go hbl (below_alloc w1 (lcells P S T t A1 k1 c1)))
  clear hbl G1 ho1 hk1
  go_wp2_with fail
  refine (G2.out _ (HB.out.below B1.out)).mono ?_
  rintro e w2 ⟨A2, k2, c2, rfl, hk2, ho2, hbl⟩
  have K2 := Lib.hid hk2
  have D2 := Lib.hid (below_go hbl (below_alloc w2 (lcells P S T t A2 k2 c2)))
  have V2 := Lib.hid (V1.out.next D2.out)
  have O2 := Lib.hid (O1.out.below D2.out)
  have U2 := Lib.hid (Lgt.alloc w2 P S T t A2 k2 c2)
  have P2 := Lib.hid (ho2.below (below_alloc w2 (lcells P S T t A2 k2 c2)))
  have B2 := Lib.hid (below_go B1.out D2.out)
  clear hbl G2 V1 B1 O1 D2 ho2 hk2
  go_wp2_with fail
  refine (FX.out _).mono ?_
  rintro e w3 ⟨rfl, hbl⟩
  have V3 := Lib.hid (V2.out.next hbl)
  have U3 := Lib.hid (U2.out.next hbl)
  have O3 := Lib.hid (O2.out.below hbl)
  have S3 := Lib.hid (SM.out A1 k1 c1 A2 k2 c2 w3 K1.out K2.out O3.out.vals (P2.out.below hbl).vals)
  have B3 := Lib.hid (below_go B2.out hbl)
  clear hbl FX V2 U2 B2 SM O2 P2
  obtain ⟨x0, x1, x2, x3, x4⟩ := V3.out
  obtain ⟨y0, y1, y2, y3, y4⟩ := U3.out
  go_wp2_with fail
  refine S3.out.mono ?_
  rintro e w4 ⟨rfl, hbl⟩
  have B4 := Lib.hid (below_go B3.out hbl)
  have V4 := Lib.hid (V3.out.next hbl)
  have O4 := Lib.hid (O3.out.below hbl)
  clear hbl V3 U3 B3 x0 x1 x2 x3 x4 y0 y1 y2 y3 y4 S3 O3
  rcases hE.out with he | ⟨he, WR⟩
  · have tE : ((E : Int) == 0) = false := by simp; omega
    clear hE
    go_wp2_with fail
    go_ret
    exact ⟨rfl, B4.out⟩
  · subst he
    have W4 := Lib.hid (WR A1 k1 c1 w4 K1.out O4.out.vals)
    clear hE WR
    obtain ⟨x0, x1, x2, x3, x4⟩ := V4.out
    go_wp2_with fail
    refine W4.out.mono ?_
    rintro e w5 ⟨A5, k5, cp5, rfl, hk5, ho5, hbl⟩
    have B5 := Lib.hid (below_go B4.out hbl)
    have s1 := ho5.str HB.out.2 hk5
    have s2 := run_str w5 b len cap l HL.out (HB.out.below B5.out)
    clear hbl hk5 ho5 W4 V4 O4 B4 x0 x1 x2 x3 x4
    go_wp2_with fail
    go_ret
    exact ⟨rfl, B5.out⟩

set_option maxHeartbeats 1000000 in
theorem reads_great (b : Option Addr) (len cap : Nat) (w : World) (hx : len ≤ 9223372036854775807) (h : 3000 < len) :
    Calls Try.prog 6 #[.slice b len cap] w fun e w' => e = .returned (.bool true) ∧ Below w.heap.size w w' := by
  have FX := Lib.hid fixed_any
  go_enter Try.func6, Try.ntmps6
  go_wp2_with fail
  refine (FX.out _).mono ?_
  rintro e w' ⟨rfl, hb⟩
  go_wp2_with fail
  go_ret
  exact ⟨rfl, hb⟩

theorem reads_walk (b : Option Addr) (len cap : Nat) (l : List Int) (w : World) (hl : l.length = len) (hx : len ≤ maxLen) (hc : len ≤ cap) (hb : Byt w b l) :
    Calls Try.prog 6 #[.slice b len cap] w fun e w' => e = .returned (.bool true) ∧ Below w.heap.size w w' := by
  unfold maxLen at hx
  by_cases c : 3000 < len
  · exact reads_great b len cap w (by omega) c
  obtain ⟨h8, hk⟩ := lr_len l hb.2 (by omega)
  refine reads_all b len cap l _ _ _ _ _ _ w hl (by omega) hb (Lib.hid fun w hb => eread_any b len cap l w hl (by omega) hc hb) (Lib.hid fun w hb => reread_any b len cap l w hl (by omega) hc hb) h8 hk (Lib.hid ?_)
  by_cases hE : (lr l).e = 0
  · obtain ⟨f1, f2, f3, f4, f5, f6, f7⟩ := lr_only l hb.2 (by omega) hE
    exact .inr ⟨hE, fun A k c w h1 h2 => ewrite_any _ _ _ _ A k c _ l 0 w f4 f5 f6 f3 h1 (by omega) h2 hk ⟨fun _ => ⟨f1, rfl⟩, fun h => by rw [f2] at h; cases h⟩⟩
  · exact .inl hE
end Go.Proofs.Ytjpdnojkgadklaa
