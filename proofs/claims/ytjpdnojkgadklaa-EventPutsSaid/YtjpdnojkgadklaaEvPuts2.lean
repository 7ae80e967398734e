/- EventPuts: the walk, great events and bytes and others. -/
import Derived.Test.YtjpdnojkgadklaaEvPuts
namespace Go.Proofs.Ytjpdnojkgadklaa
open Go Go.RowKit Pk Rl
set_option maxRecDepth 20000

set_option maxHeartbeats 2000000 in
theorem puts_great (b : Option Addr) (len cap : Nat) (t : Int) (a : Option Addr) (n c : Nat) (R L : List VV) (G : Bool) (w : World) (hlen : len ≤ 9223372036854775807)
    (hx : Raws w a R) (hL : R.take 30 = L) (hn : R.length = n) (hmx : n ≤ maxLen) (hz : ∀ v ∈ L, v.2.2.2.size ≤ maxLen) (hg : egr L = G) (h : G = true ∨ 2000 < len) :
    Calls Try.prog 3 #[.slice b len cap, ev t a n c] w fun e w' => e = .returned (.bool true) ∧ Below w.heap.size w w' := by
  have h30 : L.length ≤ 30 := by rw [← hL]; exact List.length_take_le 30 R
  have FX := Lib.hid fixed_any
  have B0 := Lib.hid (below_alloc w (xcells t a n c))
  have EV := Lib.hid (event_any t a n c R (w.alloc (xcells t a n c)) hn hmx (hx.below B0.out))
  rw [hL] at EV
  have GR := Lib.hid (fun A k c w (h1 : L.length = k) h2 => great_any t A k c L w h1 (by omega) h2 hz)
  rw [hg] at GR
  have HH := Lib.hid h
  clear hx hL hn hmx hz hg h30 h
  go_enter Try.func3, Try.ntmps3
  go_wp2_with fail
  refine EV.out.mono ?_
  rintro e w1 ⟨A1, k1, c1, rfl, hk1, ho1, hbl⟩
  have K1 := Lib.hid hk1
  have O1 := Lib.hid ((ho1.below (below_alloc w1 (ecells t A1 k1 c1))).vals)
  have B1 := Lib.hid (below_go (below_go B0.out hbl) (below_alloc w1 (ecells t A1 k1 c1)))
  clear hbl EV ho1 hk1 B0
  go_wp2_with fail
  refine (GR.out A1 k1 c1 _ K1.out O1.out).mono ?_
  rintro e w2 ⟨rfl, hbl⟩
  have B2 := Lib.hid (below_go B1.out hbl)
  clear hbl GR O1 B1
  cases G
  · have hh : 2000 < len := by
      rcases HH.out with h | h
      · cases h
      · exact h
    have hd : decide ((2000 : Int) < (len : Int)) = true := by simp; omega
    clear HH
    go_wp2_with fail
    refine (FX.out _).mono ?_
    rintro e w3 ⟨rfl, hbl⟩
    have B3 := Lib.hid (below_go B2.out hbl)
    clear hbl
    go_wp2_with fail
    go_ret
    exact ⟨rfl, B3.out⟩
  · clear HH
    go_wp2_with fail
    refine (FX.out _).mono ?_
    rintro e w3 ⟨rfl, hbl⟩
    have B3 := Lib.hid (below_go B2.out hbl)
    clear hbl
    go_wp2_with fail
    go_ret
    exact ⟨rfl, B3.out⟩

theorem puts_walk (b : Option Addr) (len cap : Nat) (l : List Int) (t : Int) (a : Option Addr) (n c : Nat) (R : List VV) (w : World) (hl : l.length = len) (hlen : len ≤ maxLen) (hcap : b = none → cap = 0) (hb : Byt w b l) (ht : 0 ≤ t ∧ t < 256)
    (hx : Raws w a R) (hn : R.length = n) (hmx : n ≤ maxLen) (hk0 : ∀ v ∈ R, Okv v) (hz0 : ∀ v ∈ R, v.2.2.2.size ≤ maxLen) :
    Calls Try.prog 3 #[.slice b len cap, ev t a n c] w fun e w' => e = .returned (.bool true) ∧ Below w.heap.size w w' := by
  have hlen' : len ≤ 9223372036854775807 := by unfold maxLen at hlen; omega
  have hk : ∀ v ∈ R.take 30, Okv v := fun v hv => hk0 v (List.mem_of_mem_take hv)
  have hz : ∀ v ∈ R.take 30, v.2.2.2.size ≤ maxLen := fun v hv => hz0 v (List.mem_of_mem_take hv)
  by_cases hg : egr (R.take 30) = true ∨ 2000 < len
  · exact puts_great b len cap t a n c R _ _ w hlen' hx rfl hn hmx hz rfl hg
  have hg1 : egr (R.take 30) = false := by
    cases h : egr (R.take 30)
    · rfl
    · exact absurd (.inl h) hg
  have hlen2 : len ≤ 2000 := by
    rcases Nat.lt_or_ge 2000 len with h | h
    · exact absurd (.inr h) hg
    · exact h
  have h30 : (R.take 30).length ≤ 30 := List.length_take_le 30 R
  generalize hL : R.take 30 = L at hk hz hg1 h30
  by_cases hm : emay L = true
  · have hw := wev_range t ht L hm
    have h8 := emay_len hm
    have hwl := wf_len L hk (emay_all hm)
    have hqs : (l ++ wev t L).length ≤ 10000 := by rw [List.length_append, wev, List.length_append]; simp only [List.length_cons, List.length_nil]; omega
    refine puts_small b len cap l t a n c R L 0 (l ++ wev t L) true w hl hlen2 hb hx hL hn hmx hk hz hg1 hm (range_app hb.2 hw)
      (Lib.hid fun A k c w h1 h2 h3 => eput_any b len cap l t A k c L w hl (by omega) hcap h3 ht h1 h2 hk hm)
      (Lib.hid fun A k c w h1 h2 h3 => reput_any b len cap l t A k c L w hl (by omega) hcap h3 ht h1 h2 hk hm)
      (Lib.hid (.inr ⟨rfl, fun A k c w h1 h2 h3 => ?_⟩))
    have G := eget_any A k c (l ++ wev t L) (l.length : Int) w h1 (by omega) h2 (by omega) h3
    rw [eg_back l t L hm hk, h1, hl] at G
    exact G
  · have hm' : emay L = false := by
      cases h : emay L
      · rfl
      · exact absurd h hm
    exact puts_small b len cap l t a n c R L 1 [] false w hl hlen2 hb hx hL hn hmx hk hz hg1 hm' (by simp)
      (Lib.hid fun A k c w h1 h2 _ => (eput_no _ t A k c L w h1 (by omega) h2 hk hm').mono fun e w' h => ⟨none, 0, 0, h.1, rfl, Own.nil _ _, h.2⟩)
      (Lib.hid fun A k c w h1 h2 _ => (reput_no _ t A k c L w h1 (by omega) h2 hk hm').mono fun e w' ⟨A', h⟩ => ⟨A', 0, 0, h.1, rfl, h.2.1, h.2.2⟩)
      (Lib.hid (.inl rfl))
end Go.Proofs.Ytjpdnojkgadklaa
