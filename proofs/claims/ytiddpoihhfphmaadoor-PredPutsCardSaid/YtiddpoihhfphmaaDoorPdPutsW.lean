/- PredPuts, walked. -/
import Derived.Test.YtiddpoihhfphmaaDoorPdX
import Derived.Test.YtiddpoihhfphmaaDoorPdRPut
import Derived.Test.YtiddpoihhfphmaaDoorPdGet3
import Derived.Test.YtiddpoihhfphmaaDoorPdRE
namespace Go.Proofs.YtiddpoihhfphmaaDoor
open Go Go.RowKit Pk Rl
set_option maxRecDepth 20000

theorem Own.nil (w : World) (B : Nat) : Own w B (.slice none 0 0) [] := World.ownsRow_nil w B 5 1
theorem rpput_any (x : Bool) (b : Option Addr) (len cap : Nat) (l : List Int) (t : Int) (a : Option Addr) (n c : Nat) (L : List TT) (w : World) (hl : l.length = len) (hlen : len ≤ 10000) (hcap : b = none → cap = 0) (hb : Byt w b l) (ht : 0 ≤ t ∧ t < 256)
    (hn : L.length = n) (hv : Tsts w a L) (hk : ∀ v ∈ L, Okt v) (h : pmay x t L = true) :
    Calls Tryd.prog 17 #[.slice b len cap, pv x t a n c] w fun e w' => ∃ A' k' c', e = .returned (.tuple #[.slice A' k' c', .int .i64 0]) ∧ (l ++ wpd x t L).length = k' ∧ Own w' w.heap.size (.slice A' k' c') (l ++ wpd x t L) ∧ Below w.heap.size w w' := by
  cases x
  · exact rpput_f b len cap l t a n c L w hl hlen hcap hb ht hn hv hk h
  · exact rpput_t b len cap l t a n c L w hl hlen hcap hb ht hn hv hk h
theorem smt_nt (v : TT) : smt (nt v) v = true := by
  unfold smt
  have := sm_bt v.2.2.1 v.2.2.2.1 v.2.2.2.2.1 v.2.2.2.2.2
  simp only [decide_true, Bool.true_and]
  exact this
theorem psm_nt (x : Bool) (t : Int) (L : List TT) : psm x t (L.map nt) x t L = true := by
  unfold psm
  simp only [List.length_map, decide_true, Bool.true_and]
  rw [List.all_eq_true]
  intro j hj
  have hj' := List.mem_range.1 hj
  have : (L.map nt).getD j tz = nt (L.getD j tz) := by
    rw [List.getD_eq_getElem?_getD, List.getElem?_map, List.getD_eq_getElem?_getD, List.getElem?_eq_getElem hj']; rfl
  unfold TT2
  rw [this]
  exact smt_nt _

set_option maxHeartbeats 8000000 in
set_option maxRecDepth 100000 in
theorem puts_small (b : Option Addr) (len cap : Nat) (l : List Int) (x : Bool) (t : Int) (a : Option Addr) (n c : Nat) (R L : List TT) (E : Nat) (qs : List Int) (w : World) (hl : l.length = len) (hm : len ≤ 2000) (hcap : b = none → cap = 0) (hb : Byt w b l) (hT : Tab w)
    (hx : Rawts w a R) (hL : R.take 10 = L) (hn : R.length = n) (hmx : n ≤ maxLen) (hk : ∀ v ∈ L, Okt v) (hz : ∀ v ∈ L, v.2.2.2.2.2.size ≤ maxLen) (hg : pgreat L = false) (hqr : ∀ c ∈ qs, 0 ≤ c ∧ c < 256)
    (P1 : Hid (∀ B0 len0 cap0 A k c w, L.length = k → Tsts w A L → l.length = len0 → (B0 = none → cap0 = 0) → Byt w B0 l → Tab w → Calls Tryd.prog 16 #[.slice B0 len0 cap0, pv x t A k c] w fun e w' => ∃ A' k' c', e = .returned (.tuple #[.slice A' k' c', .int .i64 (E : Int)]) ∧ qs.length = k' ∧ Own w' w.heap.size (.slice A' k' c') qs ∧ Below w.heap.size w w'))
    (P2 : Hid (∀ A k c w, L.length = k → Tsts w A L → Byt w b l → Calls Tryd.prog 17 #[.slice b len cap, pv x t A k c] w fun e w' => ∃ A' k' c', e = .returned (.tuple #[.slice A' k' c', .int .i64 (E : Int)]) ∧ qs.length = k' ∧ Own w' w.heap.size (.slice A' k' c') qs ∧ Below w.heap.size w w'))
    (hE : Hid (E = 1 ∨ E = 0 ∧ ∀ A k c w, qs.length = k → k ≤ c → Byt w A qs → Tab w → Calls Tryd.prog 18 #[.slice A k c, .int .i64 (len : Int)] w fun e w' => ∃ A' k' c', e = .returned (got3 (pv x t A' k' c') (k : Int) 0) ∧ (L.map nt).length = k' ∧ OwnT w' w.heap.size (.slice A' k' c') (L.map nt) ∧ Below w.heap.size w w')) :
    Calls Tryd.prog 4 #[.slice b len cap, pv x t a n c] w fun e w' => e = .returned (.bool true) ∧ Below w.heap.size w w' := by
  have h10 : L.length ≤ 10 := by rw [← hL]; exact List.length_take_le 10 R
  have FX := Lib.hid fixed_any
  have B0 := Lib.hid (below_alloc w (xpcells x t a n c))
  have EV := Lib.hid (pred_any x t a n c R (w.alloc (xpcells x t a n c)) hn hmx (hx.below B0.out))
  rw [hL] at EV
  have GR := Lib.hid (fun A k c w (h1 : L.length = k) h2 => pgreat_any x t A k c L w h1 (by omega) h2 hz)
  rw [hg] at GR
  have SN := Lib.hid (fun A k c A' k' c' w (h1 : (L.map nt).length = k) h2 h3 h4 => rpsame_any x t A k c (L.map nt) x t A' k' c' L w h1 h2 (by rw [List.length_map] at h1; omega) h3 h4 (fun v hv => by obtain ⟨u, hu, rfl⟩ := List.mem_map.1 hv; exact nt_ok (hk u hu)) hk)
  rw [psm_nt] at SN
  have HB := Lib.hid hb
  have HT := Lib.hid hT
  have HL := Lib.hid hl
  have HC := Lib.hid hcap
  have QR := Lib.hid hqr
  have R0 := Lib.hid (show ∀ c ∈ ([] : List Int), 0 ≤ c ∧ c < 256 by simp)
  have KL := Lib.hid (show ([] ++ l).length = len by rw [List.nil_append]; exact hl)
  have hd : ¬ (2000 : Int) < (len : Int) := by omega
  clear hl hb hx hL hn hmx hk hz hg hqr h10 hT hcap
  go_enter Tryd.func4, Tryd.ntmps4
  go_wp2_with fail
  refine EV.out.mono ?_
  rintro e w1 ⟨A1, k1, c1, rfl, hk1, ho1, hbl⟩
  have K1 := Lib.hid hk1
  have V1 := Lib.hid (Pdt.alloc w1 x t A1 k1 c1)
  have O1 := Lib.hid ((ho1.below (below_alloc w1 (pcells x t A1 k1 c1))).vals)
  have B1 := Lib.hid (below_go (below_go B0.out hbl) (below_alloc w1 (pcells x t A1 k1 c1)))
  clear hbl EV ho1 hk1 B0
  go_wp2_with fail
  refine (GR.out A1 k1 c1 _ K1.out O1.out).mono ?_
  rintro e w2 ⟨rfl, hbl⟩
  have V2 := Lib.hid (V1.out.next hbl)
  have O2 := Lib.hid (O1.out.below hbl)
  have B2 := Lib.hid (below_go B1.out hbl)
  have BX := Lib.hid (below_alloc w2 (.cells #[] 5))
  have OX := Lib.hid (Own.empty w2)
  clear hbl GR V1 O1 B1
  go_wp2_with (at_builtin; refine wp_app (.tmp 24) (.tmp 25) _ rfl rfl w2.heap.size _ [] rfl OX.out b len cap l rfl HL.out (HB.out.below (below_go B2.out BX.out)) HC.out R0.out len KL.out (by omega) BX.out.size ?_; intro A3 c3 w3 hO3 _ hb3; rw [List.nil_append] at hO3; have D3 := BX.out.trans hb3; have V3 := Lib.hid (V2.out.next D3); have O3 := Lib.hid (O2.out.below D3); have B3 := Lib.hid (below_go B2.out D3); have W3 := Lib.hid hO3; obtain ⟨c0, d1, d2⟩ := V3.out; clear hO3 hb3 D3 V2 O2 B2 BX OX)
  refine (P1.out A3 len c3 A1 k1 c1 _ K1.out O3.out HL.out W3.out.capz (W3.out.byt HB.out.2) (HT.out.below B3.out)).mono ?_
  rintro e w4 ⟨A4, k4, c4, rfl, hk4, ho4, hbl⟩
  have V4 := Lib.hid (V3.out.next hbl)
  have O4 := Lib.hid (O3.out.below hbl)
  have B4 := Lib.hid (below_go B3.out hbl)
  have W4 := Lib.hid (W3.out.below hbl)
  have K4 := Lib.hid hk4
  have S4 := Lib.hid ho4
  clear hbl P1 V3 O3 B3 W3 c0 d1 d2 hk4 ho4
  obtain ⟨c0, d1, d2⟩ := V4.out
  go_wp2_with fail
  refine (P2.out A1 k1 c1 _ K1.out O4.out (HB.out.below B4.out)).mono ?_
  rintro e w5 ⟨A5, k5, c5, rfl, hk5, ho5, hbl⟩
  have V5 := Lib.hid (V4.out.next hbl)
  have O5 := Lib.hid (O4.out.below hbl)
  have B5 := Lib.hid (below_go B4.out hbl)
  have W5 := Lib.hid (W4.out.below hbl)
  have S5 := Lib.hid (S4.out.below hbl)
  have K5 := Lib.hid hk5
  have T5 := Lib.hid ho5
  clear hbl P2 V4 O4 B4 W4 S4 c0 d1 d2 hk5 ho5
  go_wp2_with fail
  refine (FX.out _ (HT.out.below B5.out)).mono ?_
  rintro e w6 ⟨rfl, hbl⟩
  have V6 := Lib.hid (V5.out.next hbl)
  have O6 := Lib.hid (O5.out.below hbl)
  have B6 := Lib.hid (below_go B5.out hbl)
  have S6 := Lib.hid (S5.out.below hbl)
  have s1 := S6.out.str QR.out K4.out
  have s2 := (T5.out.below hbl).str QR.out K5.out
  have s3 := (W5.out.below hbl).str HB.out.2 HL.out
  have s4 := run_str w6 b len cap l HL.out (HB.out.below B6.out)
  clear hbl V5 O5 B5 W5 S5 T5 FX
  have HT6 := Lib.hid (HT.out.below B6.out)
  rcases hE.out with he | ⟨he, GT⟩
  · subst he
    clear hE
    go_wp2_with fail
    go_ret
    exact ⟨rfl, B6.out⟩
  · subst he
    have GT := Lib.hid (GT A4 k4 c4 _ K4.out (S6.out.le K4.out) (S6.out.byt QR.out) HT6.out)
    clear hE
    go_wp2_with fail
    refine GT.out.mono ?_
    rintro e w7 ⟨A7, k7, c7, rfl, hk7, ho7, hbl⟩
    have D7 := Lib.hid (below_go hbl (below_alloc w7 (pcells x t A7 k7 c7)))
    have SF := Lib.hid (SN.out A7 k7 c7 A1 k1 c1 _ hk7 K1.out (ho7.below (below_alloc w7 (pcells x t A7 k7 c7))).vals (O6.out.below D7.out))
    have V7 := Lib.hid (V6.out.next hbl)
    have B7 := Lib.hid (below_go B6.out D7.out)
    clear hbl GT hk7 ho7 O6 S6 B6 D7 s1 s2 s3 s4 V6
    obtain ⟨g0, g1, g2⟩ := V7.out
    have z7 : w1.heap.size < w7.heap.size := V7.out.lt
    go_wp2_with fail
    refine SF.out.mono ?_
    rintro e w8 ⟨rfl, hbl⟩
    have B8 := Lib.hid (below_go B7.out hbl)
    clear hbl
    go_wp2_with fail
    go_ret
    exact ⟨rfl, B8.out⟩

set_option maxHeartbeats 2000000 in
theorem puts_great (b : Option Addr) (len cap : Nat) (x : Bool) (t : Int) (a : Option Addr) (n c : Nat) (R L : List TT) (G : Bool) (w : World) (hlen : len ≤ 9223372036854775807) (hT : Tab w)
    (hx : Rawts w a R) (hL : R.take 10 = L) (hn : R.length = n) (hmx : n ≤ maxLen) (hz : ∀ v ∈ L, v.2.2.2.2.2.size ≤ maxLen) (hg : pgreat L = G) (h : G = true ∨ 2000 < len) :
    Calls Tryd.prog 4 #[.slice b len cap, pv x t a n c] w fun e w' => e = .returned (.bool true) ∧ Below w.heap.size w w' := by
  have h10 : L.length ≤ 10 := by rw [← hL]; exact List.length_take_le 10 R
  have FX := Lib.hid fixed_any
  have HT := Lib.hid hT
  have B0 := Lib.hid (below_alloc w (xpcells x t a n c))
  have EV := Lib.hid (pred_any x t a n c R (w.alloc (xpcells x t a n c)) hn hmx (hx.below B0.out))
  rw [hL] at EV
  have GR := Lib.hid (fun A k c w (h1 : L.length = k) h2 => pgreat_any x t A k c L w h1 (by omega) h2 hz)
  rw [hg] at GR
  have HH := Lib.hid h
  clear hx hL hn hmx hz hg h10 h hT
  go_enter Tryd.func4, Tryd.ntmps4
  go_wp2_with fail
  refine EV.out.mono ?_
  rintro e w1 ⟨A1, k1, c1, rfl, hk1, ho1, hbl⟩
  have K1 := Lib.hid hk1
  have O1 := Lib.hid ((ho1.below (below_alloc w1 (pcells x t A1 k1 c1))).vals)
  have B1 := Lib.hid (below_go (below_go B0.out hbl) (below_alloc w1 (pcells x t A1 k1 c1)))
  clear hbl EV ho1 hk1 B0
  go_wp2_with fail
  refine (GR.out A1 k1 c1 _ K1.out O1.out).mono ?_
  rintro e w2 ⟨rfl, hbl⟩
  have B2 := Lib.hid (below_go B1.out hbl)
  clear hbl GR O1 B1
  cases G
  · have hh : 2000 < len := by
      rcases HH.out with h | h
      · cases h
      · exact h
    have hd : (2000 : Int) < (len : Int) := by omega
    clear HH
    go_wp2_with fail
    refine (FX.out _ (HT.out.below B2.out)).mono ?_
    rintro e w3 ⟨rfl, hbl⟩
    have B3 := Lib.hid (below_go B2.out hbl)
    clear hbl
    go_wp2_with fail
    go_ret
    exact ⟨rfl, B3.out⟩
  · clear HH
    go_wp2_with fail
    refine (FX.out _ (HT.out.below B2.out)).mono ?_
    rintro e w3 ⟨rfl, hbl⟩
    have B3 := Lib.hid (below_go B2.out hbl)
    clear hbl
    go_wp2_with fail
    go_ret
    exact ⟨rfl, B3.out⟩

theorem puts_walk (b : Option Addr) (len cap : Nat) (l : List Int) (x : Bool) (t : Int) (a : Option Addr) (n c : Nat) (R : List TT) (w : World) (hl : l.length = len) (hlen : len ≤ maxLen) (hcap : b = none → cap = 0) (hb : Byt w b l) (ht : 0 ≤ t ∧ t < 256) (hT : Tab w)
    (hx : Rawts w a R) (hn : R.length = n) (hmx : n ≤ maxLen) (hk0 : ∀ v ∈ R, Okt v) (hz0 : ∀ v ∈ R, v.2.2.2.2.2.size ≤ maxLen) :
    Calls Tryd.prog 4 #[.slice b len cap, pv x t a n c] w fun e w' => e = .returned (.bool true) ∧ Below w.heap.size w w' := by
  have hlen' : len ≤ 9223372036854775807 := by unfold maxLen at hlen; omega
  have hk : ∀ v ∈ R.take 10, Okt v := fun v hv => hk0 v (List.mem_of_mem_take hv)
  have hz : ∀ v ∈ R.take 10, v.2.2.2.2.2.size ≤ maxLen := fun v hv => hz0 v (List.mem_of_mem_take hv)
  by_cases hg : pgreat (R.take 10) = true ∨ 2000 < len
  · exact puts_great b len cap x t a n c R _ _ w hlen' hT hx rfl hn hmx hz rfl hg
  have hg1 : pgreat (R.take 10) = false := by
    cases h : pgreat (R.take 10)
    · rfl
    · exact absurd (.inl h) hg
  have hlen2 : len ≤ 2000 := by
    rcases Nat.lt_or_ge 2000 len with h | h
    · exact absurd (.inr h) hg
    · exact h
  have h10 : (R.take 10).length ≤ 10 := List.length_take_le 10 R
  generalize hL : R.take 10 = L at hk hz hg1 h10
  by_cases hm : pmay x t L = true
  · have h4 := pmay_len hm
    have hr := pmay_rgt' hm
    have hw : ∀ c ∈ wpd x t L, 0 ≤ c ∧ c < 256 := range_app (fr0_range x t L.length ht h4) (wts_range L hk hr)
    have hwl := wts_len L hk hr
    have hfl := fr0_len x t L.length
    have hqs : (l ++ wpd x t L).length ≤ 10000 := by rw [List.length_append, wpd, List.length_append]; omega
    refine puts_small b len cap l x t a n c R L 0 (l ++ wpd x t L) w hl hlen2 hcap hb hT hx hL hn hmx hk hz hg1 (range_app hb.2 hw)
      (Lib.hid fun B0 len0 cap0 A k c w h1 h2 h3 h5 h6 h7 => pput_any B0 len0 cap0 l x t A k c L w h3 (by omega) h5 h6 ht h1 h2 hk h7 hm)
      (Lib.hid fun A k c w h1 h2 h3 => rpput_any x b len cap l t A k c L w hl (by omega) hcap h3 ht h1 h2 hk hm)
      (Lib.hid (.inr ⟨rfl, fun A k c w h1 h2 h3 h5 => ?_⟩))
    obtain ⟨g, off, rfl, _⟩ := h3.1 0 (by rw [List.length_append, wpd, List.length_append]; have : 0 < (fr0 x t L.length).length := by unfold fr0; cases x <;> simp
                                          omega)
    have G := pget_ok g off k c l x t L.length L w h1 (by omega) h2 h3 rfl hk h5 hm
    rw [hl] at G
    exact G
  · have hm' : pmay x t L = false := by
      cases h : pmay x t L
      · rfl
      · exact absurd h hm
    exact puts_small b len cap l x t a n c R L 1 [] w hl hlen2 hcap hb hT hx hL hn hmx hk hz hg1 (by simp)
      (Lib.hid fun B0 len0 cap0 A k c w h1 h2 _ _ _ h7 => (pput_no _ x t A k c L w h1 (by omega) h2 hk h7 hm').mono fun e w' h => ⟨none, 0, 0, h.1, rfl, Own.nil _ _, h.2⟩)
      (Lib.hid fun A k c w h1 h2 _ => (rpput_no _ x t A k c L w h1 (by omega) h2 hk hm').mono fun e w' ⟨A', h⟩ => ⟨A', 0, 0, h.1, rfl, h.2.1, h.2.2⟩)
      (Lib.hid (.inl rfl))
end Go.Proofs.YtiddpoihhfphmaaDoor
