/- EventWrites holds: for any numbers and any event by its values' bits the statement's function returns true, and what is handed in reads as before. No conditions. -/
import Derived.Test.YtjpdnojkgadklaaEvLift
import Derived.Test.YtjpdnojkgadklaaEvLog
namespace Go.Proofs.Ytjpdnojkgadklaa
open Go Go.RowKit Pk Rl
set_option maxRecDepth 20000

set_option maxHeartbeats 4000000 in
theorem writes_small (P S T : Nat) (t : Int) (a : Option Addr) (n c : Nat) (R L : List VV) (E : Nat) (qs : List Int) (w : World)
    (hx : Raws w a R) (hL : R.take 30 = L) (hn : R.length = n) (hmx : n ≤ maxLen) (hk : ∀ v ∈ L, Okv v) (hz : ∀ v ∈ L, v.2.2.2.size ≤ maxLen) (hg : egr L = false) (hqr : ∀ c ∈ qs, 0 ≤ c ∧ c < 256)
    (P1 : Hid (∀ A k c w, L.length = k → Vals w A L → Calls Try.prog 19 #[lg P S T t A k c] w fun e w' => ∃ A' k' c', e = .returned (.tuple #[.slice A' k' c', .int .i64 (E : Int)]) ∧ qs.length = k' ∧ Own w' w.heap.size (.slice A' k' c') qs ∧ Below w.heap.size w w'))
    (P2 : Hid (∀ A k c w, L.length = k → Vals w A L → Calls Try.prog 20 #[lg P S T t A k c] w fun e w' => ∃ A' k' c', e = .returned (.tuple #[.slice A' k' c', .int .i64 (E : Int)]) ∧ qs.length = k' ∧ Own w' w.heap.size (.slice A' k' c') qs ∧ Below w.heap.size w w'))
    (hE : Hid (E = 1 ∨ E = 0 ∧ ∀ A k c w, qs.length = k → k ≤ c → Byt w A qs → Calls Try.prog 21 #[.slice A k c] w fun e w' => ∃ A' k' c', e = .returned (got2 P S T t A' k' c' 0) ∧ (L.map nb).length = k' ∧ OwnV w' w.heap.size (.slice A' k' c') (L.map nb) ∧ Below w.heap.size w w')) :
    Calls Try.prog 5 #[.int .u32 (P : Int), .int .u64 (S : Int), .int .u64 (T : Int), ev t a n c] w fun e w' => e = .returned (.bool true) ∧ Below w.heap.size w w' := by
  have h30 : L.length ≤ 30 := by rw [← hL]; exact List.length_take_le 30 R
  have FX := Lib.hid fixed_any
  have B0 := Lib.hid (below_alloc w (xcells t a n c))
  have EV := Lib.hid (event_any t a n c R (w.alloc (xcells t a n c)) hn hmx (hx.below B0.out))
  rw [hL] at EV
  have GR := Lib.hid (fun A k c w (h1 : L.length = k) h2 => great_any t A k c L w h1 (by omega) h2 hz)
  rw [hg] at GR
  have SN := Lib.hid (fun A k c A' k' c' w (h1 : (L.map nb).length = k) (h2 : L.length = k') (h3 : Vals w A (L.map nb)) (h4 : Vals w A' L) => slog_any P S T t t A A' k c k' c' w true (Lib.hid fun w1 hw => by
    have := resame_any t t A A' k c k' c' (L.map nb) L w1 h1 h2 (by rw [List.length_map] at h1; omega) (h3.below hw) (h4.below hw) (ok_nb hk) hk
    rwa [esm_nb] at this))
  have QR := Lib.hid hqr
  clear hx hL hn hmx hk hz hg hqr h30
  go_enter Try.func5, Try.ntmps5
  go_wp2_with fail
  refine EV.out.mono ?_
  rintro e w1 ⟨A1, k1, c1, rfl, hk1, ho1, hbl⟩
  have K1 := Lib.hid hk1
  have V1 := Lib.hid (Lgt.alloc w1 P S T t A1 k1 c1)
  have O1 := Lib.hid ((ho1.below (below_alloc w1 (lcells P S T t A1 k1 c1))).vals)
  have B1 := Lib.hid (below_go (below_go B0.out hbl) (below_alloc w1 (lcells P S T t A1 k1 c1)))
  clear hbl EV ho1 hk1 B0
  go_wp2_with fail
  refine (GR.out A1 k1 c1 _ K1.out O1.out).mono ?_
  rintro e w2 ⟨rfl, hbl⟩
  have V2 := Lib.hid (V1.out.next hbl)
  have O2 := Lib.hid (O1.out.below hbl)
  have B2 := Lib.hid (below_go B1.out hbl)
  clear hbl GR V1 O1 B1
  obtain ⟨x0, x1, x2, x3, x4⟩ := V2.out
  go_wp2_with fail
  refine (P1.out A1 k1 c1 _ K1.out O2.out).mono ?_
  rintro e w3 ⟨A3, k3, c3, rfl, hk3, ho3, hbl⟩
  have V3 := Lib.hid (V2.out.next hbl)
  have O3 := Lib.hid (O2.out.below hbl)
  have B3 := Lib.hid (below_go B2.out hbl)
  have K3 := Lib.hid hk3
  have S3 := Lib.hid ho3
  clear hbl P1 V2 O2 B2 x0 x1 x2 x3 x4 hk3 ho3
  obtain ⟨x0, x1, x2, x3, x4⟩ := V3.out
  go_wp2_with fail
  refine (P2.out A1 k1 c1 _ K1.out O3.out).mono ?_
  rintro e w4 ⟨A4, k4, c4, rfl, hk4, ho4, hbl⟩
  have V4 := Lib.hid (V3.out.next hbl)
  have O4 := Lib.hid (O3.out.below hbl)
  have B4 := Lib.hid (below_go B3.out hbl)
  have S4 := Lib.hid (S3.out.below hbl)
  have K4 := Lib.hid hk4
  have T4 := Lib.hid ho4
  clear hbl P2 V3 O3 B3 x0 x1 x2 x3 x4 hk4 ho4 S3
  go_wp2_with fail
  refine (FX.out _).mono ?_
  rintro e w5 ⟨rfl, hbl⟩
  have V5 := Lib.hid (V4.out.next hbl)
  have O5 := Lib.hid (O4.out.below hbl)
  have B5 := Lib.hid (below_go B4.out hbl)
  have S5 := Lib.hid (S4.out.below hbl)
  have s1 := S5.out.str QR.out K3.out
  have s2 := (T4.out.below hbl).str QR.out K4.out
  clear hbl V4 O4 B4 S4 T4 FX K4
  rcases hE.out with he | ⟨he, GT⟩
  · subst he
    clear hE
    go_wp2_with fail
    go_ret
    exact ⟨rfl, B5.out⟩
  · subst he
    have GT := Lib.hid (GT A3 k3 c3 w5 K3.out (S5.out.le K3.out) (S5.out.byt QR.out))
    clear hE
    go_wp2_with fail
    refine GT.out.mono ?_
    rintro e w6 ⟨A6, k6, c6, rfl, hk6, ho6, hbl⟩
    have D6 := Lib.hid (below_go hbl (below_alloc w6 (lcells P S T t A6 k6 c6)))
    have SF := Lib.hid (SN.out A6 k6 c6 A1 k1 c1 _ hk6 K1.out (ho6.below (below_alloc w6 (lcells P S T t A6 k6 c6))).vals (O5.out.below D6.out))
    have V6 := Lib.hid (V5.out.next hbl)
    have B6 := Lib.hid (below_go B5.out D6.out)
    clear hbl GT hk6 ho6 O5 S5 B5 D6 s1 s2 V5
    obtain ⟨x0, x1, x2, x3, x4⟩ := V6.out
    have z6 : w1.heap.size < w6.heap.size := V6.out.lt
    go_wp2_with fail
    refine SF.out.mono ?_
    rintro e w7 ⟨rfl, hbl⟩
    have B7 := Lib.hid (below_go B6.out hbl)
    clear hbl
    go_wp2_with fail
    go_ret
    exact ⟨rfl, B7.out⟩

set_option maxHeartbeats 2000000 in
theorem writes_great (P S T : Nat) (t : Int) (a : Option Addr) (n c : Nat) (R L : List VV) (w : World)
    (hx : Raws w a R) (hL : R.take 30 = L) (hn : R.length = n) (hmx : n ≤ maxLen) (hz : ∀ v ∈ L, v.2.2.2.size ≤ maxLen) (hg : egr L = true) :
    Calls Try.prog 5 #[.int .u32 (P : Int), .int .u64 (S : Int), .int .u64 (T : Int), ev t a n c] w fun e w' => e = .returned (.bool true) ∧ Below w.heap.size w w' := by
  have h30 : L.length ≤ 30 := by rw [← hL]; exact List.length_take_le 30 R
  have FX := Lib.hid fixed_any
  have B0 := Lib.hid (below_alloc w (xcells t a n c))
  have EV := Lib.hid (event_any t a n c R (w.alloc (xcells t a n c)) hn hmx (hx.below B0.out))
  rw [hL] at EV
  have GR := Lib.hid (fun A k c w (h1 : L.length = k) h2 => great_any t A k c L w h1 (by omega) h2 hz)
  rw [hg] at GR
  clear hx hL hn hmx hz hg h30
  go_enter Try.func5, Try.ntmps5
  go_wp2_with fail
  refine EV.out.mono ?_
  rintro e w1 ⟨A1, k1, c1, rfl, hk1, ho1, hbl⟩
  have K1 := Lib.hid hk1
  have O1 := Lib.hid ((ho1.below (below_alloc w1 (lcells P S T t A1 k1 c1))).vals)
  have B1 := Lib.hid (below_go (below_go B0.out hbl) (below_alloc w1 (lcells P S T t A1 k1 c1)))
  clear hbl EV ho1 hk1 B0
  go_wp2_with fail
  refine (GR.out A1 k1 c1 _ K1.out O1.out).mono ?_
  rintro e w2 ⟨rfl, hbl⟩
  have B2 := Lib.hid (below_go B1.out hbl)
  clear hbl GR O1 B1
  go_wp2_with fail
  refine (FX.out _).mono ?_
  rintro e w3 ⟨rfl, hbl⟩
  have B3 := Lib.hid (below_go B2.out hbl)
  clear hbl
  go_wp2_with fail
  go_ret
  exact ⟨rfl, B3.out⟩

theorem writes_walk (P S T : Nat) (t : Int) (a : Option Addr) (n c : Nat) (R : List VV) (w : World) (hP : P < 4294967296) (hS : S < 18446744073709551616) (hT : T < 18446744073709551616) (ht : 0 ≤ t ∧ t < 256)
    (hx : Raws w a R) (hn : R.length = n) (hmx : n ≤ maxLen) (hk0 : ∀ v ∈ R, Okv v) (hz0 : ∀ v ∈ R, v.2.2.2.size ≤ maxLen) :
    Calls Try.prog 5 #[.int .u32 (P : Int), .int .u64 (S : Int), .int .u64 (T : Int), ev t a n c] w fun e w' => e = .returned (.bool true) ∧ Below w.heap.size w w' := by
  have hk : ∀ v ∈ R.take 30, Okv v := fun v hv => hk0 v (List.mem_of_mem_take hv)
  have hz : ∀ v ∈ R.take 30, v.2.2.2.size ≤ maxLen := fun v hv => hz0 v (List.mem_of_mem_take hv)
  have h30 : (R.take 30).length ≤ 30 := List.length_take_le 30 R
  generalize hL : R.take 30 = L at hk hz h30
  cases hg : egr L
  · by_cases hm : emay L = true
    · have hw := wev_range t ht L hm
      have h8 := emay_len hm
      have hwl := wf_len L hk (emay_all hm)
      have p1 := wrt_ten P (by omega)
      have p2 := wrt_ten S hS
      have p3 := wrt_ten T hT
      have hqs : (wfr P S T ++ wev t L).length ≤ 10000 := by rw [List.length_append, wev, List.length_append, wfr, List.length_append, List.length_append]; simp only [List.length_cons, List.length_nil]; omega
      have hr : ∀ c ∈ wfr P S T ++ wev t L, 0 ≤ c ∧ c < 256 := range_app (range_app (wrt_range P) (range_app (wrt_range S) (wrt_range T))) hw
      have W : Wr L t (wfr P S T) (wfr P S T ++ wev t L) 0 := ⟨fun _ => ⟨rfl, rfl⟩, fun h => by rw [hm] at h; cases h⟩
      refine writes_small P S T t a n c R L 0 (wfr P S T ++ wev t L) w hx hL hn hmx hk hz hg hr
        (Lib.hid fun A k c w h1 h2 => ewrite_any P S T t A k c L _ 0 w hP hS hT ht h1 (by omega) h2 hk W)
        (Lib.hid fun A k c w h1 h2 => rewrite_any P S T t A k c L _ 0 w hP hS hT ht h1 (by omega) h2 hk W)
        (Lib.hid (.inr ⟨rfl, fun A k c w h1 h2 h3 => ?_⟩))
      have G := eread_any A k c (wfr P S T ++ wev t L) w h1 (by omega) h2 h3
      rw [lr_back P S T t L hP hS hT hm hk] at G
      exact G
    · have hm' : emay L = false := by
        cases h : emay L
        · rfl
        · exact absurd h hm
      have W : Wr L t (wfr P S T) [] 1 := ⟨fun h => absurd h hm, fun _ => ⟨rfl, rfl⟩⟩
      exact writes_small P S T t a n c R L 1 [] w hx hL hn hmx hk hz hg (by simp)
        (Lib.hid fun A k c w h1 h2 => ewrite_any P S T t A k c L _ 1 w hP hS hT ht h1 (by omega) h2 hk W)
        (Lib.hid fun A k c w h1 h2 => rewrite_any P S T t A k c L _ 1 w hP hS hT ht h1 (by omega) h2 hk W)
        (Lib.hid (.inl rfl))
  · exact writes_great P S T t a n c R L w hx hL hn hmx hz hg
end Go.Proofs.Ytjpdnojkgadklaa
namespace Go.Proofs.Ytjpdnojkgadklaa
open Go Go.ChangeShapes Go.WideShapes Go.ChangeAt Go.WideMaps Go.WideElems Go.ChangeMaps Go.RowKit Pk Rl

set_option maxRecDepth 100000 in
theorem ewrites_lifted (os : Os) (started : os.Started) (H : Type) (enc : TypeId × Value → H) :
    ReturnsInHanded {} Try.checked os 5 .any (Rows.eventWritesSpec.pre6 enc Try.prog Try.f5 Rows.eventWritesRow.domain false) (Rows.eventWritesSpec.post enc Try.prog Try.f5 false true false false) := by
  refine returnsInHanded_of_change (C := Try.checked) own started (by kernel_rfl) Try.func5
    (ChangeSpec.witness6 (enc := enc) (C := Try.checked) false ⟨#[], #[.int .u32 0, .int .u64 0, .int .u64 0, .agg #[.int .u8 0, .slice none 0 0]], []⟩ 8 (by kernel_rfl) (by kernel_rfl) (by kernel_rfl) (by kernel_rfl)) ?_
  intro W base args ds gs before hval0 hW hcnd _
  have hval : ∀ (j : Nat) t v, Try.f5.params[j]? = some t → args[j]? = some v → Value.okWide Try.prog W .any base t v := hval0
  have hW' := hW
  obtain ⟨p, q, hA0, hV, rfl, hfz, hnd⟩ := hW
  have hA : DataW.TrodAll enc Try.prog W 0 (fun _ => true) true Try.f5.params.toList args.toList ds p := hA0
  rw [Try.params5] at hA hval
  obtain ⟨v0, vs0, d0, ds0, p0, q0, hargs, rfl, rfl, h0, r0⟩ := trodAll_cons hA
  obtain ⟨v1, vs1, d1, ds1, p1, q1, rfl, rfl, rfl, h1, r1⟩ := trodAll_cons r0
  obtain ⟨v2, vs2, d2, ds2, p2, q2, rfl, rfl, rfl, h2, r2⟩ := trodAll_cons r1
  obtain ⟨v3, vs3, d3, ds3, p3, q3, rfl, rfl, rfl, h3, r3⟩ := trodAll_cons r2
  obtain ⟨rfl, rfl, rfl⟩ := trodAll_nil r3
  obtain rfl : args = #[v0, v1, v2, v3] := by cases args; simp_all
  obtain ⟨rfl, rfl⟩ := trodVars_none hV
  obtain ⟨x0, rfl, rfl, rfl, w0⟩ := open_int Try.underlying45 (hval 0 45 v0 rfl rfl) h0
  obtain ⟨b0, rfl, hb0⟩ := nat32_of w0
  obtain ⟨x1, rfl, rfl, rfl, w1⟩ := open_int Try.underlying46 (hval 1 46 v1 rfl rfl) h1
  obtain ⟨b1, rfl, hb1⟩ := nat_of w1
  obtain ⟨x2, rfl, rfl, rfl, w2⟩ := open_int Try.underlying46 (hval 2 46 v2 rfl rfl) h2
  obtain ⟨b2, rfl, hb2⟩ := nat_of w2
  obtain ⟨t3, a3, n3, c3, L3, rfl, ht3, hn3, hm3, hx3, hk3, hz3⟩ := eraw_of (hval 3 25 v3 rfl rfl) h3
  have k3 := h3
  have lt3 : ∀ x ∈ p3, x.block < W.heap.size := by obtain ⟨m, hm⟩ := k3; exact DataW.trod_lt m _ _ _ hm
  clear hA0 hval0
  refine (writes_walk b0 b1 b2 t3 a3 n3 c3 L3 W hb0 hb1 hb2 ht3 hx3 hn3 hm3 hk3 hz3).mono fun e W' ⟨he, bel⟩ => ?_
  subst he
  exact ⟨_, rfl, _, _, _, [], _, [], hW', trodAll_mk1 (shut_bool Try.underlying4 _), (trodAll_cons_mk (shut_int Try.underlying45 w0) (trodAll_cons_mk (shut_int Try.underlying46 w1) (trodAll_cons_mk (shut_int Try.underlying46 w2) (trodAll_cons_mk (Below.trod laidOut (by kernel_rfl) (of_decide_eq_true (by kernel_rfl)) k3 bel lt3) trodAll_mk0)))), rfl, bel.frame _, fun h => by cases h⟩

theorem ewrites_holds : Rows.EventWritesSaid :=
  OpenClaim.holds_of_wide 5 Try.f5 rfl rfl rfl rfl rfl rfl rfl ⟨rfl, rfl, rfl, rfl, rfl⟩ rfl rfl rfl rfl rfl (by kernel_rfl) Try.func5 (by kernel_rfl)
    (of_decide_eq_true (by kernel_rfl)) (by unfold Func.isWrapper; first | (rw [if_pos (by decide +kernel)]; kernel_rfl) | (rw [if_neg (by decide +kernel)]; exact ⟨rfl, rfl⟩))
    (fun os started H enc _ => ewrites_lifted os started H enc)
#print axioms ewrites_holds
end Go.Proofs.Ytjpdnojkgadklaa
