/- Whether a question holds of an event: the document's. -/
import Derived.Test.YtpnllbojifnopaaGreatDoorZMJ
namespace Go.Proofs.YtpnllbojifnopaaGreatDoor
open Go Go.RowKit Pk Rl
set_option maxRecDepth 20000
set_option maxHeartbeats 4000000 in
theorem rphold_loop (x : Bool) (t : Int) (a : Option Addr) (n c : Nat) (L : List TT) (y : Int) (b : Option Addr) (m d : Nat) (E : List VV) (w : World) (hn : L.length = n) (hm : n ≤ 1000) (hE : E.length = m) (hm2 : m ≤ 1000)
    (hv : Tsts w a L) (hk : ∀ v ∈ L, Okt v) (hv2 : Vals w b E) (hk2 : ∀ v ∈ E, Okv v) (hT : Tab w) (h1 : pmay x t L = true) (h2 : emay E = true) :
    Calls Tryz.prog 63 #[pv x t a n c, ev y b m d] w fun e w' => e = .returned (.bool ((L.all fun v => hdf v E) && (x || decide (t = y)))) ∧ Below w.heap.size w w' := by
  have K0 := Lib.hid (HB.start w x t a n c L y b m d E hT hv hv2)
  have M1 := Lib.hid (fun W (k : HB w W w.heap.size (w.heap.size + 1) x t a n c L y b m d E) => rpmay_any x t a n c L W hn hm k.tst hk)
  have M2 := Lib.hid (fun W (k : HB w W w.heap.size (w.heap.size + 1) x t a n c L y b m d E) => remay_any y b m d E W hE hm2 k.val hk2)
  have hr := pmay_rgt h1
  have hs : ∀ v ∈ E, v.2.2.2.size ≤ 1000000 := fun v hv => by
    unfold emay at h2
    simp only [Bool.and_eq_true] at h2
    exact may_size (List.all_eq_true.1 h2.2 v hv)
  rw [h1] at M1
  rw [h2] at M2
  have HO := Lib.hid (fun W j (hj : j < L.length) (k : HB w W w.heap.size (w.heap.size + 1) x t a n c L y b m d E) => rholds_any (L.getD j tz) y b m d E W hE (hk _ (tgetD_mem L j hj)) (rgt_op (hr _ (tgetD_mem L j hj))).1 (rgt_op (hr _ (tgetD_mem L j hj))).2 k.val hk2 (rgt_size (hr _ (tgetD_mem L j hj))) hs)
  have HN := Lib.hid hn
  obtain ⟨R, hR⟩ : ∃ R, ((L.all fun v => hdf v E) && (x || decide (t = y))) = R := ⟨_, rfl⟩
  rw [hR]
  have HR := Lib.hid hR
  clear hn hE hv hk hv2 hk2 hT h1 h2 hr hs hR
  go_enter Tryz.func63, Tryz.ntmps63
  go_wp2_with fail
  refine (M1.out _ K0.out).mono ?_
  rintro e w2 ⟨rfl, hb⟩
  have K2 := Lib.hid (K0.out.next hb)
  clear hb M1 K0
  obtain ⟨f0, f1⟩ := K2.out.two
  go_wp2_with fail
  refine (M2.out _ K2.out).mono ?_
  rintro e w3 ⟨rfl, hb⟩
  have K3 := Lib.hid (K2.out.next hb)
  clear hb M2 K2 f0 f1
  obtain ⟨g0, g1, g2⟩ := K3.out.one
  go_wp2
  clear g0 g1 g2
  go_loopw [17] (fun i W => ∃ (j : Nat), i = .int .i64 j ∧ j ≤ n ∧ Hid (HB w W w.heap.size (w.heap.size + 1) x t a n c L y b m d E ∧ (L.drop j).all (fun v => hdf v E) = L.all (fun v => hdf v E))) (fun i _ => n - (intOf i).toNat)
  case atStart => exact ⟨0, rfl, by omega, Lib.hid ⟨K3.out, rfl⟩⟩
  case round =>
    obtain ⟨j, rfl, hj, H⟩ := hrel
    by_cases cj : j < n
    · have hjl : j < L.length := by have := HN.out; omega
      have HO1 := Lib.hid (fun W k => HO.out W j hjl k)
      have HD := Lib.hid H.out.2
      rw [tdrop_cons L j hjl, List.all_cons] at HD
      obtain ⟨b0, off, rfl, hAt⟩ := H.out.1.tst j hjl
      obtain ⟨v, hv'⟩ : ∃ v, L.getD j tz = v := ⟨_, rfl⟩
      rw [hv'] at HO1 HD
      obtain ⟨f, o, k, i, r, s⟩ := v
      have KJ := Lib.hid (show j < L.length ∧ L.getD j tz = (f, o, k, i, r, s) from ⟨hjl, hv'⟩)
      have KN := Lib.hid (kh_of KJ.out.1 KJ.out.2 H.out.1)
      have KD := Lib.hid (kh_drew KJ KN.out)
      generalize hdf (f, o, k, i, r, s) E = q at HO1 HD
      have C' := Lib.hid (fun W (k' : Kh w W w.heap.size (w.heap.size + 1) x t b0 off n c L y b m d E j f o k i r s) => HO1.out W k'.2.2.2.2.2.2.2.2.2.out)
      obtain ⟨c0, c1, c2, c3, c4, c5, c6, c7, c8, _⟩ := KN.out
      clear hAt hv' HO1 H KN HO K3
      go_wp2_with fail
      go_region_held3 (fun W => W.cell? ⟨w.heap.size, 2, none⟩ = some (.slice (some ⟨b0, off, none⟩) n c) ∧ W.cell? ⟨w.heap.size + 1, 0, none⟩ = some (.int .u8 y) ∧ W.cell? ⟨w.heap.size + 1, 1, none⟩ = some (.slice b m d) ∧
          W.cell? ⟨b0, off + j * 6, none⟩ = some (.int .u8 f) ∧ W.cell? ⟨b0, off + j * 6 + 1, none⟩ = some (.int .u8 o) ∧ W.cell? ⟨b0, off + j * 6 + 2, none⟩ = some (.int .u8 k) ∧ W.cell? ⟨b0, off + j * 6 + 3, none⟩ = some (.int .i64 i) ∧
          W.cell? ⟨b0, off + j * 6 + 4, none⟩ = some (.float .f64 r) ∧ W.cell? ⟨b0, off + j * 6 + 5, none⟩ = some (.string s) ∧ Hid (HB w W w.heap.size (w.heap.size + 1) x t (some ⟨b0, off, none⟩) n c L y b m d E))
        (first | (with_reducible assumption) | (with_reducible exact KD.out) | (with_reducible exact kh_next KJ b1 (by assumption)))
        (first | (go_at_call 95; (with_reducible refine Calls.mono (C'.out _ ?_) ?_); (with_reducible assumption); rintro e w' ⟨rfl, b1⟩))
      rename_i hHeld
      have K4 := Lib.hid (hHeld.2.2.2.2.2.2.2.2.2.out)
      clear hHeld c0 c1 c2 c3 c4 c5 c6 c7 c8 C' KD KJ
      cases q
      · rw [Bool.false_and] at HD
        go_wp2_with fail
        go_ret
        exact ⟨ret_bool (by rw [← HR.out, ← HD.out]; rfl), K4.out.bel⟩
      · rw [Bool.true_and] at HD
        go_wp2_with fail
        go_roundw
        case rel => exact ⟨j + 1, by go_num, by omega, Lib.hid ⟨K4.out, HD.out⟩⟩
        case measure => simp [intOf]; omega
    · obtain rfl : j = n := by omega
      have K4 := Lib.hid H.out.1
      have HD := Lib.hid H.out.2
      rw [List.drop_eq_nil_of_le (by have := HN.out; omega), List.all_nil] at HD
      obtain ⟨g0, g1, g2⟩ := K4.out.one
      obtain ⟨f0, f1⟩ := K4.out.two
      have B4 := Lib.hid K4.out.bel
      rw [← HD.out, Bool.true_and] at HR
      clear H HD K3 K4 HO
      cases x
      · have et : (t == y) = decide (t = y) := by rw [Bool.eq_iff_iff]; simp
        go_wp2_with fail
        go_ret
        exact ⟨ret_bool (by rw [← HR.out]; simp), B4.out⟩
      · go_wp2_with fail
        go_ret
        exact ⟨ret_bool (by rw [← HR.out]; simp), B4.out⟩
set_option maxHeartbeats 2000000 in
theorem rphold_any (x : Bool) (t : Int) (a : Option Addr) (n c : Nat) (L : List TT) (y : Int) (b : Option Addr) (m d : Nat) (E : List VV) (w : World) (hn : L.length = n) (hm : n ≤ 1000) (hE : E.length = m) (hm2 : m ≤ 1000)
    (hv : Tsts w a L) (hk : ∀ v ∈ L, Okt v) (hv2 : Vals w b E) (hk2 : ∀ v ∈ E, Okv v) (hT : Tab w) :
    Calls Tryz.prog 63 #[pv x t a n c, ev y b m d] w fun e w' => e = .returned (.bool (phold x t L y E)) ∧ Below w.heap.size w w' := by
  by_cases h1 : pmay x t L = true
  · by_cases h2 : emay E = true
    · have : phold x t L y E = ((L.all fun v => hdf v E) && (x || decide (t = y))) := by
        unfold phold
        rw [h1, h2, Bool.true_and, Bool.true_and, Bool.and_comm]
      rw [this]
      exact rphold_loop x t a n c L y b m d E w hn hm hE hm2 hv hk hv2 hk2 hT h1 h2
    · have h2' : emay E = false := by simpa using h2
      have : phold x t L y E = false := by unfold phold; rw [h2', Bool.and_false, Bool.false_and, Bool.false_and]
      rw [this]
      have K0 := Lib.hid (HB.start w x t a n c L y b m d E hT hv hv2)
      have M1 := Lib.hid (fun W (k : HB w W w.heap.size (w.heap.size + 1) x t a n c L y b m d E) => rpmay_any x t a n c L W hn hm k.tst hk)
      have M2 := Lib.hid (fun W (k : HB w W w.heap.size (w.heap.size + 1) x t a n c L y b m d E) => remay_any y b m d E W hE hm2 k.val hk2)
      rw [h1] at M1
      rw [h2'] at M2
      clear hn hm hE hm2 hv hk hv2 hk2 hT h1 h2 h2' this
      go_enter Tryz.func63, Tryz.ntmps63
      go_wp2_with fail
      refine (M1.out _ K0.out).mono ?_
      rintro e w2 ⟨rfl, hb⟩
      have K2 := Lib.hid (K0.out.next hb)
      clear hb M1 K0
      obtain ⟨f0, f1⟩ := K2.out.two
      go_wp2_with fail
      refine (M2.out _ K2.out).mono ?_
      rintro e w3 ⟨rfl, hb⟩
      have K3 := Lib.hid (K2.out.next hb)
      clear hb M2 K2 f0 f1
      go_wp2_with fail
      go_ret
      exact ⟨rfl, K3.out.bel⟩
  · have h1' : pmay x t L = false := by simpa using h1
    have : phold x t L y E = false := by unfold phold; rw [h1', Bool.false_and, Bool.false_and, Bool.false_and]
    rw [this]
    have K0 := Lib.hid (HB.start w x t a n c L y b m d E hT hv hv2)
    have M1 := Lib.hid (fun W (k : HB w W w.heap.size (w.heap.size + 1) x t a n c L y b m d E) => rpmay_any x t a n c L W hn hm k.tst hk)
    rw [h1'] at M1
    clear hn hm hE hm2 hv hk hv2 hk2 hT h1 h1' this
    go_enter Tryz.func63, Tryz.ntmps63
    go_wp2_with fail
    refine (M1.out _ K0.out).mono ?_
    rintro e w2 ⟨rfl, hb⟩
    have K2 := Lib.hid (K0.out.next hb)
    clear hb M1 K0
    go_wp2_with fail
    go_ret
    exact ⟨rfl, K2.out.bel⟩
end Go.Proofs.YtpnllbojifnopaaGreatDoor
