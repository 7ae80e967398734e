/- The contract of the document's Put. -/
import Derived.Test.YtjpdnojkgadklaaEvPut
namespace Go.Proofs.Ytjpdnojkgadklaa
open Go Go.RowKit Pk Rl
set_option maxRecDepth 20000

set_option maxHeartbeats 1000000 in
theorem reput_no (b : Value) (t : Int) (a : Option Addr) (n c : Nat) (L : List VV) (w : World) (hn : L.length = n) (hm : n ≤ 1000) (hv : Vals w a L) (hk : ∀ v ∈ L, Okv v) (h : emay L = false) :
    Calls Try.prog 12 #[b, ev t a n c] w fun e w' => ∃ A, e = .returned (.tuple #[.slice A 0 0, .int .i64 1]) ∧ Own w' w.heap.size (.slice A 0 0) [] ∧ Below w.heap.size w w' := by
  have B0 := Lib.hid (below_alloc w (ecells t a n c))
  have M := Lib.hid (remay_any t a n c L (w.alloc (ecells t a n c)) hn hm (hv.below B0.out) hk)
  rw [h] at M
  clear hn hv hk hm h
  go_enter Try.func12, Try.ntmps12
  go_wp2_with fail
  refine M.out.mono ?_
  rintro e w2 ⟨rfl, hb⟩
  have B2 := Lib.hid (below_go B0.out hb)
  clear hb M B0
  have O2 := Lib.hid ((Own.empty w2).mono B2.out.size)
  have B3 := Lib.hid (below_go B2.out (below_alloc w2 (.cells #[] 5)))
  go_wp2_with fail
  go_ret2
  exact ⟨_, rfl, O2.out, B3.out⟩

set_option maxHeartbeats 4000000 in
theorem reput_any (b : Option Addr) (len cap : Nat) (l : List Int) (t : Int) (a : Option Addr) (n c : Nat) (L : List VV) (w : World) (hl : l.length = len) (hlen : len ≤ 10000) (hcap : b = none → cap = 0) (hb : Byt w b l) (ht : 0 ≤ t ∧ t < 256)
    (hn : L.length = n) (hv : Vals w a L) (hk : ∀ v ∈ L, Okv v) (h : emay L = true) :
    Calls Try.prog 12 #[.slice b len cap, ev t a n c] w fun e w' => ∃ A' k' c', e = .returned (.tuple #[.slice A' k' c', .int .i64 0]) ∧ (l ++ wev t L).length = k' ∧ Own w' w.heap.size (.slice A' k' c') (l ++ wev t L) ∧ Below w.heap.size w w' := by
  have h8 : n ≤ 8 := hn ▸ emay_len h
  have B0 := Lib.hid (below_alloc w (ecells t a n c))
  have E0 := Lib.hid (Evt.alloc w t a n c)
  have M := Lib.hid (remay_any t a n c L (w.alloc (ecells t a n c)) hn (by omega) (hv.below B0.out) hk)
  rw [h] at M
  have HL := Lib.hid hl
  have HB := Lib.hid hb
  have HC := Lib.hid hcap
  have HN := Lib.hid hn
  have HV := Lib.hid hv
  have HK := Lib.hid hk
  have HM := Lib.hid (emay_all h)
  have HT := Lib.hid ht
  have hw8 : IntKind.u8.wrap (n : Int) = (n : Int) := by rw [IntKind.wrap_u8]; omega
  have KB := Lib.hid (show ∀ j, ((l ++ [t, (n : Int)]) ++ wf (L.take j)).length ≤ 13000 from fun j => by
    have h1 := wf_len (L.take j) (fun v hv => hk v (List.mem_of_mem_take hv)) (fun v hv => emay_all h v (List.mem_of_mem_take hv))
    have h3 := List.length_take_le' j L
    rw [List.length_append, List.length_append, hl]
    simp only [List.length_cons, List.length_nil]
    omega)
  have KR := Lib.hid (show ∀ j, ∀ c ∈ (l ++ [t, (n : Int)]) ++ wf (L.take j), 0 ≤ c ∧ c < 256 from fun j =>
    range_app (range_app hb.2 (Byt.two w t n ht (by omega)).2) (wf_range _ (fun v hv => emay_all h v (List.mem_of_mem_take hv))))
  have EQ := Lib.hid (show (l ++ [t, (n : Int)]) ++ wf (L.take n) = l ++ wev t L by rw [← hn, List.take_length, wev, List.append_assoc])
  have R0 := Lib.hid (show ∀ c ∈ ([] : List Int), 0 ≤ c ∧ c < 256 by simp)
  have K0 := Lib.hid (show ([] ++ l).length = len by rw [List.nil_append]; exact hl)
  have K1 := Lib.hid (show (l ++ [t, (n : Int)]).length = len + 2 by rw [List.length_append, hl]; rfl)
  clear hl hb hcap hn hv hk h ht
  go_enter Try.func12, Try.ntmps12
  go_wp2_with fail
  refine M.out.mono ?_
  rintro e w2 ⟨rfl, hb⟩
  have B2 := Lib.hid (below_go B0.out hb)
  have E2 := Lib.hid (E0.out.next hb)
  clear hb M B0 E0
  have Z2 := Lib.hid (show w.heap.size + 1 ≤ w2.heap.size from E2.out.lt)
  have BX := Lib.hid (below_alloc w2 (.cells #[] 5))
  have O1 := Lib.hid ((Own.empty w2).mono Z2.out)
  go_wp2_with (first
    | (at_builtin; refine wp_app (.tmp 15) (.tmp 16) _ rfl rfl (w.heap.size + 1) _ [] rfl O1.out b len cap l rfl HL.out (HB.out.below (below_go B2.out BX.out)) HC.out R0.out len K0.out (by omega) (Nat.le_trans Z2.out BX.out.size) ?_; intro A3 c3 w3 hO3 _ hb3; rw [List.nil_append] at hO3; have E3 := Lib.hid ((E2.out.next BX.out).below hb3 (by omega)); have B3 := Lib.hid ((below_go B2.out BX.out).trans (hb3.mono (by omega))); have O3 := Lib.hid hO3; have Z3 := Lib.hid (show w.heap.size + 1 ≤ w3.heap.size from E3.out.lt); obtain ⟨e0, e1⟩ := E3.out; have BY := Lib.hid (below_alloc w3 (.cells #[.int .u8 t, .int .u8 (n : Int)] 5)); clear hO3 hb3)
    | (at_builtin; refine wp_app (.tmp 18) (.tmp 25) _ rfl rfl (w.heap.size + 1) _ l rfl (O3.out.below BY.out) _ 2 2 [t, (n : Int)] rfl rfl (Byt.two w3 t n HT.out (by omega)) (by intro h; cases h) HB.out.2 (len + 2) K1.out (by omega) (Nat.le_trans Z3.out BY.out.size) ?_; intro A4 c4 w4 hO4 _ hb4; have P4 := Lib.hid (show Putting w w4 t a n c A4 (len + 2) c4 (l ++ [t, (n : Int)]) from ⟨(E3.out.next BY.out).below hb4 (by omega), hO4, K1.out, (below_go B3.out BY.out).trans (hb4.mono (by omega))⟩); obtain ⟨e0, e1⟩ := P4.out.evt; clear hO4 hb4))
  clear O3 B3 E3 Z3 BY O1 BX B2 E2 Z2
  go_loopw [30, 6] (fun i v W => ∃ (j : Nat) (A : Option Addr) (k c' : Nat), i = .int .i64 j ∧ v = .slice A k c' ∧ j ≤ n ∧ k ≤ 13000 ∧ Hid (Putting w W t a n c A k c' ((l ++ [t, (n : Int)]) ++ wf (L.take j)))) (fun i _ _ => n - (intOf i).toNat)
  case atStart => exact ⟨0, A4, len + 2, c4, rfl, rfl, by omega, by omega, Lib.hid (by simpa [wf] using P4.out)⟩
  case round =>
    obtain ⟨j, A, k, c', rfl, rfl, hj, hk, H⟩ := hrel
    clear e0 e1 P4
    by_cases hjn : j < n
    · obtain ⟨b', off, rfl, c0, c1, c2, c3⟩ := (HV.out.below H.out.bel) j (by have := HN.out; omega)
      have hok := Lib.hid (HK.out _ (getD_mem L j (by have := HN.out; omega)))
      have hmy := Lib.hid (HM.out _ (getD_mem L j (by have := HN.out; omega)))
      have WS := Lib.hid (show ((l ++ [t, (n : Int)]) ++ wf (L.take (j + 1))) = ((l ++ [t, (n : Int)]) ++ wf (L.take j)) ++ wvv (L.getD j vz) by rw [wf_snoc L j (by have := HN.out; omega), ← List.append_assoc])
      have KB1 := Lib.hid (KB.out (j + 1))
      have KR1 := Lib.hid (KR.out j)
      rw [WS.out] at KB1
      generalize L.getD j vz = v at c0 c1 c2 c3 hok hmy WS KB1
      generalize (l ++ [t, (n : Int)]) ++ wf (L.take j) = ys at H WS KB1 KR1
      have PV := Lib.hid (rvput_v v wr hmy.out hok.out A k c' ys H.out.len (by omega) H.out.own.capz (H.out.own.byt KR1.out))
      obtain ⟨q, m, r, s⟩ := v
      obtain ⟨e0, e1⟩ := H.out.evt
      go_wp2_with fail
      refine PV.out.mono ?_
      rintro e w5 ⟨A5, k5, c5, rfl, hk5, ho5, hb5⟩
      have H6 := Lib.hid (show Putting w w5 t (some ⟨b', off, none⟩) n c A5 k5 c5 (ys ++ wvv (q, m, r, s)) from ⟨H.out.evt.next hb5, ho5.mono H.out.evt.lt, hk5, below_go H.out.bel hb5⟩)
      have K7 : k5 ≤ 13000 := by have := KB1.out; omega
      clear hk5 ho5 hb5 PV c0 c1 c2 c3 hok hmy H e0 e1
      rw [← WS.out] at H6
      go_wp2_with fail
      go_roundw
      case rel => exact ⟨j + 1, A5, k5, c5, by go_num, rfl, by omega, K7, Lib.hid H6.out⟩
      case measure => simp [intOf]; omega
    · obtain rfl : j = n := by omega
      rw [EQ.out] at H
      go_wp2_with fail
      go_ret2
      exact ⟨A, k, c', rfl, H.out.len, H.out.own.mono (by omega), H.out.bel⟩
end Go.Proofs.Ytjpdnojkgadklaa
