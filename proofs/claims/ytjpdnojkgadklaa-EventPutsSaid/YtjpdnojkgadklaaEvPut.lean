/- The contract of event.Put. -/
import Derived.Test.YtjpdnojkgadklaaEvMay
import Derived.Test.YtjpdnojkgadklaaLbConcat
namespace Go.Proofs.Ytjpdnojkgadklaa
open Go Go.RowKit Pk Rl
set_option maxRecDepth 20000

theorem Evt.below {B : Nat} {w w' : World} {g : Nat} {t : Int} {a : Option Addr} {n c : Nat} (h : Evt w g t a n c) (hb : Below B w w') (hg : g < B) : Evt w' g t a n c :=
  ⟨by rw [hb.cell (p := ⟨g, 0, none⟩) hg]; exact h.1, by rw [hb.cell (p := ⟨g, 1, none⟩) hg]; exact h.2⟩
theorem Byt.two (w : World) (x y : Int) (h : 0 ≤ x ∧ x < 256) (h' : 0 ≤ y ∧ y < 256) : Byt (w.alloc (.cells #[.int .u8 x, .int .u8 y] 5)) (some ⟨w.heap.size, 0, none⟩) [x, y] := by
  refine ⟨fun i hi => ⟨w.heap.size, 0, rfl, ?_⟩, fun c hc => ?_⟩
  · have : i = 0 ∨ i = 1 := by simp at hi; omega
    rcases this with rfl | rfl <;> simp [go_sem]
  · simp only [List.mem_cons, List.not_mem_nil, or_false] at hc
    rcases hc with rfl | rfl
    · exact h
    · exact h'
def wf (L : List VV) : List Int := L.flatMap wvv
def wev (t : Int) (L : List VV) : List Int := [t, (L.length : Int)] ++ wf L
theorem wf_snoc (L : List VV) (j : Nat) (h : j < L.length) : wf (L.take (j + 1)) = wf (L.take j) ++ wvv (L.getD j vz) := by
  unfold wf
  rw [List.take_succ_eq_append_getElem h, List.flatMap_append, List.getD_eq_getElem?_getD, List.getElem?_eq_getElem h]
  simp
theorem mayv_k {v : VV} (h : mayv v = true) : 0 ≤ v.1 ∧ v.1 < 256 := by
  rcases may_facts h with ⟨e, _⟩ | ⟨e, _⟩ | ⟨e, _⟩ | ⟨e, _⟩ <;> omega
theorem wvv_len (v : VV) (ho : Okv v) (h : mayv v = true) : (wvv v).length ≤ 300 := by
  have z := zig_lt v.2.1 ho.n0 ho.n1
  unfold wvv wv
  rcases may_facts h with ⟨e, _⟩ | ⟨e, _⟩ | ⟨e, _⟩ | ⟨e, _, _, h5⟩
  · simp [e]
  · have := wrt_ten (zig v.2.1) z; simp [e]; omega
  · simp [e, show (w8 (bt v.2.2.1)).length = 8 from rfl]
  · have := wrt_ten v.2.2.2.size (by omega); simp [e, txt_length]; omega
theorem wf_len (L : List VV) (hk : ∀ v ∈ L, Okv v) (hm : ∀ v ∈ L, mayv v = true) : (wf L).length ≤ L.length * 300 := by
  induction L with
  | nil => simp [wf]
  | cons v L ih =>
    show (wvv v ++ wf L).length ≤ _
    have := wvv_len v (hk v (by simp)) (hm v (by simp))
    have := ih (fun u hu => hk u (by simp [hu])) (fun u hu => hm u (by simp [hu]))
    rw [List.length_append, List.length_cons]
    omega
theorem wf_range (L : List VV) (hm : ∀ v ∈ L, mayv v = true) : ∀ c ∈ wf L, 0 ≤ c ∧ c < 256 := by
  intro c hc
  obtain ⟨v, hv, h⟩ := List.mem_flatMap.1 hc
  exact wv_range _ _ _ _ (mayv_k (hm v hv)) c h
theorem emay_len {L : List VV} (h : emay L = true) : L.length ≤ 8 := by
  unfold emay at h; rw [Bool.and_eq_true] at h; exact of_decide_eq_true h.1
theorem emay_all {L : List VV} (h : emay L = true) : ∀ v ∈ L, mayv v = true := by
  unfold emay at h; rw [Bool.and_eq_true] at h; exact List.all_eq_true.1 h.2
theorem vput_v (v : VV) (w : World) (h : mayv v = true) (ho : Okv v) (a : Option Addr) (len cap : Nat) (l : List Int) (hl : l.length = len) (hm : len ≤ 40000) (hn : a = none → cap = 0) (hb : Byt w a l) :
    Calls Try.prog 28 #[.slice a len cap, vlOf v] w fun e w' => ∃ A' k' c', e = .returned (.tuple #[.slice A' k' c', .int .i64 0]) ∧ (l ++ wvv v).length = k' ∧ Own w' w.heap.size (.slice A' k' c') (l ++ wvv v) ∧ Below w.heap.size w w' :=
  vput_any a len cap l _ _ _ _ w h ho.n0 ho.n1 ho.re hl hm hn hb
theorem rvput_v (v : VV) (w : World) (h : mayv v = true) (ho : Okv v) (a : Option Addr) (len cap : Nat) (l : List Int) (hl : l.length = len) (hm : len ≤ 40000) (hn : a = none → cap = 0) (hb : Byt w a l) :
    Calls Try.prog 29 #[.slice a len cap, vlOf v] w fun e w' => ∃ A' k' c', e = .returned (.tuple #[.slice A' k' c', .int .i64 0]) ∧ (l ++ wvv v).length = k' ∧ Own w' w.heap.size (.slice A' k' c') (l ++ wvv v) ∧ Below w.heap.size w w' :=
  rvput_any a len cap l _ _ _ _ w h ho.n0 ho.n1 ho.re hl hm hn hb
theorem wev_range (t : Int) (ht : 0 ≤ t ∧ t < 256) (L : List VV) (h : emay L = true) : ∀ c ∈ wev t L, 0 ≤ c ∧ c < 256 := by
  have := emay_len h
  unfold wev
  refine range_app (fun c hc => ?_) (wf_range L (emay_all h))
  simp only [List.mem_cons, List.not_mem_nil, or_false] at hc
  rcases hc with rfl | rfl
  · exact ht
  · omega

set_option maxHeartbeats 1000000 in
theorem eput_no (b : Value) (t : Int) (a : Option Addr) (n c : Nat) (L : List VV) (w : World) (hn : L.length = n) (hm : n ≤ 1000) (hv : Vals w a L) (hk : ∀ v ∈ L, Okv v) (h : emay L = false) :
    Calls Try.prog 11 #[b, ev t a n c] w fun e w' => e = .returned (.tuple #[.slice none 0 0, .int .i64 1]) ∧ Below w.heap.size w w' := by
  have B0 := Lib.hid (below_alloc w (ecells t a n c))
  have M := Lib.hid (emay_any t a n c L (w.alloc (ecells t a n c)) hn hm (hv.below B0.out) hk)
  rw [h] at M
  clear hn hv hk hm h
  go_enter Try.func11, Try.ntmps11
  go_wp2_with fail
  refine M.out.mono ?_
  rintro e w2 ⟨rfl, hb⟩
  have B2 := Lib.hid (below_go B0.out hb)
  clear hb M B0
  go_wp2_with fail
  go_ret2
  exact ⟨rfl, B2.out⟩

structure Putting (w W : World) (t : Int) (a : Option Addr) (n c : Nat) (A : Option Addr) (k c' : Nat) (ys : List Int) : Prop where
  evt : Evt W w.heap.size t a n c
  own : Own W (w.heap.size + 1) (.slice A k c') ys
  len : ys.length = k
  bel : Below w.heap.size w W
theorem Putting.next {w W W' : World} {t : Int} {a : Option Addr} {n c : Nat} {A : Option Addr} {k c' : Nat} {ys : List Int} (h : Putting w W t a n c A k c' ys) (hb : Below W.heap.size W W') : Putting w W' t a n c A k c' ys :=
  ⟨h.evt.next hb, h.own.below hb, h.len, below_go h.bel hb⟩
theorem Putting.size {w W : World} {t : Int} {a : Option Addr} {n c : Nat} {A : Option Addr} {k c' : Nat} {ys : List Int} (h : Putting w W t a n c A k c' ys) : w.heap.size + 1 ≤ W.heap.size := h.evt.lt

set_option maxHeartbeats 4000000 in
theorem eput_any (b : Option Addr) (len cap : Nat) (l : List Int) (t : Int) (a : Option Addr) (n c : Nat) (L : List VV) (w : World) (hl : l.length = len) (hlen : len ≤ 10000) (hcap : b = none → cap = 0) (hb : Byt w b l) (ht : 0 ≤ t ∧ t < 256)
    (hn : L.length = n) (hv : Vals w a L) (hk : ∀ v ∈ L, Okv v) (h : emay L = true) :
    Calls Try.prog 11 #[.slice b len cap, ev t a n c] w fun e w' => ∃ A' k' c', e = .returned (.tuple #[.slice A' k' c', .int .i64 0]) ∧ (l ++ wev t L).length = k' ∧ Own w' w.heap.size (.slice A' k' c') (l ++ wev t L) ∧ Below w.heap.size w w' := by
  have h8 : n ≤ 8 := hn ▸ emay_len h
  have B0 := Lib.hid (below_alloc w (ecells t a n c))
  have E0 := Lib.hid (Evt.alloc w t a n c)
  have M := Lib.hid (emay_any t a n c L (w.alloc (ecells t a n c)) hn (by omega) (hv.below B0.out) hk)
  rw [h] at M
  have C := Lib.hid (fun g a2 (w : World) hg c0 c1 hb hb2 => concat2_any g b len cap l (some a2) 2 2 [t, (n : Int)] w hg c0 c1 hl rfl hb hb2 hcap (by intro h; cases h) (by omega) (by omega) (by omega))
  have HL := Lib.hid hl
  have HB := Lib.hid hb
  have HN := Lib.hid hn
  have HV := Lib.hid hv
  have HK := Lib.hid hk
  have HM := Lib.hid (emay_all h)
  have HT := Lib.hid ht
  have HW := Lib.hid (wf_len L hk (emay_all h))
  have hw8 : IntKind.u8.wrap (n : Int) = (n : Int) := by rw [IntKind.wrap_u8]; omega
  have KB := Lib.hid (show ∀ j, ((l ++ [t, (n : Int)]) ++ wf (L.take j)).length ≤ 13000 from fun j => by
    have h1 := wf_len (L.take j) (fun v hv => hk v (List.mem_of_mem_take hv)) (fun v hv => emay_all h v (List.mem_of_mem_take hv))
    have h2 := List.length_take_le j L
    have h3 := List.length_take_le' j L
    rw [List.length_append, List.length_append, hl]
    simp only [List.length_cons, List.length_nil]
    omega)
  have KR := Lib.hid (show ∀ j, ∀ c ∈ (l ++ [t, (n : Int)]) ++ wf (L.take j), 0 ≤ c ∧ c < 256 from fun j =>
    range_app (range_app hb.2 (Byt.two w t n ht (by omega)).2) (wf_range _ (fun v hv => emay_all h v (List.mem_of_mem_take hv))))
  have EQ := Lib.hid (show (l ++ [t, (n : Int)]) ++ wf (L.take n) = l ++ wev t L by rw [← hn, List.take_length, wev, List.append_assoc])
  have sf := run_store_float
  clear hl hb hcap hn hv hk h ht
  go_enter Try.func11, Try.ntmps11
  go_wp2_with fail
  refine M.out.mono ?_
  rintro e w2 ⟨rfl, hb⟩
  have B2 := Lib.hid (below_go B0.out hb)
  have E2 := Lib.hid (E0.out.next hb)
  clear hb M B0 E0
  obtain ⟨e0, e1⟩ := E2.out
  have BA := Lib.hid (below_go (below_alloc w2 (.cells #[.int .u8 t, .int .u8 (n : Int)] 5)) (below_alloc _ (.cells #[.slice b len cap, .slice (some ⟨w2.heap.size, 0, none⟩) 2 2] 22)))
  have BT := Lib.hid ((Byt.two w2 t n HT.out (by omega)).below (below_alloc _ (.cells #[.slice b len cap, .slice (some ⟨w2.heap.size, 0, none⟩) 2 2] 22)))
  go_wp2_with fail
  refine (C.out _ _ _ (by simp) (by simp [go_sem]) (by simp [go_sem]) (HB.out.below (below_go B2.out BA.out)) BT.out).mono ?_
  rintro e w3 ⟨A3, k3, c3, rfl, hk3, ho3, hb3⟩
  have P3 := Lib.hid (show Putting w w3 t a n c A3 k3 c3 (l ++ [t, (n : Int)]) from ⟨(E2.out.next BA.out).next hb3, ho3.mono (Nat.le_trans E2.out.lt BA.out.size), hk3, below_go (below_go B2.out BA.out) hb3⟩)
  clear hk3 ho3 hb3 C BA BT B2 E2 e0 e1
  obtain ⟨e0, e1⟩ := P3.out.evt
  go_wp2_with fail
  go_loopw [27, 6] (fun i v W => ∃ (j : Nat) (A : Option Addr) (k c' : Nat), i = .int .i64 j ∧ v = .slice A k c' ∧ j ≤ n ∧ k ≤ 13000 ∧ Hid (Putting w W t a n c A k c' ((l ++ [t, (n : Int)]) ++ wf (L.take j)))) (fun i _ _ => n - (intOf i).toNat)
  case atStart => exact ⟨0, A3, k3, c3, rfl, rfl, by omega, by have := KB.out 0; have := P3.out.len; simp [wf] at *; omega, Lib.hid (by simpa [wf] using P3.out)⟩
  case round =>
    obtain ⟨j, A, k, c', rfl, rfl, hj, hk, H⟩ := hrel
    clear e0 e1 P3
    by_cases hjn : j < n
    · obtain ⟨b', off, rfl, c0, c1, c2, c3⟩ := (HV.out.below H.out.bel) j (by have := HN.out; omega)
      have hok := Lib.hid (HK.out _ (getD_mem L j (by have := HN.out; omega)))
      have hmy := Lib.hid (HM.out _ (getD_mem L j (by have := HN.out; omega)))
      have WS := Lib.hid (show ((l ++ [t, (n : Int)]) ++ wf (L.take (j + 1))) = ((l ++ [t, (n : Int)]) ++ wf (L.take j)) ++ wvv (L.getD j vz) by rw [wf_snoc L j (by have := HN.out; omega), ← List.append_assoc])
      have KB1 := Lib.hid (KB.out (j + 1))
      have KR1 := Lib.hid (KR.out j)
      rw [WS.out] at KB1
      generalize L.getD j vz = v at c0 c1 c2 c3 hok hmy WS KB1
      generalize (l ++ [t, (n : Int)]) ++ wf (L.take j) = ys at H WS KB1 KR1
      have VR := Lib.hid (show ∀ c ∈ wvv v, 0 ≤ c ∧ c < 256 from wv_range _ _ _ _ (mayv_k hmy.out))
      have PV := Lib.hid (fun w => vput_v v w hmy.out hok.out none 0 0 [] rfl (by omega) (fun _ => rfl) (Byt.nil w))
      obtain ⟨q, m, r, s⟩ := v
      have H1 := Lib.hid (H.out.next (below_alloc wr (vcells q m r s)))
      go_wp2_with fail
      refine (PV.out _).mono ?_
      rintro e w5 ⟨A5, k5, c5, rfl, hk5, ho5, hb5⟩
      rw [List.nil_append] at hk5 ho5
      have H5 := Lib.hid (H1.out.next hb5)
      have O5 := Lib.hid ho5
      have K5 := Lib.hid hk5
      have K6 := Lib.hid (show (ys ++ wvv (q, m, r, s)).length = k + k5 by rw [List.length_append, H.out.len, hk5])
      have K7 : k + k5 ≤ 13000 := by have := K6.out; have := KB1.out; omega
      clear hk5 ho5 hb5 PV H1 c0 c1 c2 c3 hok hmy H
      go_wp2_with (at_builtin; refine wp_app (.tmp 36) (.tmp 37) _ rfl rfl (w.heap.size + 1) _ ys rfl H5.out.own A5 k5 c5 (wvv (q, m, r, s)) rfl K5.out (O5.out.byt VR.out) O5.out.capz KR1.out (k + k5) K6.out (by omega) H5.out.size ?_; intro A6 c6 w6 hO6 _ hb6; have H6 := Lib.hid (show Putting w w6 t (some ⟨b', off, none⟩) n c A6 (k + k5) c6 (ys ++ wvv (q, m, r, s)) from ⟨H5.out.evt.below hb6 (by omega), hO6, K6.out, H5.out.bel.trans (hb6.mono (by omega))⟩); clear hO6 hb6)
      rw [← WS.out] at H6
      go_roundw
      case rel => exact ⟨j + 1, A6, k + k5, c6, by go_num, rfl, by omega, K7, Lib.hid H6.out⟩
      case measure => simp [intOf]; omega
    · obtain rfl : j = n := by omega
      rw [EQ.out] at H
      go_wp2_with fail
      go_ret2
      exact ⟨A, k, c', rfl, H.out.len, H.out.own.mono (by omega), H.out.bel⟩
end Go.Proofs.Ytjpdnojkgadklaa
