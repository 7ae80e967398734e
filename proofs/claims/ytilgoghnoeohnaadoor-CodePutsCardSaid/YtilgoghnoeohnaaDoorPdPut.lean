/- The contract of pred.Put. -/
import Derived.Test.YtilgoghnoeohnaaDoorMD
import Derived.Test.YtilgoghnoeohnaaDoorLbValSays
import Derived.Test.YtilgoghnoeohnaaDoorLbConcat
namespace Go.Proofs.YtilgoghnoeohnaaDoor
open Go Go.RowKit Pk Rl
set_option maxRecDepth 20000

theorem Byt.two (w : World) (x y : Int) (h : 0 ≤ x ∧ x < 256) (h' : 0 ≤ y ∧ y < 256) : Byt (w.alloc (.cells #[.int .u8 x, .int .u8 y] 5)) (some ⟨w.heap.size, 0, none⟩) [x, y] := by
  refine ⟨fun i hi => ⟨w.heap.size, 0, rfl, ?_⟩, fun c hc => ?_⟩
  · have : i = 0 ∨ i = 1 := by simp at hi; omega
    rcases this with rfl | rfl <;> simp [go_sem]
  · simp only [List.mem_cons, List.not_mem_nil, or_false] at hc
    rcases hc with rfl | rfl
    · exact h
    · exact h'
theorem mayv_k {v : VV} (h : mayv v = true) : 0 ≤ v.1 ∧ v.1 < 256 := by
  rcases may_facts h with ⟨e, _⟩ | ⟨e, _⟩ | ⟨e, _⟩ | ⟨e, _⟩ <;> omega
theorem wvv_len (v : VV) (ho : Okv v) (h : mayv v = true) : (wvv v).length ≤ 300 := by
  have z := zig_lt v.2.1 ho.n0 ho.n1
  unfold wvv wv
  rcases may_facts h with ⟨e, _⟩ | ⟨e, _⟩ | ⟨e, _⟩ | ⟨e, _, _, h5⟩
  · simp [e]
  · have := wrt_ten (zig v.2.1) z; simp [e]; omega
  · simp [e, show (w8 (bt v.2.2.1)).length = 8 from rfl]
  · have := wrt_ten v.2.2.2.size (by omega); simp [e, txt_length]; omega
theorem vput_v (v : VV) (w : World) (h : mayv v = true) (ho : Okv v) (a : Option Addr) (len cap : Nat) (l : List Int) (hl : l.length = len) (hm : len ≤ 140000) (hn : a = none → cap = 0) (hb : Byt w a l) :
    Calls Tryd.prog 70 #[.slice a len cap, vlOf v] w fun e w' => ∃ A' k' c', e = .returned (.tuple #[.slice A' k' c', .int .i64 0]) ∧ (l ++ wvv v).length = k' ∧ Own w' w.heap.size (.slice A' k' c') (l ++ wvv v) ∧ Below w.heap.size w w' :=
  vput_any a len cap l _ _ _ _ w h ho.n0 ho.n1 ho.re hl hm hn hb
theorem rvput_v (v : VV) (w : World) (h : mayv v = true) (ho : Okv v) (a : Option Addr) (len cap : Nat) (l : List Int) (hl : l.length = len) (hm : len ≤ 140000) (hn : a = none → cap = 0) (hb : Byt w a l) :
    Calls Tryd.prog 57 #[.slice a len cap, vlOf v] w fun e w' => ∃ A' k' c', e = .returned (.tuple #[.slice A' k' c', .int .i64 0]) ∧ (l ++ wvv v).length = k' ∧ Own w' w.heap.size (.slice A' k' c') (l ++ wvv v) ∧ Below w.heap.size w w' :=
  rvput_any a len cap l _ _ _ _ w h ho.n0 ho.n1 ho.re hl hm hn hb
/- writings -/
def wt (t : TT) : List Int := [t.1, t.2.1] ++ wvv t.2.2
def wts (L : List TT) : List Int := L.flatMap wt
def fr0 (x : Bool) (t : Int) (n : Nat) : List Int := if x then [16 * (n : Int) + 1] else [16 * (n : Int), t]
def wpd (x : Bool) (t : Int) (L : List TT) : List Int := fr0 x t L.length ++ wts L
theorem wts_snoc (L : List TT) (j : Nat) (h : j < L.length) : wts (L.take (j + 1)) = wts (L.take j) ++ wt (L.getD j tz) := by
  unfold wts
  rw [List.take_succ_eq_append_getElem h, List.flatMap_append, List.getD_eq_getElem?_getD, List.getElem?_eq_getElem h]
  simp
theorem rgt_may {t : TT} (h : rgt t = true) : mayv t.2.2 = true := by
  unfold rgt at h
  simp only [Bool.and_eq_true] at h
  exact h.1.2
theorem wt_len (t : TT) (ho : Okt t) (h : rgt t = true) : (wt t).length ≤ 302 := by
  have := wvv_len t.2.2 ho.v (rgt_may h)
  unfold wt
  rw [List.length_append]
  simp only [List.length_cons, List.length_nil]
  omega
theorem wts_len (L : List TT) (hk : ∀ v ∈ L, Okt v) (hm : ∀ v ∈ L, rgt v = true) : (wts L).length ≤ L.length * 302 := by
  induction L with
  | nil => simp [wts]
  | cons v L ih =>
    show (wt v ++ wts L).length ≤ _
    have := wt_len v (hk v (by simp)) (hm v (by simp))
    have := ih (fun u hu => hk u (by simp [hu])) (fun u hu => hm u (by simp [hu]))
    rw [List.length_append, List.length_cons]
    omega
theorem wt_range (t : TT) (ho : Okt t) (h : rgt t = true) : ∀ c ∈ wt t, 0 ≤ c ∧ c < 256 := by
  refine range_app (fun c hc => ?_) (wv_range _ _ _ _ (mayv_k (rgt_may h)))
  simp only [List.mem_cons, List.not_mem_nil, or_false] at hc
  rcases hc with rfl | rfl
  · exact ⟨ho.f0, ho.f1⟩
  · exact ⟨ho.o0, ho.o1⟩
theorem wts_range (L : List TT) (hk : ∀ v ∈ L, Okt v) (hm : ∀ v ∈ L, rgt v = true) : ∀ c ∈ wts L, 0 ≤ c ∧ c < 256 := by
  intro c hc
  obtain ⟨v, hv, h⟩ := List.mem_flatMap.1 hc
  exact wt_range v (hk v hv) (hm v hv) c h
theorem fr0_range (x : Bool) (t : Int) (n : Nat) (ht : 0 ≤ t ∧ t < 256) (hn : n ≤ 4) : ∀ c ∈ fr0 x t n, 0 ≤ c ∧ c < 256 := by
  intro c hc
  unfold fr0 at hc
  cases x
  · simp only [Bool.false_eq_true, if_false, List.mem_cons, List.not_mem_nil, or_false] at hc
    rcases hc with rfl | rfl
    · omega
    · exact ht
  · simp only [if_true, List.mem_cons, List.not_mem_nil, or_false] at hc
    omega
theorem pmay_len {x : Bool} {t : Int} {L : List TT} (h : pmay x t L = true) : L.length ≤ 4 := by
  unfold pmay at h
  simp only [Bool.and_eq_true, decide_eq_true_eq] at h
  exact h.1.1
theorem pmay_rgt' {x : Bool} {t : Int} {L : List TT} (h : pmay x t L = true) : ∀ v ∈ L, rgt v = true := by
  unfold pmay at h
  simp only [Bool.and_eq_true] at h
  exact fun v hv => List.all_eq_true.1 h.2 v hv
theorem fr0_len (x : Bool) (t : Int) (n : Nat) : (fr0 x t n).length ≤ 2 := by unfold fr0; cases x <;> simp

set_option maxHeartbeats 1000000 in
theorem pfront_any (x : Bool) (t : Int) (a : Option Addr) (n c : Nat) (w : World) (hn : n ≤ 4) (ht : 0 ≤ t ∧ t < 256) :
    Calls Tryd.prog 69 #[pv x t a n c] w fun e w' => ∃ g m, e = .returned (.slice (some ⟨g, 0, none⟩) m m) ∧ (fr0 x t n).length = m ∧ Byt w' (some ⟨g, 0, none⟩) (fr0 x t n) ∧ Below w.heap.size w w' := by
  have hw : IntKind.u8.wrap (16 * (n : Int)) = 16 * (n : Int) := by rw [IntKind.wrap_u8]; omega
  have ho : bits .or .u8 (16 * (n : Int)) 1 = 16 * (n : Int) + 1 := by
    obtain rfl | rfl | rfl | rfl | rfl : n = 0 ∨ n = 1 ∨ n = 2 ∨ n = 3 ∨ n = 4 := by omega
    all_goals decide
  have BB := Lib.hid (fun o => below_go (below_alloc w (pcells x t a n c)) (below_alloc _ o))
  have HT := Lib.hid ht
  unfold fr0
  cases x
  · have B2 := Lib.hid (Byt.two (w.alloc (pcells false t a n c)) (16 * (n : Int)) t (by omega) ht)
    rw [World.size_alloc] at B2
    clear ht
    go_enter Tryd.func69, Tryd.ntmps69
    go_wp2_with fail
    go_ret
    exact ⟨w.heap.size + 1, 2, rfl, rfl, B2.out, BB.out _⟩
  · have B2 := Lib.hid (Byt.one (w.alloc (pcells true t a n c)) (16 * (n : Int) + 1) (by omega))
    rw [World.size_alloc] at B2
    clear ht
    go_enter Tryd.func69, Tryd.ntmps69
    go_wp2_with fail
    go_ret
    exact ⟨w.heap.size + 1, 1, rfl, rfl, B2.out, BB.out _⟩
set_option maxHeartbeats 1000000 in
theorem pput_no (b : Value) (x : Bool) (t : Int) (a : Option Addr) (n c : Nat) (L : List TT) (w : World) (hn : L.length = n) (hm : n ≤ 1000) (hv : Tsts w a L) (hk : ∀ v ∈ L, Okt v) (hT : Tab w) (h : pmay x t L = false) :
    Calls Tryd.prog 53 #[b, pv x t a n c] w fun e w' => e = .returned (.tuple #[.slice none 0 0, .int .i64 1]) ∧ Below w.heap.size w w' := by
  have B0 := Lib.hid (below_alloc w (pcells x t a n c))
  have M := Lib.hid (pmay_any x t a n c L (w.alloc (pcells x t a n c)) hn hm (hv.below B0.out) hk (hT.below B0.out))
  rw [h] at M
  clear hn hv hk hm h hT
  go_enter Tryd.func53, Tryd.ntmps53
  go_wp2_with fail
  refine M.out.mono ?_
  rintro e w2 ⟨rfl, hb⟩
  have B2 := Lib.hid (below_go B0.out hb)
  clear hb M B0
  go_wp2_with fail
  go_ret2
  exact ⟨rfl, B2.out⟩
structure PPut (w W : World) (x : Bool) (t : Int) (a : Option Addr) (n c : Nat) (A : Option Addr) (k c' : Nat) (ys : List Int) : Prop where
  pdt : Pdt W w.heap.size x t a n c
  own : Own W (w.heap.size + 1) (.slice A k c') ys
  len : ys.length = k
  bel : Below w.heap.size w W
theorem PPut.next {w W W' : World} {x : Bool} {t : Int} {a : Option Addr} {n c : Nat} {A : Option Addr} {k c' : Nat} {ys : List Int} (h : PPut w W x t a n c A k c' ys) (hb : Below W.heap.size W W') : PPut w W' x t a n c A k c' ys :=
  ⟨h.pdt.next hb, h.own.below hb, h.len, below_go h.bel hb⟩
theorem PPut.size {w W : World} {x : Bool} {t : Int} {a : Option Addr} {n c : Nat} {A : Option Addr} {k c' : Nat} {ys : List Int} (h : PPut w W x t a n c A k c' ys) : w.heap.size + 1 ≤ W.heap.size := h.pdt.lt
theorem Pdt.below {B : Nat} {w w' : World} {g : Nat} {x : Bool} {t : Int} {a : Option Addr} {n c : Nat} (h : Pdt w g x t a n c) (hb : Below B w w') (hg : g < B) : Pdt w' g x t a n c :=
  ⟨by rw [hb.cell (p := ⟨g, 0, none⟩) hg]; exact h.1, by rw [hb.cell (p := ⟨g, 1, none⟩) hg]; exact h.2.1, by rw [hb.cell (p := ⟨g, 2, none⟩) hg]; exact h.2.2⟩

set_option maxHeartbeats 4000000 in
theorem pput_any (b : Option Addr) (len cap : Nat) (l : List Int) (x : Bool) (t : Int) (a : Option Addr) (n c : Nat) (L : List TT) (w : World) (hl : l.length = len) (hlen : len ≤ 100000) (hcap : b = none → cap = 0) (hb : Byt w b l) (ht : 0 ≤ t ∧ t < 256)
    (hn : L.length = n) (hv : Tsts w a L) (hk : ∀ v ∈ L, Okt v) (hT : Tab w) (h : pmay x t L = true) :
    Calls Tryd.prog 53 #[.slice b len cap, pv x t a n c] w fun e w' => ∃ A' k' c', e = .returned (.tuple #[.slice A' k' c', .int .i64 0]) ∧ (l ++ wpd x t L).length = k' ∧ Own w' w.heap.size (.slice A' k' c') (l ++ wpd x t L) ∧ Below w.heap.size w w' := by
  have h4 : n ≤ 4 := hn ▸ pmay_len h
  have hr := pmay_rgt' h
  have B0 := Lib.hid (below_alloc w (pcells x t a n c))
  have E0 := Lib.hid (Pdt.alloc w x t a n c)
  have M := Lib.hid (pmay_any x t a n c L (w.alloc (pcells x t a n c)) hn (by omega) (hv.below B0.out) hk (hT.below B0.out))
  rw [h] at M
  have FR := Lib.hid (fun W => pfront_any x t a n c W h4 ht)
  have hfl := fr0_len x t n
  have C := Lib.hid (fun g a2 m (w : World) hg c0 c1 hb (h2 : (fr0 x t n).length = m) (h0 : 0 < m) hb2 => concat2_any g b len cap l (some a2) m m (fr0 x t n) w hg c0 c1 hl h2 hb hb2 hcap (by intro h; cases h) (by omega) (by omega) (by omega))
  have HL := Lib.hid hl
  have HB := Lib.hid hb
  have HN := Lib.hid hn
  have HV := Lib.hid hv
  have HK := Lib.hid hk
  have HM := Lib.hid hr
  have KB := Lib.hid (show ∀ j, ((l ++ fr0 x t n) ++ wts (L.take j)).length ≤ 103000 from fun j => by
    have h1 := wts_len (L.take j) (fun v hv => hk v (List.mem_of_mem_take hv)) (fun v hv => hr v (List.mem_of_mem_take hv))
    have h3 := List.length_take_le' j L
    rw [List.length_append, List.length_append, hl]
    omega)
  have KR := Lib.hid (show ∀ j, ∀ c ∈ (l ++ fr0 x t n) ++ wts (L.take j), 0 ≤ c ∧ c < 256 from fun j =>
    range_app (range_app hb.2 (fr0_range x t n ht h4)) (wts_range _ (fun v hv => hk v (List.mem_of_mem_take hv)) (fun v hv => hr v (List.mem_of_mem_take hv))))
  have EQ := Lib.hid (show (l ++ fr0 x t n) ++ wts (L.take n) = l ++ wpd x t L by rw [← hn, List.take_length, wpd, List.append_assoc])
  have FP := Lib.hid (show 0 < (fr0 x t n).length by unfold fr0; cases x <;> simp)
  clear hl hb hcap hn hv hk h ht hr hT hfl
  go_enter Tryd.func53, Tryd.ntmps53
  go_wp2_with fail
  refine M.out.mono ?_
  rintro e w2 ⟨rfl, hb⟩
  have B2 := Lib.hid (below_go B0.out hb)
  have E2 := Lib.hid (E0.out.next hb)
  clear hb M B0 E0
  obtain ⟨e0, e1, e2⟩ := E2.out
  go_wp2_with fail
  refine (FR.out _).mono ?_
  rintro e w3 ⟨g3, m3, rfl, hm3, hb3, hb⟩
  have B3 := Lib.hid (below_go B2.out hb)
  have E3 := Lib.hid (E2.out.next hb)
  have M3 := Lib.hid hm3
  have Y3 := Lib.hid hb3
  clear hb FR B2 E2 e0 e1 e2 hm3 hb3
  have BX := Lib.hid (below_alloc w3 (.cells #[.slice b len cap, .slice (some ⟨g3, 0, none⟩) m3 m3] 32))
  have C3 := Lib.hid (C.out w3.heap.size ⟨g3, 0, none⟩ m3 (w3.alloc (.cells #[.slice b len cap, .slice (some ⟨g3, 0, none⟩) m3 m3] 32)) (by simp) (by simp [go_sem]) (by simp [go_sem]) (HB.out.below (below_go B3.out BX.out)) M3.out (by have := FP.out; have := M3.out; omega) (Y3.out.below BX.out))
  go_wp2_with fail
  refine C3.out.mono ?_
  rintro e w4 ⟨A4, k4, c4, rfl, hk4, ho4, hb⟩
  have P4 := Lib.hid (show PPut w w4 x t a n c A4 k4 c4 (l ++ fr0 x t n) from ⟨(E3.out.next BX.out).next hb, ho4.mono (by have := (E3.out.next BX.out).lt; omega), hk4, below_go (below_go B3.out BX.out) hb⟩)
  have KK : k4 ≤ 103000 := by
    have := KB.out 0
    simp only [List.take_zero] at this
    rw [← hk4]
    simpa [wts] using this
  clear hb hk4 ho4 C3 BX Y3 M3 E3 B3 C FP
  obtain ⟨e0, e1, e2⟩ := P4.out.pdt
  go_wp2_with fail
  clear e0 e1 e2
  go_loopw [22, 6] (fun i v W => ∃ (j : Nat) (A : Option Addr) (k c' : Nat), i = .int .i64 j ∧ v = .slice A k c' ∧ j ≤ n ∧ k ≤ 103000 ∧ Hid (PPut w W x t a n c A k c' ((l ++ fr0 x t n) ++ wts (L.take j)))) (fun i _ _ => n - (intOf i).toNat)
  case atStart => exact ⟨0, A4, k4, c4, rfl, rfl, by omega, KK, Lib.hid (by simpa [wts] using P4.out)⟩
  case round =>
    obtain ⟨j, A, k, c', rfl, rfl, hj, hk, H⟩ := hrel
    clear P4 KK
    by_cases hjn : j < n
    · obtain ⟨b', off, rfl, c0, c1, c2, c3, c4', c5⟩ := (HV.out.below H.out.bel) j (by have := HN.out; omega)
      have hok := Lib.hid (HK.out _ (tgetD_mem L j (by have := HN.out; omega)))
      have hmy := Lib.hid (HM.out _ (tgetD_mem L j (by have := HN.out; omega)))
      have WS := Lib.hid (show ((l ++ fr0 x t n) ++ wts (L.take (j + 1))) = ((l ++ fr0 x t n) ++ wts (L.take j)) ++ wt (L.getD j tz) by rw [wts_snoc L j (by have := HN.out; omega), ← List.append_assoc])
      have KB1 := Lib.hid (KB.out (j + 1))
      have KR1 := Lib.hid (KR.out j)
      rw [WS.out] at KB1
      generalize L.getD j tz = v at c0 c1 c2 c3 c4' c5 hok hmy WS KB1
      generalize (l ++ fr0 x t n) ++ wts (L.take j) = ys at H WS KB1 KR1
      have WL := wt_len v hok.out hmy.out
      have WR := Lib.hid (wt_range v hok.out hmy.out)
      have BT := Lib.hid (Byt.two (wr.alloc (tobj v)) v.1 v.2.1 ⟨hok.out.f0, hok.out.f1⟩ ⟨hok.out.o0, hok.out.o1⟩)
      have PV := Lib.hid (vput_v v.2.2 ((wr.alloc (tobj v)).alloc (.cells #[.int .u8 v.1, .int .u8 v.2.1] 5)) (rgt_may hmy.out) hok.out.v (some ⟨wr.heap.size + 1, 0, none⟩) 2 2 [v.1, v.2.1] rfl (by omega) (by intro h; cases h) (by have := BT.out; rw [World.size_alloc] at this; exact this))
      have H2 := Lib.hid (H.out.next (below_go (below_alloc wr (tobj v)) (below_alloc _ (.cells #[.int .u8 v.1, .int .u8 v.2.1] 5))))
      have sf := run_store_float
      obtain ⟨f, o, q, m, r, s⟩ := v
      clear BT hok hmy
      go_wp2_with fail
      refine PV.out.mono ?_
      rintro e w5 ⟨A5, k5, c5', rfl, hk5, ho5, hb5⟩
      have H5 := Lib.hid (H2.out.next hb5)
      have O5 := Lib.hid (show Own w5 (wr.heap.size + 1 + 1) (.slice A5 k5 c5') (wt (f, o, q, m, r, s)) from ho5.mono (by simp))
      have K5 := Lib.hid (show (wt (f, o, q, m, r, s)).length = k5 from hk5)
      have hk5' : k5 ≤ 302 := by have := K5.out; omega
      have K6 := Lib.hid (show (ys ++ wt (f, o, q, m, r, s)).length = k + k5 by rw [List.length_append, H.out.len, K5.out])
      have K7 : k + k5 ≤ 103000 := by have := KB1.out; have := K6.out; omega
      clear hk5 ho5 hb5 PV c0 c1 c2 c3 c4' c5 H H2
      go_wp2_with (at_builtin; refine wp_app (.tmp 37) (.tmp 38) _ rfl rfl (w.heap.size + 1) _ ys rfl H5.out.own A5 k5 c5' (wt (f, o, q, m, r, s)) rfl K5.out (O5.out.byt WR.out) O5.out.capz KR1.out (k + k5) K6.out (by omega) H5.out.size ?_; intro A6 c6 w6 hO6 _ hb6; have P6 := Lib.hid (show PPut w w6 x t (some ⟨b', off, none⟩) n c A6 (k + k5) c6 (ys ++ wt (f, o, q, m, r, s)) from ⟨H5.out.pdt.below hb6 (by omega), hO6, K6.out, H5.out.bel.trans (hb6.mono (by omega))⟩); clear hO6 hb6)
      rw [← WS.out] at P6
      go_roundw
      case rel => exact ⟨j + 1, A6, k + k5, c6, by go_num, rfl, by omega, K7, Lib.hid P6.out⟩
      case measure => simp [intOf]; omega
    · obtain rfl : j = n := by omega
      rw [EQ.out] at H
      go_wp2_with fail
      go_ret2
      exact ⟨A, k, c', rfl, H.out.len, H.out.own.mono (by omega), H.out.bel⟩
end Go.Proofs.YtilgoghnoeohnaaDoor
