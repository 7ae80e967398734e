/- Logged events: the contracts of both Writes. -/
import Derived.Test.YtjpdnojkgadklaaEvFix
namespace Go.Proofs.Ytjpdnojkgadklaa
open Go Go.RowKit Pk Rl
set_option maxRecDepth 20000

abbrev lg (p s a : Nat) (t : Int) (A : Option Addr) (k c : Nat) : Value := .agg #[.int .u32 (p : Int), .int .u64 (s : Int), .int .u64 (a : Int), .int .u8 t, .slice A k c]
abbrev lcells (p s a : Nat) (t : Int) (A : Option Addr) (k c : Nat) : Obj := .cells #[.int .u32 (p : Int), .int .u64 (s : Int), .int .u64 (a : Int), .int .u8 t, .slice A k c] 48
def Lgt (w : World) (g : Nat) (p s a : Nat) (t : Int) (A : Option Addr) (k c : Nat) : Prop :=
  w.cell? ⟨g, 0, none⟩ = some (.int .u32 (p : Int)) ∧ w.cell? ⟨g, 1, none⟩ = some (.int .u64 (s : Int)) ∧ w.cell? ⟨g, 2, none⟩ = some (.int .u64 (a : Int)) ∧ w.cell? ⟨g, 3, none⟩ = some (.int .u8 t) ∧ w.cell? ⟨g, 4, none⟩ = some (.slice A k c)
theorem Lgt.next {w w' : World} {g p s a : Nat} {t : Int} {A : Option Addr} {k c : Nat} (h : Lgt w g p s a t A k c) (hb : Below w.heap.size w w') : Lgt w' g p s a t A k c := by
  obtain ⟨h0, h1, h2, h3, h4⟩ := h
  refine ⟨?_, ?_, ?_, ?_, ?_⟩
  · rw [hb.cell (World.block_lt_of_cell? _ _ h0)]; exact h0
  · rw [hb.cell (World.block_lt_of_cell? _ _ h1)]; exact h1
  · rw [hb.cell (World.block_lt_of_cell? _ _ h2)]; exact h2
  · rw [hb.cell (World.block_lt_of_cell? _ _ h3)]; exact h3
  · rw [hb.cell (World.block_lt_of_cell? _ _ h4)]; exact h4
theorem Lgt.alloc (w : World) (p s a : Nat) (t : Int) (A : Option Addr) (k c : Nat) : Lgt (w.alloc (lcells p s a t A k c)) w.heap.size p s a t A k c := by
  refine ⟨?_, ?_, ?_, ?_, ?_⟩ <;> simp [go_sem]
theorem Lgt.lt {w : World} {g p s a : Nat} {t : Int} {A : Option Addr} {k c : Nat} (h : Lgt w g p s a t A k c) : g < w.heap.size := World.block_lt_of_cell? _ _ h.1
def wfr (p s a : Nat) : List Int := wrt p ++ (wrt s ++ wrt a)

/- what is written, or the error -/
structure Wr (L : List VV) (t : Int) (pre : List Int) (q : List Int) (E : Nat) : Prop where
  good : emay L = true → q = pre ++ wev t L ∧ E = 0
  bad : emay L = false → q = [] ∧ E = 1
theorem eput_all (b : Option Addr) (len cap : Nat) (l : List Int) (t : Int) (a : Option Addr) (n c : Nat) (L : List VV) (q : List Int) (E : Nat) (w : World) (hl : l.length = len) (hlen : len ≤ 10000) (hcap : b = none → cap = 0) (hb : Byt w b l) (ht : 0 ≤ t ∧ t < 256)
    (hn : L.length = n) (hm : n ≤ 1000) (hv : Vals w a L) (hk : ∀ v ∈ L, Okv v) (hW : Wr L t l q E) :
    Calls Try.prog 11 #[.slice b len cap, ev t a n c] w fun e w' => ∃ A' k' c', e = .returned (.tuple #[.slice A' k' c', .int .i64 (E : Int)]) ∧ q.length = k' ∧ Own w' w.heap.size (.slice A' k' c') q ∧ Below w.heap.size w w' := by
  cases h : emay L
  · obtain ⟨rfl, rfl⟩ := hW.bad h
    exact (eput_no _ t a n c L w hn hm hv hk h).mono fun e w' h => ⟨none, 0, 0, h.1, rfl, World.ownsRow_nil w' _ 5 1, h.2⟩
  · obtain ⟨rfl, rfl⟩ := hW.good h
    exact eput_any b len cap l t a n c L w hl hlen hcap hb ht hn hv hk h
theorem reput_all (b : Option Addr) (len cap : Nat) (l : List Int) (t : Int) (a : Option Addr) (n c : Nat) (L : List VV) (q : List Int) (E : Nat) (w : World) (hl : l.length = len) (hlen : len ≤ 10000) (hcap : b = none → cap = 0) (hb : Byt w b l) (ht : 0 ≤ t ∧ t < 256)
    (hn : L.length = n) (hm : n ≤ 1000) (hv : Vals w a L) (hk : ∀ v ∈ L, Okv v) (hW : Wr L t l q E) :
    Calls Try.prog 12 #[.slice b len cap, ev t a n c] w fun e w' => ∃ A' k' c', e = .returned (.tuple #[.slice A' k' c', .int .i64 (E : Int)]) ∧ q.length = k' ∧ Own w' w.heap.size (.slice A' k' c') q ∧ Below w.heap.size w w' := by
  cases h : emay L
  · obtain ⟨rfl, rfl⟩ := hW.bad h
    exact (reput_no _ t a n c L w hn hm hv hk h).mono fun e w' ⟨A', h⟩ => ⟨A', 0, 0, h.1, rfl, h.2.1, h.2.2⟩
  · obtain ⟨rfl, rfl⟩ := hW.good h
    exact reput_any b len cap l t a n c L w hl hlen hcap hb ht hn hv hk h

set_option maxHeartbeats 2000000 in
theorem ewrite_any (p s a : Nat) (t : Int) (A : Option Addr) (n c : Nat) (L : List VV) (q : List Int) (E : Nat) (w : World) (hp : p < 4294967296) (hs : s < 18446744073709551616) (ha : a < 18446744073709551616) (ht : 0 ≤ t ∧ t < 256)
    (hn : L.length = n) (hm : n ≤ 1000) (hv : Vals w A L) (hk : ∀ v ∈ L, Okv v) (hW : Wr L t (wfr p s a) q E) :
    Calls Try.prog 19 #[lg p s a t A n c] w fun e w' => ∃ A' k' c', e = .returned (.tuple #[.slice A' k' c', .int .i64 (E : Int)]) ∧ q.length = k' ∧ Own w' w.heap.size (.slice A' k' c') q ∧ Below w.heap.size w w' := by
  have B0 := Lib.hid (below_alloc w (lcells p s a t A n c))
  have L0 := Lib.hid (Lgt.alloc w p s a t A n c)
  have p1 := wrt_ten p (by omega)
  have p2 := wrt_ten s hs
  have p3 := wrt_ten a ha
  have Q1 := Lib.hid (fun w => put_any none 0 0 [] p w rfl (by omega) (by omega) (Byt.nil w))
  have Q2 := Lib.hid (fun A k c w (h : ([] ++ wrt p).length = k) hb => put_any A k c ([] ++ wrt p) s w h (by simp at h; omega) hs hb)
  have Q3 := Lib.hid (fun A k c w (h : ([] ++ wrt p ++ wrt s).length = k) hb => put_any A k c ([] ++ wrt p ++ wrt s) a w h (by simp at h; omega) ha hb)
  have Q4 := Lib.hid (fun B len cap w (h : ([] ++ wrt p ++ wrt s ++ wrt a).length = len) hc hb hv => eput_all B len cap ([] ++ wrt p ++ wrt s ++ wrt a) t A n c L q E w h (by simp at h; omega) hc hb ht hn hm hv hk (by simpa [wfr] using hW))
  have R1 := Lib.hid (show ∀ c ∈ [] ++ wrt p, 0 ≤ c ∧ c < 256 from range_app (by simp) (wrt_range p))
  have R2 := Lib.hid (show ∀ c ∈ [] ++ wrt p ++ wrt s, 0 ≤ c ∧ c < 256 from range_app R1.out (wrt_range s))
  have R3 := Lib.hid (show ∀ c ∈ [] ++ wrt p ++ wrt s ++ wrt a, 0 ≤ c ∧ c < 256 from range_app R2.out (wrt_range a))
  have HV := Lib.hid hv
  have hw : IntKind.u64.wrap (p : Int) = (p : Int) := by rw [IntKind.wrap_u64]; omega
  clear hp hs ha ht hn hm hv hk hW p1 p2 p3
  go_enter Try.func19, Try.ntmps19
  go_wp2_with fail
  refine (Q1.out _).mono ?_
  rintro e w1 ⟨A1, k1, c1, rfl, hk1, ho1, hbl⟩
  have B1 := Lib.hid (below_go B0.out hbl)
  have L1 := Lib.hid (L0.out.next hbl)
  have N2 := Lib.hid (Q2.out A1 k1 c1 w1 hk1 (ho1.byt R1.out))
  clear hbl B0 L0 Q1 Q2 hk1 ho1
  obtain ⟨e0, e1, e2, e3, e4⟩ := L1.out
  go_wp2_with fail
  refine N2.out.mono ?_
  rintro e w2 ⟨A2, k2, c2, rfl, hk2, ho2, hbl⟩
  have B2 := Lib.hid (below_go B1.out hbl)
  have L2 := Lib.hid (L1.out.next hbl)
  have N3 := Lib.hid (Q3.out A2 k2 c2 w2 hk2 (ho2.byt R2.out))
  clear hbl B1 L1 Q3 hk2 ho2 N2 e0 e1 e2 e3 e4
  obtain ⟨e0, e1, e2, e3, e4⟩ := L2.out
  go_wp2_with fail
  refine N3.out.mono ?_
  rintro e w3 ⟨A3, k3, c3, rfl, hk3, ho3, hbl⟩
  have B3 := Lib.hid (below_go B2.out hbl)
  have L3 := Lib.hid (L2.out.next hbl)
  have N4 := Lib.hid (Q4.out A3 k3 c3 w3 hk3 ho3.capz (ho3.byt R3.out) (HV.out.below B3.out))
  clear hbl B2 L2 Q4 hk3 ho3 N3 e0 e1 e2 e3 e4
  obtain ⟨e0, e1, e2, e3, e4⟩ := L3.out
  go_wp2_with fail
  refine N4.out.mono ?_
  rintro e w4 ⟨A4, k4, c4, rfl, hk4, ho4, hbl⟩
  have B4 := Lib.hid (below_go B3.out hbl)
  have O4 := Lib.hid (ho4.mono B3.out.size)
  have K4 := Lib.hid hk4
  clear hbl hk4 ho4 N4 e0 e1 e2 e3 e4
  go_wp2_with fail
  go_ret2
  exact ⟨A4, k4, c4, rfl, K4.out, O4.out, B4.out⟩
set_option maxHeartbeats 2000000 in
theorem rewrite_any (p s a : Nat) (t : Int) (A : Option Addr) (n c : Nat) (L : List VV) (q : List Int) (E : Nat) (w : World) (hp : p < 4294967296) (hs : s < 18446744073709551616) (ha : a < 18446744073709551616) (ht : 0 ≤ t ∧ t < 256)
    (hn : L.length = n) (hm : n ≤ 1000) (hv : Vals w A L) (hk : ∀ v ∈ L, Okv v) (hW : Wr L t (wfr p s a) q E) :
    Calls Try.prog 20 #[lg p s a t A n c] w fun e w' => ∃ A' k' c', e = .returned (.tuple #[.slice A' k' c', .int .i64 (E : Int)]) ∧ q.length = k' ∧ Own w' w.heap.size (.slice A' k' c') q ∧ Below w.heap.size w w' := by
  have B0 := Lib.hid (below_go (below_alloc w (lcells p s a t A n c)) (below_alloc _ (.cells #[] 5)))
  have L0 := Lib.hid ((Lgt.alloc w p s a t A n c).next (below_alloc _ (.cells #[] 5)))
  have p1 := wrt_ten p (by omega)
  have p2 := wrt_ten s hs
  have p3 := wrt_ten a ha
  have Q1 := Lib.hid (rput_any (some ⟨w.heap.size + 1, 0, none⟩) 0 0 [] p ((w.alloc (lcells p s a t A n c)).alloc (.cells #[] 5)) rfl (by omega) (by intro h; cases h) (by omega) (by have := Own.empty (w.alloc (lcells p s a t A n c)); rw [World.size_alloc] at this; exact this.byt (by simp)))
  have Q2 := Lib.hid (fun A k c w (h : ([] ++ wrt p).length = k) hc hb => rput_any A k c ([] ++ wrt p) s w h (by simp at h; omega) hc hs hb)
  have Q3 := Lib.hid (fun A k c w (h : ([] ++ wrt p ++ wrt s).length = k) hc hb => rput_any A k c ([] ++ wrt p ++ wrt s) a w h (by simp at h; omega) hc ha hb)
  have Q4 := Lib.hid (fun B len cap w (h : ([] ++ wrt p ++ wrt s ++ wrt a).length = len) hc hb hv => reput_all B len cap ([] ++ wrt p ++ wrt s ++ wrt a) t A n c L q E w h (by simp at h; omega) hc hb ht hn hm hv hk (by simpa [wfr] using hW))
  have R1 := Lib.hid (show ∀ c ∈ [] ++ wrt p, 0 ≤ c ∧ c < 256 from range_app (by simp) (wrt_range p))
  have R2 := Lib.hid (show ∀ c ∈ [] ++ wrt p ++ wrt s, 0 ≤ c ∧ c < 256 from range_app R1.out (wrt_range s))
  have R3 := Lib.hid (show ∀ c ∈ [] ++ wrt p ++ wrt s ++ wrt a, 0 ≤ c ∧ c < 256 from range_app R2.out (wrt_range a))
  have HV := Lib.hid hv
  have hw : IntKind.u64.wrap (p : Int) = (p : Int) := by rw [IntKind.wrap_u64]; omega
  clear hp hs ha ht hn hm hv hk hW p1 p2 p3
  go_enter Try.func20, Try.ntmps20
  go_wp2_with fail
  refine Q1.out.mono ?_
  rintro e w1 ⟨A1, k1, c1, rfl, hk1, ho1, hbl⟩
  have B1 := Lib.hid (below_go B0.out hbl)
  have L1 := Lib.hid (L0.out.next hbl)
  have N2 := Lib.hid (Q2.out A1 k1 c1 w1 hk1 ho1.capz (ho1.byt R1.out))
  clear hbl B0 L0 Q1 Q2 hk1 ho1
  obtain ⟨e0, e1, e2, e3, e4⟩ := L1.out
  go_wp2_with fail
  refine N2.out.mono ?_
  rintro e w2 ⟨A2, k2, c2, rfl, hk2, ho2, hbl⟩
  have B2 := Lib.hid (below_go B1.out hbl)
  have L2 := Lib.hid (L1.out.next hbl)
  have N3 := Lib.hid (Q3.out A2 k2 c2 w2 hk2 ho2.capz (ho2.byt R2.out))
  clear hbl B1 L1 Q3 hk2 ho2 N2 e0 e1 e2 e3 e4
  obtain ⟨e0, e1, e2, e3, e4⟩ := L2.out
  go_wp2_with fail
  refine N3.out.mono ?_
  rintro e w3 ⟨A3, k3, c3, rfl, hk3, ho3, hbl⟩
  have B3 := Lib.hid (below_go B2.out hbl)
  have L3 := Lib.hid (L2.out.next hbl)
  have N4 := Lib.hid (Q4.out A3 k3 c3 w3 hk3 ho3.capz (ho3.byt R3.out) (HV.out.below B3.out))
  clear hbl B2 L2 Q4 hk3 ho3 N3 e0 e1 e2 e3 e4
  obtain ⟨e0, e1, e2, e3, e4⟩ := L3.out
  go_wp2_with fail
  refine N4.out.mono ?_
  rintro e w4 ⟨A4, k4, c4, rfl, hk4, ho4, hbl⟩
  have B4 := Lib.hid (below_go B3.out hbl)
  have O4 := Lib.hid (ho4.mono B3.out.size)
  have K4 := Lib.hid hk4
  clear hbl hk4 ho4 N4 e0 e1 e2 e3 e4
  go_wp2_with fail
  go_ret2
  exact ⟨A4, k4, c4, rfl, K4.out, O4.out, B4.out⟩
end Go.Proofs.Ytjpdnojkgadklaa
