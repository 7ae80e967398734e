/- SnapPuts: the walk. -/
import Derived.Test.YtmooblbnkjaenaaSnG
import Derived.Test.YtmooblbnkjaenaaSnH
import Derived.Test.YtmooblbnkjaenaaSnI
import Derived.Test.YtmooblbnkjaenaaSnQ
namespace Go.Proofs.Ytmooblbnkjaenaa
open Go Go.RowKit Pk
set_option maxRecDepth 20000

theorem PuX.yes {next last : Nat} {fl : Bool} {fat : Nat} {L : List Ru} {w : World} {e : Ending} {w' : World} (h : PuX next last fl fat L w e w') (hw : wr next last fl fat L = true) :
    ∃ A k c, e = .returned (.tuple #[.slice A k c, .int .i64 0]) ∧ (wst next last fl fat L).length = k ∧ k ≤ c ∧ Hid (Byt w' A (wst next last fl fat L)) ∧ Below w.heap.size w w' := by
  obtain ⟨A, k, c, X, he, hX, h1, h2, h3, h4⟩ := h
  rw [hw, if_pos rfl] at hX
  rw [hw, if_pos rfl] at he
  subst hX
  exact ⟨A, k, c, he, h1, h2, h3, h4⟩
theorem PuX.no {next last : Nat} {fl : Bool} {fat : Nat} {L : List Ru} {w : World} {e : Ending} {w' : World} (h : PuX next last fl fat L w e w') (hw : wr next last fl fat L = false) :
    ∃ A k c, e = .returned (.tuple #[.slice A k c, .int .i64 1]) ∧ ([] : List Int).length = k ∧ k ≤ c ∧ Hid (Byt w' A []) ∧ Below w.heap.size w w' := by
  obtain ⟨A, k, c, X, he, hX, h1, h2, h3, h4⟩ := h
  rw [hw, if_neg (by simp)] at hX
  rw [hw, if_neg (by simp)] at he
  subst hX
  exact ⟨A, k, c, he, h1, h2, h3, h4⟩
set_option maxHeartbeats 8000000 in
theorem puts_walk (next last : Nat) (fl : Bool) (fat : Nat) (A : Option Addr) (n c : Nat) (L : List Ru) (w : World) (h1 : next < 18446744073709551616) (h2 : last < 18446744073709551616) (h3 : fat < 18446744073709551616) (hn : L.length = n) (hv : Rus w A L) (hk : ∀ r ∈ L, Okr r) :
    Calls Try.prog 3 #[stv next last fl fat A n c] w fun e w' => e = .returned (.bool true) ∧ Below w.heap.size w w' := by
  have X0 : Hid (Sx w (w.alloc (.cells #[.int .u64 (next : Int), .int .u64 (last : Int), .bool fl, .int .u64 (fat : Int), .slice A n c] 25)) next last fl fat A n c L) := Lib.hid (Sx.new hv)
  have FX := Lib.hid sfixed_any
  have HN := Lib.hid hn
  have HK := Lib.hid hk
  have HF := Lib.hid h3
  have P1 := Lib.hid (fun W (h : Rus W A L) (hm : n ≤ 1000) => sput_any next last fl fat A n c L W hn hm h hk h1 h2 h3)
  have P2 := Lib.hid (fun W (h : Rus W A L) (hm : n ≤ 1000) => rput16_any next last fl fat A n c L W hn hm h hk h1 h2 h3)
  have WL := Lib.hid (fun (h : n ≤ 64) => wst_len next last fl fat L hk h1 h2 h3 (by omega))
  clear hn hv hk h1 h2 h3
  go_enter Try.func3, Try.ntmps3
  go_upto_region 1 with fail
  generalize (w.alloc (.cells #[.int .u64 (next : Int), .int .u64 (last : Int), .bool fl, .int .u64 (fat : Int), .slice A n c] 25)) = w1 at X0 ⊢
  obtain ⟨a0, a1, a2, a3, a4, _⟩ := sto_cells X0.out.a
  by_cases c1 : 200 < n
  · have d1 : decide ((200 : Int) < (n : Int)) = true := decide_eq_true (by omega)
    have d1' : decide (200 < n) = true := decide_eq_true c1
    go_wp2_with fail
    refine (FX.out _).mono ?_
    rintro e w4 ⟨rfl, hbl⟩
    have B4 := Lib.hid (X0.out.next hbl).bel
    clear hbl X0 FX
    go_wp2_with fail
    go_ret
    exact ⟨rfl, B4.out⟩
  · have d1 : decide ((200 : Int) < (n : Int)) = false := decide_eq_false (by omega)
    have d1' : decide (200 < n) = false := decide_eq_false c1
    have N1 := Lib.hid (show n ≤ 200 by omega)
    clear c1
    obtain ⟨ok, hok⟩ : ∃ ok, wr next last fl fat L = ok := ⟨_, rfl⟩
    have OK := Lib.hid hok
    clear hok
    cases ok
    · skip
      go_wp2_with fail
      refine (P1.out _ X0.out.r (by have := N1.out; omega)).mono ?_
      rintro _ w2 hp
      obtain ⟨A2, k2, c2, rfl, hl2, hc2, hy2, hb2⟩ := hp.no OK.out
      have X2 := Lib.hid (X0.out.next hb2)
      have Y2 := Lib.hid hy2.out
      have L2 := Lib.hid (And.intro hl2 hc2)
      clear X0 hl2 hc2 hy2 hb2 a0 a1 a2 a3 a4 d1 d1' P1 hp
      obtain ⟨a0, a1, a2, a3, a4, _⟩ := sto_cells X2.out.a
      go_wp2_with fail
      refine (P2.out _ X2.out.r (by have := N1.out; omega)).mono ?_
      rintro _ w3 hp
      obtain ⟨A3, k3, c3, rfl, hl3, hc3, hy3, hb3⟩ := hp.no OK.out
      have X3 := Lib.hid (X2.out.next hb3)
      have Y3 := Lib.hid hy3.out
      have Y2' := Lib.hid (Y2.out.below hb3)
      have L3 := Lib.hid hl3
      clear X2 hl3 hc3 hy3 hb3 a0 a1 a2 a3 a4 P2 Y2 hp
      go_wp2_with fail
      refine (FX.out _).mono ?_
      rintro e w4 ⟨rfl, hbl⟩
      have X4 := Lib.hid (X3.out.next hbl)
      have Y4 := Lib.hid (Y2'.out.below hbl)
      have T2 := run_str w4 A2 k2 c2 [] L2.out.1 Y4.out
      have T3 := run_str w4 A3 k3 c3 [] L3.out (Y3.out.below hbl)
      clear hbl X3 Y3 Y2' FX
      go_wp2_with fail
      go_ret
      exact ⟨rfl, X4.out.bel⟩
    · have WW := Lib.hid ((wr_iff _ _ _ _ _).1 OK.out)
      have N64 := Lib.hid (show n ≤ 64 by have := WW.out.2.2.1; have := HN.out; omega)
      have TB := Lib.hid (there_back next last fl fat L _ rfl OK.out HF.out HK.out)
      have XL := Lib.hid (WL.out N64.out)
      have GQ := Lib.hid (show gq (wst next last fl fat L) = ⟨next, last, fl, fat, L⟩ by unfold gq; rw [if_pos TB.out.2, TB.out.1])
      clear WW WL
      go_wp2_with fail
      refine (P1.out _ X0.out.r (by have := N1.out; omega)).mono ?_
      rintro _ w2 hp
      obtain ⟨A2, k2, c2, rfl, hl2, hc2, hy2, hb2⟩ := hp.yes OK.out
      have X2 := Lib.hid (X0.out.next hb2)
      have Y2 := Lib.hid hy2.out
      have L2 := Lib.hid (And.intro hl2 hc2)
      clear X0 hl2 hc2 hy2 hb2 a0 a1 a2 a3 a4 d1 d1' P1 hp
      obtain ⟨a0, a1, a2, a3, a4, _⟩ := sto_cells X2.out.a
      go_wp2_with fail
      refine (P2.out _ X2.out.r (by have := N1.out; omega)).mono ?_
      rintro _ w3 hp
      obtain ⟨A3, k3, c3, rfl, hl3, hc3, hy3, hb3⟩ := hp.yes OK.out
      have X3 := Lib.hid (X2.out.next hb3)
      have Y3 := Lib.hid hy3.out
      have Y2' := Lib.hid (Y2.out.below hb3)
      have L3 := Lib.hid hl3
      clear X2 hl3 hc3 hy3 hb3 a0 a1 a2 a3 a4 P2 Y2 hp
      go_wp2_with fail
      refine (FX.out _).mono ?_
      rintro e w4 ⟨rfl, hbl⟩
      have X4 := Lib.hid (X3.out.next hbl)
      have Y4 := Lib.hid (Y2'.out.below hbl)
      have T2 := run_str w4 A2 k2 c2 _ L2.out.1 Y4.out
      have T3 := run_str w4 A3 k3 c3 _ L3.out (Y3.out.below hbl)
      clear hbl X3 Y3 Y2' FX
      have GG := Lib.hid (get16_any A2 k2 c2 _ w4 L2.out.1 (by have := XL.out; have := L2.out.1; omega) L2.out.2 Y4.out)
      go_wp2_with fail
      refine GG.out.mono ?_
      rintro _ w5 ⟨A5, k5, c5, he5, hl5, hr5, hb5⟩
      rw [TB.out.2, GQ.out] at he5
      subst he5
      rw [GQ.out] at hl5 hr5
      have L5 := Lib.hid hl5
      have X5 := Lib.hid (X4.out.next hb5)
      have NB := Lib.hid (below_alloc w5 (sto next last fl fat A5 k5 c5))
      have X6 : Hid (Sx w (w5.alloc (.cells #[.int .u64 (next : Int), .int .u64 (last : Int), .bool fl, .int .u64 (fat : Int), .slice A5 k5 c5] 25)) next last fl fat A n c L) := Lib.hid (X5.out.next NB.out)
      have Z6 : Hid ((w5.alloc (.cells #[.int .u64 (next : Int), .int .u64 (last : Int), .bool fl, .int .u64 (fat : Int), .slice A5 k5 c5] 25)).heap[w5.heap.size]? = some (sto next last fl fat A5 k5 c5)) := Lib.hid (heap_alloc_new w5 _)
      have R6 : Hid (Rus (w5.alloc (.cells #[.int .u64 (next : Int), .int .u64 (last : Int), .bool fl, .int .u64 (fat : Int), .slice A5 k5 c5] 25)) A5 L) := Lib.hid (hr5.out.below NB.out)
      clear hl5 hr5 hb5 X5 NB GG X4 T2 T3 Y4 GQ TB
      go_upto_region 10 with fail
      generalize (w5.alloc (.cells #[.int .u64 (next : Int), .int .u64 (last : Int), .bool fl, .int .u64 (fat : Int), .slice A5 k5 c5] 25)) = w6 at X6 Z6 R6 ⊢
      obtain ⟨a0, a1, a2, a3, a4, _⟩ := sto_cells X6.out.a
      obtain ⟨b0, b1, b2, b3, b4, _⟩ := sto_cells Z6.out
      have SS := Lib.hid (rsame15_any next last fl fat A5 k5 c5 L next last fl fat A n c L w6 L5.out (by have := N64.out; have := L5.out; have := HN.out; omega) R6.out HN.out (by have := N64.out; omega) X6.out.r)
      rw [sms_self] at SS
      go_wp2_with fail
      refine SS.out.mono ?_
      rintro _ w7 ⟨rfl, hb7⟩
      have B7 := Lib.hid (X6.out.next hb7).bel
      clear hb7 X6 SS
      go_wp2_with fail
      go_ret
      exact ⟨rfl, B7.out⟩
end Go.Proofs.Ytmooblbnkjaenaa
