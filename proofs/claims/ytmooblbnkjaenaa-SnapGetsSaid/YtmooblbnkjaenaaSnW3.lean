/- SnapGets: the walk. -/
import Derived.Test.YtmooblbnkjaenaaSnW2
import Derived.Test.YtmooblbnkjaenaaSnR
namespace Go.Proofs.Ytmooblbnkjaenaa
open Go Go.RowKit Pk
set_option maxRecDepth 20000

theorem sq_ok (l : List Int) (hr : ∀ c ∈ l, 0 ≤ c ∧ c < 256) : (sq l).next < 18446744073709551616 ∧ (sq l).last < 18446744073709551616 ∧ (sq l).fat < 18446744073709551616 ∧ ∀ r ∈ (sq l).L, Okr r := by
  refine ⟨rdn_lt l (0, 0) hr, rdn_lt l (s1 l) hr, ?_, ?_⟩
  · unfold sq
    simp only
    split
    · exact rdn_lt l _ hr
    · omega
  · unfold sq
    simp only
    split
    · simp
    · unfold rsL
      split
      · simp
      · exact rrs_ok l _ _ _ hr
/- two states in boxes of their own -/
structure Sg2 (w W : World) (g g' : Nat) (q : Sq) (A : Option Addr) (k c : Nat) (A' : Option Addr) (c' : Nat) : Prop where
  a : W.heap[g]? = some (sto q.next q.last q.fl q.fat A k c)
  b : W.heap[g']? = some (sto q.next q.last q.fl q.fat A' k c')
  r : Rus W A q.L
  r' : Rus W A' q.L
  bel : Below w.heap.size w W
theorem Sg2.next {w W W' : World} {g g' : Nat} {q : Sq} {A : Option Addr} {k c : Nat} {A' : Option Addr} {c' : Nat} (h : Sg2 w W g g' q A k c A' c') (hb : Below W.heap.size W W') : Sg2 w W' g g' q A k c A' c' :=
  ⟨(hb.block _ (Array.getElem?_eq_some_iff.1 h.a).1).trans h.a, (hb.block _ (Array.getElem?_eq_some_iff.1 h.b).1).trans h.b, h.r.below hb, h.r'.below hb, below_go h.bel hb⟩
set_option maxHeartbeats 8000000 in
theorem gets_walk (A0 : Option Addr) (m c0 : Nat) (l : List Int) (w : World) (hl : l.length = m) (hc : m ≤ c0) (hb : Byt w A0 l) :
    Calls Try.prog 4 #[.slice A0 m c0] w fun e w' => e = .returned (.bool true) ∧ Below w.heap.size w w' := by
  have FX := Lib.hid sfixed_any
  have HL := Lib.hid hl
  have HB := Lib.hid hb
  have G1 := Lib.hid (fun (hm : m ≤ 3000) => get16_any A0 m c0 l w hl (by omega) hc hb)
  have G2 := Lib.hid (fun W (h : Below w.heap.size w W) (hm : m ≤ 3000) => rget16_any A0 m c0 l W hl (by omega) (hb.below h))
  have SO := Lib.hid (sq_ok l hb.2)
  have RB := Lib.hid (read_back l hb.2)
  have FW := Lib.hid (sq_few l)
  clear hl hc hb
  go_enter Try.func4, Try.ntmps4
  by_cases c1 : 3000 < m
  · have d1 : decide ((3000 : Int) < (m : Int)) = true := decide_eq_true (by omega)
    have d1' : decide (3000 < m) = true := decide_eq_true c1
    go_wp2_with fail
    refine (FX.out _).mono ?_
    rintro e w4 ⟨rfl, hbl⟩
    have B4 := Lib.hid hbl
    clear hbl FX
    go_wp2_with fail
    go_ret
    exact ⟨rfl, B4.out⟩
  · have d1 : decide ((3000 : Int) < (m : Int)) = false := decide_eq_false (by omega)
    have d1' : decide (3000 < m) = false := decide_eq_false c1
    have MM := Lib.hid (show m ≤ 3000 by omega)
    clear c1
    have GQ0 := Lib.hid (fun (h : (s6 l).2 = 0) => show gq l = sq l by unfold gq; rw [if_pos h])
    go_wp2_with fail
    refine (G1.out MM.out).mono ?_
    rintro _ w1 ⟨A1, k1, c1, he1, hk1, hr1, hb1⟩
    obtain ⟨q, hq⟩ : ∃ q, gq l = q := ⟨_, rfl⟩
    obtain ⟨er, her⟩ : ∃ er, (s6 l).2 = er := ⟨_, rfl⟩
    rw [hq, her] at he1
    rw [hq] at hk1 hr1
    have HQ := Lib.hid hq
    have HER := Lib.hid her
    clear hq her
    subst he1
    obtain ⟨qn, ql, qf, qa, qL⟩ := q
    simp only at hk1 hr1
    subst hk1
    have NB := Lib.hid (below_alloc w1 (sto qn ql qf qa A1 qL.length c1))
    have Z1 : Hid ((w1.alloc (.cells #[.int .u64 (qn : Int), .int .u64 (ql : Int), .bool qf, .int .u64 (qa : Int), .slice A1 qL.length c1] 25)).heap[w1.heap.size]? = some (sto qn ql qf qa A1 qL.length c1)) := Lib.hid (heap_alloc_new w1 _)
    have B1 : Hid (Below w.heap.size w (w1.alloc (.cells #[.int .u64 (qn : Int), .int .u64 (ql : Int), .bool qf, .int .u64 (qa : Int), .slice A1 qL.length c1] 25))) := Lib.hid (below_go hb1 NB.out)
    have R1 : Hid (Rus (w1.alloc (.cells #[.int .u64 (qn : Int), .int .u64 (ql : Int), .bool qf, .int .u64 (qa : Int), .slice A1 qL.length c1] 25)) A1 qL) := Lib.hid (hr1.out.below NB.out)
    clear hb1 hr1 NB G1
    go_upto_region 4 with fail
    generalize (w1.alloc (.cells #[.int .u64 (qn : Int), .int .u64 (ql : Int), .bool qf, .int .u64 (qa : Int), .slice A1 qL.length c1] 25)) = w2 at Z1 B1 R1 ⊢
    generalize w1.heap.size = g at Z1 ⊢
    go_wp2_with fail
    refine (G2.out _ B1.out MM.out).mono ?_
    rintro _ w3 ⟨A3, k3, c3, he3, hk3, hr3, hb3⟩
    rw [HQ.out, HER.out] at he3
    rw [HQ.out] at hk3 hr3
    simp only at he3 hk3 hr3
    subst he3 hk3
    have NB := Lib.hid (below_alloc w3 (sto qn ql qf qa A3 qL.length c3))
    have V4 : Hid (Sg2 w (w3.alloc (.cells #[.int .u64 (qn : Int), .int .u64 (ql : Int), .bool qf, .int .u64 (qa : Int), .slice A3 qL.length c3] 25)) g w3.heap.size ⟨qn, ql, qf, qa, qL⟩ A1 qL.length c1 A3 c3) := Lib.hid
      ⟨(NB.out.block _ (Nat.lt_of_lt_of_le (Array.getElem?_eq_some_iff.1 Z1.out).1 hb3.size)).trans ((hb3.block _ (Array.getElem?_eq_some_iff.1 Z1.out).1).trans Z1.out), heap_alloc_new w3 _, (R1.out.below hb3).below NB.out, hr3.out.below NB.out, below_go (below_go B1.out hb3) NB.out⟩
    clear hr3 hb3 NB Z1 B1 R1 G2
    go_upto_region 5 with fail
    generalize (w3.alloc (.cells #[.int .u64 (qn : Int), .int .u64 (ql : Int), .bool qf, .int .u64 (qa : Int), .slice A3 qL.length c3] 25)) = w4 at V4 ⊢
    generalize w3.heap.size = g' at V4 ⊢
    go_wp2_with fail
    refine (FX.out _).mono ?_
    rintro e w5 ⟨rfl, hbl⟩
    have V5 := Lib.hid (V4.out.next hbl)
    clear hbl V4 FX
    have QF := Lib.hid (show qL.length ≤ 64 by
      have h := congrArg Sq.L HQ.out
      simp only at h
      rw [← h]
      unfold gq
      split
      · exact FW.out
      · simp)
    obtain ⟨a0, a1, a2, a3, a4, _⟩ := sto_cells V5.out.a
    obtain ⟨b0, b1, b2, b3, b4, _⟩ := sto_cells V5.out.b
    simp only at a0 a1 a2 a3 a4 b0 b1 b2 b3 b4
    have SS := Lib.hid (rsame15_any qn ql qf qa A1 qL.length c1 qL qn ql qf qa A3 qL.length c3 qL w5 rfl (by have := QF.out; omega) V5.out.r rfl (by have := QF.out; omega) V5.out.r')
    rw [sms_self] at SS
    go_wp2_with fail
    refine SS.out.mono ?_
    rintro _ w6 ⟨rfl, hb6⟩
    have V6 := Lib.hid (V5.out.next hb6)
    clear hb6 V5 SS a0 a1 a2 a3 a4 b0 b1 b2 b3 b4
    by_cases ce : er = 0
    · subst ce
      have ES := Lib.hid ((GQ0.out HER.out).symm.trans HQ.out)
      have RB2 := Lib.hid (RB.out HER.out)
      rw [ES.out] at RB2 SO
      simp only at RB2 SO
      obtain ⟨a0, a1, a2, a3, a4, _⟩ := sto_cells V6.out.a
      simp only at a0 a1 a2 a3 a4
      have PP := Lib.hid (sput_any qn ql qf qa A1 qL.length c1 qL w6 rfl (by have := QF.out; omega) V6.out.r SO.out.2.2.2 SO.out.1 SO.out.2.1 SO.out.2.2.1)
      have i0 : (((0 : Nat) : Int) == ((0 : Nat) : Int)) = true := by simp
      go_wp2_with fail
      refine PP.out.mono ?_
      rintro _ w7 hp
      obtain ⟨A7, k7, c7, rfl, hl7, hc7, hy7, hb7⟩ := hp.yes RB2.out.1
      rw [RB2.out.2] at hl7 hy7
      have B7 := Lib.hid (V6.out.next hb7).bel
      have T7 := run_str w7 A7 k7 c7 l hl7 hy7.out
      have T0 := run_str w7 A0 m c0 l HL.out (HB.out.below B7.out)
      clear hp PP V6 a0 a1 a2 a3 a4 hl7 hc7 hy7 hb7
      go_wp2_with fail
      go_ret
      exact ⟨rfl, B7.out⟩
    · have d2 : ((er : Int) == 0) = false := by simp; omega
      have i0 : ((er : Int) == (er : Int)) = true := by simp
      go_wp2_with fail
      go_ret
      exact ⟨rfl, V6.out.bel⟩
end Go.Proofs.Ytmooblbnkjaenaa
