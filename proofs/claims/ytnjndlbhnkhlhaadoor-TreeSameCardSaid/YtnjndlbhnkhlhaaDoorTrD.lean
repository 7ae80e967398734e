/- ofParts: the parts of a pattern, and what is asked of each. -/
import Derived.Test.YtnjndlbhnkhlhaaDoorTrC
namespace Go.Proofs.YtnjndlbhnkhlhaaDoor
open Go Go.RowKit Pk Rl
set_option maxRecDepth 20000

def nlen : Value → Nat
  | .slice _ n _ => n
  | _ => 0
theorem spl_one {R : List Nd} (h : R ≠ []) (hf : frn R ≠ []) : spl R = (spl (R.drop (frn R).length)).map (frn R :: ·) := by rw [spl_cons R h, if_neg hf]
theorem spl_no {R : List Nd} (h : R ≠ []) (hf : frn R = []) : spl R = none := by rw [spl_cons R h, if_pos hf]
/- how the loop stands: D done, R left -/
def Sp (F : List Nd → Bool) (T R : List Nd) (D : List (List Nd)) : Prop := D.all F = true ∧ spl T = (spl R).map (D ++ ·)
theorem Sp.start (F : List Nd → Bool) (T : List Nd) : Sp F T T [] := ⟨rfl, by cases spl T <;> simp⟩
theorem Sp.step {F : List Nd → Bool} {T R : List Nd} {D : List (List Nd)} (h : Sp F T R D) (hR : R ≠ []) (hf : frn R ≠ []) (hF : F (frn R) = true) : Sp F T (R.drop (frn R).length) (D ++ [frn R]) := by
  refine ⟨by rw [List.all_append, h.1]; simp [hF], ?_⟩
  rw [h.2, spl_one hR hf]
  cases spl (R.drop (frn R).length) <;> simp
/- what ofp comes to, of a row whose front is this -/
theorem ofp_cons {F : List Nd → Bool} {l : List Nd} (h : frn l ≠ []) : ofp F l = match spl (frn l).tail with
    | none => false
    | some ps => ps.all F := by
  unfold ofp
  rcases hf : frn l with _ | ⟨n, r⟩
  · exact absurd hf h
  · rfl
theorem ofp_nil {F : List Nd → Bool} {l : List Nd} (h : frn l = []) : ofp F l = false := by unfold ofp; rw [h]
theorem Sp.none {F : List Nd → Bool} {l R : List Nd} {D : List (List Nd)} (h : Sp F (frn l).tail R D) (hR : R ≠ []) (hf : frn R = []) : ofp F l = false := by
  by_cases h0 : frn l = []
  · exact ofp_nil h0
  · rw [ofp_cons h0, h.2, spl_no hR hf]; rfl
theorem Sp.no {F : List Nd → Bool} {l R : List Nd} {D : List (List Nd)} (h : Sp F (frn l).tail R D) (hR : R ≠ []) (hf : frn R ≠ []) (hF : F (frn R) = false) : ofp F l = false := by
  by_cases h0 : frn l = []
  · exact ofp_nil h0
  · rw [ofp_cons h0, h.2, spl_one hR hf]
    cases spl (R.drop (frn R).length) <;> simp [hF]
theorem Sp.done {F : List Nd → Bool} {l : List Nd} {D : List (List Nd)} (h : Sp F (frn l).tail [] D) (h0 : frn l ≠ []) : ofp F l = true ∧ pts l = D := by
  have e : spl (frn l).tail = some D := by rw [h.2, spl_nil]; simp
  refine ⟨by rw [ofp_cons h0, e]; exact h.1, by unfold pts; rw [e]; rfl⟩
set_option maxHeartbeats 2000000 in
theorem ofp_formed (F : List Nd → Bool) (J : World → List (List Nd) → Prop) (w0 w1 : World) (H01 : Below w0.heap.size w0 w1) (g M : Nat)
    (C : Hid (∀ D p A n c W, J W D → Pt w0 A n c p → p ≠ [] → n < M → D.length ≤ 1000 → Below w1.heap.size w1 W → Calls Tryd.prog 39 #[.slice A n c, .pointer (some ⟨g, 0, none⟩)] W fun e w' => e = .returned (.bool (F p)) ∧ (F p = true → J w' (D ++ [p])) ∧ Below w1.heap.size w1 w'))
    (a : Option Addr) (n c : Nat) (L : List Nd) (w : World) (hP : Pt w0 a n c L) (hM : n ≤ M) (hJ : J w []) (hB : Below w1.heap.size w1 w) :
    Calls Tryd.prog 38 #[.slice a n c, .func (.func 39) #[] #[.pointer (some ⟨g, 0, none⟩)]] w fun e w' => e = .returned (.bool (ofp F L)) ∧ (ofp F L = true → J w' (pts L)) ∧ Below w1.heap.size w1 w' := by
  have HF := Lib.hid (front_any a n c L w (hP.below (below_go H01 hB)))
  have HP := Lib.hid hP
  have HJ := Lib.hid hJ
  have HB := Lib.hid hB
  have hfl := frn_len L
  have hll := hP.len
  have hfew := hP.few
  obtain ⟨r, hr⟩ : ∃ r, ofp F L = r := ⟨_, rfl⟩
  rw [hr]
  have HR := Lib.hid hr

  clear hP hJ hB hr
  go_enter Tryd.func38, Tryd.ntmps38
  go_wp2_with fail
  refine HF.out.mono ?_
  rintro e w' ⟨⟨A, K, rfl, hF⟩, rfl⟩
  have PF := Lib.hid (hF w0 HP.out)
  clear hF HF
  obtain ⟨q, hq⟩ : ∃ q, (frn L).length = q := ⟨_, rfl⟩
  rw [hq] at PF hfl ⊢
  have HQ := Lib.hid hq
  clear hq
  by_cases cq : q = 0
  · subst cq
    go_wp2_with fail
    go_ret
    have : r = false := by rw [← HR.out]; exact ofp_nil (List.eq_nil_of_length_eq_zero HQ.out)
    subst this
    exact ⟨rfl, fun h => (nomatch h), HB.out⟩
  · have q0 : ((q : Int) == 0) = false := by simp; omega
    obtain ⟨A1, hrun, hA1⟩ := PF.out.from 1 (by omega)
    have P1 := Lib.hid (hA1 w0 PF.out)
    rw [show ((1 : Nat) : Int) = 1 from rfl] at hrun
    rw [show (frn L).drop 1 = (frn L).tail by cases frn L <;> rfl] at P1
    have NE := Lib.hid (show frn L ≠ [] from fun e => by have := HQ.out; rw [e] at this; simp at this; omega)
    have S0 := Lib.hid (Sp.start F (frn L).tail)
    obtain ⟨n1, hn1⟩ : ∃ n1, q - 1 = n1 := ⟨_, rfl⟩
    obtain ⟨c1, hc1⟩ : ∃ c1, K - 1 = c1 := ⟨_, rfl⟩
    rw [hn1, hc1] at hrun P1
    have N1 : Hid (n1 < M ∧ n1 ≤ 1000) := Lib.hid (by omega)
    clear hA1 PF hn1 hc1 hfl hll hfew hM
    go_wp2_with fail
    go_loopw [6] (fun v6 W => ∃ (A' : Option Addr) (n' c' : Nat) (R : List Nd) (D : List (List Nd)), v6 = .slice A' n' c' ∧ Hid (Pt w0 A' n' c' R ∧ J W D ∧ D.length + n' ≤ n1 ∧ Sp F (frn L).tail R D ∧ Below w1.heap.size w1 W)) (fun v6 _ => nlen v6)
    case atStart => exact ⟨A1, n1, c1, _, [], rfl, Lib.hid ⟨P1.out, HJ.out, by simp, S0.out, HB.out⟩⟩
    case round =>
      obtain ⟨A', n', c', R, D, rfl, H⟩ := hrel
      have HP2 := Lib.hid H.out.1
      have HJ2 := Lib.hid H.out.2.1
      have HD2 := Lib.hid H.out.2.2.1
      have HS2 := Lib.hid H.out.2.2.2.1
      have HB2 := Lib.hid H.out.2.2.2.2
      clear H HJ P1 S0
      by_cases c0 : n' = 0
      · subst c0
        have e0 : R = [] := List.eq_nil_of_length_eq_zero HP2.out.len
        subst e0
        have HE := Lib.hid (HS2.out.done NE.out)
        have e1 : r = true := by rw [← HR.out]; exact HE.out.1
        subst e1
        have JJ := Lib.hid (show J wr (pts L) by rw [HE.out.2]; exact HJ2.out)
        go_wp2_with fail
        go_ret
        exact ⟨rfl, JJ.out, HB2.out⟩
      · have c2 : (0 : Int) < (n' : Int) := by omega
        have RN := Lib.hid (show R ≠ [] from fun e => by have := HP2.out.len; rw [e] at this; simp at this; omega)
        have F2 := Lib.hid (front_any A' n' c' R wr (HP2.out.below (below_go H01 HB2.out)))
        go_wp2_with fail
        refine F2.out.mono ?_
        rintro e w' ⟨⟨A3, K3, rfl, hF3⟩, rfl⟩
        have P3 := Lib.hid (hF3 w0 HP2.out)
        clear hF3 F2
        have HL3 := Lib.hid (frn_len R)
        obtain ⟨p, hp⟩ : ∃ p, frn R = p := ⟨_, rfl⟩
        have EP := Lib.hid hp
        rw [hp] at P3 HL3 ⊢
        clear hp
        obtain ⟨m, hm⟩ : ∃ m, p.length = m := ⟨_, rfl⟩
        rw [hm] at P3 HL3 ⊢
        have HM := Lib.hid hm
        clear hm
        by_cases cm : m = 0
        · subst cm
          have e1 : r = false := by rw [← HR.out]; exact HS2.out.none RN.out (by rw [EP.out]; exact List.eq_nil_of_length_eq_zero HM.out)
          subst e1
          go_wp2_with fail
          go_ret
          exact ⟨rfl, fun h => (nomatch h), HB2.out⟩
        · have m0 : ((m : Int) == 0) = false := by simp; omega
          have PN := Lib.hid (show p ≠ [] from fun e => by have := HM.out; rw [e] at this; simp at this; omega)
          have HM2 := Lib.hid (show m ≤ n' by have := HL3.out; rw [HP2.out.len] at this; exact this)
          have C2 := Lib.hid (C.out D p A3 m K3 wr HJ2.out P3.out PN.out (by have := HM2.out; have := HD2.out; have := N1.out; omega) (by have := HD2.out; have := N1.out; omega) HB2.out)
          obtain ⟨b, hb⟩ : ∃ b, F p = b := ⟨_, rfl⟩
          have EB := Lib.hid hb
          rw [hb] at C2
          clear hb
          obtain ⟨A4, hrun4, hA4⟩ := HP2.out.from m HM2.out
          have P4 := Lib.hid (hA4 w0 HP2.out)
          clear hA4
          obtain ⟨n4, hn4⟩ : ∃ n4, n' - m = n4 := ⟨_, rfl⟩
          obtain ⟨c4, hc4⟩ : ∃ c4, c' - m = c4 := ⟨_, rfl⟩
          rw [hn4, hc4] at hrun4 P4
          have HN4 := Lib.hid hn4
          clear hn4 hc4
          go_wp2_with fail
          refine C2.out.mono ?_
          rintro e w4 ⟨rfl, hJ4, hB4⟩
          have HJ4 := Lib.hid hJ4
          have HB4 := Lib.hid hB4
          clear hJ4 hB4 C2
          cases b
          · have e1 : r = false := by rw [← HR.out]; exact HS2.out.no RN.out (by rw [EP.out]; exact PN.out) (by rw [EP.out]; exact EB.out)
            subst e1
            go_wp2_with fail
            go_ret
            exact ⟨rfl, fun h => (nomatch h), HB4.out⟩
          · have S4 := Lib.hid (HS2.out.step RN.out (by rw [EP.out]; exact PN.out) (by rw [EP.out]; exact EB.out))
            rw [EP.out, HM.out] at S4
            go_wp2_with fail
            go_roundw
            case rel => exact ⟨A4, n4, c4, _, D ++ [p], rfl, Lib.hid ⟨P4.out, HJ4.out (by first | rfl | trivial), by rw [List.length_append]; have := HN4.out; have := HD2.out; have := HM2.out; simp; omega, S4.out, HB4.out⟩⟩
            case measure => show n4 < n'; have := HN4.out; have := HM2.out; omega
set_option maxHeartbeats 2000000 in
theorem ofp_parts (F : List Nd → Bool) (J : World → List (List Nd) → Prop) (w0 w1 : World) (H01 : Below w0.heap.size w0 w1) (g M : Nat)
    (C : Hid (∀ D p A n c W, J W D → Pt w0 A n c p → p ≠ [] → n < M → D.length ≤ 1000 → Below w1.heap.size w1 W → Calls Tryd.prog 52 #[.slice A n c, .pointer (some ⟨g, 0, none⟩)] W fun e w' => e = .returned (.bool (F p)) ∧ (F p = true → J w' (D ++ [p])) ∧ Below w1.heap.size w1 w'))
    (a : Option Addr) (n c : Nat) (L : List Nd) (w : World) (hP : Pt w0 a n c L) (hM : n ≤ M) (hJ : J w []) (hB : Below w1.heap.size w1 w) :
    Calls Tryd.prog 38 #[.slice a n c, .func (.func 52) #[] #[.pointer (some ⟨g, 0, none⟩)]] w fun e w' => e = .returned (.bool (ofp F L)) ∧ (ofp F L = true → J w' (pts L)) ∧ Below w1.heap.size w1 w' := by
  have HF := Lib.hid (front_any a n c L w (hP.below (below_go H01 hB)))
  have HP := Lib.hid hP
  have HJ := Lib.hid hJ
  have HB := Lib.hid hB
  have hfl := frn_len L
  have hll := hP.len
  have hfew := hP.few
  obtain ⟨r, hr⟩ : ∃ r, ofp F L = r := ⟨_, rfl⟩
  rw [hr]
  have HR := Lib.hid hr

  clear hP hJ hB hr
  go_enter Tryd.func38, Tryd.ntmps38
  go_wp2_with fail
  refine HF.out.mono ?_
  rintro e w' ⟨⟨A, K, rfl, hF⟩, rfl⟩
  have PF := Lib.hid (hF w0 HP.out)
  clear hF HF
  obtain ⟨q, hq⟩ : ∃ q, (frn L).length = q := ⟨_, rfl⟩
  rw [hq] at PF hfl ⊢
  have HQ := Lib.hid hq
  clear hq
  by_cases cq : q = 0
  · subst cq
    go_wp2_with fail
    go_ret
    have : r = false := by rw [← HR.out]; exact ofp_nil (List.eq_nil_of_length_eq_zero HQ.out)
    subst this
    exact ⟨rfl, fun h => (nomatch h), HB.out⟩
  · have q0 : ((q : Int) == 0) = false := by simp; omega
    obtain ⟨A1, hrun, hA1⟩ := PF.out.from 1 (by omega)
    have P1 := Lib.hid (hA1 w0 PF.out)
    rw [show ((1 : Nat) : Int) = 1 from rfl] at hrun
    rw [show (frn L).drop 1 = (frn L).tail by cases frn L <;> rfl] at P1
    have NE := Lib.hid (show frn L ≠ [] from fun e => by have := HQ.out; rw [e] at this; simp at this; omega)
    have S0 := Lib.hid (Sp.start F (frn L).tail)
    obtain ⟨n1, hn1⟩ : ∃ n1, q - 1 = n1 := ⟨_, rfl⟩
    obtain ⟨c1, hc1⟩ : ∃ c1, K - 1 = c1 := ⟨_, rfl⟩
    rw [hn1, hc1] at hrun P1
    have N1 : Hid (n1 < M ∧ n1 ≤ 1000) := Lib.hid (by omega)
    clear hA1 PF hn1 hc1 hfl hll hfew hM
    go_wp2_with fail
    go_loopw [6] (fun v6 W => ∃ (A' : Option Addr) (n' c' : Nat) (R : List Nd) (D : List (List Nd)), v6 = .slice A' n' c' ∧ Hid (Pt w0 A' n' c' R ∧ J W D ∧ D.length + n' ≤ n1 ∧ Sp F (frn L).tail R D ∧ Below w1.heap.size w1 W)) (fun v6 _ => nlen v6)
    case atStart => exact ⟨A1, n1, c1, _, [], rfl, Lib.hid ⟨P1.out, HJ.out, by simp, S0.out, HB.out⟩⟩
    case round =>
      obtain ⟨A', n', c', R, D, rfl, H⟩ := hrel
      have HP2 := Lib.hid H.out.1
      have HJ2 := Lib.hid H.out.2.1
      have HD2 := Lib.hid H.out.2.2.1
      have HS2 := Lib.hid H.out.2.2.2.1
      have HB2 := Lib.hid H.out.2.2.2.2
      clear H HJ P1 S0
      by_cases c0 : n' = 0
      · subst c0
        have e0 : R = [] := List.eq_nil_of_length_eq_zero HP2.out.len
        subst e0
        have HE := Lib.hid (HS2.out.done NE.out)
        have e1 : r = true := by rw [← HR.out]; exact HE.out.1
        subst e1
        have JJ := Lib.hid (show J wr (pts L) by rw [HE.out.2]; exact HJ2.out)
        go_wp2_with fail
        go_ret
        exact ⟨rfl, JJ.out, HB2.out⟩
      · have c2 : (0 : Int) < (n' : Int) := by omega
        have RN := Lib.hid (show R ≠ [] from fun e => by have := HP2.out.len; rw [e] at this; simp at this; omega)
        have F2 := Lib.hid (front_any A' n' c' R wr (HP2.out.below (below_go H01 HB2.out)))
        go_wp2_with fail
        refine F2.out.mono ?_
        rintro e w' ⟨⟨A3, K3, rfl, hF3⟩, rfl⟩
        have P3 := Lib.hid (hF3 w0 HP2.out)
        clear hF3 F2
        have HL3 := Lib.hid (frn_len R)
        obtain ⟨p, hp⟩ : ∃ p, frn R = p := ⟨_, rfl⟩
        have EP := Lib.hid hp
        rw [hp] at P3 HL3 ⊢
        clear hp
        obtain ⟨m, hm⟩ : ∃ m, p.length = m := ⟨_, rfl⟩
        rw [hm] at P3 HL3 ⊢
        have HM := Lib.hid hm
        clear hm
        by_cases cm : m = 0
        · subst cm
          have e1 : r = false := by rw [← HR.out]; exact HS2.out.none RN.out (by rw [EP.out]; exact List.eq_nil_of_length_eq_zero HM.out)
          subst e1
          go_wp2_with fail
          go_ret
          exact ⟨rfl, fun h => (nomatch h), HB2.out⟩
        · have m0 : ((m : Int) == 0) = false := by simp; omega
          have PN := Lib.hid (show p ≠ [] from fun e => by have := HM.out; rw [e] at this; simp at this; omega)
          have HM2 := Lib.hid (show m ≤ n' by have := HL3.out; rw [HP2.out.len] at this; exact this)
          have C2 := Lib.hid (C.out D p A3 m K3 wr HJ2.out P3.out PN.out (by have := HM2.out; have := HD2.out; have := N1.out; omega) (by have := HD2.out; have := N1.out; omega) HB2.out)
          obtain ⟨b, hb⟩ : ∃ b, F p = b := ⟨_, rfl⟩
          have EB := Lib.hid hb
          rw [hb] at C2
          clear hb
          obtain ⟨A4, hrun4, hA4⟩ := HP2.out.from m HM2.out
          have P4 := Lib.hid (hA4 w0 HP2.out)
          clear hA4
          obtain ⟨n4, hn4⟩ : ∃ n4, n' - m = n4 := ⟨_, rfl⟩
          obtain ⟨c4, hc4⟩ : ∃ c4, c' - m = c4 := ⟨_, rfl⟩
          rw [hn4, hc4] at hrun4 P4
          have HN4 := Lib.hid hn4
          clear hn4 hc4
          go_wp2_with fail
          refine C2.out.mono ?_
          rintro e w4 ⟨rfl, hJ4, hB4⟩
          have HJ4 := Lib.hid hJ4
          have HB4 := Lib.hid hB4
          clear hJ4 hB4 C2
          cases b
          · have e1 : r = false := by rw [← HR.out]; exact HS2.out.no RN.out (by rw [EP.out]; exact PN.out) (by rw [EP.out]; exact EB.out)
            subst e1
            go_wp2_with fail
            go_ret
            exact ⟨rfl, fun h => (nomatch h), HB4.out⟩
          · have S4 := Lib.hid (HS2.out.step RN.out (by rw [EP.out]; exact PN.out) (by rw [EP.out]; exact EB.out))
            rw [EP.out, HM.out] at S4
            go_wp2_with fail
            go_roundw
            case rel => exact ⟨A4, n4, c4, _, D ++ [p], rfl, Lib.hid ⟨P4.out, HJ4.out (by first | rfl | trivial), by rw [List.length_append]; have := HN4.out; have := HD2.out; have := HM2.out; simp; omega, S4.out, HB4.out⟩⟩
            case measure => show n4 < n'; have := HN4.out; have := HM2.out; omega
end Go.Proofs.YtnjndlbhnkhlhaaDoor
