/- Contracts, joined: TrD, TrE. -/
import Derived.Test.YtpnllbojifnopaaGreatDoorMK
/- ofParts: the parts of a pattern, and what is asked of each. -/
namespace Go.Proofs.YtpnllbojifnopaaGreatDoor
open Go Go.RowKit Pk Rl
set_option maxRecDepth 20000

def nlen : Value → Nat
  | .slice _ n _ => n
  | _ => 0
theorem spl_one {R : List Nd} (h : R ≠ []) (hf : frn R ≠ []) : spl R = (spl (R.drop (frn R).length)).map (frn R :: ·) := by rw [spl_cons R h, if_neg hf]
theorem spl_no {R : List Nd} (h : R ≠ []) (hf : frn R = []) : spl R = none := by rw [spl_cons R h, if_pos hf]
/- how the loop stands: D done, R left -/
def Sp (F : List Nd → Bool) (T R : List Nd) (D : List (List Nd)) : Prop := D.all F = true ∧ spl T = (spl R).map (D ++ ·)
theorem Sp.start (F : List Nd → Bool) (T : List Nd) : Sp F T T [] := ⟨rfl, by cases spl T <;> simp⟩
theorem Sp.step {F : List Nd → Bool} {T R : List Nd} {D : List (List Nd)} (h : Sp F T R D) (hR : R ≠ []) (hf : frn R ≠ []) (hF : F (frn R) = true) : Sp F T (R.drop (frn R).length) (D ++ [frn R]) := by
  refine ⟨by rw [List.all_append, h.1]; simp [hF], ?_⟩
  rw [h.2, spl_one hR hf]
  cases spl (R.drop (frn R).length) <;> simp
/- what ofp comes to, of a row whose front is this -/
theorem ofp_cons {F : List Nd → Bool} {l : List Nd} (h : frn l ≠ []) : ofp F l = match spl (frn l).tail with
    | none => false
    | some ps => ps.all F := by
  unfold ofp
  rcases hf : frn l with _ | ⟨n, r⟩
  · exact absurd hf h
  · rfl
theorem ofp_nil {F : List Nd → Bool} {l : List Nd} (h : frn l = []) : ofp F l = false := by unfold ofp; rw [h]
theorem Sp.none {F : List Nd → Bool} {l R : List Nd} {D : List (List Nd)} (h : Sp F (frn l).tail R D) (hR : R ≠ []) (hf : frn R = []) : ofp F l = false := by
  by_cases h0 : frn l = []
  · exact ofp_nil h0
  · rw [ofp_cons h0, h.2, spl_no hR hf]; rfl
theorem Sp.no {F : List Nd → Bool} {l R : List Nd} {D : List (List Nd)} (h : Sp F (frn l).tail R D) (hR : R ≠ []) (hf : frn R ≠ []) (hF : F (frn R) = false) : ofp F l = false := by
  by_cases h0 : frn l = []
  · exact ofp_nil h0
  · rw [ofp_cons h0, h.2, spl_one hR hf]
    cases spl (R.drop (frn R).length) <;> simp [hF]
theorem Sp.done {F : List Nd → Bool} {l : List Nd} {D : List (List Nd)} (h : Sp F (frn l).tail [] D) (h0 : frn l ≠ []) : ofp F l = true ∧ pts l = D := by
  have e : spl (frn l).tail = some D := by rw [h.2, spl_nil]; simp
  refine ⟨by rw [ofp_cons h0, e]; exact h.1, by unfold pts; rw [e]; rfl⟩
set_option maxHeartbeats 2000000 in
theorem ofp_formed (F : List Nd → Bool) (J : World → List (List Nd) → Prop) (w0 w1 : World) (H01 : Below w0.heap.size w0 w1) (g M : Nat)
    (C : Hid (∀ D p A n c W, J W D → Pt w0 A n c p → p ≠ [] → n < M → D.length ≤ 1000 → Below w1.heap.size w1 W → Calls Tryz.prog 107 #[.slice A n c, .pointer (some ⟨g, 0, none⟩)] W fun e w' => e = .returned (.bool (F p)) ∧ (F p = true → J w' (D ++ [p])) ∧ Below w1.heap.size w1 w'))
    (a : Option Addr) (n c : Nat) (L : List Nd) (w : World) (hP : Pt w0 a n c L) (hM : n ≤ M) (hJ : J w []) (hB : Below w1.heap.size w1 w) :
    Calls Tryz.prog 106 #[.slice a n c, .func (.func 107) #[] #[.pointer (some ⟨g, 0, none⟩)]] w fun e w' => e = .returned (.bool (ofp F L)) ∧ (ofp F L = true → J w' (pts L)) ∧ Below w1.heap.size w1 w' := by
  have HF := Lib.hid (front_any a n c L w (hP.below (below_go H01 hB)))
  have HP := Lib.hid hP
  have HJ := Lib.hid hJ
  have HB := Lib.hid hB
  have hfl := frn_len L
  have hll := hP.len
  have hfew := hP.few
  obtain ⟨r, hr⟩ : ∃ r, ofp F L = r := ⟨_, rfl⟩
  rw [hr]
  have HR := Lib.hid hr

  clear hP hJ hB hr
  go_enter Tryz.func106, Tryz.ntmps106
  go_wp2_with fail
  refine HF.out.mono ?_
  rintro e w' ⟨⟨A, K, rfl, hF⟩, rfl⟩
  have PF := Lib.hid (hF w0 HP.out)
  clear hF HF
  obtain ⟨q, hq⟩ : ∃ q, (frn L).length = q := ⟨_, rfl⟩
  rw [hq] at PF hfl ⊢
  have HQ := Lib.hid hq
  clear hq
  by_cases cq : q = 0
  · subst cq
    go_wp2_with fail
    go_ret
    have : r = false := by rw [← HR.out]; exact ofp_nil (List.eq_nil_of_length_eq_zero HQ.out)
    subst this
    exact ⟨rfl, fun h => (nomatch h), HB.out⟩
  · have q0 : ((q : Int) == 0) = false := by simp; omega
    obtain ⟨A1, hrun, hA1⟩ := PF.out.from 1 (by omega)
    have P1 := Lib.hid (hA1 w0 PF.out)
    rw [show ((1 : Nat) : Int) = 1 from rfl] at hrun
    rw [show (frn L).drop 1 = (frn L).tail by cases frn L <;> rfl] at P1
    have NE := Lib.hid (show frn L ≠ [] from fun e => by have := HQ.out; rw [e] at this; simp at this; omega)
    have S0 := Lib.hid (Sp.start F (frn L).tail)
    obtain ⟨n1, hn1⟩ : ∃ n1, q - 1 = n1 := ⟨_, rfl⟩
    obtain ⟨c1, hc1⟩ : ∃ c1, K - 1 = c1 := ⟨_, rfl⟩
    rw [hn1, hc1] at hrun P1
    have N1 : Hid (n1 < M ∧ n1 ≤ 1000) := Lib.hid (by omega)
    clear hA1 PF hn1 hc1 hfl hll hfew hM
    go_wp2_with fail
    go_loopw [6] (fun v6 W => ∃ (A' : Option Addr) (n' c' : Nat) (R : List Nd) (D : List (List Nd)), v6 = .slice A' n' c' ∧ Hid (Pt w0 A' n' c' R ∧ J W D ∧ D.length + n' ≤ n1 ∧ Sp F (frn L).tail R D ∧ Below w1.heap.size w1 W)) (fun v6 _ => nlen v6)
    case atStart => exact ⟨A1, n1, c1, _, [], rfl, Lib.hid ⟨P1.out, HJ.out, by simp, S0.out, HB.out⟩⟩
    case round =>
      obtain ⟨A', n', c', R, D, rfl, H⟩ := hrel
      have HP2 := Lib.hid H.out.1
      have HJ2 := Lib.hid H.out.2.1
      have HD2 := Lib.hid H.out.2.2.1
      have HS2 := Lib.hid H.out.2.2.2.1
      have HB2 := Lib.hid H.out.2.2.2.2
      clear H HJ P1 S0
      by_cases c0 : n' = 0
      · subst c0
        have e0 : R = [] := List.eq_nil_of_length_eq_zero HP2.out.len
        subst e0
        have HE := Lib.hid (HS2.out.done NE.out)
        have e1 : r = true := by rw [← HR.out]; exact HE.out.1
        subst e1
        have JJ := Lib.hid (show J wr (pts L) by rw [HE.out.2]; exact HJ2.out)
        go_wp2_with fail
        go_ret
        exact ⟨rfl, JJ.out, HB2.out⟩
      · have c2 : (0 : Int) < (n' : Int) := by omega
        have RN := Lib.hid (show R ≠ [] from fun e => by have := HP2.out.len; rw [e] at this; simp at this; omega)
        have F2 := Lib.hid (front_any A' n' c' R wr (HP2.out.below (below_go H01 HB2.out)))
        go_wp2_with fail
        refine F2.out.mono ?_
        rintro e w' ⟨⟨A3, K3, rfl, hF3⟩, rfl⟩
        have P3 := Lib.hid (hF3 w0 HP2.out)
        clear hF3 F2
        have HL3 := Lib.hid (frn_len R)
        obtain ⟨p, hp⟩ : ∃ p, frn R = p := ⟨_, rfl⟩
        have EP := Lib.hid hp
        rw [hp] at P3 HL3 ⊢
        clear hp
        obtain ⟨m, hm⟩ : ∃ m, p.length = m := ⟨_, rfl⟩
        rw [hm] at P3 HL3 ⊢
        have HM := Lib.hid hm
        clear hm
        by_cases cm : m = 0
        · subst cm
          have e1 : r = false := by rw [← HR.out]; exact HS2.out.none RN.out (by rw [EP.out]; exact List.eq_nil_of_length_eq_zero HM.out)
          subst e1
          go_wp2_with fail
          go_ret
          exact ⟨rfl, fun h => (nomatch h), HB2.out⟩
        · have m0 : ((m : Int) == 0) = false := by simp; omega
          have PN := Lib.hid (show p ≠ [] from fun e => by have := HM.out; rw [e] at this; simp at this; omega)
          have HM2 := Lib.hid (show m ≤ n' by have := HL3.out; rw [HP2.out.len] at this; exact this)
          have C2 := Lib.hid (C.out D p A3 m K3 wr HJ2.out P3.out PN.out (by have := HM2.out; have := HD2.out; have := N1.out; omega) (by have := HD2.out; have := N1.out; omega) HB2.out)
          obtain ⟨b, hb⟩ : ∃ b, F p = b := ⟨_, rfl⟩
          have EB := Lib.hid hb
          rw [hb] at C2
          clear hb
          obtain ⟨A4, hrun4, hA4⟩ := HP2.out.from m HM2.out
          have P4 := Lib.hid (hA4 w0 HP2.out)
          clear hA4
          obtain ⟨n4, hn4⟩ : ∃ n4, n' - m = n4 := ⟨_, rfl⟩
          obtain ⟨c4, hc4⟩ : ∃ c4, c' - m = c4 := ⟨_, rfl⟩
          rw [hn4, hc4] at hrun4 P4
          have HN4 := Lib.hid hn4
          clear hn4 hc4
          go_wp2_with fail
          refine C2.out.mono ?_
          rintro e w4 ⟨rfl, hJ4, hB4⟩
          have HJ4 := Lib.hid hJ4
          have HB4 := Lib.hid hB4
          clear hJ4 hB4 C2
          cases b
          · have e1 : r = false := by rw [← HR.out]; exact HS2.out.no RN.out (by rw [EP.out]; exact PN.out) (by rw [EP.out]; exact EB.out)
            subst e1
            go_wp2_with fail
            go_ret
            exact ⟨rfl, fun h => (nomatch h), HB4.out⟩
          · have S4 := Lib.hid (HS2.out.step RN.out (by rw [EP.out]; exact PN.out) (by rw [EP.out]; exact EB.out))
            rw [EP.out, HM.out] at S4
            go_wp2_with fail
            go_roundw
            case rel => exact ⟨A4, n4, c4, _, D ++ [p], rfl, Lib.hid ⟨P4.out, HJ4.out (by first | rfl | trivial), by rw [List.length_append]; have := HN4.out; have := HD2.out; have := HM2.out; simp; omega, S4.out, HB4.out⟩⟩
            case measure => show n4 < n'; have := HN4.out; have := HM2.out; omega
set_option maxHeartbeats 2000000 in
theorem ofp_parts (F : List Nd → Bool) (J : World → List (List Nd) → Prop) (w0 w1 : World) (H01 : Below w0.heap.size w0 w1) (g M : Nat)
    (C : Hid (∀ D p A n c W, J W D → Pt w0 A n c p → p ≠ [] → n < M → D.length ≤ 1000 → Below w1.heap.size w1 W → Calls Tryz.prog 111 #[.slice A n c, .pointer (some ⟨g, 0, none⟩)] W fun e w' => e = .returned (.bool (F p)) ∧ (F p = true → J w' (D ++ [p])) ∧ Below w1.heap.size w1 w'))
    (a : Option Addr) (n c : Nat) (L : List Nd) (w : World) (hP : Pt w0 a n c L) (hM : n ≤ M) (hJ : J w []) (hB : Below w1.heap.size w1 w) :
    Calls Tryz.prog 106 #[.slice a n c, .func (.func 111) #[] #[.pointer (some ⟨g, 0, none⟩)]] w fun e w' => e = .returned (.bool (ofp F L)) ∧ (ofp F L = true → J w' (pts L)) ∧ Below w1.heap.size w1 w' := by
  have HF := Lib.hid (front_any a n c L w (hP.below (below_go H01 hB)))
  have HP := Lib.hid hP
  have HJ := Lib.hid hJ
  have HB := Lib.hid hB
  have hfl := frn_len L
  have hll := hP.len
  have hfew := hP.few
  obtain ⟨r, hr⟩ : ∃ r, ofp F L = r := ⟨_, rfl⟩
  rw [hr]
  have HR := Lib.hid hr

  clear hP hJ hB hr
  go_enter Tryz.func106, Tryz.ntmps106
  go_wp2_with fail
  refine HF.out.mono ?_
  rintro e w' ⟨⟨A, K, rfl, hF⟩, rfl⟩
  have PF := Lib.hid (hF w0 HP.out)
  clear hF HF
  obtain ⟨q, hq⟩ : ∃ q, (frn L).length = q := ⟨_, rfl⟩
  rw [hq] at PF hfl ⊢
  have HQ := Lib.hid hq
  clear hq
  by_cases cq : q = 0
  · subst cq
    go_wp2_with fail
    go_ret
    have : r = false := by rw [← HR.out]; exact ofp_nil (List.eq_nil_of_length_eq_zero HQ.out)
    subst this
    exact ⟨rfl, fun h => (nomatch h), HB.out⟩
  · have q0 : ((q : Int) == 0) = false := by simp; omega
    obtain ⟨A1, hrun, hA1⟩ := PF.out.from 1 (by omega)
    have P1 := Lib.hid (hA1 w0 PF.out)
    rw [show ((1 : Nat) : Int) = 1 from rfl] at hrun
    rw [show (frn L).drop 1 = (frn L).tail by cases frn L <;> rfl] at P1
    have NE := Lib.hid (show frn L ≠ [] from fun e => by have := HQ.out; rw [e] at this; simp at this; omega)
    have S0 := Lib.hid (Sp.start F (frn L).tail)
    obtain ⟨n1, hn1⟩ : ∃ n1, q - 1 = n1 := ⟨_, rfl⟩
    obtain ⟨c1, hc1⟩ : ∃ c1, K - 1 = c1 := ⟨_, rfl⟩
    rw [hn1, hc1] at hrun P1
    have N1 : Hid (n1 < M ∧ n1 ≤ 1000) := Lib.hid (by omega)
    clear hA1 PF hn1 hc1 hfl hll hfew hM
    go_wp2_with fail
    go_loopw [6] (fun v6 W => ∃ (A' : Option Addr) (n' c' : Nat) (R : List Nd) (D : List (List Nd)), v6 = .slice A' n' c' ∧ Hid (Pt w0 A' n' c' R ∧ J W D ∧ D.length + n' ≤ n1 ∧ Sp F (frn L).tail R D ∧ Below w1.heap.size w1 W)) (fun v6 _ => nlen v6)
    case atStart => exact ⟨A1, n1, c1, _, [], rfl, Lib.hid ⟨P1.out, HJ.out, by simp, S0.out, HB.out⟩⟩
    case round =>
      obtain ⟨A', n', c', R, D, rfl, H⟩ := hrel
      have HP2 := Lib.hid H.out.1
      have HJ2 := Lib.hid H.out.2.1
      have HD2 := Lib.hid H.out.2.2.1
      have HS2 := Lib.hid H.out.2.2.2.1
      have HB2 := Lib.hid H.out.2.2.2.2
      clear H HJ P1 S0
      by_cases c0 : n' = 0
      · subst c0
        have e0 : R = [] := List.eq_nil_of_length_eq_zero HP2.out.len
        subst e0
        have HE := Lib.hid (HS2.out.done NE.out)
        have e1 : r = true := by rw [← HR.out]; exact HE.out.1
        subst e1
        have JJ := Lib.hid (show J wr (pts L) by rw [HE.out.2]; exact HJ2.out)
        go_wp2_with fail
        go_ret
        exact ⟨rfl, JJ.out, HB2.out⟩
      · have c2 : (0 : Int) < (n' : Int) := by omega
        have RN := Lib.hid (show R ≠ [] from fun e => by have := HP2.out.len; rw [e] at this; simp at this; omega)
        have F2 := Lib.hid (front_any A' n' c' R wr (HP2.out.below (below_go H01 HB2.out)))
        go_wp2_with fail
        refine F2.out.mono ?_
        rintro e w' ⟨⟨A3, K3, rfl, hF3⟩, rfl⟩
        have P3 := Lib.hid (hF3 w0 HP2.out)
        clear hF3 F2
        have HL3 := Lib.hid (frn_len R)
        obtain ⟨p, hp⟩ : ∃ p, frn R = p := ⟨_, rfl⟩
        have EP := Lib.hid hp
        rw [hp] at P3 HL3 ⊢
        clear hp
        obtain ⟨m, hm⟩ : ∃ m, p.length = m := ⟨_, rfl⟩
        rw [hm] at P3 HL3 ⊢
        have HM := Lib.hid hm
        clear hm
        by_cases cm : m = 0
        · subst cm
          have e1 : r = false := by rw [← HR.out]; exact HS2.out.none RN.out (by rw [EP.out]; exact List.eq_nil_of_length_eq_zero HM.out)
          subst e1
          go_wp2_with fail
          go_ret
          exact ⟨rfl, fun h => (nomatch h), HB2.out⟩
        · have m0 : ((m : Int) == 0) = false := by simp; omega
          have PN := Lib.hid (show p ≠ [] from fun e => by have := HM.out; rw [e] at this; simp at this; omega)
          have HM2 := Lib.hid (show m ≤ n' by have := HL3.out; rw [HP2.out.len] at this; exact this)
          have C2 := Lib.hid (C.out D p A3 m K3 wr HJ2.out P3.out PN.out (by have := HM2.out; have := HD2.out; have := N1.out; omega) (by have := HD2.out; have := N1.out; omega) HB2.out)
          obtain ⟨b, hb⟩ : ∃ b, F p = b := ⟨_, rfl⟩
          have EB := Lib.hid hb
          rw [hb] at C2
          clear hb
          obtain ⟨A4, hrun4, hA4⟩ := HP2.out.from m HM2.out
          have P4 := Lib.hid (hA4 w0 HP2.out)
          clear hA4
          obtain ⟨n4, hn4⟩ : ∃ n4, n' - m = n4 := ⟨_, rfl⟩
          obtain ⟨c4, hc4⟩ : ∃ c4, c' - m = c4 := ⟨_, rfl⟩
          rw [hn4, hc4] at hrun4 P4
          have HN4 := Lib.hid hn4
          clear hn4 hc4
          go_wp2_with fail
          refine C2.out.mono ?_
          rintro e w4 ⟨rfl, hJ4, hB4⟩
          have HJ4 := Lib.hid hJ4
          have HB4 := Lib.hid hB4
          clear hJ4 hB4 C2
          cases b
          · have e1 : r = false := by rw [← HR.out]; exact HS2.out.no RN.out (by rw [EP.out]; exact PN.out) (by rw [EP.out]; exact EB.out)
            subst e1
            go_wp2_with fail
            go_ret
            exact ⟨rfl, fun h => (nomatch h), HB4.out⟩
          · have S4 := Lib.hid (HS2.out.step RN.out (by rw [EP.out]; exact PN.out) (by rw [EP.out]; exact EB.out))
            rw [EP.out, HM.out] at S4
            go_wp2_with fail
            go_roundw
            case rel => exact ⟨A4, n4, c4, _, D ++ [p], rfl, Lib.hid ⟨P4.out, HJ4.out (by first | rfl | trivial), by rw [List.length_append]; have := HN4.out; have := HD2.out; have := HM2.out; simp; omega, S4.out, HB4.out⟩⟩
            case measure => show n4 < n'; have := HN4.out; have := HM2.out; omega
end Go.Proofs.YtpnllbojifnopaaGreatDoor

/- formed: whether a pattern's nodes are as their kinds say. -/
namespace Go.Proofs.YtpnllbojifnopaaGreatDoor
open Go Go.RowKit Pk Rl
set_option maxRecDepth 20000

/- a number in a box of its own -/
def Box (w : World) (g : Nat) (v : Int) : Prop := w.heap[g]? = some (.cells #[.int .i64 v] 3 (0, 0))
theorem Box.cell {w : World} {g : Nat} {v : Int} (h : Box w g v) : w.cell? ⟨g, 0, none⟩ = some (.int .i64 v) := by rw [cell_of_row w g 0 _ _ _ h]; rfl
theorem Box.free {w : World} {g : Nat} {v : Int} (h : Box w g v) (j : Nat) : w.frozen? ⟨g, j, none⟩ = false := by
  simp [World.frozen?, Box] at h ⊢
  simp [h]
theorem Box.lt {w : World} {g : Nat} {v : Int} (h : Box w g v) : g < w.heap.size := World.block_lt_of_cell? _ _ h.cell
theorem Box.next {w w' : World} {g : Nat} {v : Int} (h : Box w g v) (hb : Below w.heap.size w w') : Box w' g v := by unfold Box; rw [hb.block g h.lt]; exact h
theorem Box.set {w : World} {g : Nat} {v : Int} (h : Box w g v) (v' : Int) : Box (w.setCell ⟨g, 0, none⟩ (.int .i64 v')) g v' := by
  unfold Box
  rw [heap_setCell_same w g 0 _ _ _ h]
  rfl
theorem Box.start (w : World) (v : Int) : Box (w.alloc (.cells #[.int .i64 v] 3)) w.heap.size v := heap_alloc_new w _
set_option maxHeartbeats 1000000 in
theorem formed1_any (k : Nat) (IH : Hid (∀ a n c L w, n < k → Pt w a n c L → Calls Tryz.prog 76 #[.slice a n c] w fun e w' => e = .returned (.bool (fmd k L)) ∧ Below w.heap.size w w'))
    (w0 : World) (g d : Nat) (hd : d ≤ 1000) (p : List Nd) (A : Option Addr) (n c : Nat) (w : World) (hbox : Box w g (d : Int)) (hP : Pt w0 A n c p) (hn : n < k) (hB : Below w0.heap.size w0 w) (hg : w0.heap.size ≤ g) :
    Calls Tryz.prog 107 #[.slice A n c, .pointer (some ⟨g, 0, none⟩)] w fun e w' => e = .returned (.bool (fmd k p)) ∧ (fmd k p = true → Box w' g ((d + 1 : Nat) : Int)) ∧ Below w0.heap.size w0 w' := by
  have B1 := Lib.hid (show Below w0.heap.size w0 (w.setCell ⟨g, 0, none⟩ (.int .i64 ((d + 1 : Nat) : Int))) from hB.setCell (by exact hg) _)
  have X1 := Lib.hid (hbox.set ((d + 1 : Nat) : Int))
  have I := Lib.hid (IH.out A n c p _ hn (hP.below B1.out))
  have hc := hbox.cell
  have hfr := hbox.free 0
  have hlt := hbox.lt
  rw [show ((d + 1 : Nat) : Int) = (d : Int) + 1 by omega] at B1 X1 I ⊢
  generalize fmd k p = b at I
  clear IH hP hB hbox hn
  go_enter Tryz.func107, Tryz.ntmps107
  go_wp2_with fail
  refine I.out.mono ?_
  rintro e w2 ⟨rfl, hb⟩
  have X2 := Lib.hid (X1.out.next hb)
  have B2 := Lib.hid (B1.out.trans (hb.mono (B1.out.size)))
  clear hb
  go_wp2_with fail
  go_ret
  exact ⟨rfl, fun _ => X2.out, B2.out⟩
theorem ofp_ne {F : List Nd → Bool} {l : List Nd} (h : ofp F l = true) : l ≠ [] := fun e => by subst e; simp [ofp, frn] at h
theorem spl_len {l : List Nd} {ps : List (List Nd)} (h : spl l = some ps) : ps.length ≤ l.length := by
  generalize hk : l.length = k
  induction k using Nat.strongRecOn generalizing l ps with
  | _ k ih =>
    by_cases hl : l = []
    · subst hl; rw [spl_nil] at h; injection h with h; subst h; simp
    · rw [spl_cons l hl] at h
      by_cases hf : frn l = []
      · rw [if_pos hf] at h; cases h
      · rw [if_neg hf] at h
        obtain ⟨qs, hq, rfl⟩ := Option.map_eq_some_iff.1 h
        have hlt := drop_lt l hl hf
        have := ih _ (by omega) hq rfl
        rw [List.length_cons]
        omega
theorem pts_len (l : List Nd) : (pts l).length ≤ l.length := by
  unfold pts
  have h1 := frn_len l
  rcases hs : spl (frn l).tail with _ | ps
  · simp
  · have := spl_len hs
    rw [List.length_tail] at this
    simp only [Option.getD_some]
    omega
abbrev Nh (w0 W : World) (b off : Nat) (nd : Nd) (g m : Nat) : Prop :=
  W.cell? ⟨b, off, none⟩ = some (.int .u8 nd.k) ∧ W.cell? ⟨b, off + 1, none⟩ = some (.bool nd.p.x) ∧ W.cell? ⟨b, off + 2, none⟩ = some (.int .u8 nd.p.t) ∧ W.cell? ⟨b, off + 3, none⟩ = some (.slice nd.p.a nd.p.n nd.p.c) ∧
  W.cell? ⟨b, off + 4, none⟩ = some (.bool nd.y) ∧ W.cell? ⟨b, off + 5, none⟩ = some (.bool nd.g.x) ∧ W.cell? ⟨b, off + 6, none⟩ = some (.int .u8 nd.g.t) ∧ W.cell? ⟨b, off + 7, none⟩ = some (.slice nd.g.a nd.g.n nd.g.c) ∧
  W.cell? ⟨b, off + 8, none⟩ = some (.int .u8 nd.lo) ∧ W.cell? ⟨b, off + 9, none⟩ = some (.int .u8 nd.hi) ∧ W.cell? ⟨b, off + 10, none⟩ = some (.int .i64 nd.s) ∧ W.cell? ⟨g, 0, none⟩ = some (.int .i64 (m : Int)) ∧
  Hid (Below w0.heap.size w0 W ∧ Box W g (m : Int) ∧ Atn W b off nd)
theorem nh_of {w0 W : World} {b off : Nat} {nd : Nd} {g m : Nat} (h1 : Below w0.heap.size w0 W) (h2 : Box W g (m : Int)) (h3 : Atn W b off nd) : Nh w0 W b off nd g m := by
  have h := h3
  obtain ⟨q0, q1, q2, q3, q4, q5, q6, q7, q8, q9, q10⟩ := h
  exact ⟨q0, q1, q2, q3, q4, q5, q6, q7, q8, q9, q10, h2.cell, Lib.hid ⟨h1, h2, h3⟩⟩
theorem nh_next {w0 W W' : World} {b off : Nat} {nd : Nd} {g m : Nat} (hb : Below W.heap.size W W') (h : Nh w0 W b off nd g m) : Nh w0 W' b off nd g m := by
  obtain ⟨_, _, _, _, _, _, _, _, _, _, _, _, H⟩ := h
  obtain ⟨h1, h2, h3⟩ := H.out
  exact nh_of (below_go h1 hb) (h2.next hb) (h3.below hb h3.lt)
set_option maxHeartbeats 2000000 in
theorem formed_any (k : Nat) : ∀ (a : Option Addr) (n c : Nat) (L : List Nd) (w : World), n < k → Pt w a n c L →
    Calls Tryz.prog 76 #[.slice a n c] w fun e w' => e = .returned (.bool (fmd k L)) ∧ Below w.heap.size w w' := by
  induction k with
  | zero => intro a n c L w h; exact absurd h (by omega)
  | succ k ih =>
    intro a n c L w hn hP
    have IH := Lib.hid ih
    clear ih
    have B0 := Lib.hid (below_alloc w (.cells #[.int .i64 0] 3))
    have O := Lib.hid (ofp_formed (fmd k) (fun W D => Box W w.heap.size (D.length : Int)) w w (Below.refl _ _) w.heap.size n
      (Lib.hid fun D p A n' c' W hJ hPp _ hnn hD hB => by
        have := formed1_any k IH w w.heap.size D.length hD p A n' c' W hJ hPp (by omega) hB (Nat.le_refl _)
        refine this.mono ?_
        rintro e w' ⟨rfl, h2, h3⟩
        exact ⟨rfl, fun h => by rw [List.length_append, List.length_singleton]; exact h2 h, h3⟩)
      a n c L _ hP (Nat.le_refl _) (Box.start w 0) B0.out)
    have E : fmd (k + 1) L = (ofp (fmd k) L && kd (L.headD nz) (pts L).length) := rfl
    rw [E]
    have HN := Lib.hid (fun h => ofp_ne (F := fmd k) (l := L) h)
    have HP := Lib.hid hP
    have HL := Lib.hid (pts_len L)
    obtain ⟨m, hm⟩ : ∃ m, (pts L).length = m := ⟨_, rfl⟩
    rw [hm] at HL ⊢
    have HM := Lib.hid hm
    obtain ⟨R, hR⟩ : ∃ R, kd (L.headD nz) m = R := ⟨_, rfl⟩
    rw [hR]
    have HR := Lib.hid hR
    clear E IH hP hn hm hR
    generalize ofp (fmd k) L = b at O HN
    cases b
    · go_enter Tryz.func76, Tryz.ntmps76
      go_wp2_with fail
      refine O.out.mono ?_
      rintro e w2 ⟨rfl, hJ, hB⟩
      have B2 := Lib.hid hB
      clear hJ hB O
      go_wp2_with fail
      go_quiet (fail)
      go_wp2_with fail
      go_ret
      exact ⟨rfl, by first | exact B2.out.drewN _ | exact below_go B2.out (below_drewN _ _ _)⟩
    · rcases L with _ | ⟨nd, r⟩
      · exact absurd rfl (HN.out rfl)
      · obtain ⟨b, off, rfl, hat⟩ := HP.out.row 0 (by simp)
        simp only [Nat.zero_mul, Nat.add_zero, List.getD_cons_zero] at hat
        have hml : m ≤ 1000 := by have := HL.out; have := HP.out.few; have := HP.out.len; omega
        have l1 : (0 : Int) < (n : Int) := by have := HP.out.len; simp at this; omega
        have l2 : 0 < n := by omega
        have HA := Lib.hid hat
        clear hat
        have M := Lib.hid (fun W (hW : Below w.heap.size w W) => kind_any nd m W ((HP.out.ok nd (by simp)).below hW) hml)
        rw [show kd nd m = R from HR.out] at M
        have NN := Lib.hid (fun W (h1 : Below w.heap.size w W) (h2 : Box W w.heap.size (m : Int)) => nh_of h1 h2 (HA.out.below h1 HA.out.lt))
        have MM := Lib.hid (show (pts (nd :: r)).length = m from HM.out)
        clear hml HP HL HN HA HM HR
        go_enter Tryz.func76, Tryz.ntmps76
        go_wp2_with fail
        refine O.out.mono ?_
        rintro e w2 ⟨rfl, hJ, hB⟩
        have N2 := NN.out w2 hB (by rw [← MM.out]; exact hJ (by first | rfl | trivial))
        clear hJ hB O NN MM
        have KD := Lib.hid (nh_next (Below.refl _ _).drew N2)
        obtain ⟨k', ⟨x, t, a', q, c', L'⟩, y, ⟨x2, t2, a2, q2, c2, L2⟩, lo, hi, s⟩ := nd
        obtain ⟨q0, q1, q2', q3, q4, q5, q6, q7, q8, q9, q10, q11, _⟩ := N2
        go_wp2_with fail
        go_region_held3 (fun W => Nh w W b off ⟨k', ⟨x, t, a', q, c', L'⟩, y, ⟨x2, t2, a2, q2, c2, L2⟩, lo, hi, s⟩ w.heap.size m)
          (first | (with_reducible assumption) | (with_reducible exact KD.out) | (with_reducible exact nh_next b1 (by assumption)))
          (first | (go_at_call 108; (with_reducible refine Calls.mono (M.out _ ?_) ?_); (exact (by assumption : Nh w _ b off _ w.heap.size m).2.2.2.2.2.2.2.2.2.2.2.2.out.1); rintro e w' ⟨rfl, b1⟩))
        rename_i hHeld
        go_wp2_with fail
        go_ret
        exact ⟨rfl, hHeld.2.2.2.2.2.2.2.2.2.2.2.2.out.1⟩
end Go.Proofs.YtpnllbojifnopaaGreatDoor
