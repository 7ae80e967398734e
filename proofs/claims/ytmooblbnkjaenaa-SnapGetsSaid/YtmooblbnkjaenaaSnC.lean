/- Whether a state is written: the program's answer, the document's. -/
import Derived.Test.YtmooblbnkjaenaaSnB
namespace Go.Proofs.Ytmooblbnkjaenaa
open Go Go.RowKit Pk
set_option maxRecDepth 20000

set_option maxHeartbeats 2000000 in
theorem inorder_any (a : Option Addr) (n c : Nat) (L : List Ru) (w : World) (hn : L.length = n) (hm : n ≤ 1000) (hv : Rus w a L) :
    Calls Try.prog 22 #[.slice a n c] w fun e w' => e = .returned (.bool (ord L n)) ∧ Below w.heap.size w w' := by
  have HN := Lib.hid hn
  have HV := Lib.hid hv
  clear hv hn
  go_enter Try.func22, Try.ntmps22
  go_wp2_with fail
  go_loopw [3] (fun v W => ∃ (j : Nat), v = .int .i64 ((j + 1 : Nat) : Int) ∧ (j = 0 ∨ j + 1 ≤ n) ∧ Hid (ord L (j + 1) = true ∧ Below w.heap.size w W)) (fun v _ => n + 1 - (intOf v).toNat)
  case atStart => exact ⟨0, rfl, .inl rfl, Lib.hid ⟨(ord_iff L 1).2 (fun i hi => .inl (by omega)), Below.refl _ _⟩⟩
  case round =>
    obtain ⟨j, rfl, hi, H⟩ := hrel
    by_cases ci : j + 1 < n
    · have hl : j + 1 < L.length := by have := HN.out; omega
      have HD := Lib.hid (fun m => H.out.2.trans (below_drewN w.heap.size wr m))
      obtain ⟨g, o, rfl, k0, k1, k2⟩ := (HV.out.below H.out.2) (j + 1) hl
      obtain ⟨g', o', e, j0, j1, j2⟩ := (HV.out.below H.out.2) j (by omega)
      injection e with e
      injection e with e1 e2 _
      subst e1 e2
      obtain ⟨r, hr⟩ : ∃ r, L.getD (j + 1) rz = r := ⟨_, rfl⟩
      obtain ⟨q, hq⟩ : ∃ q, L.getD j rz = q := ⟨_, rfl⟩
      have HB := Lib.hid (ord_bad L (j + 1) n ci (by omega))
      have HS := Lib.hid (fun h => ord_snoc L (j + 1) H.out.1 (.inr h))
      rw [Nat.add_sub_cancel, hr, hq] at HB HS
      rw [hr] at k0 k1
      rw [hq] at j0 j1
      obtain ⟨rs, rt, rx⟩ := r
      obtain ⟨qs, qt, qx⟩ := q
      simp only at k0 k1 j0 j1 HB HS
      clear H k2 j2 hr hq
      by_cases c1 : rs ≤ qs
      · have d1 : decide ((rs : Int) ≤ (qs : Int)) = true := decide_eq_true (by omega)
        have d1' : decide (rs ≤ qs) = true := decide_eq_true (by omega)
        have HC := Lib.hid (HB.out (by omega))
        clear HS
        go_upto_region 4 with fail
        go_quiet (fail)
        go_wp2_with fail
        go_ret
        exact ⟨by rw [HC.out]; rfl, HD.out _⟩
      · have d1 : decide ((rs : Int) ≤ (qs : Int)) = false := decide_eq_false (by omega)
        have d1' : decide (rs ≤ qs) = false := decide_eq_false (by omega)
        by_cases c2 : rt < qt
        · have d2 : decide ((rt : Int) < (qt : Int)) = true := decide_eq_true (by omega)
          have d2' : decide (rt < qt) = true := decide_eq_true (by omega)
          have HC := Lib.hid (HB.out (by omega))
          clear HS
          go_upto_region 4 with fail
          go_quiet (fail)
          go_wp2_with fail
          go_ret
          exact ⟨by rw [HC.out]; rfl, HD.out _⟩
        · have d2 : decide ((rt : Int) < (qt : Int)) = false := decide_eq_false (by omega)
          have d2' : decide (rt < qt) = false := decide_eq_false (by omega)
          have HC := Lib.hid (HS.out ⟨by omega, by omega⟩)
          clear HS
          go_upto_region 4 with fail
          go_quiet (fail)
          go_wp2_with fail
          exact ⟨⟨j + 1, by go_num, by omega, Lib.hid ⟨HC.out, HD.out _⟩⟩, by simp [intOf]; omega⟩
    · have HB : Hid (ord L n = true ∧ Below w.heap.size w wr) := Lib.hid ⟨by
        rcases hi with rfl | hi
        · exact (ord_iff L n).2 (fun i hi => .inl (by omega))
        · have : j + 1 = n := by omega
          subst this; exact H.out.1, H.out.2⟩
      have d0 : decide (((j + 1 : Nat) : Int) < (n : Int)) = false := decide_eq_false (by omega)
      clear H
      go_wp2_with fail
      go_ret
      exact ⟨by rw [HB.out.1]; rfl, HB.out.2⟩
set_option maxHeartbeats 4000000 in
theorem written_any (next last : Nat) (fl : Bool) (fat : Nat) (A : Option Addr) (n c : Nat) (L : List Ru) (w : World) (hn : L.length = n) (hm : n ≤ 1000) (hv : Rus w A L) :
    Calls Try.prog 13 #[stv next last fl fat A n c] w fun e w' => e = .returned (.bool (wr next last fl fat L)) ∧ Below w.heap.size w w' := by
  have B0 := Lib.hid (below_alloc w (sto next last fl fat A n c))
  have S0 := Lib.hid (heap_alloc_new w (sto next last fl fat A n c))
  have HC := Lib.hid (fun W (hb : Below w.heap.size w W) => inorder_any A n c L W hn hm (hv.below hb))
  have HW : Hid (wr next last fl fat L = (decide (next ≤ 1099511627776) && decide (last ≤ 1099511627776) && decide (n ≤ 64) && (if fl then decide (n = 0) else decide (fat = 0) && ord L n))) := Lib.hid (by unfold wr; rw [hn])
  clear hv hn
  go_enter Try.func13, Try.ntmps13
  go_upto_region 1 with fail
  generalize (w.alloc (.cells #[.int .u64 (next : Int), .int .u64 (last : Int), .bool fl, .int .u64 (fat : Int), .slice A n c] 25)) = w1 at B0 S0 ⊢
  obtain ⟨b0, b1, b2, b3, b4, _⟩ := sto_cells S0.out
  have H1 := Lib.hid (HC.out w1 B0.out)
  clear HC S0
  by_cases c1 : 1099511627776 < next
  · have d1 : decide ((1099511627776 : Int) < (next : Int)) = true := decide_eq_true (by omega)
    have e := Lib.hid (show wr next last fl fat L = false by rw [HW.out, decide_eq_false (by omega)]; rfl)
    go_wp2_with fail
    go_ret
    exact ⟨by rw [e.out]; rfl, B0.out⟩
  · have d1 : decide ((1099511627776 : Int) < (next : Int)) = false := decide_eq_false (by omega)
    by_cases c2 : 1099511627776 < last
    · have d2 : decide ((1099511627776 : Int) < (last : Int)) = true := decide_eq_true (by omega)
      have e := Lib.hid (show wr next last fl fat L = false by rw [HW.out, decide_eq_false (p := last ≤ _) (by omega)]; simp)
      go_wp2_with fail
      go_ret
      exact ⟨by rw [e.out]; rfl, B0.out⟩
    · have d2 : decide ((1099511627776 : Int) < (last : Int)) = false := decide_eq_false (by omega)
      by_cases c3 : 64 < n
      · have d3 : decide ((64 : Int) < (n : Int)) = true := decide_eq_true (by omega)
        have e := Lib.hid (show wr next last fl fat L = false by rw [HW.out, decide_eq_false (p := n ≤ _) (by omega)]; simp)
        go_wp2_with fail
        go_ret
        exact ⟨by rw [e.out]; rfl, B0.out⟩
      · have d3 : decide ((64 : Int) < (n : Int)) = false := decide_eq_false (by omega)
        have e0 := Lib.hid (show wr next last fl fat L = (if fl then decide (n = 0) else decide (fat = 0) && ord L n) by rw [HW.out, decide_eq_true (p := n ≤ _) (by omega), decide_eq_true (p := last ≤ _) (by omega), decide_eq_true (p := next ≤ _) (by omega)]; simp)
        rcases fl with _ | _
        · by_cases c4 : fat = 0
          · have d4 : ((fat : Int) == 0) = true := by simp [c4]
            have e := Lib.hid (show wr next last false fat L = ord L n by rw [e0.out]; simp [c4])
            go_wp2_with fail
            refine H1.out.mono ?_
            rintro _ w2 ⟨rfl, hb⟩
            have B2 := Lib.hid (below_go B0.out hb)
            go_wp2_with fail
            go_ret
            exact ⟨by rw [e.out]; rfl, B2.out⟩
          · have d4 : ((fat : Int) == 0) = false := by simp; omega
            have e := Lib.hid (show wr next last false fat L = false by rw [e0.out]; simp [c4])
            go_wp2_with fail
            go_ret
            exact ⟨by rw [e.out]; rfl, B0.out⟩
        · have e := Lib.hid (show wr next last true fat L = decide (n = 0) by rw [e0.out]; simp)
          have d5 : ((n : Int) == 0) = decide (n = 0) := by
            by_cases c : n = 0
            · simp [c]
            · rw [decide_eq_false c]; simp; omega
          go_wp2_with fail
          go_ret
          exact ⟨by rw [e.out, ← d5]; rfl, B0.out⟩
structure Sx (w W : World) (next last : Nat) (fl : Bool) (fat : Nat) (A : Option Addr) (n c : Nat) (L : List Ru) : Prop where
  a : W.heap[w.heap.size]? = some (sto next last fl fat A n c)
  r : Rus W A L
  bel : Below w.heap.size w W
theorem Sx.next {w W W' : World} {next last : Nat} {fl : Bool} {fat : Nat} {A : Option Addr} {n c : Nat} {L : List Ru} (h : Sx w W next last fl fat A n c L) (hb : Below W.heap.size W W') : Sx w W' next last fl fat A n c L :=
  ⟨(hb.block _ (Array.getElem?_eq_some_iff.1 h.a).1).trans h.a, h.r.below hb, below_go h.bel hb⟩
theorem Sx.new {w : World} {next last : Nat} {fl : Bool} {fat : Nat} {A : Option Addr} {n c : Nat} {L : List Ru} (h : Rus w A L) : Sx w (w.alloc (sto next last fl fat A n c)) next last fl fat A n c L :=
  ⟨heap_alloc_new w _, h.below (below_alloc w _), below_alloc w _⟩
set_option maxHeartbeats 8000000 in
theorem may_any (next last : Nat) (fl : Bool) (fat : Nat) (A : Option Addr) (n c : Nat) (L : List Ru) (w : World) (hn : L.length = n) (hm : n ≤ 1000) (hv : Rus w A L) :
    Calls Try.prog 16 #[stv next last fl fat A n c] w fun e w' => e = .returned (.bool (wr next last fl fat L)) ∧ Below w.heap.size w w' := by
  have X0 : Hid (Sx w (w.alloc (.cells #[.int .u64 (next : Int), .int .u64 (last : Int), .bool fl, .int .u64 (fat : Int), .slice A n c] 25)) next last fl fat A n c L) := Lib.hid (Sx.new hv)
  have HN := Lib.hid hn
  have HW : Hid (wr next last fl fat L = (decide (next ≤ 1099511627776) && decide (last ≤ 1099511627776) && decide (n ≤ 64) && (if fl then decide (n = 0) else decide (fat = 0) && ord L n))) := Lib.hid (by unfold wr; rw [hn])
  clear hv hn
  go_enter Try.func16, Try.ntmps16
  go_upto_region 2 with fail
  generalize (w.alloc (.cells #[.int .u64 (next : Int), .int .u64 (last : Int), .bool fl, .int .u64 (fat : Int), .slice A n c] 25)) = w1 at X0 ⊢
  go_loopw [3] (fun v W => ∃ (j : Nat), v = .int .i64 ((j + 1 : Nat) : Int) ∧ (j = 0 ∨ j + 1 ≤ n) ∧ Hid (ord L (j + 1) = true ∧ Sx w W next last fl fat A n c L)) (fun v _ => n + 1 - (intOf v).toNat)
  case atStart => exact ⟨0, rfl, .inl rfl, Lib.hid ⟨(ord_iff L 1).2 (fun i hi => .inl (by omega)), X0.out⟩⟩
  case round =>
    obtain ⟨j, rfl, hi, H⟩ := hrel
    clear X0
    obtain ⟨b0, b1, b2, b3, b4, _⟩ := sto_cells H.out.2.a
    by_cases ci : j + 1 < n
    · have hl : j + 1 < L.length := by have := HN.out; omega
      have HD := Lib.hid (fun m => H.out.2.next (below_drewN wr.heap.size wr m))
      have HZ : Hid ((decide (next ≤ 1099511627776) && decide (last ≤ 1099511627776) && decide (n ≤ 64) && (if fl then decide (n = 0) else decide (fat = 0) && false)) = false) := Lib.hid (by
        rw [decide_eq_false (p := n = 0) (by omega)]
        rcases fl with _ | _ <;> simp)
      obtain ⟨g, o, rfl, k0, k1, k2⟩ := H.out.2.r (j + 1) hl
      obtain ⟨g', o', e, j0, j1, j2⟩ := H.out.2.r j (by omega)
      injection e with e
      injection e with e1 e2 _
      subst e1 e2
      obtain ⟨r, hr⟩ : ∃ r, L.getD (j + 1) rz = r := ⟨_, rfl⟩
      obtain ⟨q, hq⟩ : ∃ q, L.getD j rz = q := ⟨_, rfl⟩
      have HB := Lib.hid (ord_bad L (j + 1) n ci (by omega))
      have HS := Lib.hid (fun h => ord_snoc L (j + 1) H.out.1 (.inr h))
      rw [Nat.add_sub_cancel, hr, hq] at HB HS
      rw [hr] at k0 k1
      rw [hq] at j0 j1
      obtain ⟨rs, rt, rx⟩ := r
      obtain ⟨qs, qt, qx⟩ := q
      simp only at k0 k1 j0 j1 HB HS
      clear H k2 j2 hr hq
      clear b0 b1 b2 b3
      by_cases c1 : rs ≤ qs
      · have d1 : decide ((rs : Int) ≤ (qs : Int)) = true := decide_eq_true (by omega)
        have d1' : decide (rs ≤ qs) = true := decide_eq_true (by omega)
        have HC := Lib.hid (HB.out (by omega))
        clear HS
        go_upto_region 4 with fail
        go_quiet (fail)
        go_wp2_with fail
        go_ret
        exact ⟨by rw [HW.out, HC.out, HZ.out]; rfl, (HD.out _).bel⟩
      · have d1 : decide ((rs : Int) ≤ (qs : Int)) = false := decide_eq_false (by omega)
        have d1' : decide (rs ≤ qs) = false := decide_eq_false (by omega)
        by_cases c2 : rt < qt
        · have d2 : decide ((rt : Int) < (qt : Int)) = true := decide_eq_true (by omega)
          have d2' : decide (rt < qt) = true := decide_eq_true (by omega)
          have HC := Lib.hid (HB.out (by omega))
          clear HS
          go_upto_region 4 with fail
          go_quiet (fail)
          go_wp2_with fail
          go_ret
          exact ⟨by rw [HW.out, HC.out, HZ.out]; rfl, (HD.out _).bel⟩
        · have d2 : decide ((rt : Int) < (qt : Int)) = false := decide_eq_false (by omega)
          have d2' : decide (rt < qt) = false := decide_eq_false (by omega)
          have HC := Lib.hid (HS.out ⟨by omega, by omega⟩)
          clear HS
          go_upto_region 4 with fail
          go_quiet (fail)
          go_wp2_with fail
          exact ⟨⟨j + 1, by go_num, by omega, Lib.hid ⟨HC.out, HD.out _⟩⟩, by simp [intOf]; omega⟩
    · have HB : Hid (ord L n = true) := Lib.hid (by
        rcases hi with rfl | hi
        · exact (ord_iff L n).2 (fun i hi => .inl (by omega))
        · have : j + 1 = n := by omega
          subst this; exact H.out.1)
      have d0 : decide (((j + 1 : Nat) : Int) < (n : Int)) = false := decide_eq_false (by omega)
      have HD0 := Lib.hid H.out.2.bel
      have e := Lib.hid (HW.out.trans (by rw [HB.out]))
      clear H HW HB
      rcases fl with _ | _
      · by_cases c4 : fat = 0
        · have d4 : ((fat : Int) == 0) = true := by simp [c4]
          have d4' : ((fat : Int) != 0) = false := by simp [c4]
          have e1 := Lib.hid (e.out.trans (show _ = (decide (next ≤ 1099511627776) && decide (last ≤ 1099511627776) && decide (n ≤ 64)) by simp [c4]))
          clear e c4
          by_cases c1 : next ≤ 1099511627776
          · have d1 : decide ((next : Int) ≤ 1099511627776) = true := decide_eq_true (by omega)
            by_cases c2 : last ≤ 1099511627776
            · have d2 : decide ((last : Int) ≤ 1099511627776) = true := decide_eq_true (by omega)
              by_cases c3 : n ≤ 64
              · have d3 : decide ((n : Int) ≤ 64) = true := decide_eq_true (by omega)
                have e2 := Lib.hid (e1.out.trans (by rw [decide_eq_true c1, decide_eq_true c2, decide_eq_true c3]))
                go_wp2_with fail
                go_ret
                exact ⟨by rw [e2.out]; rfl, HD0.out⟩
              · have d3 : decide ((n : Int) ≤ 64) = false := decide_eq_false (by omega)
                have e2 := Lib.hid (e1.out.trans (by rw [decide_eq_true c1, decide_eq_true c2, decide_eq_false c3]))
                go_wp2_with fail
                go_ret
                exact ⟨by rw [e2.out]; rfl, HD0.out⟩
            · have d2 : decide ((last : Int) ≤ 1099511627776) = false := decide_eq_false (by omega)
              have e2 := Lib.hid (e1.out.trans (by rw [decide_eq_true c1, decide_eq_false c2]))
              go_wp2_with fail
              go_ret
              exact ⟨by rw [e2.out]; rfl, HD0.out⟩
          · have d1 : decide ((next : Int) ≤ 1099511627776) = false := decide_eq_false (by omega)
            have e2 := Lib.hid (e1.out.trans (by rw [decide_eq_false c1]))
            go_wp2_with fail
            go_ret
            exact ⟨by rw [e2.out]; rfl, HD0.out⟩
        · have d4 : ((fat : Int) == 0) = false := by simp; omega
          have d4' : ((fat : Int) != 0) = true := by simp; omega
          have e1 := Lib.hid (e.out.trans (show _ = false by simp [c4]))
          go_wp2_with fail
          go_ret
          exact ⟨by rw [e1.out]; rfl, HD0.out⟩
      · by_cases c4 : n = 0
        · have d4 : decide ((0 : Int) < (n : Int)) = false := decide_eq_false (by omega)
          have d4' : decide (0 < n) = false := decide_eq_false (by omega)
          have e1 := Lib.hid (e.out.trans (show _ = (decide (next ≤ 1099511627776) && decide (last ≤ 1099511627776) && decide (n ≤ 64)) by simp [c4]))
          clear e c4
          by_cases c1 : next ≤ 1099511627776
          · have d1 : decide ((next : Int) ≤ 1099511627776) = true := decide_eq_true (by omega)
            by_cases c2 : last ≤ 1099511627776
            · have d2 : decide ((last : Int) ≤ 1099511627776) = true := decide_eq_true (by omega)
              by_cases c3 : n ≤ 64
              · have d3 : decide ((n : Int) ≤ 64) = true := decide_eq_true (by omega)
                have e2 := Lib.hid (e1.out.trans (by rw [decide_eq_true c1, decide_eq_true c2, decide_eq_true c3]))
                go_wp2_with fail
                go_ret
                exact ⟨by rw [e2.out]; rfl, HD0.out⟩
              · have d3 : decide ((n : Int) ≤ 64) = false := decide_eq_false (by omega)
                have e2 := Lib.hid (e1.out.trans (by rw [decide_eq_true c1, decide_eq_true c2, decide_eq_false c3]))
                go_wp2_with fail
                go_ret
                exact ⟨by rw [e2.out]; rfl, HD0.out⟩
            · have d2 : decide ((last : Int) ≤ 1099511627776) = false := decide_eq_false (by omega)
              have e2 := Lib.hid (e1.out.trans (by rw [decide_eq_true c1, decide_eq_false c2]))
              go_wp2_with fail
              go_ret
              exact ⟨by rw [e2.out]; rfl, HD0.out⟩
          · have d1 : decide ((next : Int) ≤ 1099511627776) = false := decide_eq_false (by omega)
            have e2 := Lib.hid (e1.out.trans (by rw [decide_eq_false c1]))
            go_wp2_with fail
            go_ret
            exact ⟨by rw [e2.out]; rfl, HD0.out⟩
        · have d4 : decide ((0 : Int) < (n : Int)) = true := decide_eq_true (by omega)
          have d4' : decide (0 < n) = true := decide_eq_true (by omega)
          have e1 := Lib.hid (e.out.trans (show _ = false by simp [c4]))
          go_wp2_with fail
          go_ret
          exact ⟨by rw [e1.out]; rfl, HD0.out⟩
end Go.Proofs.Ytmooblbnkjaenaa
