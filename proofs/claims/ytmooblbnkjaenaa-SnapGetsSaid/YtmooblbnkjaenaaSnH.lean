/- Sameness of states: slices.Equal, snap.Same, the document's Same. -/
import Derived.Test.YtmooblbnkjaenaaSnC
namespace Go.Proofs.Ytmooblbnkjaenaa
open Go Go.RowKit Pk
set_option maxRecDepth 20000

def eqn (L M : List Ru) (k : Nat) : Bool := decide (∀ i, i < k → (L.getD i rz).s = (M.getD i rz).s ∧ (L.getD i rz).t = (M.getD i rz).t ∧ (L.getD i rz).x = (M.getD i rz).x)
theorem eqn_iff (L M : List Ru) (k : Nat) : eqn L M k = true ↔ ∀ i, i < k → (L.getD i rz).s = (M.getD i rz).s ∧ (L.getD i rz).t = (M.getD i rz).t ∧ (L.getD i rz).x = (M.getD i rz).x := by unfold eqn; exact decide_eq_true_iff
theorem eqn_snoc (L M : List Ru) (k : Nat) (h : eqn L M k = true) (h2 : (L.getD k rz).s = (M.getD k rz).s ∧ (L.getD k rz).t = (M.getD k rz).t ∧ (L.getD k rz).x = (M.getD k rz).x) : eqn L M (k + 1) = true := by
  rw [eqn_iff] at h ⊢
  intro i hi
  rcases Nat.lt_or_ge i k with c | c
  · exact h i c
  · obtain rfl : i = k := by omega
    exact h2
theorem eqn_bad (L M : List Ru) (k n : Nat) (hk : k < n) (h2 : ¬ ((L.getD k rz).s = (M.getD k rz).s ∧ (L.getD k rz).t = (M.getD k rz).t ∧ (L.getD k rz).x = (M.getD k rz).x)) : eqn L M n = false := by
  rcases e : eqn L M n with _ | _
  · rfl
  · rw [eqn_iff] at e
    exact absurd (e k hk) h2
theorem eqn_self (L : List Ru) (k : Nat) : eqn L L k = true := (eqn_iff _ _ _).2 fun _ _ => ⟨rfl, rfl, rfl⟩
def eql (L M : List Ru) : Bool := decide (L.length = M.length) && eqn L M L.length
def sms (next last : Nat) (fl : Bool) (fat : Nat) (L : List Ru) (next' last' : Nat) (fl' : Bool) (fat' : Nat) (L' : List Ru) : Bool := decide (next = next') && decide (last = last') && (fl == fl') && decide (fat = fat') && eql L L'
theorem sms_self (next last : Nat) (fl : Bool) (fat : Nat) (L : List Ru) : sms next last fl fat L next last fl fat L = true := by unfold sms eql; simp [eqn_self]
set_option maxHeartbeats 4000000 in
theorem sequal_any (a : Option Addr) (n c : Nat) (L : List Ru) (a' : Option Addr) (n' c' : Nat) (L' : List Ru) (w : World) (hn : L.length = n) (hm : n ≤ 1000) (hv : Rus w a L) (hn' : L'.length = n') (hm' : n' ≤ 1000) (hv' : Rus w a' L') :
    Calls Try.prog 21 #[.slice a n c, .slice a' n' c'] w fun e w' => e = .returned (.bool (eql L L')) ∧ Below w.heap.size w w' := by
  have HN := Lib.hid hn
  have HN' := Lib.hid hn'
  have HV := Lib.hid hv
  have HV' := Lib.hid hv'
  have HE := Lib.hid (show eql L L' = (decide (n = n') && eqn L L' n) by unfold eql; rw [hn, hn'])
  clear hv hv' hn hn'
  go_enter Try.func21, Try.ntmps21
  by_cases cn : n = n'
  · subst cn
    have HE2 := Lib.hid (HE.out.trans (by rw [decide_eq_true rfl, Bool.true_and]))
    clear HE
    go_wp2_with fail
    go_loopw [13] (fun v W => ∃ (i : Nat), v = .int .i64 (i : Int) ∧ i ≤ n ∧ Hid (eqn L L' i = true ∧ Below w.heap.size w W)) (fun v _ => n - (intOf v).toNat)
    case atStart => exact ⟨0, rfl, by omega, Lib.hid ⟨(eqn_iff _ _ _).2 (fun i hi => absurd hi (by omega)), Below.refl _ _⟩⟩
    case round =>
      obtain ⟨i, rfl, hi, H⟩ := hrel
      by_cases ci : i < n
      · have hl : i < L.length := by have := HN.out; omega
        have hl' : i < L'.length := by have := HN'.out; omega
        have HD := Lib.hid (fun m => H.out.2.trans (below_drewN w.heap.size wr m))
        obtain ⟨g, o, rfl, k0, k1, k2⟩ := (HV.out.below H.out.2) i hl
        obtain ⟨g', o', rfl, j0, j1, j2⟩ := (HV'.out.below H.out.2) i hl'
        obtain ⟨r, hr⟩ : ∃ r, L.getD i rz = r := ⟨_, rfl⟩
        obtain ⟨q, hq⟩ : ∃ q, L'.getD i rz = q := ⟨_, rfl⟩
        have HB := Lib.hid (eqn_bad L L' i n ci)
        have HS := Lib.hid (eqn_snoc L L' i H.out.1)
        rw [hr, hq] at HB HS
        rw [hr] at k0 k1 k2
        rw [hq] at j0 j1 j2
        obtain ⟨rs, rt, rx⟩ := r
        obtain ⟨qs, qt, qx⟩ := q
        simp only at k0 k1 k2 j0 j1 j2 HB HS
        clear H hr hq
        by_cases c1 : rs = qs
        · subst c1
          by_cases c2 : rt = qt
          · subst c2
            by_cases c3 : rx = qx
            · subst c3
              have HC := Lib.hid (HS.out ⟨rfl, rfl, rfl⟩)
              clear HS HB
              go_upto_region 6 with fail
              go_quiet (fail)
              go_wp2_with fail
              exact ⟨⟨i + 1, by go_num, by omega, Lib.hid ⟨HC.out, HD.out _⟩⟩, by simp [intOf]; omega⟩
            · have d3 : ((rx : Int) == (qx : Int)) = false := by simp; omega
              have d3' : (rx == qx) = false := by simp; omega
              have HC := Lib.hid (HB.out (fun h => c3 h.2.2))
              clear HS HB
              go_upto_region 6 with fail
              go_quiet (fail)
              go_wp2_with fail
              go_ret
              exact ⟨by rw [HE2.out, HC.out]; rfl, HD.out _⟩
          · have d2 : ((rt : Int) == (qt : Int)) = false := by simp; omega
            have d2' : (rt == qt) = false := by simp; omega
            have HC := Lib.hid (HB.out (fun h => c2 h.2.1))
            clear HS HB
            go_upto_region 6 with fail
            go_quiet (fail)
            go_wp2_with fail
            go_ret
            exact ⟨by rw [HE2.out, HC.out]; rfl, HD.out _⟩
        · have d1 : ((rs : Int) == (qs : Int)) = false := by simp; omega
          have d1' : (rs == qs) = false := by simp; omega
          have HC := Lib.hid (HB.out (fun h => c1 h.1))
          clear HS HB
          go_upto_region 6 with fail
          go_quiet (fail)
          go_wp2_with fail
          go_ret
          exact ⟨by rw [HE2.out, HC.out]; rfl, HD.out _⟩
      · obtain rfl : i = n := by omega
        have EF := Lib.hid H.out.1
        have BF := Lib.hid H.out.2
        clear H
        go_wp2_with fail
        go_ret
        exact ⟨by rw [HE2.out, EF.out]; rfl, BF.out⟩
  · have d0 : ((n : Int) == (n' : Int)) = false := by simp; omega
    have HE2 := Lib.hid (HE.out.trans (by rw [decide_eq_false cn, Bool.false_and]))
    go_wp2_with fail
    go_ret
    exact ⟨by rw [HE2.out]; rfl, Below.refl _ _⟩
structure Syy (w W : World) (next last : Nat) (fl : Bool) (fat : Nat) (A : Option Addr) (n c : Nat) (L : List Ru) (next' last' : Nat) (fl' : Bool) (fat' : Nat) (A' : Option Addr) (n' c' : Nat) (L' : List Ru) : Prop where
  a : W.heap[w.heap.size]? = some (sto next last fl fat A n c)
  b : W.heap[w.heap.size + 1]? = some (sto next' last' fl' fat' A' n' c')
  r : Rus W A L
  r' : Rus W A' L'
  bel : Below w.heap.size w W
theorem Syy.next {w W W' : World} {next last : Nat} {fl : Bool} {fat : Nat} {A : Option Addr} {n c : Nat} {L : List Ru} {next' last' : Nat} {fl' : Bool} {fat' : Nat} {A' : Option Addr} {n' c' : Nat} {L' : List Ru} (h : Syy w W next last fl fat A n c L next' last' fl' fat' A' n' c' L') (hb : Below W.heap.size W W') : Syy w W' next last fl fat A n c L next' last' fl' fat' A' n' c' L' :=
  ⟨(hb.block _ (Array.getElem?_eq_some_iff.1 h.a).1).trans h.a, (hb.block _ (Array.getElem?_eq_some_iff.1 h.b).1).trans h.b, h.r.below hb, h.r'.below hb, below_go h.bel hb⟩
theorem Syy.new {w : World} {next last : Nat} {fl : Bool} {fat : Nat} {A : Option Addr} {n c : Nat} {L : List Ru} {next' last' : Nat} {fl' : Bool} {fat' : Nat} {A' : Option Addr} {n' c' : Nat} {L' : List Ru} (h1 : Rus w A L) (h2 : Rus w A' L') : Syy w ((w.alloc (sto next last fl fat A n c)).alloc (sto next' last' fl' fat' A' n' c')) next last fl fat A n c L next' last' fl' fat' A' n' c' L' := by
  have n1 := below_alloc w (sto next last fl fat A n c)
  have n2 := below_alloc (w.alloc (sto next last fl fat A n c)) (sto next' last' fl' fat' A' n' c')
  have e2 := heap_alloc_new (w.alloc (sto next last fl fat A n c)) (sto next' last' fl' fat' A' n' c')
  have bb : Below w.heap.size w ((w.alloc (sto next last fl fat A n c)).alloc (sto next' last' fl' fat' A' n' c')) := below_go n1 (below_alloc _ _)
  simp only [World.size_alloc] at e2 n2
  exact ⟨(n2.block _ (by omega)).trans (heap_alloc_new w _), e2, h1.below bb, h2.below bb, bb⟩
set_option maxHeartbeats 8000000 in
theorem ssame_any (next last : Nat) (fl : Bool) (fat : Nat) (A : Option Addr) (n c : Nat) (L : List Ru) (next' last' : Nat) (fl' : Bool) (fat' : Nat) (A' : Option Addr) (n' c' : Nat) (L' : List Ru) (w : World) (hn : L.length = n) (hm : n ≤ 1000) (hv : Rus w A L) (hn' : L'.length = n') (hm' : n' ≤ 1000) (hv' : Rus w A' L') :
    Calls Try.prog 12 #[stv next last fl fat A n c, stv next' last' fl' fat' A' n' c'] w fun e w' => e = .returned (.bool (sms next last fl fat L next' last' fl' fat' L')) ∧ Below w.heap.size w w' := by
  have X0 : Hid (Syy w ((w.alloc (.cells #[.int .u64 (next : Int), .int .u64 (last : Int), .bool fl, .int .u64 (fat : Int), .slice A n c] 25)).alloc (.cells #[.int .u64 (next' : Int), .int .u64 (last' : Int), .bool fl', .int .u64 (fat' : Int), .slice A' n' c'] 25)) next last fl fat A n c L next' last' fl' fat' A' n' c' L') := Lib.hid (Syy.new hv hv')
  have HN := Lib.hid hn
  have HN' := Lib.hid hn'
  have HQ := Lib.hid (fun W (h1 : Rus W A L) (h2 : Rus W A' L') => sequal_any A n c L A' n' c' L' W hn hm h1 hn' hm' h2)
  clear hn hn' hv hv'
  go_enter Try.func12, Try.ntmps12
  go_upto_region 1 with fail
  generalize ((w.alloc (.cells #[.int .u64 (next : Int), .int .u64 (last : Int), .bool fl, .int .u64 (fat : Int), .slice A n c] 25)).alloc (.cells #[.int .u64 (next' : Int), .int .u64 (last' : Int), .bool fl', .int .u64 (fat' : Int), .slice A' n' c'] 25)) = w1 at X0 ⊢
  obtain ⟨a0, a1, a2, a3, a4, _⟩ := sto_cells X0.out.a
  obtain ⟨b0, b1, b2, b3, b4, _⟩ := sto_cells X0.out.b
  by_cases c0 : next = next'
  · subst c0
    by_cases c1 : last = last'
    · subst c1
      by_cases c2 : fl = fl'
      · subst c2
        by_cases c3 : fat = fat'
        · subst c3
          have i0 : ((next : Int) == (next : Int)) = true := by simp
          have HE := Lib.hid (show sms next last fl fat L next last fl fat L' = eql L L' by unfold sms; simp)
          go_wp2_with fail
          refine (HQ.out w1 X0.out.r X0.out.r').mono ?_
          rintro _ w2 ⟨rfl, hb⟩
          have B2 := Lib.hid (X0.out.next hb).bel
          go_wp2_with fail
          go_ret
          exact ⟨by rw [HE.out]; rfl, B2.out⟩
        · have d3 : ((fat : Int) == (fat' : Int)) = false := by simp; omega
          have d3' : (fat == fat') = false := by simp; omega
          have EB := Lib.hid (show sms next last fl fat L next last fl fat' L' = false by unfold sms; rw [decide_eq_false c3]; simp)
          go_wp2_with fail
          go_ret
          exact ⟨by rw [EB.out]; rfl, X0.out.bel⟩
      · have d2 : (fl == fl') = false := by cases fl <;> cases fl' <;> simp_all
        have EB := Lib.hid (show sms next last fl fat L next last fl' fat' L' = false by unfold sms; rw [d2]; simp)
        go_wp2_with fail
        go_ret
        exact ⟨by rw [EB.out]; rfl, X0.out.bel⟩
    · have d1 : ((last : Int) == (last' : Int)) = false := by simp; omega
      have d1' : (last == last') = false := by simp; omega
      have EB := Lib.hid (show sms next last fl fat L next last' fl' fat' L' = false by unfold sms; rw [decide_eq_false c1]; simp)
      go_wp2_with fail
      go_ret
      exact ⟨by rw [EB.out]; rfl, X0.out.bel⟩
  · have d0 : ((next : Int) == (next' : Int)) = false := by simp; omega
    have d0' : (next == next') = false := by simp; omega
    have EB := Lib.hid (show sms next last fl fat L next' last' fl' fat' L' = false by unfold sms; rw [decide_eq_false c0]; simp)
    go_wp2_with fail
    go_ret
    exact ⟨by rw [EB.out]; rfl, X0.out.bel⟩
set_option maxHeartbeats 8000000 in
theorem rsame15_any (next last : Nat) (fl : Bool) (fat : Nat) (A : Option Addr) (n c : Nat) (L : List Ru) (next' last' : Nat) (fl' : Bool) (fat' : Nat) (A' : Option Addr) (n' c' : Nat) (L' : List Ru) (w : World) (hn : L.length = n) (hm : n ≤ 1000) (hv : Rus w A L) (hn' : L'.length = n') (hm' : n' ≤ 1000) (hv' : Rus w A' L') :
    Calls Try.prog 10 #[stv next last fl fat A n c, stv next' last' fl' fat' A' n' c'] w fun e w' => e = .returned (.bool (sms next last fl fat L next' last' fl' fat' L')) ∧ Below w.heap.size w w' := by
  have X0 : Hid (Syy w ((w.alloc (.cells #[.int .u64 (next : Int), .int .u64 (last : Int), .bool fl, .int .u64 (fat : Int), .slice A n c] 25)).alloc (.cells #[.int .u64 (next' : Int), .int .u64 (last' : Int), .bool fl', .int .u64 (fat' : Int), .slice A' n' c'] 25)) next last fl fat A n c L next' last' fl' fat' A' n' c' L') := Lib.hid (Syy.new hv hv')
  have HN := Lib.hid hn
  have HN' := Lib.hid hn'
  clear hn hn' hv hv'
  go_enter Try.func10, Try.ntmps10
  go_upto_region 1 with fail
  generalize ((w.alloc (.cells #[.int .u64 (next : Int), .int .u64 (last : Int), .bool fl, .int .u64 (fat : Int), .slice A n c] 25)).alloc (.cells #[.int .u64 (next' : Int), .int .u64 (last' : Int), .bool fl', .int .u64 (fat' : Int), .slice A' n' c'] 25)) = w1 at X0 ⊢
  obtain ⟨a0, a1, a2, a3, a4, _⟩ := sto_cells X0.out.a
  obtain ⟨b0, b1, b2, b3, b4, _⟩ := sto_cells X0.out.b
  by_cases c0 : next = next'
  · subst c0
    by_cases c1 : last = last'
    · subst c1
      by_cases c2 : fl = fl'
      · subst c2
        by_cases c3 : fat = fat'
        · subst c3
          by_cases cn : n = n'
          · subst cn
            have HE := Lib.hid (show sms next last fl fat L next last fl fat L' = eqn L L' n by unfold sms eql; rw [HN.out, HN'.out]; simp)
            go_wp2_with fail
            clear a0 a1 a2 a3 a4 b0 b1 b2 b3 b4
            go_loopw [44] (fun v W => ∃ (i : Nat), v = .int .i64 (i : Int) ∧ i ≤ n ∧ Hid (eqn L L' i = true ∧ Syy w W next last fl fat A n c L next last fl fat A' n c' L')) (fun v _ => n - (intOf v).toNat)
            case atStart => exact ⟨0, rfl, by omega, Lib.hid ⟨(eqn_iff _ _ _).2 (fun i hi => absurd hi (by omega)), X0.out⟩⟩
            case round =>
              obtain ⟨i, rfl, hi, H⟩ := hrel
              clear X0
              by_cases ci : i < n
              · have hl : i < L.length := by have := HN.out; omega
                have hl' : i < L'.length := by have := HN'.out; omega
                have HD := Lib.hid (fun m => H.out.2.next (below_drewN wr.heap.size wr m))
                obtain ⟨g, o, rfl, k0, k1, k2⟩ := H.out.2.r i hl
                obtain ⟨g', o', rfl, j0, j1, j2⟩ := H.out.2.r' i hl'
                obtain ⟨_, _, _, _, a4, _⟩ := sto_cells H.out.2.a
                obtain ⟨_, _, _, _, b4, _⟩ := sto_cells H.out.2.b
                obtain ⟨r, hr⟩ : ∃ r, L.getD i rz = r := ⟨_, rfl⟩
                obtain ⟨q, hq⟩ : ∃ q, L'.getD i rz = q := ⟨_, rfl⟩
                have HB := Lib.hid (eqn_bad L L' i n ci)
                have HS := Lib.hid (eqn_snoc L L' i H.out.1)
                rw [hr, hq] at HB HS
                rw [hr] at k0 k1 k2
                rw [hq] at j0 j1 j2
                obtain ⟨rs, rt, rx⟩ := r
                obtain ⟨qs, qt, qx⟩ := q
                simp only at k0 k1 k2 j0 j1 j2 HB HS
                clear H hr hq
                by_cases c1 : rs = qs
                · subst c1
                  by_cases c2 : rt = qt
                  · subst c2
                    by_cases c3 : rx = qx
                    · subst c3
                      have HC := Lib.hid (HS.out ⟨rfl, rfl, rfl⟩)
                      clear HS HB
                      go_upto_region 6 with fail
                      go_quiet (fail)
                      go_wp2_with fail
                      exact ⟨⟨i + 1, by go_num, by omega, Lib.hid ⟨HC.out, HD.out _⟩⟩, by simp [intOf]; omega⟩
                    · have d3 : ((rx : Int) == (qx : Int)) = false := by simp; omega
                      have d3' : (rx == qx) = false := by simp; omega
                      have HC := Lib.hid (HB.out (fun h => c3 h.2.2))
                      clear HS HB
                      go_upto_region 6 with fail
                      go_quiet (fail)
                      go_wp2_with fail
                      go_ret
                      exact ⟨by rw [HE.out, HC.out]; rfl, (HD.out _).bel⟩
                  · have d2 : ((rt : Int) == (qt : Int)) = false := by simp; omega
                    have d2' : (rt == qt) = false := by simp; omega
                    have HC := Lib.hid (HB.out (fun h => c2 h.2.1))
                    clear HS HB
                    go_upto_region 6 with fail
                    go_quiet (fail)
                    go_wp2_with fail
                    go_ret
                    exact ⟨by rw [HE.out, HC.out]; rfl, (HD.out _).bel⟩
                · have d1 : ((rs : Int) == (qs : Int)) = false := by simp; omega
                  have d1' : (rs == qs) = false := by simp; omega
                  have HC := Lib.hid (HB.out (fun h => c1 h.1))
                  clear HS HB
                  go_upto_region 6 with fail
                  go_quiet (fail)
                  go_wp2_with fail
                  go_ret
                  exact ⟨by rw [HE.out, HC.out]; rfl, (HD.out _).bel⟩
              · obtain rfl : i = n := by omega
                have EF := Lib.hid H.out.1
                have BF := Lib.hid H.out.2.bel
                obtain ⟨_, _, _, _, a4, _⟩ := sto_cells H.out.2.a
                clear H
                go_wp2_with fail
                go_ret
                exact ⟨by rw [HE.out, EF.out]; rfl, BF.out⟩
          · have d0 : ((n : Int) == (n' : Int)) = false := by simp; omega
            have EB := Lib.hid (show sms next last fl fat L next last fl fat L' = false by unfold sms eql; rw [HN.out, HN'.out]; simp [cn])
            go_wp2_with fail
            go_ret
            exact ⟨by rw [EB.out]; rfl, X0.out.bel⟩
        · have d3 : ((fat : Int) == (fat' : Int)) = false := by simp; omega
          have d3' : (fat == fat') = false := by simp; omega
          have EB := Lib.hid (show sms next last fl fat L next last fl fat' L' = false by unfold sms; rw [decide_eq_false c3]; simp)
          go_wp2_with fail
          go_ret
          exact ⟨by rw [EB.out]; rfl, X0.out.bel⟩
      · have d2 : (fl == fl') = false := by cases fl <;> cases fl' <;> simp_all
        have EB := Lib.hid (show sms next last fl fat L next last fl' fat' L' = false by unfold sms; rw [d2]; simp)
        go_wp2_with fail
        go_ret
        exact ⟨by rw [EB.out]; rfl, X0.out.bel⟩
    · have d1 : ((last : Int) == (last' : Int)) = false := by simp; omega
      have d1' : (last == last') = false := by simp; omega
      have EB := Lib.hid (show sms next last fl fat L next last' fl' fat' L' = false by unfold sms; rw [decide_eq_false c1]; simp)
      go_wp2_with fail
      go_ret
      exact ⟨by rw [EB.out]; rfl, X0.out.bel⟩
  · have d0 : ((next : Int) == (next' : Int)) = false := by simp; omega
    have d0' : (next == next') = false := by simp; omega
    have EB := Lib.hid (show sms next last fl fat L next' last' fl' fat' L' = false by unfold sms; rw [decide_eq_false c0]; simp)
    go_wp2_with fail
    go_ret
    exact ⟨by rw [EB.out]; rfl, X0.out.bel⟩
end Go.Proofs.Ytmooblbnkjaenaa
