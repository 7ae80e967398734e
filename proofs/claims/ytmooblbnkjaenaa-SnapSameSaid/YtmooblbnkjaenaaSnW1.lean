/- SnapSame: the walk. -/
import Derived.Test.YtmooblbnkjaenaaSnH
import Derived.Test.YtmooblbnkjaenaaSnI
namespace Go.Proofs.Ytmooblbnkjaenaa
open Go Go.RowKit Pk
set_option maxRecDepth 20000

abbrev Ksy (w W : World) (next last : Nat) (fl : Bool) (fat : Nat) (A : Option Addr) (n c : Nat) (L : List Ru) (next' last' : Nat) (fl' : Bool) (fat' : Nat) (A' : Option Addr) (n' c' : Nat) (L' : List Ru) : Prop := W.cell? ⟨w.heap.size, 0, none⟩ = some (.int .u64 (next : Int)) ∧ W.cell? ⟨w.heap.size, 1, none⟩ = some (.int .u64 (last : Int)) ∧ W.cell? ⟨w.heap.size, 2, none⟩ = some (.bool fl) ∧ W.cell? ⟨w.heap.size, 3, none⟩ = some (.int .u64 (fat : Int)) ∧ W.cell? ⟨w.heap.size, 4, none⟩ = some (.slice A n c) ∧ W.cell? ⟨w.heap.size + 1, 0, none⟩ = some (.int .u64 (next' : Int)) ∧ W.cell? ⟨w.heap.size + 1, 1, none⟩ = some (.int .u64 (last' : Int)) ∧ W.cell? ⟨w.heap.size + 1, 2, none⟩ = some (.bool fl') ∧ W.cell? ⟨w.heap.size + 1, 3, none⟩ = some (.int .u64 (fat' : Int)) ∧ W.cell? ⟨w.heap.size + 1, 4, none⟩ = some (.slice A' n' c') ∧ Hid (Syy w W next last fl fat A n c L next' last' fl' fat' A' n' c' L')
theorem ksy_of {w W : World} {next last : Nat} {fl : Bool} {fat : Nat} {A : Option Addr} {n c : Nat} {L : List Ru} {next' last' : Nat} {fl' : Bool} {fat' : Nat} {A' : Option Addr} {n' c' : Nat} {L' : List Ru} (h : Syy w W next last fl fat A n c L next' last' fl' fat' A' n' c' L') : Ksy w W next last fl fat A n c L next' last' fl' fat' A' n' c' L' := by
  obtain ⟨a0, a1, a2, a3, a4, _⟩ := sto_cells h.a
  obtain ⟨b0, b1, b2, b3, b4, _⟩ := sto_cells h.b
  exact ⟨a0, a1, a2, a3, a4, b0, b1, b2, b3, b4, Lib.hid h⟩
theorem Ksy.s {w W : World} {next last : Nat} {fl : Bool} {fat : Nat} {A : Option Addr} {n c : Nat} {L : List Ru} {next' last' : Nat} {fl' : Bool} {fat' : Nat} {A' : Option Addr} {n' c' : Nat} {L' : List Ru} (h : Ksy w W next last fl fat A n c L next' last' fl' fat' A' n' c' L') : Syy w W next last fl fat A n c L next' last' fl' fat' A' n' c' L' := h.2.2.2.2.2.2.2.2.2.2.out
theorem ksy_next {w W W' : World} {next last : Nat} {fl : Bool} {fat : Nat} {A : Option Addr} {n c : Nat} {L : List Ru} {next' last' : Nat} {fl' : Bool} {fat' : Nat} {A' : Option Addr} {n' c' : Nat} {L' : List Ru} (hb : Below W.heap.size W W') (h : Ksy w W next last fl fat A n c L next' last' fl' fat' A' n' c' L') : Ksy w W' next last fl fat A n c L next' last' fl' fat' A' n' c' L' := ksy_of (h.s.next hb)
set_option maxHeartbeats 8000000 in
theorem same_walk (next last : Nat) (fl : Bool) (fat : Nat) (A : Option Addr) (n c : Nat) (L : List Ru) (next' last' : Nat) (fl' : Bool) (fat' : Nat) (A' : Option Addr) (n' c' : Nat) (L' : List Ru) (w : World) (hn : L.length = n) (hv : Rus w A L) (hn' : L'.length = n') (hv' : Rus w A' L') :
    Calls Try.prog 5 #[stv next last fl fat A n c, stv next' last' fl' fat' A' n' c'] w fun e w' => e = .returned (.bool true) ∧ Below w.heap.size w w' := by
  have X0 : Hid (Syy w ((w.alloc (.cells #[.int .u64 (next : Int), .int .u64 (last : Int), .bool fl, .int .u64 (fat : Int), .slice A n c] 25)).alloc (.cells #[.int .u64 (next' : Int), .int .u64 (last' : Int), .bool fl', .int .u64 (fat' : Int), .slice A' n' c'] 25)) next last fl fat A n c L next' last' fl' fat' A' n' c' L') := Lib.hid (Syy.new hv hv')
  have FX := Lib.hid sfixed_any
  have HN := Lib.hid hn
  have HN' := Lib.hid hn'
  clear hn hn' hv hv'
  go_enter Try.func5, Try.ntmps5
  go_upto_region 1 with fail
  generalize ((w.alloc (.cells #[.int .u64 (next : Int), .int .u64 (last : Int), .bool fl, .int .u64 (fat : Int), .slice A n c] 25)).alloc (.cells #[.int .u64 (next' : Int), .int .u64 (last' : Int), .bool fl', .int .u64 (fat' : Int), .slice A' n' c'] 25)) = w1 at X0 ⊢
  obtain ⟨a0, a1, a2, a3, a4, _⟩ := sto_cells X0.out.a
  obtain ⟨b0, b1, b2, b3, b4, _⟩ := sto_cells X0.out.b
  by_cases c1 : 200 < n
  · have d1 : decide ((200 : Int) < (n : Int)) = true := decide_eq_true (by omega)
    go_wp2_with fail
    refine (FX.out _).mono ?_
    rintro e w4 ⟨rfl, hbl⟩
    have B4 := Lib.hid (X0.out.next hbl).bel
    clear hbl X0 FX
    go_wp2_with fail
    go_ret
    exact ⟨rfl, B4.out⟩
  · have d1 : decide ((200 : Int) < (n : Int)) = false := decide_eq_false (by omega)
    by_cases c2 : 200 < n'
    · have d2 : decide ((200 : Int) < (n' : Int)) = true := decide_eq_true (by omega)
      go_wp2_with fail
      refine (FX.out _).mono ?_
      rintro e w4 ⟨rfl, hbl⟩
      have B4 := Lib.hid (X0.out.next hbl).bel
      clear hbl X0 FX
      go_wp2_with fail
      go_ret
      exact ⟨rfl, B4.out⟩
    · have d2 : decide ((200 : Int) < (n' : Int)) = false := decide_eq_false (by omega)
      go_upto_region 3 with fail
      have KD := Lib.hid (ksy_next (Below.refl _ _).drew (ksy_of X0.out))
      have S1' := Lib.hid (fun W (h : Ksy w W next last fl fat A n c L next' last' fl' fat' A' n' c' L') => ssame_any next last fl fat A n c L next' last' fl' fat' A' n' c' L' W HN.out (by omega) h.s.r HN'.out (by omega) h.s.r')
      have S2' := Lib.hid (fun W (h : Ksy w W next last fl fat A n c L next' last' fl' fat' A' n' c' L') => rsame15_any next last fl fat A n c L next' last' fl' fat' A' n' c' L' W HN.out (by omega) h.s.r HN'.out (by omega) h.s.r')
      have S3' := Lib.hid (fun W (h : Ksy w W next last fl fat A n c L next' last' fl' fat' A' n' c' L') => ssame_any next last fl fat A n c L next last fl fat A n c L W HN.out (by omega) h.s.r HN.out (by omega) h.s.r)
      have FX' := Lib.hid (fun W (_ : Ksy w W next last fl fat A n c L next' last' fl' fat' A' n' c' L') => FX.out W)
      rw [sms_self] at S3'
      generalize sms next last fl fat L next' last' fl' fat' L' = q at S1' S2'
      have i1 : (q == q) = true := by simp
      clear X0 FX a0 a1 a2 a3 a4 b0 b1 b2 b3 b4 c1 c2 d1 d2
      go_region_held3 (fun W => W.cell? ⟨w.heap.size, 0, none⟩ = some (.int .u64 (next : Int)) ∧ W.cell? ⟨w.heap.size, 1, none⟩ = some (.int .u64 (last : Int)) ∧ W.cell? ⟨w.heap.size, 2, none⟩ = some (.bool fl) ∧ W.cell? ⟨w.heap.size, 3, none⟩ = some (.int .u64 (fat : Int)) ∧ W.cell? ⟨w.heap.size, 4, none⟩ = some (.slice A n c) ∧ W.cell? ⟨w.heap.size + 1, 0, none⟩ = some (.int .u64 (next' : Int)) ∧ W.cell? ⟨w.heap.size + 1, 1, none⟩ = some (.int .u64 (last' : Int)) ∧ W.cell? ⟨w.heap.size + 1, 2, none⟩ = some (.bool fl') ∧ W.cell? ⟨w.heap.size + 1, 3, none⟩ = some (.int .u64 (fat' : Int)) ∧ W.cell? ⟨w.heap.size + 1, 4, none⟩ = some (.slice A' n' c') ∧ Hid (Syy w W next last fl fat A n c L next' last' fl' fat' A' n' c' L'))
        (first | (with_reducible assumption) | (with_reducible exact KD.out) | (with_reducible exact ksy_next b1 (by assumption)))
        (first
          | (go_at_call 6; (with_reducible refine Calls.mono (FX'.out _ ?_) ?_); (with_reducible assumption); rintro e w' ⟨rfl, b1⟩)
          | (go_at_call 12; (with_reducible refine Calls.mono (S1'.out _ ?_) ?_); (with_reducible assumption); rintro e w' ⟨rfl, b1⟩)
          | (go_at_call 12; (with_reducible refine Calls.mono (S3'.out _ ?_) ?_); (with_reducible assumption); rintro e w' ⟨rfl, b1⟩)
          | (go_at_call 10; (with_reducible refine Calls.mono (S2'.out _ ?_) ?_); (with_reducible assumption); rintro e w' ⟨rfl, b1⟩))
      all_goals (rename_i hHeld; have HB2 := Lib.hid (ksy_next (Below.refl _ _) hHeld).s.bel; clear hHeld; go_wp2_with fail; go_ret; exact ⟨rfl, HB2.out⟩)
end Go.Proofs.Ytmooblbnkjaenaa
