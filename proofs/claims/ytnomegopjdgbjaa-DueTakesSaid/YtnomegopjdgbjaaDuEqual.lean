/- Two rows of keys compared; the chapter's example; a nil list. -/
import Derived.Test.YtnomegopjdgbjaaDuTake
namespace Go.Proofs.Ytnomegopjdgbjaa
open Go Go.RowKit
set_option maxRecDepth 20000

theorem take_next {ks ks' : List Nat} {i : Nat} (h : ks.take i = ks'.take i) (hi : i < ks.length) (hi' : i < ks'.length) (e : ks.getD i 0 = ks'.getD i 0) : ks.take (i + 1) = ks'.take (i + 1) := by
  rw [List.take_succ_eq_append_getElem hi, List.take_succ_eq_append_getElem hi', h]
  congr 2
  simpa [List.getD_eq_getElem?_getD, List.getElem?_eq_getElem hi, List.getElem?_eq_getElem hi'] using e
set_option maxHeartbeats 2000000 in
theorem equal_any (w : World) (A A' : Option Addr) (n n' c c' : Nat) (ks ks' : List Nat) (hl : ks.length = n) (hl' : ks'.length = n') (h : Kys w A ks) (h' : Kys w A' ks') (hnb : n ≤ 1000000) :
    Calls Try.prog 18 #[.slice A n c, .slice A' n' c'] w fun e w' => e = .returned (.bool (decide (ks = ks'))) ∧ Below w.heap.size w w' := by
  by_cases hn : n = n'
  · subst hn
    have HH := Lib.hid (And.intro h (And.intro h' (And.intro hl hl')))
    clear h h' hl hl'
    generalize hr : decide (ks = ks') = r
    have HR := Lib.hid hr
    clear hr
    go_enter Try.func18, Try.ntmps18
    go_wp2_with fail
    go_loopw [13] (fun s wr => ∃ (i : Nat), s = .int .i64 i ∧ i ≤ n ∧ Hid (Below w.heap.size w wr ∧ ks.take i = ks'.take i)) (fun s _ => n - (intOf s).toNat)
    case atStart => exact ⟨0, rfl, by omega, Below.refl _ _, by simp⟩
    case round =>
      obtain ⟨i, rfl, hi, H⟩ := hrel
      obtain ⟨k1, k2, l1, l2⟩ := HH.out
      by_cases ci : i < n
      · obtain ⟨b, off, rfl, x1⟩ := (k1.below H.out.1) i (by omega)
        obtain ⟨b', off', rfl, x2⟩ := (k2.below H.out.1) i (by omega)
        have ci' : (i : Int) < (n : Int) := by omega
        have ci0 : (0 : Int) ≤ (i : Int) := by omega
        by_cases ce : ks.getD i 0 = ks'.getD i 0
        · have TK := Lib.hid (take_next H.out.2 (by omega) (by omega) ce)
          have HB := Lib.hid H.out.1
          rw [← ce] at x2
          generalize ks.getD i 0 = y at *
          clear k1 k2 l1 l2 H ce
          go_wp2_with fail
          go_quiet (fail)
          go_wp2_with fail
          go_roundw
          case rel => exact ⟨i + 1, by go_num, by omega, ⟨HB.out.os, HB.out.tape, HB.out.output, HB.out.size, HB.out.block⟩, TK.out⟩
          case measure => simp [intOf]; omega
        · have hne : decide (ks = ks') = false := by
            simp only [decide_eq_false_iff_not]
            intro e
            exact ce (by rw [e])
          have HE := Lib.hid (HR.out.symm.trans hne)
          have HB := Lib.hid H.out.1
          have ce' : ¬ (((ks.getD i 0 : Nat) : Int) = ((ks'.getD i 0 : Nat) : Int)) := by omega
          generalize ks.getD i 0 = y at *
          generalize ks'.getD i 0 = y' at *
          clear k1 k2 l1 l2 H ce hne
          go_wp2_with fail
          go_quiet (fail)
          go_wp2_with fail
          go_ret
          exact ⟨by rw [HE.out]; rfl, ⟨HB.out.os, HB.out.tape, HB.out.output, HB.out.size, HB.out.block⟩⟩
      · have hi' : i = n := by omega
        subst hi'
        have hE : decide (ks = ks') = true := by
          have := H.out.2
          rw [List.take_of_length_le (by omega), List.take_of_length_le (by omega)] at this
          simpa using this
        have HE := Lib.hid (HR.out.symm.trans hE)
        have HB := Lib.hid H.out.1
        clear k1 k2 l1 l2 H hE ci
        go_wp2_with fail
        go_ret
        exact ⟨by rw [HE.out]; rfl, HB.out⟩
  · have hne : decide (ks = ks') = false := by
      simp only [decide_eq_false_iff_not]
      intro e
      rw [← hl, ← hl', e] at hn
      exact hn rfl
    rw [hne]
    clear hne h h' hl hl'
    have hn' : ¬ ((n : Int) = (n' : Int)) := by omega
    go_enter Try.func18, Try.ntmps18
    go_wp2_with fail
    go_ret
    exact ⟨rfl, Below.refl _ _⟩
/- a list of dues all of whose blocks lie from B on -/
structure Db (B : Nat) (w : World) (d m : Nat) (v : Value) (L : List E) : Prop where
  dl : Dl w d m v L
  from_ : ∀ k, Fp d m v k → B ≤ k
theorem Db.below {B : Nat} {w w' : World} {d m : Nat} {v : Value} {L : List E} (h : Db B w d m v L) (hb : Below w.heap.size w w') : Db B w' d m v L := ⟨h.dl.below hb, h.from_⟩
theorem Db.step {B : Nat} {w w' : World} {d m : Nat} {v v' : Value} {L L' : List E} (h : Db B w d m v L) (h' : Dl w' d m v' L') (hB : B ≤ w.heap.size) (hm : ∀ x, v'.ownBlock = some x → v.ownBlock = some x ∨ w.heap.size ≤ x) : Db B w' d m v' L' :=
  ⟨h', fun k hk => by
    rcases hk with e | e | e
    · exact h.from_ k (.inl e)
    · exact h.from_ k (.inr (.inl e))
    · rcases hm k e with e | e
      · exact h.from_ k (.inr (.inr e))
      · omega⟩
theorem new_b (w : World) : Calls Try.prog 7 #[] w fun e w' => ∃ d m v, e = .returned (ptr d) ∧ Db w.heap.size w' d m v [] ∧ Below w.heap.size w w' := by
  refine (new_any w).mono ?_
  rintro e w' ⟨rfl, h1, h2, _⟩
  exact ⟨_, _, _, rfl, ⟨h1, fun k hk => by
    rcases hk with e | e | e
    · omega
    · omega
    · cases e⟩, h2⟩
theorem set_b {B : Nat} {w : World} {d m : Nat} {v : Value} {L : List E} (h : Db B w d m v L) (hB : B ≤ w.heap.size) (k a : Nat) (hk : k < 18446744073709551616) (ha : a < 18446744073709551616) (hlen : L.length ≤ 80000) :
    Calls Try.prog 16 #[ptr d, .int .u64 (k : Int), .int .u64 (a : Int)] w fun e w' => e = .returned (.tuple #[]) ∧
      ∃ v' L2, Db B w' d m v' L2 ∧ L2.Perm (cutL L k ++ [(k, a)]) ∧ Below B w w' ∧ Keep (Fp d m v) w w' ∧ (∀ x, v'.ownBlock = some x → v.ownBlock = some x ∨ w.heap.size ≤ x) := by
  refine (set_any h.dl k a hk ha hlen).mono ?_
  rintro e w' ⟨rfl, v', L2, h1, h2, h3, h4⟩
  exact ⟨rfl, v', L2, h.step h1 hB h4, h2, h3.below h.from_ hB, h3, h4⟩
theorem take_b {B : Nat} {w : World} {d m : Nat} {v : Value} {L : List E} (h : Db B w d m v L) (hB : B ≤ w.heap.size) (now : Nat) (hlen : L.length ≤ 80000) :
    Calls Try.prog 14 #[ptr d, .int .u64 (now : Int)] w fun e w' => ∃ A n c ks v' R, e = .returned (.slice A n c) ∧ ks.length = n ∧ OwnK w' w.heap.size (.slice A n c) ks ∧ Kys w' A ks ∧ Tk now L ks R ∧ Db B w' d m v' R ∧ Below B w w' ∧ Keep (Fp d m v) w w' ∧ v'.ownBlock = v.ownBlock := by
  refine (take_any h.dl now hlen).mono ?_
  rintro e w' ⟨t, ks, v', R, rfl, h1, h2, h3, h4, h5⟩
  obtain ⟨A, c, rfl, hk⟩ := h1.form
  exact ⟨A, ks.length, c, ks, v', R, rfl, rfl, h1, hk, h2, h.step h3 hB (fun x hx => .inl (by rw [← h5]; exact hx)), h4.below h.from_ hB, h4, h5⟩
theorem ex_take : Tk 5 [(1, 5), (2, 5), (3, 4)] [3, 1, 2] [] := by
  refine .step (e := (3, 4)) (L1 := [(1, 5), (2, 5)]) (by decide) (by decide) (by decide) ?_
  refine .step (e := (1, 5)) (L1 := [(2, 5)]) (by decide) (by decide) (by decide) ?_
  refine .step (e := (2, 5)) (L1 := []) (by decide) (by decide) (by decide) ?_
  exact .stop (by simp)
theorem three {L : List E} {k a : Nat} {L0 L2 : List E} (h : L2.Perm (cutL L k ++ [(k, a)])) (h0 : L.Perm L0) : L2.Perm (cutL L0 k ++ [(k, a)]) := h.trans ((cutL_perm h0 k).append_right _)
theorem kys3 (w : World) (x y z : Nat) : Kys (w.alloc (.cells #[.int .u64 (x : Int), .int .u64 (y : Int), .int .u64 (z : Int)] 28)) (some ⟨w.heap.size, 0, none⟩) [x, y, z] := fun i hi => by
  refine ⟨w.heap.size, 0, rfl, ?_⟩
  have : i = 0 ∨ i = 1 ∨ i = 2 := by simp at hi; omega
  rcases this with rfl | rfl | rfl <;> simp [go_sem]
set_option maxHeartbeats 2000000 in
theorem fixed_any (w : World) : Calls Try.prog 8 #[] w fun e w' => e = .returned (.bool true) ∧ Below w.heap.size w w' := by
  have C := Lib.hid (new_b w)
  go_enter Try.func8, Try.ntmps8
  go_wp2_with fail
  refine C.out.mono ?_
  rintro e w1 ⟨d, m, v, rfl, h1, h2⟩
  have C1 := Lib.hid (set_b h1 h2.size 1 5 (by omega) (by omega) (by simp))
  have B1 := Lib.hid h2
  clear h1 h2 C
  go_wp2_with fail
  refine C1.out.mono ?_
  rintro e w2 ⟨rfl, v2, L2, h3, h4, h5, _, _⟩
  have B2 := Lib.hid (B1.out.trans h5)
  have C2 := Lib.hid (set_b h3 B2.out.size 2 5 (by omega) (by omega) (by rw [h4.length_eq]; decide))
  have P2 := Lib.hid (show L2.Perm [(1, 5)] from h4)
  clear h3 h4 h5 C1 B1
  go_wp2_with fail
  refine C2.out.mono ?_
  rintro e w3 ⟨rfl, v3, L3, h3, h4, h5, _, _⟩
  have B3 := Lib.hid (B2.out.trans h5)
  have P3 := Lib.hid (show L3.Perm [(1, 5), (2, 5)] from three h4 P2.out)
  have C3 := Lib.hid (set_b h3 B3.out.size 3 4 (by omega) (by omega) (by rw [P3.out.length_eq]; decide))
  clear h3 h4 h5 C2 B2 P2
  go_wp2_with fail
  refine C3.out.mono ?_
  rintro e w4 ⟨rfl, v4, L4, h3, h4, h5, _, _⟩
  have B4 := Lib.hid (B3.out.trans h5)
  have P4 := Lib.hid (show L4.Perm [(1, 5), (2, 5), (3, 4)] from three h4 P3.out)
  have C4 := Lib.hid (take_b h3 B4.out.size 5 (by rw [P4.out.length_eq]; decide))
  clear h3 h4 h5 C3 B3 P3
  go_wp2_with fail
  refine C4.out.mono ?_
  rintro e w5 ⟨A, n, c, ks, v5, R, rfl, h6, h7, h8, h9, h10, h11, _, _⟩
  obtain ⟨e1, e2⟩ := h9.det P4.out ex_take
  have e2 := e2.eq_nil
  subst e1 e2
  have h6 : n = 3 := h6.symm
  subst h6
  have B5 := Lib.hid (B4.out.trans h11)
  have hba := below_alloc w5 (.cells #[.int .u64 ((3 : Nat) : Int), .int .u64 ((1 : Nat) : Int), .int .u64 ((2 : Nat) : Int)] 28)
  have C5 := Lib.hid (equal_any _ A (some ⟨w5.heap.size, 0, none⟩) 3 3 c 3 [3, 1, 2] [3, 1, 2] rfl rfl (h8.below hba) (kys3 w5 3 1 2) (by omega))
  have D5 := Lib.hid (h10.below hba)
  have BA := Lib.hid hba
  clear h7 h8 h9 h10 h11 C4 B4 P4 hba
  go_wp2_with fail
  refine C5.out.mono ?_
  rintro e w6 ⟨rfl, h12⟩
  have C6 := Lib.hid (len_any (D5.out.dl.below h12))
  have B6 := Lib.hid ((B5.out.trans (BA.out.mono B5.out.size)).trans (h12.mono (by have := B5.out.size; have := BA.out.size; omega)))
  clear h12 C5 D5 BA B5
  go_wp2_with fail
  refine C6.out.mono ?_
  rintro e w7 ⟨rfl, rfl⟩
  clear C6
  go_wp2_with fail
  go_ret
  exact ⟨rfl, B6.out⟩
set_option maxHeartbeats 2000000 in
theorem nil_walk (w : World) (k a : Int) : Calls Try.prog 5 #[.int .u64 k, .int .u64 a] w fun e w' => e = .returned (.bool true) ∧ Below w.heap.size w w' := by
  have C1 := Lib.hid (set_nil w k a)
  have C2 := Lib.hid (at_nil w k)
  have C3 := Lib.hid (next_nil w)
  have C4 := Lib.hid (fixed_any w)
  have C5 := Lib.hid (fun W => cut_nil W k)
  have C6 := Lib.hid (fun W => take_nil W a)
  have C7 := Lib.hid len_nil
  go_enter Try.func5, Try.ntmps5
  go_wp2_with fail
  refine C1.out.mono ?_
  rintro e w1 ⟨rfl, rfl⟩
  go_wp2_with fail
  refine C2.out.mono ?_
  rintro e w1 ⟨rfl, rfl⟩
  go_wp2_with fail
  refine C3.out.mono ?_
  rintro e w1 ⟨rfl, rfl⟩
  go_wp2_with fail
  refine C4.out.mono ?_
  rintro e w1 ⟨rfl, h⟩
  have HB := Lib.hid h
  clear h
  go_wp2_with fail
  refine (C5.out _).mono ?_
  rintro e w2 ⟨rfl, rfl⟩
  go_wp2_with fail
  refine (C6.out _).mono ?_
  rintro e w3 ⟨rfl, rfl⟩
  go_wp2_with fail
  refine (C7.out _).mono ?_
  rintro e w4 ⟨rfl, rfl⟩
  go_wp2_with fail
  go_ret
  exact ⟨rfl, HB.out⟩
end Go.Proofs.Ytnomegopjdgbjaa
