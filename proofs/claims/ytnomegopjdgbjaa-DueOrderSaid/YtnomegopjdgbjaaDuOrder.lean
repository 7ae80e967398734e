/- In which order keys are set: the walk of the statement's function. -/
import Derived.Test.YtnomegopjdgbjaaDuEqual
namespace Go.Proofs.Ytnomegopjdgbjaa
open Go Go.RowKit
set_option maxRecDepth 20000

/- two lists of dues apart from each other -/
structure Two (B : Nat) (W : World) (da ma : Nat) (va : Value) (La : List E) (db mb : Nat) (vb : Value) (Lb : List E) : Prop where
  a : Db B W da ma va La
  b : Db B W db mb vb Lb
  dis : ∀ k, Fp da ma va k → ¬ Fp db mb vb k
section
variable {B : Nat} {W W' : World} {da ma : Nat} {va va' : Value} {La La' : List E} {db mb : Nat} {vb : Value} {Lb : List E}
theorem Two.symm (h : Two B W da ma va La db mb vb Lb) : Two B W db mb vb Lb da ma va La := ⟨h.b, h.a, fun k h1 h2 => h.dis k h2 h1⟩
theorem Two.below (h : Two B W da ma va La db mb vb Lb) (hb : Below W.heap.size W W') : Two B W' da ma va La db mb vb Lb := ⟨h.a.below hb, h.b.below hb, h.dis⟩
theorem Two.step (h : Two B W da ma va La db mb vb Lb) (ha : Db B W' da ma va' La') (hk : Keep (Fp da ma va) W W') (hm : ∀ x, va'.ownBlock = some x → va.ownBlock = some x ∨ W.heap.size ≤ x) : Two B W' da ma va' La' db mb vb Lb :=
  ⟨ha, ⟨h.b.dl.keep hk (fun k hk hf => h.dis k hf hk), h.b.from_⟩, fun k h1 h2 => by
    rcases h1 with e | e | e
    · exact h.dis k (.inl e) h2
    · exact h.dis k (.inr (.inl e)) h2
    · rcases hm k e with e | e
      · exact h.dis k (.inr (.inr e)) h2
      · have := h.b.dl.lt k h2
        omega⟩
end
def pr (ks : List Nat) (i k : Nat) : List E := (List.range' i k).map (fun j => (j, ks.getD j 0))
theorem pr_key {ks : List Nat} {i k : Nat} {e : E} (h : e ∈ pr ks i k) : i ≤ e.1 ∧ e.1 < i + k := by
  obtain ⟨j, hj, rfl⟩ := List.mem_map.1 h
  simpa using hj
theorem pr_len (ks : List Nat) (i k : Nat) : (pr ks i k).length = k := by simp [pr]
theorem pr_snoc {ks : List Nat} {i : Nat} {L L2 : List E} (h : L.Perm (pr ks 0 i)) (h2 : L2.Perm (cutL L i ++ [(i, ks.getD i 0)])) : L2.Perm (pr ks 0 (i + 1)) := by
  have e1 : cutL (pr ks 0 i) i = pr ks 0 i := cutL_none (fun e he => by have := pr_key he; omega)
  have e2 : pr ks 0 (i + 1) = pr ks 0 i ++ [(i, ks.getD i 0)] := by
    unfold pr
    rw [List.range'_concat, List.map_append]
    simp
  rw [e2, ← e1]
  exact three h2 h
theorem pr_cons {ks : List Nat} {i n : Nat} (hi : i < n) {L L2 : List E} (h : L.Perm (pr ks (i + 1) (n - (i + 1)))) (h2 : L2.Perm (cutL L i ++ [(i, ks.getD i 0)])) : L2.Perm (pr ks i (n - i)) := by
  have e1 : cutL (pr ks (i + 1) (n - (i + 1))) i = pr ks (i + 1) (n - (i + 1)) := cutL_none (fun e he => by have := pr_key he; omega)
  have e2 : pr ks i (n - i) = (i, ks.getD i 0) :: pr ks (i + 1) (n - (i + 1)) := by
    unfold pr
    rw [show n - i = (n - (i + 1)) + 1 by omega, List.range'_succ]
    rfl
  rw [e2, ← e1]
  exact (three h2 h).trans (List.perm_append_singleton _ _)
theorem all_taken {L : List E} {ks : List Nat} {R : List E} (h : Tk 18446744073709551615 L ks R) {w : World} {d m : Nat} {v : Value} (hd : Dl w d m v R) : R = [] := by
  obtain ⟨_, _, _, _, h4⟩ := h.parts
  rcases R with _ | ⟨e, R⟩
  · rfl
  · have h1 := h4 e (by simp)
    have h2 := (hd.ok e (by simp)).2
    omega
theorem two_new (w w1 : World) {da ma : Nat} {va : Value} (h1 : Db w.heap.size w1 da ma va []) (hb : Below w.heap.size w w1) : Calls Try.prog 7 #[] w1 fun e w' => ∃ db mb vb, e = .returned (ptr db) ∧ Two w.heap.size w' da ma va [] db mb vb [] ∧ Below w.heap.size w w' := by
  refine (new_b w1).mono ?_
  rintro e w' ⟨db, mb, vb, rfl, h2, h3⟩
  have hs := hb.size
  exact ⟨db, mb, vb, rfl, ⟨h1.below h3, ⟨h2.dl, fun k hk => by have := h2.from_ k hk; omega⟩, fun k a b => by have := h2.from_ k b; have := h1.dl.lt k a; omega⟩, hb.trans (h3.mono hs)⟩
/- both are taken from, one behind the other: what was taken is the same -/
theorem takes_same {B : Nat} {w W : World} {da ma : Nat} {va : Value} {La : List E} {db mb : Nat} {vb : Value} {Lb : List E} (h : Two B W da ma va La db mb vb Lb) (hb : Below B w W) (hB : B = w.heap.size) (hp : La.Perm Lb) (hl : La.length ≤ 80000) (now : Nat) :
    Calls Try.prog 14 #[ptr da, .int .u64 (now : Int)] W fun e W1 => ∃ A n c, e = .returned (.slice A n c) ∧
      Calls Try.prog 14 #[ptr db, .int .u64 (now : Int)] W1 fun e W2 => ∃ A' n' c', e = .returned (.slice A' n' c') ∧
        Calls Try.prog 18 #[.slice A n c, .slice A' n' c'] W2 fun e W3 => e = .returned (.bool true) ∧
          ∃ ks va' Ra vb' Rb, Tk now La ks Ra ∧ Two B W3 da ma va' Ra db mb vb' Rb ∧ Below B w W3 ∧ Ra.Perm Rb ∧ Ra.length ≤ 80000 := by
  refine (take_b h.a (by have := hb.size; omega) now hl).mono ?_
  rintro e W1 ⟨A, n, c, ks, va', Ra, rfl, h1, h2, _, h4, h5, h6, h7, h8⟩
  refine ⟨A, n, c, rfl, ?_⟩
  have T1 := h.step h5 h7 (fun x hx => .inl (by rw [← h8]; exact hx))
  have b1 := hb.trans h6
  refine (take_b T1.b (by have := b1.size; omega) now (by rw [← hp.length_eq]; exact hl)).mono ?_
  rintro e W2 ⟨A', n', c', ks', vb', Rb, rfl, g1, g2, g3, g4, g5, g6, g7, g8⟩
  refine ⟨A', n', c', rfl, ?_⟩
  obtain ⟨e1, e2⟩ := h4.det hp g4
  subst e1
  have T2 := (T1.symm.step g5 g7 (fun x hx => .inl (by rw [← g8]; exact hx))).symm
  have r1 : OwnK W2 W.heap.size (.slice A n c) ks := h2.keep g7 (fun k hk e => by
    have := (h2.lt k hk).1
    have := h.b.dl.lt k e
    omega)
  obtain ⟨A0, c0, e0, k1⟩ := r1.form
  injection e0 with e0 _ _
  subst e0
  obtain ⟨T, q1, q2, _, _⟩ := h4.parts
  have hlen := q2.length_eq
  rw [List.length_append] at hlen
  have hks : ks.length ≤ 80000 := by rw [← q1, List.length_map]; omega
  refine (equal_any W2 A A' n n' c c' ks ks h1 g1 k1 g3 (by omega)).mono ?_
  rintro e W3 ⟨rfl, hb3⟩
  have b2 := b1.trans g6
  exact ⟨by simp, ks, va', Ra, vb', Rb, h4, T2.below hb3, b2.trans (hb3.mono (by have := b2.size; omega)), e2, by omega⟩
theorem final_any {w W : World} {da ma : Nat} {va : Value} {La : List E} {db mb : Nat} {vb : Value} {Lb : List E} (h : Two w.heap.size W da ma va La db mb vb Lb) (hb : Below w.heap.size w W) (hp : La.Perm Lb) (hl : La.length ≤ 80000) (now : Nat) :
    ∀ W0, Below W.heap.size W W0 → Calls Try.prog 14 #[ptr da, .int .u64 (now : Int)] W0 fun e W1 => ∃ A n c, e = .returned (.slice A n c) ∧
      Calls Try.prog 14 #[ptr db, .int .u64 (now : Int)] W1 fun e W2 => ∃ A' n' c', e = .returned (.slice A' n' c') ∧
        Calls Try.prog 18 #[.slice A n c, .slice A' n' c'] W2 fun e W3 => e = .returned (.bool true) ∧
          ∃ ks va' Ra vb' Rb, Tk now La ks Ra ∧ Two w.heap.size W3 da ma va' Ra db mb vb' Rb ∧ Below w.heap.size w W3 ∧ Ra.Perm Rb ∧ Ra.length ≤ 80000 :=
  fun _ h0 => takes_same (h.below h0) (hb.trans (h0.mono hb.size)) rfl hp hl now
set_option maxHeartbeats 4000000 in
theorem order_great (w : World) (A : Option Addr) (n c now : Nat) (hn : 300 < n) : Calls Try.prog 6 #[.slice A n c, .int .u64 (now : Int)] w fun e w' => e = .returned (.bool true) ∧ Below w.heap.size w w' := by
  have hn' : (300 : Int) < (n : Int) := by omega
  have C := Lib.hid (new_b w)
  go_enter Try.func6, Try.ntmps6
  go_wp2_with fail
  refine C.out.mono ?_
  rintro e w1 ⟨d, m, v, rfl, h1, h2⟩
  have C1 := Lib.hid (two_new w w1 h1 h2)
  clear h1 h2 C
  go_wp2_with fail
  refine C1.out.mono ?_
  rintro e w2 ⟨d2, m2, v2, rfl, h1, h2⟩
  have C2 := Lib.hid (fixed_any w2)
  have B2 := Lib.hid h2
  clear h1 h2 C1
  go_wp2_with fail
  refine C2.out.mono ?_
  rintro e w3 ⟨rfl, h3⟩
  have B3 := Lib.hid (B2.out.trans (h3.mono B2.out.size))
  clear h3 C2
  go_wp2_with fail
  go_ret
  exact ⟨rfl, B3.out⟩
set_option maxHeartbeats 8000000 in
theorem order_walk (w : World) (A : Option Addr) (n c now : Nat) (ks : List Nat) (hl : ks.length = n) (hk : Kys w A ks) (ho : ∀ k ∈ ks, k < 18446744073709551616) (hn : n ≤ 300) : Calls Try.prog 6 #[.slice A n c, .int .u64 (now : Int)] w fun e w' => e = .returned (.bool true) ∧ Below w.heap.size w w' := by
  have hn' : (n : Int) ≤ 300 := by omega
  have C := Lib.hid (new_b w)
  have HK := Lib.hid hk
  have HO := Lib.hid (fun i (hi : i < n) => (show ks.getD i 0 < 18446744073709551616 from ho _ (by rw [List.getD_eq_getElem?_getD, List.getElem?_eq_getElem (by omega)]; exact List.getElem_mem _)))
  have HL := Lib.hid hl
  clear hk ho hl
  go_enter Try.func6, Try.ntmps6
  go_wp2_with fail
  refine C.out.mono ?_
  rintro e w1 ⟨d, m, v, rfl, h1, h2⟩
  have C1 := Lib.hid (two_new w w1 h1 h2)
  clear h1 h2 C
  go_wp2_with fail
  refine C1.out.mono ?_
  rintro e w2 ⟨d2, m2, v2, rfl, h1, h2⟩
  have T2 := Lib.hid h1
  have B2 := Lib.hid h2
  clear h1 h2 C1
  go_wp2_with fail
  go_loopw [34] (fun s wr => ∃ (i : Nat) (v' : Value) (L' : List E), s = .int .i64 i ∧ i ≤ n ∧ Hid (Two w.heap.size wr d m v' L' d2 m2 v2 [] ∧ Below w.heap.size w wr ∧ L'.Perm (pr ks 0 i))) (fun s _ => n - (intOf s).toNat)
  case atStart => exact ⟨0, v, [], rfl, by omega, T2.out, B2.out, List.Perm.refl _⟩
  case round =>
    obtain ⟨i, v', L', rfl, hi, H⟩ := hrel
    clear T2 B2
    by_cases ci : i < n
    · obtain ⟨b, off, rfl, x1⟩ := (HK.out.below H.out.2.1) i (by have := HL.out; omega)
      have ci' : (i : Int) < (n : Int) := by omega
      have ci0 : (0 : Int) ≤ (i : Int) := by omega
      have C3 := Lib.hid (set_b H.out.1.a H.out.2.1.size i (ks.getD i 0) (by omega) (HO.out i ci) (by rw [H.out.2.2.length_eq, pr_len]; omega))
      have PS := Lib.hid (fun (L2 : List E) (h2 : L2.Perm (cutL L' i ++ [(i, ks.getD i 0)])) => pr_snoc H.out.2.2 h2)
      generalize ks.getD i 0 = a at *
      go_wp2_with fail
      refine C3.out.mono ?_
      rintro e w3 ⟨rfl, v3, L3, h3, h4, h5, h6, h7⟩
      have T3 := Lib.hid (H.out.1.step h3 h6 h7)
      have B3 := Lib.hid (H.out.2.1.trans h5)
      have P3 := Lib.hid (PS.out L3 h4)
      clear h3 h4 h5 h6 h7 H C3 PS x1
      go_wp2_with fail
      go_roundw
      case rel => exact ⟨i + 1, v3, L3, by go_num, by omega, T3.out, B3.out, P3.out⟩
      case measure => simp [intOf]; omega
    · obtain rfl : i = n := by omega
      have T3 := Lib.hid H.out.1
      have B3 := Lib.hid H.out.2.1
      have P3 := Lib.hid H.out.2.2
      clear H ci
      go_wp2_with fail
      go_loopw [9] (fun s wr => ∃ (j : Nat) (v2' : Value) (L2' : List E), s = .int .i64 ((j : Int) - 1) ∧ j ≤ i ∧ Hid (Two w.heap.size wr d m v' L' d2 m2 v2' L2' ∧ Below w.heap.size w wr ∧ L2'.Perm (pr ks j (i - j)))) (fun s _ => (intOf s + 1).toNat)
      case atStart => exact ⟨i, v2, [], rfl, by omega, T3.out, B3.out, by rw [Nat.sub_self]; exact List.Perm.refl _⟩
      case round =>
        obtain ⟨j, v2', L2', rfl, hj, H⟩ := hrel
        clear T3 B3
        rcases j with _ | j
        · have FIN := Lib.hid (final_any H.out.1 H.out.2.1 (P3.out.trans (by simpa using H.out.2.2.symm)) (by rw [P3.out.length_eq, pr_len]; omega) now)
          have CF := Lib.hid (fixed_any wr)
          clear H P3
          have e0 : ((0 : Nat) : Int) - 1 = -1 := by omega
          go_wp2_with fail
          refine CF.out.mono ?_
          rintro e w4 ⟨rfl, h4⟩
          have F4 := Lib.hid (FIN.out w4 h4)
          clear h4 FIN CF
          go_wp2_with fail
          refine F4.out.mono ?_
          rintro e w5 ⟨A5, n5, c5, rfl, h5⟩
          have F5 := Lib.hid h5
          clear h5 F4
          go_wp2_with fail
          refine F5.out.mono ?_
          rintro e w6 ⟨A6, n6, c6, rfl, h6⟩
          have F6 := Lib.hid h6
          clear h6 F5
          go_wp2_with fail
          refine F6.out.mono ?_
          rintro e w7 ⟨rfl, ks7, va7, Ra7, vb7, Rb7, t7, two7, b7, p7, l7⟩
          have F7 := Lib.hid (takes_same two7 b7 rfl p7 l7 18446744073709551615)
          clear t7 two7 b7 p7 l7 F6
          go_wp2_with fail
          refine F7.out.mono ?_
          rintro e w8 ⟨A8, n8, c8, rfl, h8⟩
          have F8 := Lib.hid h8
          clear h8 F7
          go_wp2_with fail
          refine F8.out.mono ?_
          rintro e w9 ⟨A9, n9, c9, rfl, h9⟩
          have F9 := Lib.hid h9
          clear h9 F8
          go_wp2_with fail
          refine F9.out.mono ?_
          rintro e w10 ⟨rfl, ks10, va10, Ra10, vb10, Rb10, t10, two10, b10, _, _⟩
          have hR := all_taken t10 two10.a.dl
          subst hR
          have CL := Lib.hid (len_any two10.a.dl)
          have BB := Lib.hid b10
          clear t10 two10 b10 F9
          go_wp2_with fail
          refine CL.out.mono ?_
          rintro e w11 ⟨rfl, rfl⟩
          clear CL
          go_wp2_with fail
          go_ret
          exact ⟨rfl, BB.out⟩
        · have e1 : ((j + 1 : Nat) : Int) - 1 = (j : Int) := by omega
          obtain ⟨b, off, rfl, x1⟩ := (HK.out.below H.out.2.1) j (by have := HL.out; omega)
          have ci' : (j : Int) < (i : Int) := by omega
          have ci0 : (0 : Int) ≤ (j : Int) := by omega
          have C3 := Lib.hid (set_b H.out.1.b H.out.2.1.size j (ks.getD j 0) (by omega) (HO.out j (by omega)) (by rw [H.out.2.2.length_eq, pr_len]; omega))
          have PS := Lib.hid (fun (L2 : List E) (h2 : L2.Perm (cutL L2' j ++ [(j, ks.getD j 0)])) => pr_cons (show j < i by omega) H.out.2.2 h2)
          generalize ks.getD j 0 = a at *
          go_wp2_with fail
          refine C3.out.mono ?_
          rintro e w3 ⟨rfl, v3, L3, h3, h4, h5, h6, h7⟩
          have T3 := Lib.hid (H.out.1.symm.step h3 h6 h7).symm
          have B3 := Lib.hid (H.out.2.1.trans h5)
          have P4 := Lib.hid (PS.out L3 h4)
          clear h3 h4 h5 h6 h7 H C3 PS x1
          go_wp2_with fail
          go_roundw
          case rel => exact ⟨j, v3, L3, by go_num, by omega, T3.out, B3.out, P4.out⟩
          case measure => simp [intOf]
end Go.Proofs.Ytnomegopjdgbjaa
