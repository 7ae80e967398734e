/- What is taken rises, isn't there any more, and what is left is due later: the walk of the statement's function. -/
import Derived.Test.YtnomegopjdgbjaaDuPlays
namespace Go.Proofs.Ytnomegopjdgbjaa
open Go Go.RowKit
set_option maxRecDepth 20000

theorem taken_gone {now : Nat} {L : List E} {ks : List Nat} {R : List E} (h : Tk now L ks R) (ho : Once L) (i : Nat) (hi : i < ks.length) : ∀ e ∈ R, e.1 ≠ ks.getD i 0 := fun e he e1 => by
  obtain ⟨T, rfl, hp, _, _⟩ := h.parts
  have h1 := ho.perm hp
  have h2 := (List.pairwise_append.1 h1).2.2
  rw [List.length_map] at hi
  have h3 := h2 T[i] (List.getElem_mem _) e he
  rw [List.getD_eq_getElem?_getD, List.getElem?_map, List.getElem?_eq_getElem hi] at e1
  exact h3 e1.symm
/- what is asked of a list behind a Take -/
theorem rest_any {B : Nat} {W : World} {d m : Nat} {v : Value} {R : List E} (h : Db B W d m v R) (hB : B ≤ W.heap.size) (now : Nat) (hl : R.length ≤ 1000) (hr : ∀ e ∈ R, now < e.2) :
    Calls Try.prog 14 #[ptr d, .int .u64 (now : Int)] W fun e w' => ∃ A c, e = .returned (.slice A 0 c) ∧ Below B W w' ∧ Calls Try.prog 13 #[ptr d] w' fun e w'' => e = .returned (.int .i64 (R.length : Int)) ∧ w'' = w' := by
  refine (take_b h hB now (by omega)).mono ?_
  rintro e w' ⟨A, n, c, ks, v', R', rfl, f1, _, _, f4, f5, f6, _, _⟩
  obtain ⟨e1, e2⟩ := f4.none hr
  subst e1
  subst f1
  rw [e2.length_eq]
  exact ⟨A, c, rfl, f6, len_any f5.dl⟩
set_option maxHeartbeats 8000000 in
theorem takes_walk (w : World) (A : Option Addr) (n c now : Nat) (O : List OP) (hl : O.length = n) (hc : n ≤ c) (hO : Oprs w A O) (hok : ∀ o ∈ O, Oko o) : Calls Try.prog 4 #[.slice A n c, .int .u64 (now : Int)] w fun e w' => e = .returned (.bool true) ∧ Below w.heap.size w w' := by
  have C := Lib.hid (new_b w)
  have HO := Lib.hid hO
  have HL := Lib.hid hl
  have HK := Lib.hid (fun i (hi : i < n) => (show Oko (O.getD i oz) from hok _ (by rw [List.getD_eq_getElem?_getD, List.getElem?_eq_getElem (by omega)]; exact List.getElem_mem _)))
  have CC := Lib.hid (fun W => cut_ops W A n c hc)
  clear hO hl hok hc
  go_enter Try.func4, Try.ntmps4
  go_wp2_with fail
  refine C.out.mono ?_
  rintro e w1 ⟨d, m, v, rfl, h1, h2⟩
  have C1 := Lib.hid (fixed_any w1)
  have D1 := Lib.hid h1
  have B1 := Lib.hid h2
  clear h1 h2 C
  go_wp2_with fail
  refine C1.out.mono ?_
  rintro e w2 ⟨rfl, h3⟩
  have P2 : Hid (Pl w.heap.size w2 d m v [] none []) := ⟨D1.out.below h3, List.Perm.refl _, Prs.nil _ _, fun x e => (by cases e), fun x e => (by cases e)⟩
  have B2 := Lib.hid (B1.out.trans (h3.mono B1.out.size))
  clear h3 C1 D1 B1
  go_wp2_with fail
  refine (CC.out _).mono ?_
  rintro e w3 ⟨rfl, rfl⟩
  clear CC
  have hmn : min n 200 ≤ n := by omega
  have hm2 : min n 200 ≤ 200 := by omega
  generalize min n 200 = q at *
  go_wp2_with fail
  go_loopw [26, 6] (fun s t wr => ∃ (i : Nat) (A' : Option Addr) (n' c' : Nat) (v' : Value) (L' l' : List E), s = .int .i64 i ∧ t = .slice A' n' c' ∧ i ≤ q ∧ n' ≤ i ∧ Hid (Pl w.heap.size wr d m v' L' A' l' ∧ l'.length = n' ∧ Below w.heap.size w wr)) (fun s _ _ => q - (intOf s).toNat)
  case atStart => exact ⟨0, none, 0, 0, v, [], [], rfl, rfl, by omega, by omega, P2.out, rfl, B2.out⟩
  case round =>
    obtain ⟨i, A', n', c', v', L', l', rfl, rfl, hi, hn', H⟩ := hrel
    clear P2 B2
    by_cases ci : i < q
    · obtain ⟨b, off, rfl, x0, x1, x2⟩ := (HO.out.below H.out.2.2) i (by have := HL.out; omega)
      have hbl : b < wr.heap.size := World.block_lt_of_cell? _ _ x0
      have ci' : (i : Int) < (q : Int) := by omega
      have ci0 : (0 : Int) ≤ (i : Int) := by omega
      have ok := HK.out i (by omega)
      generalize O.getD i oz = op at *
      obtain ⟨kq, kk, ka⟩ := op
      have k1 := ok.k
      have k2 := ok.a
      simp only at x0 x1 x2 k1 k2
      have BA := below_alloc wr (opc kq kk ka)
      have C2 := Lib.hid (do_any (H.out.1.below BA) (by have := H.out.2.2.size; simp; omega) n' c' H.out.2.1 (by omega) kq kk ka k1 k2)
      have B1 := Lib.hid (H.out.2.2.trans (BA.mono H.out.2.2.size))
      clear H ok BA k1 k2
      go_wp2_with fail
      refine C2.out.mono ?_
      intro e w4 hD
      obtain ⟨A4, n4, c4, v4, L4, l4, rfl, p1, p2, p3, p4⟩ := hD.open
      have P4 := Lib.hid p1
      have N4 := Lib.hid p2
      have B4 := Lib.hid (B1.out.trans p4)
      clear p1 p2 p4 hD C2 B1 x0 x1 x2 hbl
      go_wp2_with fail
      go_roundw
      case rel => exact ⟨i + 1, A4, n4, c4, v4, L4, l4, by go_num, rfl, by omega, by omega, P4.out, N4.out, B4.out⟩
      case measure => simp [intOf]; omega
    · obtain rfl : i = q := by omega
      have hLn : L'.length = n' := by rw [H.out.1.len, H.out.2.1]
      have C2 := Lib.hid (take_b H.out.1.db H.out.2.2.size now (by omega))
      have B1 := Lib.hid H.out.2.2
      have ON := Lib.hid H.out.1.db.dl.once
      have HLN := Lib.hid hLn
      have OKL := Lib.hid H.out.1.db.dl.ok
      clear H ci hLn
      go_wp2_with fail
      refine C2.out.mono ?_
      rintro e w4 ⟨A4, n4, c4, ks, v4, R, rfl, f1, _, f3, f4, f5, f6, _, _⟩
      obtain ⟨T, q1, q2, _, q4⟩ := f4.parts
      have hlen := q2.length_eq
      rw [List.length_append] at hlen
      have hks : ks.length = T.length := by rw [← q1, List.length_map]
      have hsum : R.length + n4 = n' := by have := HLN.out; omega
      have GONE := Lib.hid (fun j (hj : j < n4) => taken_gone f4 ON.out j (by omega))
      have KB := Lib.hid (fun j (hj : j < n4) => show ks.getD j 0 < 18446744073709551616 from by
        have hjT : j < T.length := by omega
        rw [← q1, List.getD_eq_getElem?_getD, List.getElem?_map, List.getElem?_eq_getElem hjT]
        exact (OKL.out _ (q2.mem_iff.2 (List.mem_append_left _ (List.getElem_mem hjT)))).1)
      have K4 := Lib.hid f3
      have L4 := Lib.hid f1
      have D4 := Lib.hid f5
      have B4 := Lib.hid (B1.out.trans f6)
      have LATE := Lib.hid q4
      have SUM := Lib.hid hsum
      have hn4 : n4 ≤ 1000 := by omega
      clear f1 f3 f4 f5 f6 q1 q2 q4 hlen hks hsum C2 B1 ON HLN
      go_wp2_with fail
      go_loopw [43] (fun s wr => ∃ (j : Nat), s = .int .i64 j ∧ j ≤ n4 ∧ wr = w4) (fun s _ => n4 - (intOf s).toNat)
      case atStart => exact ⟨0, rfl, by omega, rfl⟩
      case round =>
        obtain ⟨j, rfl, hj, rfl⟩ := hrel
        by_cases cj : j < n4
        · obtain ⟨b, off, rfl, x0⟩ := K4.out j (by have := L4.out; omega)
          have cj' : (j : Int) < (n4 : Int) := by omega
          have cj0 : (0 : Int) ≤ (j : Int) := by omega
          have C3 := Lib.hid (at_none D4.out.dl (ks.getD j 0) (KB.out j cj) (GONE.out j cj))
          generalize ks.getD j 0 = kx at *
          go_wp2_with fail
          refine C3.out.mono ?_
          rintro e w5 ⟨rfl, rfl⟩
          clear C3
          go_wp2_with fail
          go_roundw
          case rel => exact ⟨j + 1, by go_num, by omega, by first | rfl | trivial⟩
          case measure => simp [intOf]; omega
        · obtain rfl : j = n4 := by omega
          have C4 := Lib.hid (rest_any D4.out B4.out.size now (by have := SUM.out; omega) LATE.out)
          by_cases hR : R = []
          · have C3 := Lib.hid (show _ from next_none (hR ▸ D4.out.dl))
            go_wp2_with fail
            refine C3.out.mono ?_
            rintro e w5 ⟨rfl, rfl⟩
            clear C3
            go_wp2_with fail
            refine C4.out.mono ?_
            rintro e w6 ⟨A6, c6, rfl, b6, C5⟩
            have C5 := Lib.hid C5
            have B6 := Lib.hid (B4.out.trans b6)
            clear b6 C4
            have es : ((R.length : Int) + (j : Int)) = (n' : Int) := by have := SUM.out; omega
            generalize R.length = rl at *
            go_wp2_with fail
            refine C5.out.mono ?_
            rintro e w7 ⟨rfl, rfl⟩
            clear C5
            go_wp2_with fail
            go_ret
            exact ⟨rfl, B6.out⟩
          · have hpos : 0 < R.length := List.length_pos_iff.2 hR
            have C3 := Lib.hid (next_some D4.out.dl hpos)
            have hlate : now < (g R 0).2 := LATE.out _ (g_mem R 0 hpos)
            generalize (g R 0).2 = y at *
            have hl' : (now : Int) < (y : Int) := by omega
            go_wp2_with fail
            refine C3.out.mono ?_
            rintro e w5 ⟨rfl, rfl⟩
            clear C3
            go_wp2_with fail
            refine C4.out.mono ?_
            rintro e w6 ⟨A6, c6, rfl, b6, C5⟩
            have C5 := Lib.hid C5
            have B6 := Lib.hid (B4.out.trans b6)
            clear b6 C4
            have es : ((R.length : Int) + (j : Int)) = (n' : Int) := by have := SUM.out; omega
            generalize R.length = rl at *
            go_wp2_with fail
            refine C5.out.mono ?_
            rintro e w7 ⟨rfl, rfl⟩
            clear C5
            go_wp2_with fail
            go_ret
            exact ⟨rfl, B6.out⟩
end Go.Proofs.Ytnomegopjdgbjaa
