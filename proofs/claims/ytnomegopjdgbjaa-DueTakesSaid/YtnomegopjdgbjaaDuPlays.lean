/- Any row of operations is answered as the document says: the walk of the statement's function. -/
import Derived.Test.YtnomegopjdgbjaaDuDo2
import Derived.Test.YtnomegopjdgbjaaDuLift
import Derived.Lib.MinMax
namespace Go.Proofs.Ytnomegopjdgbjaa
open Go Go.RowKit
set_option maxRecDepth 20000

theorem cut_ops (w : World) (A : Option Addr) (n c : Nat) (hc : n ≤ c) : Calls Try.prog 9 #[.slice A n c] w fun e w' => e = .returned (.slice A (min n 200) c) ∧ w' = w := by
  have hc' : (n : Int) ≤ (c : Int) := by omega
  have hm : min (n : Int) 200 ≤ (c : Int) := by omega
  have hm0 : 0 ≤ min (n : Int) 200 := by omega
  have e : (min (n : Int) 200).toNat = min n 200 := by omega
  have HE := Lib.hid e
  clear e
  go_enter Try.func9, Try.ntmps9
  go_wp2_with fail
  go_ret
  exact ⟨by rw [← HE.out]; rfl, rfl⟩
theorem least_same {L l : List E} {b : Nat} (hh : Hp L.length L) (hp : L.Perm l) (hb : Lst l l.length b) (h0 : 0 < L.length) : g L 0 = g l b := by
  obtain ⟨i, hi, e⟩ := mem_g (hp.mem_iff.2 (g_mem l b hb.1))
  obtain ⟨j, hj, e'⟩ := mem_g (hp.mem_iff.1 (g_mem L 0 h0))
  refine le_anti ?_ ?_
  · rw [← e]; exact hh.first i hi
  · rw [← e']; exact hb.2 j hj
theorem Done.open {B : Nat} {W w' : World} {d m n : Nat} {e : Ending} (h : Done B W d m n e w') : ∃ A' n' c' v' L' l', e = .returned (.tuple #[.bool true, .slice A' n' c']) ∧ Pl B w' d m v' L' A' l' ∧ l'.length = n' ∧ n' ≤ n + 1 ∧ Below B W w' := h
set_option maxHeartbeats 8000000 in
theorem plays_walk (w : World) (A : Option Addr) (n c : Nat) (O : List OP) (hl : O.length = n) (hc : n ≤ c) (hO : Oprs w A O) (hok : ∀ o ∈ O, Oko o) : Calls Try.prog 3 #[.slice A n c] w fun e w' => e = .returned (.bool true) ∧ Below w.heap.size w w' := by
  have C := Lib.hid (new_b w)
  have HO := Lib.hid hO
  have HL := Lib.hid hl
  have HK := Lib.hid (fun i (hi : i < n) => (show Oko (O.getD i oz) from hok _ (by rw [List.getD_eq_getElem?_getD, List.getElem?_eq_getElem (by omega)]; exact List.getElem_mem _)))
  have CC := Lib.hid (fun W => cut_ops W A n c hc)
  clear hO hl hok hc
  go_enter Try.func3, Try.ntmps3
  go_wp2_with fail
  refine C.out.mono ?_
  rintro e w1 ⟨d, m, v, rfl, h1, h2⟩
  have C1 := Lib.hid (fixed_any w1)
  have D1 := Lib.hid h1
  have B1 := Lib.hid h2
  clear h1 h2 C
  go_wp2_with fail
  refine C1.out.mono ?_
  rintro e w2 ⟨rfl, h3⟩
  have P2 : Hid (Pl w.heap.size w2 d m v [] none []) := ⟨D1.out.below h3, List.Perm.refl _, Prs.nil _ _, fun x e => (by cases e), fun x e => (by cases e)⟩
  have B2 := Lib.hid (B1.out.trans (h3.mono B1.out.size))
  clear h3 C1 D1 B1
  go_wp2_with fail
  refine (CC.out _).mono ?_
  rintro e w3 ⟨rfl, rfl⟩
  clear CC
  have hmn : min n 200 ≤ n := by omega
  have hm2 : min n 200 ≤ 200 := by omega
  generalize min n 200 = q at *
  go_wp2_with fail
  go_loopw [21, 4] (fun s t wr => ∃ (i : Nat) (A' : Option Addr) (n' c' : Nat) (v' : Value) (L' l' : List E), s = .int .i64 i ∧ t = .slice A' n' c' ∧ i ≤ q ∧ n' ≤ i ∧ Hid (Pl w.heap.size wr d m v' L' A' l' ∧ l'.length = n' ∧ Below w.heap.size w wr)) (fun s _ _ => q - (intOf s).toNat)
  case atStart => exact ⟨0, none, 0, 0, v, [], [], rfl, rfl, by omega, by omega, P2.out, rfl, B2.out⟩
  case round =>
    obtain ⟨i, A', n', c', v', L', l', rfl, rfl, hi, hn', H⟩ := hrel
    clear P2 B2
    by_cases ci : i < q
    · obtain ⟨b, off, rfl, x0, x1, x2⟩ := (HO.out.below H.out.2.2) i (by have := HL.out; omega)
      have hbl : b < wr.heap.size := World.block_lt_of_cell? _ _ x0
      have ci' : (i : Int) < (q : Int) := by omega
      have ci0 : (0 : Int) ≤ (i : Int) := by omega
      have ok := HK.out i (by omega)
      generalize O.getD i oz = op at *
      obtain ⟨kq, kk, ka⟩ := op
      have k1 := ok.k
      have k2 := ok.a
      simp only at x0 x1 x2 k1 k2
      have BA := below_alloc wr (opc kq kk ka)
      have C2 := Lib.hid (do_any (H.out.1.below BA) (by have := H.out.2.2.size; simp; omega) n' c' H.out.2.1 (by omega) kq kk ka k1 k2)
      have B1 := Lib.hid (H.out.2.2.trans (BA.mono H.out.2.2.size))
      clear H ok BA k1 k2
      go_wp2_with fail
      refine C2.out.mono ?_
      intro e w4 hD
      obtain ⟨A4, n4, c4, v4, L4, l4, rfl, p1, p2, p3, p4⟩ := hD.open
      have P4 := Lib.hid p1
      have N4 := Lib.hid p2
      have B4 := Lib.hid (B1.out.trans p4)
      clear p1 p2 p4 hD C2 B1 x0 x1 x2 hbl
      have LL := Lib.hid P4.out.len
      have CL := Lib.hid (fun W (hb : Below w4.heap.size w4 W) => len_any (P4.out.db.dl.below hb))
      rw [LL.out, N4.out] at CL
      rcases Nat.eq_zero_or_pos n4 with rfl | hpos
      · have hnil : L4 = [] := List.eq_nil_of_length_eq_zero (by rw [LL.out, N4.out])
        have C3 := Lib.hid (show _ from next_none (hnil ▸ P4.out.db.dl))
        have C4 := Lib.hid (rnext_nil w4 A4 c4)
        clear hnil
        go_wp2_with fail
        refine C3.out.mono ?_
        rintro e w5 ⟨rfl, rfl⟩
        clear C3
        go_wp2_with fail
        refine C4.out.mono ?_
        rintro e w6 ⟨rfl, rfl⟩
        clear C4
        go_wp2_with fail
        refine (CL.out _ (Below.refl _ _)).mono ?_
        rintro e w7 ⟨rfl, rfl⟩
        go_wp2_with fail
        go_roundw
        case rel => exact ⟨i + 1, A4, 0, c4, v4, L4, l4, by go_num, rfl, by omega, by omega, P4.out, N4.out, B4.out⟩
        case measure => simp [intOf]; omega
      · have hp4 : 0 < L4.length := by rw [LL.out, N4.out]; exact hpos
        have C3 := Lib.hid (next_some P4.out.db.dl hp4)
        have C4 := Lib.hid (rnext_some w4 A4 n4 c4 l4 N4.out P4.out.prs hpos (by omega))
        have LS := Lib.hid (fun b (hb : Lst l4 n4 b) => least_same P4.out.db.dl.hp P4.out.perm (b := b) (by rw [N4.out]; exact hb) hp4)
        generalize g L4 0 = y at *
        obtain ⟨y1, y2⟩ := y
        simp only at C3
        go_wp2_with fail
        refine C3.out.mono ?_
        rintro e w5 ⟨rfl, rfl⟩
        clear C3
        go_wp2_with fail
        refine C4.out.mono ?_
        rintro e w6 ⟨b, rfl, hL, hb6⟩
        clear C4
        have hbn := hL.1
        have hb' : (b : Int) < (n4 : Int) := by omega
        have hb0 : (0 : Int) ≤ (b : Int) := by omega
        obtain ⟨ab, ao, rfl, z1, z2⟩ := (P4.out.prs.below hb6) b (by rw [N4.out]; exact hbn)
        rw [← LS.out b hL] at z2
        simp only at z2
        have C5 := Lib.hid (CL.out w6 hb6)
        have P6 := Lib.hid (P4.out.below hb6)
        have B6 := Lib.hid (B4.out.trans (hb6.mono B4.out.size))
        clear z1 hL hb6 CL
        go_wp2_with fail
        refine C5.out.mono ?_
        rintro e w7 ⟨rfl, rfl⟩
        clear C5
        go_wp2_with fail
        go_roundw
        case rel => exact ⟨i + 1, _, n4, c4, v4, L4, l4, by go_num, rfl, by omega, by omega, P6.out, N4.out, B6.out⟩
        case measure => simp [intOf]; omega
    · obtain rfl : i = q := by omega
      have BB := Lib.hid H.out.2.2
      clear H ci
      go_wp2_with fail
      go_ret
      exact ⟨rfl, BB.out⟩
end Go.Proofs.Ytnomegopjdgbjaa
