/- The document's Great. -/
import Derived.Test.YtnjndlbhnkhlhaaDoorTrR
namespace Go.Proofs.YtnjndlbhnkhlhaaDoor
open Go Go.RowKit Pk Rl
set_option maxRecDepth 20000

def gr (n : Nd) : Bool := pgreat n.p.L || pgreat n.g.L
def Sm (n : Nd) : Prop := (∀ t ∈ n.p.L, t.2.2.2.2.2.size ≤ maxLen) ∧ (∀ t ∈ n.g.L, t.2.2.2.2.2.size ≤ maxLen)
set_option maxHeartbeats 4000000 in
theorem rtgreat_any (a : Option Addr) (n c : Nat) (L : List Nd) (win : Int) (w : World) (hP : Pt w a n c L) (hS : ∀ v ∈ L, Sm v) (h50 : n ≤ 50) :
    Calls Tryd.prog 6 #[ptv a n c win] w fun e w' => e = .returned (.bool (L.any gr)) ∧ Below w.heap.size w w' := by
  have K0 := Lib.hid (Pbx.start w a n c win)
  have HN := Lib.hid hP.len
  have HP := Lib.hid hP
  have HS := Lib.hid hS
  obtain ⟨r, hr⟩ : ∃ r, L.any gr = r := ⟨_, rfl⟩
  rw [hr]
  have HR := Lib.hid hr
  clear hr hP hS
  have c50 : ¬ (50 : Int) < (n : Int) := by omega
  go_enter Tryd.func6, Tryd.ntmps6
  go_wp2_with fail
  go_loopw [11] (fun v26 W => ∃ (i : Nat), v26 = .int .i64 (i : Int) ∧ i ≤ n ∧ Hid (Pbx w W w.heap.size a n c win ∧ (L.take i).any gr = false)) (fun v26 _ => n - (intOf v26).toNat)
  case atStart => exact ⟨0, rfl, by omega, Lib.hid ⟨K0.out, rfl⟩⟩
  case round =>
    obtain ⟨i, rfl, hi, H⟩ := hrel
    have K1 := Lib.hid H.out.1
    have HD := Lib.hid H.out.2
    clear H K0
    have p0 := K1.out.c0
    by_cases ci : i < n
    · obtain ⟨b, off, rfl, hat⟩ := (HP.out.row.below K1.out.bel) i (by have := HN.out; omega)
      have ME := Lib.hid (ngetD_mem L i (by have := HN.out; omega))
      have TS := Lib.hid (show L.take (i + 1) = L.take i ++ [L.getD i nz] by
        rw [List.take_succ_eq_append_getElem (by have := HN.out; omega), List.getD_eq_getElem?_getD, List.getElem?_eq_getElem (by have := HN.out; omega)]; rfl)
      obtain ⟨x, hx⟩ : ∃ x, L.getD i nz = x := ⟨_, rfl⟩
      rw [hx] at hat TS ME
      have NK := HP.out.ok x ME.out
      have SX := HS.out x ME.out
      have M1 := Lib.hid (fun W (hW : Below w.heap.size w W) => pgreat_any x.p.x x.p.t x.p.a x.p.n x.p.c x.p.L W NK.p.len (by have := NK.p.few; omega) (NK.p.row.below hW) SX.1)
      have M2 := Lib.hid (fun W (hW : Below w.heap.size w W) => pgreat_any x.g.x x.g.t x.g.a x.g.n x.g.c x.g.L W NK.g.len (by have := NK.g.few; omega) (NK.g.row.below hW) SX.2)
      obtain ⟨z1, hz1⟩ : ∃ z, pgreat x.p.L = z := ⟨_, rfl⟩
      obtain ⟨z2, hz2⟩ : ∃ z, pgreat x.g.L = z := ⟨_, rfl⟩
      rw [hz1] at M1
      rw [hz2] at M2
      have HZ := Lib.hid (show gr x = (z1 || z2) by unfold gr; rw [hz1, hz2])
      have TA := Lib.hid (show (z1 || z2) = false → (L.take (i + 1)).any gr = false from fun h => by rw [TS.out, List.any_append, HD.out, List.any_cons, HZ.out, h]; rfl)
      have TB := Lib.hid (show (z1 || z2) = true → L.any gr = true from fun h => List.any_eq_true.2 ⟨x, ME.out, by rw [HZ.out, h]⟩)
      clear hx hz1 hz2 NK ME TS HZ HD SX
      obtain ⟨xk, ⟨xx, xt, xa, xn, xc, xL⟩, xy, ⟨yx, yt, ya, yn, yc, yL⟩, xlo, xhi, xs⟩ := x
      have X1 := Lib.hid hat
      obtain ⟨e0, e1, e2, e3, e4, e5, e6, e7, e8, e9, e10⟩ := hat
      simp only at e0 e1 e2 e3 e4 e5 e6 e7 e8 e9 e10 M1 M2
      go_wp2_with fail
      refine (M1.out _ K1.out.bel).mono ?_
      rintro e w5 ⟨rfl, hb⟩
      have K5 := Lib.hid (K1.out.next hb)
      have X5 := Lib.hid (X1.out.below hb X1.out.lt)
      clear hb K1 X1 M1 p0 e0 e1 e2 e3 e4 e5 e6 e7 e8 e9 e10
      have p0 := K5.out.c0
      obtain ⟨e0, e1, e2, e3, e4, e5, e6, e7, e8, e9, e10⟩ := X5.out
      simp only at e0 e1 e2 e3 e4 e5 e6 e7 e8 e9 e10
      cases z1
      · go_wp2_with fail
        refine (M2.out _ K5.out.bel).mono ?_
        rintro e w6 ⟨rfl, hb⟩
        have K6 := Lib.hid (K5.out.next hb)
        clear hb K5 X5 M2 p0 e0 e1 e2 e3 e4 e5 e6 e7 e8 e9 e10
        cases z2
        · have TA2 := Lib.hid (TA.out (by first | rfl | trivial))
          clear TA TB
          go_wp2_with fail
          go_roundw
          case rel => exact ⟨i + 1, by go_num, by omega, Lib.hid ⟨K6.out, TA2.out⟩⟩
          case measure => simp [intOf]; omega
        · have HR1 := HR.out
          rw [TB.out (by first | rfl | trivial)] at HR1
          subst HR1
          clear TA TB
          go_wp2_with fail
          go_ret
          exact ⟨rfl, K6.out.bel⟩
      · have HR1 := HR.out
        rw [TB.out (by first | rfl | trivial)] at HR1
        subst HR1
        clear TA TB
        go_wp2_with fail
        go_ret
        exact ⟨rfl, K5.out.bel⟩
    · obtain rfl : i = n := by omega
      have E : r = false := by have := HD.out; rw [List.take_of_length_le (by have := HN.out; omega)] at this; rw [← HR.out, this]
      subst E
      clear HD HN HP p0
      go_wp2_with fail
      go_ret
      exact ⟨rfl, K1.out.bel⟩
end Go.Proofs.YtnjndlbhnkhlhaaDoor
