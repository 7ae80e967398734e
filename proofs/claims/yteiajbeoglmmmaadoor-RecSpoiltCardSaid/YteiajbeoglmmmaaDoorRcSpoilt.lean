/- RecSpoilt: the walk of the statement's own function. -/
import Derived.Test.YteiajbeoglmmmaaDoorRcG
import Derived.Test.YteiajbeoglmmmaaDoorRcFr2
import Derived.ChangeKeysEq
namespace Go.Proofs.YteiajbeoglmmmaaDoor
open Go Go.RowKit Crc
set_option maxRecDepth 20000

def agg4 (x0 x1 x2 x3 : Int) : Array Value := #[.int .u8 x0, .int .u8 x1, .int .u8 x2, .int .u8 x3]
theorem part5 (x0 x1 x2 x3 : Int) (w : World) : (part 5 (agg4 x0 x1 x2 x3) (0 * 1)).run Tryd.prog w = .ok (.int .u8 x0) w ∧ (part 5 (agg4 x0 x1 x2 x3) (1 * 1)).run Tryd.prog w = .ok (.int .u8 x1) w ∧
    (part 5 (agg4 x0 x1 x2 x3) (2 * 1)).run Tryd.prog w = .ok (.int .u8 x2) w ∧ (part 5 (agg4 x0 x1 x2 x3) (3 * 1)).run Tryd.prog w = .ok (.int .u8 x3) w :=
  ⟨by kernel_rfl, by kernel_rfl, by kernel_rfl, by kernel_rfl⟩
theorem eqStep (xs ys : Array Value) (i : Nat) (is : List Nat) (a b : Int) (w : World) (ha : (part 5 xs (i * 1)).run Tryd.prog w = .ok (.int .u8 a) w) (hb : (part 5 ys (i * 1)).run Tryd.prog w = .ok (.int .u8 b) w) :
    (Op.eqItems 9999 5 1 xs ys (i :: is)).run Tryd.prog w = if a = b then (Op.eqItems 9999 5 1 xs ys is).run Tryd.prog w else .ok false w := by
  rw [Op.eqItems]
  simp only [Sem.run_bind, ha, hb, Result.andThen_ok, run_equalIn_int w 9998 5 .u8 .u8 a b Tryd.underlying5]
  by_cases h : a = b
  · simp [h]
  · simp [h]
theorem eq4 (x0 x1 x2 x3 : Int) (w : World) : (Op.equalIn 10000 44 (.agg (agg4 x0 x1 x2 x3)) (.agg (agg4 0 0 0 0))).run Tryd.prog w = .ok (decide (x0 = 0 ∧ x1 = 0 ∧ x2 = 0 ∧ x3 = 0)) w := by
  obtain ⟨i, hi, _⟩ := info5
  rw [run_equalIn_array w 9999 _ _ Tryd.underlying44 hi, show Tryd.prog.cellsOf 5 = 1 by kernel_rfl, show List.range 4 = [0, 1, 2, 3] from rfl]
  obtain ⟨p0, p1, p2, p3⟩ := part5 x0 x1 x2 x3 w
  obtain ⟨q0, q1, q2, q3⟩ := part5 0 0 0 0 w
  rw [eqStep _ _ _ _ _ _ _ p0 q0, eqStep _ _ _ _ _ _ _ p1 q1, eqStep _ _ _ _ _ _ _ p2 q2, eqStep _ _ _ _ _ _ _ p3 q3, Op.eqItems, Sem.run_pure]
  by_cases h0 : x0 = 0 <;> by_cases h1 : x1 = 0 <;> by_cases h2 : x2 = 0 <;> by_cases h3 : x3 = 0 <;> simp [h0, h1, h2, h3]
theorem xor8 (b x : Int) (hb : 0 ≤ b ∧ b < 256) (hx : 0 ≤ x ∧ x < 256) : ∃ e : Int, bits .xor .u8 b x = e ∧ (0 ≤ e ∧ e < 256) ∧ bo e = bo b ^^^ bo x := by
  refine ⟨_, rfl, ?_⟩
  rw [u8_xor b x hb.1 hb.2 hx.1 hx.2]
  have hlt : b.toNat ^^^ x.toNat < 2 ^ 8 := Nat.xor_lt_two_pow (by omega) (by omega)
  refine ⟨by omega, ?_⟩
  unfold bo
  rw [Int.toNat_natCast]
  apply BitVec.eq_of_toNat_eq
  rw [BitVec.toNat_xor, BitVec.toNat_ofNat, BitVec.toNat_ofNat, BitVec.toNat_ofNat, Nat.mod_eq_of_lt (by omega), Nat.mod_eq_of_lt (by omega), Nat.mod_eq_of_lt (by omega)]
theorem idx4 (x0 x1 x2 x3 : Int) (w : World) : (Instr.index 44 (.agg #[.int .u8 x0, .int .u8 x1, .int .u8 x2, .int .u8 x3]) (.int .i64 0)).run Tryd.prog w = .ok (.int .u8 x0) w ∧
    (Instr.index 44 (.agg #[.int .u8 x0, .int .u8 x1, .int .u8 x2, .int .u8 x3]) (.int .i64 1)).run Tryd.prog w = .ok (.int .u8 x1) w ∧
    (Instr.index 44 (.agg #[.int .u8 x0, .int .u8 x1, .int .u8 x2, .int .u8 x3]) (.int .i64 2)).run Tryd.prog w = .ok (.int .u8 x2) w ∧
    (Instr.index 44 (.agg #[.int .u8 x0, .int .u8 x1, .int .u8 x2, .int .u8 x3]) (.int .i64 3)).run Tryd.prog w = .ok (.int .u8 x3) w :=
  ⟨by kernel_rfl, by kernel_rfl, by kernel_rfl, by kernel_rfl⟩
theorem box4 {w w1 : World} {x0 x1 x2 x3 : Int} (hb : Below (w.heap.size + 1) (w.alloc (.cells #[.int .u8 x0, .int .u8 x1, .int .u8 x2, .int .u8 x3] 44)) w1) :
    w1.cell? ⟨w.heap.size, 0, none⟩ = some (.int .u8 x0) ∧ w1.cell? ⟨w.heap.size, 1, none⟩ = some (.int .u8 x1) ∧ w1.cell? ⟨w.heap.size, 2, none⟩ = some (.int .u8 x2) ∧ w1.cell? ⟨w.heap.size, 3, none⟩ = some (.int .u8 x3) := by
  have h : ∀ i, w1.cell? ⟨w.heap.size, i, none⟩ = (#[Value.int .u8 x0, .int .u8 x1, .int .u8 x2, .int .u8 x3])[i]? := fun i => by
    rw [hb.cell (p := ⟨w.heap.size, i, none⟩) (Nat.lt_succ_self _), World.cell?_alloc_mark]
  exact ⟨h 0, h 1, h 2, h 3⟩
set_option maxHeartbeats 1000000 in
theorem spoilt_great (a : Option Addr) (n c : Nat) (y : Int) (x0 x1 x2 x3 : Int) (w : World) (ht : Tab w) (h : 5000 < n ∨ decide (x0 = 0 ∧ x1 = 0 ∧ x2 = 0 ∧ x3 = 0) = true) :
    Calls Tryd.prog 6 #[.slice a n c, .int .u16 y, .agg #[.int .u8 x0, .int .u8 x1, .int .u8 x2, .int .u8 x3]] w fun e w' => e = .returned (.bool true) ∧ Below w.heap.size w w' := by
  have B0 := Lib.hid (below_alloc w (.cells #[.int .u8 x0, .int .u8 x1, .int .u8 x2, .int .u8 x3] 44))
  have F := Lib.hid (fixed_any _ (ht.below B0.out ht.lt))
  have heq : ∀ w : World, (Op.equalIn 10000 44 (.agg #[.int .u8 x0, .int .u8 x1, .int .u8 x2, .int .u8 x3]) (.agg #[.int .u8 0, .int .u8 0, .int .u8 0, .int .u8 0])).run Tryd.prog w = .ok (decide (x0 = 0 ∧ x1 = 0 ∧ x2 = 0 ∧ x3 = 0)) w := eq4 x0 x1 x2 x3
  clear ht
  by_cases h5 : 5000 < n
  · have hd : decide ((5000 : Int) < (n : Int)) = true := by simp; omega
    clear heq h
    go_enter Tryd.func6, Tryd.ntmps6
    go_wp2_with fail
    refine F.out.mono ?_
    rintro e w1 ⟨rfl, hb1⟩
    go_wp2
    go_ret
    exact ⟨rfl, below_go B0.out hb1⟩
  · have hd : decide ((5000 : Int) < (n : Int)) = false := by simp; omega
    have hz := h.resolve_left h5
    rw [hz] at heq
    clear h hz h5
    go_enter Tryd.func6, Tryd.ntmps6
    go_wp2_with fail
    refine F.out.mono ?_
    rintro e w1 ⟨rfl, hb1⟩
    go_wp2
    go_ret
    exact ⟨rfl, below_go B0.out hb1⟩
/- the four stores and what is found then -/
theorem Ex.set {w : World} {g : Nat} {L : List Int} (h : Ex w g L) (j : Nat) (e : Int) : Ex (w.setCell ⟨g, j, none⟩ (.int .u8 e)) g (L.set j e) := by
  unfold Ex at *
  simp [World.setCell, Array.getElem?_modify, h, List.map_set]
theorem Ex.cell {w : World} {g : Nat} {L : List Int} (h : Ex w g L) (j : Nat) (hj : j < L.length) : w.cell? ⟨g, j, none⟩ = some (.int .u8 (L.getD j 0)) := by
  rw [cell_of_row w g j _ 5 (0, 0) h]
  simp [List.getElem?_eq_getElem hj]
theorem Ex.frozen {w : World} {g : Nat} {L : List Int} (h : Ex w g L) (j : Nat) : w.frozen? ⟨g, j, none⟩ = false := by
  simp [World.frozen?, show w.heap[g]? = _ from h]
theorem mid4 (P S : List Int) (b0 b1 b2 b3 : Int) (k : Nat) (hP : P.length = k) : (P ++ ([b0, b1, b2, b3] ++ S)).getD k 0 = b0 ∧ (P ++ ([b0, b1, b2, b3] ++ S)).getD (k + 1) 0 = b1 ∧ (P ++ ([b0, b1, b2, b3] ++ S)).getD (k + 2) 0 = b2 ∧ (P ++ ([b0, b1, b2, b3] ++ S)).getD (k + 3) 0 = b3 := by
  subst hP
  refine ⟨?_, ?_, ?_, ?_⟩ <;> simp
theorem set4' (P S : List Int) (x0 x1 x2 x3 y0 y1 y2 y3 : Int) (k : Nat) (hP : P.length = k) : ((((P ++ ([x0, x1, x2, x3] ++ S)).set k y0).set (k + 1) y1).set (k + 2) y2).set (k + 3) y3 = P ++ ([y0, y1, y2, y3] ++ S) := by
  subst hP
  simp
def mix (p s : List Int) (b0 b1 b2 b3 e0 e1 e2 e3 : Int) (j : Nat) : List Int := p ++ ([if 0 < j then e0 else b0, if 1 < j then e1 else b1, if 2 < j then e2 else b2, if 3 < j then e3 else b3] ++ s)
def chg (x0 x1 x2 x3 : Int) (j : Nat) : Bool := (decide (0 < j) && x0 != 0) || (decide (1 < j) && x1 != 0) || (decide (2 < j) && x2 != 0) || (decide (3 < j) && x3 != 0)
theorem round4 (p s : List Int) (b0 b1 b2 b3 e0 e1 e2 e3 x0 x1 x2 x3 : Int) (h0 : bits .xor .u8 b0 x0 = e0) (h1 : bits .xor .u8 b1 x1 = e1) (h2 : bits .xor .u8 b2 x2 = e2) (h3 : bits .xor .u8 b3 x3 = e3) (j : Nat) (hj : j < 4) :
    ∃ xj bj ej : Int, (∀ w, (Instr.index 44 (.agg #[.int .u8 x0, .int .u8 x1, .int .u8 x2, .int .u8 x3]) (.int .i64 (j : Int))).run Tryd.prog w = .ok (.int .u8 xj) w) ∧
      (mix p s b0 b1 b2 b3 e0 e1 e2 e3 j).getD (p.length + j) 0 = bj ∧ bits .xor .u8 bj xj = ej ∧ (mix p s b0 b1 b2 b3 e0 e1 e2 e3 j).set (p.length + j) ej = mix p s b0 b1 b2 b3 e0 e1 e2 e3 (j + 1) ∧ chg x0 x1 x2 x3 (j + 1) = (chg x0 x1 x2 x3 j || (xj != 0)) := by
  match j, hj with
  | 0, _ => exact ⟨x0, b0, e0, fun w => (idx4 x0 x1 x2 x3 w).1, by simp [mix], h0, by simp [mix], by simp [chg]⟩
  | 1, _ => exact ⟨x1, b1, e1, fun w => (idx4 x0 x1 x2 x3 w).2.1, by simp [mix], h1, by simp [mix], by simp [chg]⟩
  | 2, _ => exact ⟨x2, b2, e2, fun w => (idx4 x0 x1 x2 x3 w).2.2.1, by simp [mix], h2, by simp [mix], by simp [chg]⟩
  | 3, _ => exact ⟨x3, b3, e3, fun w => (idx4 x0 x1 x2 x3 w).2.2.2, by simp [mix], h3, by simp [mix], by simp [chg]⟩
theorem mix_length (p s : List Int) (b0 b1 b2 b3 e0 e1 e2 e3 : Int) (j : Nat) : (mix p s b0 b1 b2 b3 e0 e1 e2 e3 j).length = (p ++ ([b0, b1, b2, b3] ++ s)).length := by simp [mix]
set_option maxHeartbeats 4000000 in
theorem spoilt_small (a : Option Addr) (n c : Nat) (r : List Int) (y : Nat) (x0 x1 x2 x3 : Int) (w : World) (hl : r.length = n) (hb : Byt w a r) (hx0 : 0 ≤ x0 ∧ x0 < 256) (hx1 : 0 ≤ x1 ∧ x1 < 256) (hx2 : 0 ≤ x2 ∧ x2 < 256) (hx3 : 0 ≤ x3 ∧ x3 < 256) (ht : Tab w)
    (h5 : n ≤ 5000) (hz : decide (x0 = 0 ∧ x1 = 0 ∧ x2 = 0 ∧ x3 = 0) = false) (hk : n < 4) :
    Calls Tryd.prog 6 #[.slice a n c, .int .u16 (y : Int), .agg #[.int .u8 x0, .int .u8 x1, .int .u8 x2, .int .u8 x3]] w fun e w' => e = .returned (.bool true) ∧ Below w.heap.size w w' := by
  have B0 := Lib.hid (below_alloc w (.cells #[.int .u8 x0, .int .u8 x1, .int .u8 x2, .int .u8 x3] 44))
  have heq : ∀ w : World, (Op.equalIn 10000 44 (.agg #[.int .u8 x0, .int .u8 x1, .int .u8 x2, .int .u8 x3]) (.agg #[.int .u8 0, .int .u8 0, .int .u8 0, .int .u8 0])).run Tryd.prog w = .ok (decide (x0 = 0 ∧ x1 = 0 ∧ x2 = 0 ∧ x3 = 0)) w := eq4 x0 x1 x2 x3
  rw [hz] at heq
  have hd : decide ((5000 : Int) < (n : Int)) = false := by simp; omega
  obtain ⟨T, hT⟩ : ∃ T, T = 0 + (8 + n) := ⟨_, rfl⟩
  have PU := Lib.hid (put_at T none a 0 0 n c [] r _ hT rfl (by omega) (Byt.nil _) hl (by omega) (hb.below B0.out) (ht.below B0.out ht.lt))
  rw [World.size_alloc] at PU
  have hT2 : ((T : Int) != 8 + (n : Int)) = false := by simp; omega
  have HL := Lib.hid hl
  have HR := Lib.hid (show Rng r from hb.2)
  have HT := Lib.hid ht
  have HTT := Lib.hid hT
  have HZ := Lib.hid (show ¬ (x0 = 0 ∧ x1 = 0 ∧ x2 = 0 ∧ x3 = 0) by simpa using hz)
  have hch : ((((x0 != 0) || (x1 != 0)) || (x2 != 0)) || (x3 != 0)) = true := by
    have := HZ.out
    simp only [Bool.or_eq_true, bne_iff_ne]
    omega
  have hk48 : (4 : Nat) = 4 ∨ 8 ≤ 4 := .inl rfl
  have n4 : decide ((4 : Int) ≤ (n : Int)) = false := by simp; omega
  obtain ⟨P, b0, b1, b2, b3, S, hcut, hP⟩ := cut4 (fr r) 4 (by rw [fr_len]; omega)
  have HP := Lib.hid hP
  have HC := Lib.hid hcut
  have hrf := fr_rng r hb.2
  have rb : ∀ c ∈ [b0, b1, b2, b3], 0 ≤ c ∧ c < 256 := fun c hc => hrf c (by rw [hcut]; simp only [List.mem_append]; exact .inr (.inl hc))
  have r0 := rb b0 (by simp)
  have r1 := rb b1 (by simp)
  have r2 := rb b2 (by simp)
  have r3 := rb b3 (by simp)
  obtain ⟨e0, E0, f0, F0⟩ := xor8 b0 x0 r0 hx0
  obtain ⟨e1, E1, f1, F1⟩ := xor8 b1 x1 r1 hx1
  obtain ⟨e2, E2, f2, F2⟩ := xor8 b2 x2 r2 hx2
  obtain ⟨e3, E3, f3, F3⟩ := xor8 b3 x3 r3 hx3
  have FE := Lib.hid (spoilt_found r P S b0 b1 b2 b3 x0 x1 x2 x3 e0 e1 e2 e3 (by omega) hb.2 hcut (by rw [hP]; exact hk48) f0 f1 f2 f3 F0 F1 F2 F3 hx0 hx1 hx2 hx3 HZ.out)
  have RG := Lib.hid (show Rng (P ++ ([e0, e1, e2, e3] ++ S)) from fun c hc => by
    simp only [List.mem_append, List.mem_cons, List.not_mem_nil, or_false] at hc
    rcases hc with hc | (rfl | rfl | rfl | rfl) | hc
    · exact hrf c (by rw [hcut]; simp [hc])
    · exact f0
    · exact f1
    · exact f2
    · exact f3
    · exact hrf c (by rw [hcut]; simp [hc]))
  have R := Lib.hid (round4 P S b0 b1 b2 b3 e0 e1 e2 e3 x0 x1 x2 x3 E0 E1 E2 E3)
  have ML := Lib.hid (mix_length P S b0 b1 b2 b3 e0 e1 e2 e3)
  have M0 := Lib.hid (show P ++ ([b0, b1, b2, b3] ++ S) = mix P S b0 b1 b2 b3 e0 e1 e2 e3 0 by simp [mix])
  have M4 := Lib.hid (show mix P S b0 b1 b2 b3 e0 e1 e2 e3 4 = P ++ ([e0, e1, e2, e3] ++ S) by simp [mix])
  have C0 := Lib.hid (show chg x0 x1 x2 x3 0 = false by simp [chg])
  have C4 := Lib.hid (show chg x0 x1 x2 x3 4 = true by rw [← hch]; simp [chg])
  have kT : 8 ≤ T := by omega
  clear hl hb ht hT hz hcut hP hrf rb r0 r1 r2 r3 f0 f1 f2 f3 F0 F1 F2 F3 hk48 E0 E1 E2 E3 hch
  generalize mix P S b0 b1 b2 b3 e0 e1 e2 e3 = mx at R ML M0 M4
  generalize chg x0 x1 x2 x3 = cg at R C0 C4
  go_enter Tryd.func6, Tryd.ntmps6
  go_wp2_with fail
  refine PU.out.mono ?_
  rintro e w1 ⟨rfl, hE, hb1⟩
  rw [List.nil_append, HC.out] at hE
  obtain ⟨q0, q1, q2, q3⟩ := box4 hb1
  have B1 := Lib.hid (B0.out.trans (hb1.mono (Nat.le_succ _)))
  have LT : (P ++ ([b0, b1, b2, b3] ++ S)).length = T := by rw [← HC.out, fr_len, HL.out, HTT.out]; omega
  have HE := Lib.hid (show Ex w1 (w.heap.size + 1) (mx 0) by rw [← M0.out]; exact hE)
  have LM := Lib.hid (show ∀ j, (mx j).length = T from fun j => by rw [ML.out, LT])
  clear hE hb1 LT PU
  go_wp2_with fail
  go_loopw [57, 10] (fun i ch wr => ∃ j : Nat, j ≤ 4 ∧ i = .int .i64 j ∧ ch = .bool (cg j) ∧ Ex wr (w.heap.size + 1) (mx j) ∧ Below w.heap.size w wr) (fun i _ _ => 4 - (intOf i).toNat)
  case atStart => exact ⟨0, by omega, rfl, by rw [C0.out], HE.out, B1.out⟩
  case round =>
  obtain ⟨j, hj, rfl, rfl, ho, hbe⟩ := hrel
  have O := Lib.hid ho
  have BE := Lib.hid hbe
  clear ho hbe
  by_cases hlt : j < 4
  · obtain ⟨xj, bj, ej, hix, hgd, hxr, hset, hcg⟩ := R.out j hlt
    have hlen : 4 + j < (mx j).length := by rw [LM.out]; omega
    have hc : wr.cell? ⟨w.heap.size + 1, 4 + j, none⟩ = some (.int .u8 bj) := by rw [O.out.cell _ hlen, ← hgd, HP.out]
    have hfz : wr.frozen? ⟨w.heap.size + 1, 4 + j, none⟩ = false := O.out.frozen _
    have ON := Lib.hid (show Ex (wr.setCell ⟨w.heap.size + 1, 4 + j, none⟩ (.int .u8 ej)) (w.heap.size + 1) (mx (j + 1)) by rw [← hset, HP.out]; exact O.out.set _ _)
    have BN := Lib.hid (BE.out.setCell (p := ⟨w.heap.size + 1, 4 + j, none⟩) (Nat.le_succ _) (.int .u8 ej))
    have hjl : 4 + (j : Int) < (T : Int) := by omega
    have HCG := Lib.hid hcg
    obtain ⟨gb, hgb⟩ : ∃ gb : Bool, (xj != 0) = gb := ⟨_, rfl⟩
    rw [hgb] at HCG
    clear hgd hset hlen hcg
    cases hcj : cg j
    · rw [hcj] at HCG
      clear hcj
      go_wp2
      go_roundw
      case rel => exact ⟨j + 1, by omega, by go_num, by rw [HCG.out]; rfl, ON.out, BN.out⟩
      case measure => simp [intOf]; omega
    · rw [hcj] at HCG
      clear hcj
      go_wp2
      go_roundw
      case rel => exact ⟨j + 1, by omega, by go_num, by rw [HCG.out]; rfl, ON.out, BN.out⟩
      case measure => simp [intOf]; omega
  have j4 : j = 4 := by omega
  subst j4
  have X4 := Lib.hid (show Ex wr (w.heap.size + 1) (P ++ ([e0, e1, e2, e3] ++ S)) by rw [← M4.out]; exact O.out)
  rw [C4.out]
  have B4 := BE
  clear hlt hj
  have LT : (P ++ ([e0, e1, e2, e3] ++ S)).length = T := by
    rw [← M4.out]; exact LM.out 4
  have G := get_in (some ⟨w.heap.size + 1, 0, none⟩) T T _ 0 wr LT (by have := HTT.out; omega) (Nat.le_refl _) (Nat.zero_le _) (X4.out.byt RG.out) (HT.out.below B4.out HT.out.lt)
  rw [List.drop_zero] at G
  have HG := Lib.hid G
  clear G LT
  go_wp2_with fail
  refine HG.out.mono ?_
  intro e w5 hg
  have hg2 : e = .returned (.tuple #[.slice none 0 0, .int .i64 0, .int .i64 6]) ∧ wr = w5 := by
    rcases hg with ⟨_, h2, h3⟩ | ⟨h, _⟩
    · rw [FE.out] at h2
      exact ⟨h2, h3⟩
    · rw [FE.out] at h; omega
  obtain ⟨rfl, rfl⟩ := hg2
  clear hg HG
  go_wp2_with fail
  refine (fixed_any wr (HT.out.below B4.out HT.out.lt)).mono ?_
  rintro e w6 ⟨rfl, hb6⟩
  go_wp2_with fail
  go_ret
  exact ⟨rfl, below_go B4.out hb6⟩
set_option maxHeartbeats 4000000 in
theorem spoilt_four (a : Option Addr) (n c : Nat) (r : List Int) (y : Nat) (x0 x1 x2 x3 : Int) (w : World) (hl : r.length = n) (hb : Byt w a r) (hx0 : 0 ≤ x0 ∧ x0 < 256) (hx1 : 0 ≤ x1 ∧ x1 < 256) (hx2 : 0 ≤ x2 ∧ x2 < 256) (hx3 : 0 ≤ x3 ∧ x3 < 256) (ht : Tab w)
    (h5 : n ≤ 5000) (hz : decide (x0 = 0 ∧ x1 = 0 ∧ x2 = 0 ∧ x3 = 0) = false) (hk : 4 ≤ n) (hk8 : y % 8 = 0) :
    Calls Tryd.prog 6 #[.slice a n c, .int .u16 (y : Int), .agg #[.int .u8 x0, .int .u8 x1, .int .u8 x2, .int .u8 x3]] w fun e w' => e = .returned (.bool true) ∧ Below w.heap.size w w' := by
  have B0 := Lib.hid (below_alloc w (.cells #[.int .u8 x0, .int .u8 x1, .int .u8 x2, .int .u8 x3] 44))
  have heq : ∀ w : World, (Op.equalIn 10000 44 (.agg #[.int .u8 x0, .int .u8 x1, .int .u8 x2, .int .u8 x3]) (.agg #[.int .u8 0, .int .u8 0, .int .u8 0, .int .u8 0])).run Tryd.prog w = .ok (decide (x0 = 0 ∧ x1 = 0 ∧ x2 = 0 ∧ x3 = 0)) w := eq4 x0 x1 x2 x3
  rw [hz] at heq
  have hd : decide ((5000 : Int) < (n : Int)) = false := by simp; omega
  obtain ⟨T, hT⟩ : ∃ T, T = 0 + (8 + n) := ⟨_, rfl⟩
  have PU := Lib.hid (put_at T none a 0 0 n c [] r _ hT rfl (by omega) (Byt.nil _) hl (by omega) (hb.below B0.out) (ht.below B0.out ht.lt))
  rw [World.size_alloc] at PU
  have hT2 : ((T : Int) != 8 + (n : Int)) = false := by simp; omega
  have HL := Lib.hid hl
  have HR := Lib.hid (show Rng r from hb.2)
  have HT := Lib.hid ht
  have HTT := Lib.hid hT
  have HZ := Lib.hid (show ¬ (x0 = 0 ∧ x1 = 0 ∧ x2 = 0 ∧ x3 = 0) by simpa using hz)
  have hch : ((((x0 != 0) || (x1 != 0)) || (x2 != 0)) || (x3 != 0)) = true := by
    have := HZ.out
    simp only [Bool.or_eq_true, bne_iff_ne]
    omega
  have hk48 : (4 : Nat) = 4 ∨ 8 ≤ 4 := .inl rfl
  have n4 : decide ((4 : Int) ≤ (n : Int)) = true := by simp; omega
  have y8 : decide ((0 : Int) < (y : Int) % 8) = false := by simp; omega
  obtain ⟨P, b0, b1, b2, b3, S, hcut, hP⟩ := cut4 (fr r) 4 (by rw [fr_len]; omega)
  have HP := Lib.hid hP
  have HC := Lib.hid hcut
  have hrf := fr_rng r hb.2
  have rb : ∀ c ∈ [b0, b1, b2, b3], 0 ≤ c ∧ c < 256 := fun c hc => hrf c (by rw [hcut]; simp only [List.mem_append]; exact .inr (.inl hc))
  have r0 := rb b0 (by simp)
  have r1 := rb b1 (by simp)
  have r2 := rb b2 (by simp)
  have r3 := rb b3 (by simp)
  obtain ⟨e0, E0, f0, F0⟩ := xor8 b0 x0 r0 hx0
  obtain ⟨e1, E1, f1, F1⟩ := xor8 b1 x1 r1 hx1
  obtain ⟨e2, E2, f2, F2⟩ := xor8 b2 x2 r2 hx2
  obtain ⟨e3, E3, f3, F3⟩ := xor8 b3 x3 r3 hx3
  have FE := Lib.hid (spoilt_found r P S b0 b1 b2 b3 x0 x1 x2 x3 e0 e1 e2 e3 (by omega) hb.2 hcut (by rw [hP]; exact hk48) f0 f1 f2 f3 F0 F1 F2 F3 hx0 hx1 hx2 hx3 HZ.out)
  have RG := Lib.hid (show Rng (P ++ ([e0, e1, e2, e3] ++ S)) from fun c hc => by
    simp only [List.mem_append, List.mem_cons, List.not_mem_nil, or_false] at hc
    rcases hc with hc | (rfl | rfl | rfl | rfl) | hc
    · exact hrf c (by rw [hcut]; simp [hc])
    · exact f0
    · exact f1
    · exact f2
    · exact f3
    · exact hrf c (by rw [hcut]; simp [hc]))
  have R := Lib.hid (round4 P S b0 b1 b2 b3 e0 e1 e2 e3 x0 x1 x2 x3 E0 E1 E2 E3)
  have ML := Lib.hid (mix_length P S b0 b1 b2 b3 e0 e1 e2 e3)
  have M0 := Lib.hid (show P ++ ([b0, b1, b2, b3] ++ S) = mix P S b0 b1 b2 b3 e0 e1 e2 e3 0 by simp [mix])
  have M4 := Lib.hid (show mix P S b0 b1 b2 b3 e0 e1 e2 e3 4 = P ++ ([e0, e1, e2, e3] ++ S) by simp [mix])
  have C0 := Lib.hid (show chg x0 x1 x2 x3 0 = false by simp [chg])
  have C4 := Lib.hid (show chg x0 x1 x2 x3 4 = true by rw [← hch]; simp [chg])
  have kT : 8 ≤ T := by omega
  clear hl hb ht hT hz hcut hP hrf rb r0 r1 r2 r3 f0 f1 f2 f3 F0 F1 F2 F3 hk48 E0 E1 E2 E3 hch
  generalize mix P S b0 b1 b2 b3 e0 e1 e2 e3 = mx at R ML M0 M4
  generalize chg x0 x1 x2 x3 = cg at R C0 C4
  go_enter Tryd.func6, Tryd.ntmps6
  go_wp2_with fail
  refine PU.out.mono ?_
  rintro e w1 ⟨rfl, hE, hb1⟩
  rw [List.nil_append, HC.out] at hE
  obtain ⟨q0, q1, q2, q3⟩ := box4 hb1
  have B1 := Lib.hid (B0.out.trans (hb1.mono (Nat.le_succ _)))
  have LT : (P ++ ([b0, b1, b2, b3] ++ S)).length = T := by rw [← HC.out, fr_len, HL.out, HTT.out]; omega
  have HE := Lib.hid (show Ex w1 (w.heap.size + 1) (mx 0) by rw [← M0.out]; exact hE)
  have LM := Lib.hid (show ∀ j, (mx j).length = T from fun j => by rw [ML.out, LT])
  clear hE hb1 LT PU
  go_wp2_with fail
  go_loopw [57, 10] (fun i ch wr => ∃ j : Nat, j ≤ 4 ∧ i = .int .i64 j ∧ ch = .bool (cg j) ∧ Ex wr (w.heap.size + 1) (mx j) ∧ Below w.heap.size w wr) (fun i _ _ => 4 - (intOf i).toNat)
  case atStart => exact ⟨0, by omega, rfl, by rw [C0.out], HE.out, B1.out⟩
  case round =>
  obtain ⟨j, hj, rfl, rfl, ho, hbe⟩ := hrel
  have O := Lib.hid ho
  have BE := Lib.hid hbe
  clear ho hbe
  by_cases hlt : j < 4
  · obtain ⟨xj, bj, ej, hix, hgd, hxr, hset, hcg⟩ := R.out j hlt
    have hlen : 4 + j < (mx j).length := by rw [LM.out]; omega
    have hc : wr.cell? ⟨w.heap.size + 1, 4 + j, none⟩ = some (.int .u8 bj) := by rw [O.out.cell _ hlen, ← hgd, HP.out]
    have hfz : wr.frozen? ⟨w.heap.size + 1, 4 + j, none⟩ = false := O.out.frozen _
    have ON := Lib.hid (show Ex (wr.setCell ⟨w.heap.size + 1, 4 + j, none⟩ (.int .u8 ej)) (w.heap.size + 1) (mx (j + 1)) by rw [← hset, HP.out]; exact O.out.set _ _)
    have BN := Lib.hid (BE.out.setCell (p := ⟨w.heap.size + 1, 4 + j, none⟩) (Nat.le_succ _) (.int .u8 ej))
    have hjl : 4 + (j : Int) < (T : Int) := by omega
    have HCG := Lib.hid hcg
    obtain ⟨gb, hgb⟩ : ∃ gb : Bool, (xj != 0) = gb := ⟨_, rfl⟩
    rw [hgb] at HCG
    clear hgd hset hlen hcg
    cases hcj : cg j
    · rw [hcj] at HCG
      clear hcj
      go_wp2
      go_roundw
      case rel => exact ⟨j + 1, by omega, by go_num, by rw [HCG.out]; rfl, ON.out, BN.out⟩
      case measure => simp [intOf]; omega
    · rw [hcj] at HCG
      clear hcj
      go_wp2
      go_roundw
      case rel => exact ⟨j + 1, by omega, by go_num, by rw [HCG.out]; rfl, ON.out, BN.out⟩
      case measure => simp [intOf]; omega
  have j4 : j = 4 := by omega
  subst j4
  have X4 := Lib.hid (show Ex wr (w.heap.size + 1) (P ++ ([e0, e1, e2, e3] ++ S)) by rw [← M4.out]; exact O.out)
  rw [C4.out]
  have B4 := BE
  clear hlt hj
  have LT : (P ++ ([e0, e1, e2, e3] ++ S)).length = T := by
    rw [← M4.out]; exact LM.out 4
  have G := get_in (some ⟨w.heap.size + 1, 0, none⟩) T T _ 0 wr LT (by have := HTT.out; omega) (Nat.le_refl _) (Nat.zero_le _) (X4.out.byt RG.out) (HT.out.below B4.out HT.out.lt)
  rw [List.drop_zero] at G
  have HG := Lib.hid G
  clear G LT
  go_wp2_with fail
  refine HG.out.mono ?_
  intro e w5 hg
  have hg2 : e = .returned (.tuple #[.slice none 0 0, .int .i64 0, .int .i64 6]) ∧ wr = w5 := by
    rcases hg with ⟨_, h2, h3⟩ | ⟨h, _⟩
    · rw [FE.out] at h2
      exact ⟨h2, h3⟩
    · rw [FE.out] at h; omega
  obtain ⟨rfl, rfl⟩ := hg2
  clear hg HG
  go_wp2_with fail
  refine (fixed_any wr (HT.out.below B4.out HT.out.lt)).mono ?_
  rintro e w6 ⟨rfl, hb6⟩
  go_wp2_with fail
  go_ret
  exact ⟨rfl, below_go B4.out hb6⟩
set_option maxHeartbeats 4000000 in
theorem spoilt_rec (a : Option Addr) (n c : Nat) (r : List Int) (y : Nat) (x0 x1 x2 x3 : Int) (w : World) (hl : r.length = n) (hb : Byt w a r) (hy : y < 65536) (hx0 : 0 ≤ x0 ∧ x0 < 256) (hx1 : 0 ≤ x1 ∧ x1 < 256) (hx2 : 0 ≤ x2 ∧ x2 < 256) (hx3 : 0 ≤ x3 ∧ x3 < 256) (ht : Tab w)
    (h5 : n ≤ 5000) (hz : decide (x0 = 0 ∧ x1 = 0 ∧ x2 = 0 ∧ x3 = 0) = false) (hk : 4 ≤ n) (hk8 : 0 < y % 8) :
    Calls Tryd.prog 6 #[.slice a n c, .int .u16 (y : Int), .agg #[.int .u8 x0, .int .u8 x1, .int .u8 x2, .int .u8 x3]] w fun e w' => e = .returned (.bool true) ∧ Below w.heap.size w w' := by
  have B0 := Lib.hid (below_alloc w (.cells #[.int .u8 x0, .int .u8 x1, .int .u8 x2, .int .u8 x3] 44))
  have heq : ∀ w : World, (Op.equalIn 10000 44 (.agg #[.int .u8 x0, .int .u8 x1, .int .u8 x2, .int .u8 x3]) (.agg #[.int .u8 0, .int .u8 0, .int .u8 0, .int .u8 0])).run Tryd.prog w = .ok (decide (x0 = 0 ∧ x1 = 0 ∧ x2 = 0 ∧ x3 = 0)) w := eq4 x0 x1 x2 x3
  rw [hz] at heq
  have hd : decide ((5000 : Int) < (n : Int)) = false := by simp; omega
  obtain ⟨T, hT⟩ : ∃ T, T = 0 + (8 + n) := ⟨_, rfl⟩
  have PU := Lib.hid (put_at T none a 0 0 n c [] r _ hT rfl (by omega) (Byt.nil _) hl (by omega) (hb.below B0.out) (ht.below B0.out ht.lt))
  rw [World.size_alloc] at PU
  have hT2 : ((T : Int) != 8 + (n : Int)) = false := by simp; omega
  have HL := Lib.hid hl
  have HR := Lib.hid (show Rng r from hb.2)
  have HT := Lib.hid ht
  have HTT := Lib.hid hT
  have HZ := Lib.hid (show ¬ (x0 = 0 ∧ x1 = 0 ∧ x2 = 0 ∧ x3 = 0) by simpa using hz)
  have hch : ((((x0 != 0) || (x1 != 0)) || (x2 != 0)) || (x3 != 0)) = true := by
    have := HZ.out
    simp only [Bool.or_eq_true, bne_iff_ne]
    omega
  obtain ⟨q, hq⟩ : ∃ q : Nat, q = y / 8 % (n - 3) := ⟨_, rfl⟩
  have hq3 : q < n - 3 := by rw [hq]; exact Nat.mod_lt _ (by omega)
  obtain ⟨k, hkk⟩ : ∃ k : Nat, k = 8 + q := ⟨_, rfl⟩
  have hk48 : k = 4 ∨ 8 ≤ k := .inr (by omega)
  have n4 : decide ((4 : Int) ≤ (n : Int)) = true := by simp; omega
  have y8 : decide ((0 : Int) < (y : Int) % 8) = true := by simp; omega
  have hkv : (8 : Int) + (y : Int) / 8 % ((n : Int) - 3) = (k : Int) := by
    rw [show (n : Int) - 3 = ((n - 3 : Nat) : Int) by omega, show (y : Int) / 8 = ((y / 8 : Nat) : Int) by omega, ← Int.natCast_emod, ← hq]
    omega
  have kb : k ≤ 5008 := by omega
  obtain ⟨P, b0, b1, b2, b3, S, hcut, hP⟩ := cut4 (fr r) k (by rw [fr_len]; omega)
  have HP := Lib.hid hP
  have HC := Lib.hid hcut
  have hrf := fr_rng r hb.2
  have rb : ∀ c ∈ [b0, b1, b2, b3], 0 ≤ c ∧ c < 256 := fun c hc => hrf c (by rw [hcut]; simp only [List.mem_append]; exact .inr (.inl hc))
  have r0 := rb b0 (by simp)
  have r1 := rb b1 (by simp)
  have r2 := rb b2 (by simp)
  have r3 := rb b3 (by simp)
  obtain ⟨e0, E0, f0, F0⟩ := xor8 b0 x0 r0 hx0
  obtain ⟨e1, E1, f1, F1⟩ := xor8 b1 x1 r1 hx1
  obtain ⟨e2, E2, f2, F2⟩ := xor8 b2 x2 r2 hx2
  obtain ⟨e3, E3, f3, F3⟩ := xor8 b3 x3 r3 hx3
  have FE := Lib.hid (spoilt_found r P S b0 b1 b2 b3 x0 x1 x2 x3 e0 e1 e2 e3 (by omega) hb.2 hcut (by rw [hP]; exact hk48) f0 f1 f2 f3 F0 F1 F2 F3 hx0 hx1 hx2 hx3 HZ.out)
  have RG := Lib.hid (show Rng (P ++ ([e0, e1, e2, e3] ++ S)) from fun c hc => by
    simp only [List.mem_append, List.mem_cons, List.not_mem_nil, or_false] at hc
    rcases hc with hc | (rfl | rfl | rfl | rfl) | hc
    · exact hrf c (by rw [hcut]; simp [hc])
    · exact f0
    · exact f1
    · exact f2
    · exact f3
    · exact hrf c (by rw [hcut]; simp [hc]))
  have R := Lib.hid (round4 P S b0 b1 b2 b3 e0 e1 e2 e3 x0 x1 x2 x3 E0 E1 E2 E3)
  have ML := Lib.hid (mix_length P S b0 b1 b2 b3 e0 e1 e2 e3)
  have M0 := Lib.hid (show P ++ ([b0, b1, b2, b3] ++ S) = mix P S b0 b1 b2 b3 e0 e1 e2 e3 0 by simp [mix])
  have M4 := Lib.hid (show mix P S b0 b1 b2 b3 e0 e1 e2 e3 4 = P ++ ([e0, e1, e2, e3] ++ S) by simp [mix])
  have C0 := Lib.hid (show chg x0 x1 x2 x3 0 = false by simp [chg])
  have C4 := Lib.hid (show chg x0 x1 x2 x3 4 = true by rw [← hch]; simp [chg])
  have kT : k + 4 ≤ T := by omega
  clear hl hb ht hT hz hcut hP hrf rb r0 r1 r2 r3 f0 f1 f2 f3 F0 F1 F2 F3 hk48 hq hq3 hkk E0 E1 E2 E3 hch
  generalize mix P S b0 b1 b2 b3 e0 e1 e2 e3 = mx at R ML M0 M4
  generalize chg x0 x1 x2 x3 = cg at R C0 C4
  go_enter Tryd.func6, Tryd.ntmps6
  go_wp2_with fail
  refine PU.out.mono ?_
  rintro e w1 ⟨rfl, hE, hb1⟩
  rw [List.nil_append, HC.out] at hE
  obtain ⟨q0, q1, q2, q3⟩ := box4 hb1
  have B1 := Lib.hid (B0.out.trans (hb1.mono (Nat.le_succ _)))
  have LT : (P ++ ([b0, b1, b2, b3] ++ S)).length = T := by rw [← HC.out, fr_len, HL.out, HTT.out]; omega
  have HE := Lib.hid (show Ex w1 (w.heap.size + 1) (mx 0) by rw [← M0.out]; exact hE)
  have LM := Lib.hid (show ∀ j, (mx j).length = T from fun j => by rw [ML.out, LT])
  clear hE hb1 LT PU
  go_wp2_with fail
  go_loopw [57, 10] (fun i ch wr => ∃ j : Nat, j ≤ 4 ∧ i = .int .i64 j ∧ ch = .bool (cg j) ∧ Ex wr (w.heap.size + 1) (mx j) ∧ Below w.heap.size w wr) (fun i _ _ => 4 - (intOf i).toNat)
  case atStart => exact ⟨0, by omega, rfl, by rw [C0.out], HE.out, B1.out⟩
  case round =>
  obtain ⟨j, hj, rfl, rfl, ho, hbe⟩ := hrel
  have O := Lib.hid ho
  have BE := Lib.hid hbe
  clear ho hbe
  by_cases hlt : j < 4
  · obtain ⟨xj, bj, ej, hix, hgd, hxr, hset, hcg⟩ := R.out j hlt
    have hlen : k + j < (mx j).length := by rw [LM.out]; omega
    have hc : wr.cell? ⟨w.heap.size + 1, k + j, none⟩ = some (.int .u8 bj) := by rw [O.out.cell _ hlen, ← hgd, HP.out]
    have hfz : wr.frozen? ⟨w.heap.size + 1, k + j, none⟩ = false := O.out.frozen _
    have ON := Lib.hid (show Ex (wr.setCell ⟨w.heap.size + 1, k + j, none⟩ (.int .u8 ej)) (w.heap.size + 1) (mx (j + 1)) by rw [← hset, HP.out]; exact O.out.set _ _)
    have BN := Lib.hid (BE.out.setCell (p := ⟨w.heap.size + 1, k + j, none⟩) (Nat.le_succ _) (.int .u8 ej))
    have hjl : (k : Int) + (j : Int) < (T : Int) := by omega
    have HCG := Lib.hid hcg
    obtain ⟨gb, hgb⟩ : ∃ gb : Bool, (xj != 0) = gb := ⟨_, rfl⟩
    rw [hgb] at HCG
    clear hgd hset hlen hcg
    cases hcj : cg j
    · rw [hcj] at HCG
      clear hcj
      go_wp2
      go_roundw
      case rel => exact ⟨j + 1, by omega, by go_num, by rw [HCG.out]; rfl, ON.out, BN.out⟩
      case measure => simp [intOf]; omega
    · rw [hcj] at HCG
      clear hcj
      go_wp2
      go_roundw
      case rel => exact ⟨j + 1, by omega, by go_num, by rw [HCG.out]; rfl, ON.out, BN.out⟩
      case measure => simp [intOf]; omega
  have j4 : j = 4 := by omega
  subst j4
  have X4 := Lib.hid (show Ex wr (w.heap.size + 1) (P ++ ([e0, e1, e2, e3] ++ S)) by rw [← M4.out]; exact O.out)
  rw [C4.out]
  have B4 := BE
  clear hlt hj
  have LT : (P ++ ([e0, e1, e2, e3] ++ S)).length = T := by
    rw [← M4.out]; exact LM.out 4
  have G := get_in (some ⟨w.heap.size + 1, 0, none⟩) T T _ 0 wr LT (by have := HTT.out; omega) (Nat.le_refl _) (Nat.zero_le _) (X4.out.byt RG.out) (HT.out.below B4.out HT.out.lt)
  rw [List.drop_zero] at G
  have HG := Lib.hid G
  clear G LT
  go_wp2_with fail
  refine HG.out.mono ?_
  intro e w5 hg
  have hg2 : e = .returned (.tuple #[.slice none 0 0, .int .i64 0, .int .i64 6]) ∧ wr = w5 := by
    rcases hg with ⟨_, h2, h3⟩ | ⟨h, _⟩
    · rw [FE.out] at h2
      exact ⟨h2, h3⟩
    · rw [FE.out] at h; omega
  obtain ⟨rfl, rfl⟩ := hg2
  clear hg HG
  go_wp2_with fail
  refine (fixed_any wr (HT.out.below B4.out HT.out.lt)).mono ?_
  rintro e w6 ⟨rfl, hb6⟩
  go_wp2_with fail
  go_ret
  exact ⟨rfl, below_go B4.out hb6⟩
theorem spoilt_walk (a : Option Addr) (n c : Nat) (r : List Int) (y : Nat) (x0 x1 x2 x3 : Int) (w : World) (hl : r.length = n) (hb : Byt w a r) (hy : y < 65536) (hx0 : 0 ≤ x0 ∧ x0 < 256) (hx1 : 0 ≤ x1 ∧ x1 < 256) (hx2 : 0 ≤ x2 ∧ x2 < 256) (hx3 : 0 ≤ x3 ∧ x3 < 256) (ht : Tab w) :
    Calls Tryd.prog 6 #[.slice a n c, .int .u16 (y : Int), .agg #[.int .u8 x0, .int .u8 x1, .int .u8 x2, .int .u8 x3]] w fun e w' => e = .returned (.bool true) ∧ Below w.heap.size w w' := by
  by_cases h5 : 5000 < n
  · exact spoilt_great a n c y x0 x1 x2 x3 w ht (.inl h5)
  · cases hz : decide (x0 = 0 ∧ x1 = 0 ∧ x2 = 0 ∧ x3 = 0)
    · by_cases hk : n < 4 ∨ y % 8 = 0
      · by_cases hk4 : n < 4
        · exact spoilt_small a n c r y x0 x1 x2 x3 w hl hb hx0 hx1 hx2 hx3 ht (by omega) hz hk4
        · exact spoilt_four a n c r y x0 x1 x2 x3 w hl hb hx0 hx1 hx2 hx3 ht (by omega) hz (by omega) (by omega)
      · exact spoilt_rec a n c r y x0 x1 x2 x3 w hl hb hy hx0 hx1 hx2 hx3 ht (by omega) hz (by omega) (by omega)
    · exact spoilt_great a n c y x0 x1 x2 x3 w ht (.inr hz)
end Go.Proofs.YteiajbeoglmmmaaDoor
