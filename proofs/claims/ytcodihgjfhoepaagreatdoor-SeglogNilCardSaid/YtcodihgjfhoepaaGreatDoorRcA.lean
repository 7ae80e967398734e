/- The contracts of the functions that the three statements of crc call. -/
import Derived.Test.YtcodihgjfhoepaaGreatDoorLbOwn
import Derived.Test.YtcodihgjfhoepaaGreatDoorMath
import Derived.WalkKit
import Derived.WalkLawsBesides
import Derived.Lib.Hide
import Derived.Deep.LoopGhost
namespace Go.Proofs.YtcodihgjfhoepaaGreatDoor
open Go Go.RowKit Crc
set_option maxRecDepth 20000

theorem lt32 (x : BitVec 32) : x.toNat < 4294967296 := x.isLt
theorem bx (x y : BitVec 32) : bits .xor .u32 (x.toNat : Int) (y.toNat : Int) = ((x ^^^ y).toNat : Int) := by
  rw [u32_xor_nat _ _ (lt32 x) (lt32 y), BitVec.toNat_xor]
theorem bmax (x : BitVec 32) : bits .xor .u32 IntKind.u32.max (x.toNat : Int) = ((x ^^^ 4294967295#32).toNat : Int) := by
  rw [BitVec.xor_comm, ← bx]; rfl
theorem bend (x : BitVec 32) : bits .xor .u32 (x.toNat : Int) 4294967295 = ((x ^^^ 4294967295#32).toNat : Int) := by
  rw [← bx]; rfl
theorem bhalf (x : BitVec 32) (n : Nat) : ((x.toNat : Int) / ((2 ^ n : Nat) : Int)) = ((x >>> n).toNat : Int) := by
  rw [BitVec.toNat_ushiftRight, Nat.shiftRight_eq_div_pow, ← Int.natCast_ediv]
theorem band1 (x : BitVec 32) : bits .and .u32 (x.toNat : Int) 1 = ((x.toNat % 2 : Nat) : Int) := by
  have := u32_and_nat x.toNat 1 (lt32 x) (by omega)
  rw [nat_mask1] at this
  exact this
theorem band15 (x : BitVec 32) : bits .and .u32 (x.toNat : Int) 15 = ((x.toNat % 16 : Nat) : Int) := by
  have := u32_and_nat x.toNat 15 (lt32 x) (by omega)
  rw [nat_mask4] at this
  exact this
theorem odd_iff (x : BitVec 32) : x.getLsbD 0 = decide (x.toNat % 2 = 1) := by
  rw [BitVec.getLsbD, Nat.testBit_zero]
theorem bo_toNat (c : Int) (h0 : 0 ≤ c) (h1 : c < 256) : ((bo c).toNat : Int) = c := by
  unfold bo
  rw [BitVec.toNat_ofNat, Nat.mod_eq_of_lt (by omega)]
  omega
theorem ret_u32 {a b : Int} (h : a = b) : Ending.returned (.int .u32 a) = .returned (.int .u32 b) := by rw [h]

theorem st_odd (x : BitVec 32) (h : x.toNat % 2 = 1) : ((st x).toNat : Int) = bits .xor .u32 (x.toNat / 2) 3988292384 := by
  unfold st
  rw [odd_iff, decide_eq_true h, if_pos rfl, ← bx, ← bhalf]; rfl
theorem st_even (x : BitVec 32) (h : ¬ x.toNat % 2 = 1) : ((st x).toNat : Int) = (x.toNat : Int) / 2 := by
  unfold st
  rw [odd_iff, decide_eq_false h, if_neg (by simp), BitVec.xor_zero, ← bhalf]; rfl

set_option maxHeartbeats 400000 in
theorem take_snoc (l : List Int) (k : Nat) (h : k < l.length) : l.take (k + 1) = l.take k ++ [l.getD k 0] := by
  rw [List.take_succ_eq_append_getElem h, List.getD_eq_getElem?_getD, List.getElem?_eq_getElem h]; rfl
/- the table in memory -/
def Tab (w : World) : Prop := ∀ i, i < 16 → w.cell? ⟨0, i, none⟩ = some (.int .u32 (tab i : Int))
theorem nibble (x : BitVec 32) : ∃ (i : Nat) (s t y : BitVec 32), i < 16 ∧ bits .and .u32 (x.toNat : Int) 15 = (i : Int) ∧ (x.toNat : Int) / 16 = (s.toNat : Int) ∧ (tab i : Int) = (t.toNat : Int) ∧
    bits .xor .u32 (s.toNat : Int) (t.toNat : Int) = (y.toNat : Int) ∧ y = stn 4 x := by
  refine ⟨x.toNat % 16, x >>> 4, BitVec.ofNat 32 (tab (x.toNat % 16)), _, Nat.mod_lt _ (by omega), band15 x, bhalf x 4, ?_, bx _ _, nib x⟩
  rw [BitVec.toNat_ofNat, Nat.mod_eq_of_lt (tab_lt _)]

set_option maxHeartbeats 400000 in
theorem more_any (a : Option Addr) (len cap : Nat) (l : List Int) (r : BitVec 32) (w : World) (hl : l.length = len) (hm : len ≤ maxLen) (hb : Byt w a l) (ht : Tab w) :
    Calls Tryz.prog 131 #[.int .u32 (r.toNat : Int), .slice a len cap] w fun e w' => e = .returned (.int .u32 ((sum r l).toNat : Int)) ∧ w = w' := by
  unfold maxLen at hm
  have hs : IntKind.u32.signed = false := rfl
  have H := Lib.hid hl; clear hl
  go_enter Tryz.func131, Tryz.ntmps131
  go_wp2
  go_loop [5, 12] (fun t i => ∃ k : Nat, k ≤ len ∧ i = .int .i64 k ∧ t = .int .u32 ((row (r ^^^ 4294967295#32) (l.take k)).toNat : Int)) (fun _ i => len - (intOf i).toNat)
  case atStart => exact ⟨0, Nat.zero_le _, rfl, by rw [bmax]; rfl⟩
  case round =>
    obtain ⟨k, hk, rfl, rfl⟩ := hrel
    by_cases hlt : k < len
    · obtain ⟨b, off, rfl, hc⟩ := hb.1 k (by rw [H.out]; exact hlt)
      have hr := hb.2 (l.getD k 0) (by rw [List.getD_eq_getElem?_getD, List.getElem?_eq_getElem (by rw [H.out]; exact hlt)]; exact List.getElem_mem _)
      have S := Lib.hid (take_snoc l k (by rw [H.out]; exact hlt))
      generalize l.getD k 0 = c at hc hr S
      have R := Lib.hid (row_snoc (r ^^^ 4294967295#32) (l.take k) c)
      generalize row (r ^^^ 4294967295#32) (l.take k) = y at R
      obtain ⟨x1, X1⟩ : ∃ x1, x1 = y ^^^ bo c := ⟨_, rfl⟩
      have h1 : bits .xor .u32 (y.toNat : Int) c = (x1.toNat : Int) := by rw [X1, ← bx, bo_toNat c hr.1 hr.2]
      obtain ⟨i1, s1, t1, x2, hi1, e1, e2, e3, e4, X2⟩ := nibble x1
      obtain ⟨i2, s2, t2, x3, hi2, f1, f2, f3, f4, X3⟩ := nibble x2
      have c1 := ht i1 hi1
      have c2 := ht i2 hi2
      rw [e3] at c1
      rw [f3] at c2
      have X := Lib.hid (show x3 = stn 8 (y ^^^ bo c) by rw [X3, X2, X1, ← stn_add])
      clear X1 X2 X3 e3 f3 hb ht
      obtain ⟨r0, r1⟩ := hr
      go_wp2
      go_round
      case rel => exact ⟨k + 1, by omega, by go_num, by rw [S.out, R.out, X.out]⟩
      case measure => simp [intOf]; omega
    · have E := Lib.hid (show l.take k = l from List.take_of_length_le (by rw [H.out]; omega))
      go_wp2
      go_ret
      exact ⟨ret_u32 (by rw [bmax, E.out]; rfl), rfl⟩

set_option maxHeartbeats 400000 in
theorem sum_any (a : Option Addr) (len cap : Nat) (l : List Int) (w : World) (hl : l.length = len) (hm : len ≤ maxLen) (hb : Byt w a l) (ht : Tab w) :
    Calls Tryz.prog 132 #[.slice a len cap] w fun e w' => e = .returned (.int .u32 ((sum 0#32 l).toNat : Int)) ∧ w = w' := by
  have H := Lib.hid (more_any a len cap l 0#32 w hl hm hb ht)
  clear hl
  go_enter Tryz.func132, Tryz.ntmps132
  go_wp2_with fail
  refine H.out.mono ?_
  rintro e w' ⟨rfl, rfl⟩
  go_wp2
  go_ret
  exact ⟨rfl, rfl⟩

set_option maxHeartbeats 400000 in
theorem rrow_any (a : Option Addr) (len cap : Nat) (l : List Int) (r : BitVec 32) (w : World) (hl : l.length = len) (hm : len ≤ maxLen) (hb : Byt w a l) :
    Calls Tryz.prog 120 #[.int .u32 (r.toNat : Int), .slice a len cap] w fun e w' => e = .returned (.int .u32 ((row r l).toNat : Int)) ∧ w = w' := by
  unfold maxLen at hm
  have H := Lib.hid hl; clear hl
  go_enter Tryz.func120, Tryz.ntmps120
  go_wp2
  go_loop [0, 10] (fun t i => ∃ k : Nat, k ≤ len ∧ i = .int .i64 k ∧ t = .int .u32 ((row r (l.take k)).toNat : Int)) (fun _ i => len - (intOf i).toNat)
  case atStart => exact ⟨0, Nat.zero_le _, rfl, rfl⟩
  case round =>
    obtain ⟨k, hk, rfl, rfl⟩ := hrel
    by_cases hlt : k < len
    · obtain ⟨b, off, rfl, hc⟩ := hb.1 k (by rw [H.out]; exact hlt)
      have hr := hb.2 (l.getD k 0) (by rw [List.getD_eq_getElem?_getD, List.getElem?_eq_getElem (by rw [H.out]; exact hlt)]; exact List.getElem_mem _)
      have S := Lib.hid (take_snoc l k (by rw [H.out]; exact hlt))
      generalize l.getD k 0 = c at hc hr S
      have R := Lib.hid (row_snoc r (l.take k) c)
      generalize row r (l.take k) = y at R
      obtain ⟨x1, X1⟩ : ∃ x1, x1 = y ^^^ bo c := ⟨_, rfl⟩
      have h1 : bits .xor .u32 (y.toNat : Int) c = (x1.toNat : Int) := by rw [X1, ← bx, bo_toNat c hr.1 hr.2]
      have X := Lib.hid X1
      clear X1 hb
      obtain ⟨r0, r1⟩ := hr
      go_wp2
      go_loop [0, 6] (fun t i => ∃ j : Nat, j ≤ 8 ∧ i = .int .i64 j ∧ t = .int .u32 ((stn j x1).toNat : Int)) (fun _ i => 8 - (intOf i).toNat)
      case atStart => exact ⟨0, by omega, rfl, rfl⟩
      case round =>
        obtain ⟨j, hj, rfl, rfl⟩ := hrel
        by_cases hjt : j < 8
        · have SS := Lib.hid (stn_succ j x1)
          generalize stn j x1 = z at SS
          by_cases hz : z.toNat % 2 = 1
          · have T := Lib.hid (st_odd z hz)
            have hz2 : ((z.toNat : Int) % 2 == 1) = true := by rw [beq_iff_eq]; omega
            clear hz
            go_wp2
            go_round
            case rel => exact ⟨j + 1, by omega, by go_num, by rw [SS.out, T.out]⟩
            case measure => simp [intOf]; omega
          · have T := Lib.hid (st_even z hz)
            have hz2 : ((z.toNat : Int) % 2 == 1) = false := by rw [beq_eq_false_iff_ne]; omega
            clear hz
            go_wp2
            go_round
            case rel => exact ⟨j + 1, by omega, by go_num, by rw [SS.out, T.out]⟩
            case measure => simp [intOf]; omega
        · have SS := Lib.hid (show stn j x1 = stn 8 x1 by rw [show j = 8 by omega])
          go_wp2
          go_round
          case rel => exact ⟨k + 1, by omega, by go_num, by rw [S.out, R.out, SS.out, X.out]⟩
          case measure => simp [intOf]; omega
    · have E := Lib.hid (show l.take k = l from List.take_of_length_le (by rw [H.out]; omega))
      go_wp2
      go_ret
      exact ⟨ret_u32 (by rw [E.out]), rfl⟩

set_option maxHeartbeats 400000 in
theorem rsum_any (a : Option Addr) (len cap : Nat) (l : List Int) (w : World) (hl : l.length = len) (hm : len ≤ maxLen) (hb : Byt w a l) :
    Calls Tryz.prog 85 #[.slice a len cap] w fun e w' => e = .returned (.int .u32 ((sum 0#32 l).toNat : Int)) ∧ w = w' := by
  have H := Lib.hid (rrow_any a len cap l 4294967295#32 w hl hm hb)
  have E := Lib.hid (bend (row 4294967295#32 l))
  have G := Lib.hid (show sum 0#32 l = row 4294967295#32 l ^^^ 4294967295#32 from rfl)
  clear hl
  go_enter Tryz.func85, Tryz.ntmps85
  go_wp2_with fail
  refine H.out.mono ?_
  rintro e w' ⟨rfl, rfl⟩
  go_wp2
  go_ret
  exact ⟨ret_u32 (by rw [E.out, G.out]), rfl⟩

set_option maxHeartbeats 400000 in
set_option maxHeartbeats 400000 in
set_option maxHeartbeats 400000 in
set_option maxHeartbeats 400000 in
theorem Tab.lt {w : World} (ht : Tab w) : 0 < w.heap.size := World.block_lt_of_cell? _ _ (ht 0 (by omega))
theorem Tab.below {B : Nat} {w w' : World} (ht : Tab w) (h : Below B w w') (hB : 0 < B) : Tab w' := fun i hi => (h.cell (p := ⟨0, i, none⟩) hB).trans (ht i hi)
end Go.Proofs.YtcodihgjfhoepaaGreatDoor
