/- The contracts of the functions that the three statements of crc call. -/
import Derived.Test.YtbhbgdohpjcmmaaDoorProg
import Derived.Test.YtbhbgdohpjcmmaaDoorMath
import Derived.WalkKit
import Derived.WalkLawsBesides
import Derived.Lib.Hide
import Derived.Deep.LoopGhost
namespace Go.Proofs.YtbhbgdohpjcmmaaDoor
open Go Go.RowKit Crc

theorem lt32 (x : BitVec 32) : x.toNat < 4294967296 := x.isLt
theorem bx (x y : BitVec 32) : bits .xor .u32 (x.toNat : Int) (y.toNat : Int) = ((x ^^^ y).toNat : Int) := by
  rw [u32_xor_nat _ _ (lt32 x) (lt32 y), BitVec.toNat_xor]
theorem bmax (x : BitVec 32) : bits .xor .u32 IntKind.u32.max (x.toNat : Int) = ((x ^^^ 4294967295#32).toNat : Int) := by
  rw [BitVec.xor_comm, ← bx]; rfl
theorem bend (x : BitVec 32) : bits .xor .u32 (x.toNat : Int) 4294967295 = ((x ^^^ 4294967295#32).toNat : Int) := by
  rw [← bx]; rfl
theorem bhalf (x : BitVec 32) (n : Nat) : ((x.toNat : Int) / ((2 ^ n : Nat) : Int)) = ((x >>> n).toNat : Int) := by
  rw [BitVec.toNat_ushiftRight, Nat.shiftRight_eq_div_pow, ← Int.natCast_ediv]
theorem band1 (x : BitVec 32) : bits .and .u32 (x.toNat : Int) 1 = ((x.toNat % 2 : Nat) : Int) := by
  have := u32_and_nat x.toNat 1 (lt32 x) (by omega)
  rw [nat_mask1] at this
  exact this
theorem band15 (x : BitVec 32) : bits .and .u32 (x.toNat : Int) 15 = ((x.toNat % 16 : Nat) : Int) := by
  have := u32_and_nat x.toNat 15 (lt32 x) (by omega)
  rw [nat_mask4] at this
  exact this
theorem odd_iff (x : BitVec 32) : x.getLsbD 0 = decide (x.toNat % 2 = 1) := by
  rw [BitVec.getLsbD, Nat.testBit_zero]
theorem bo_toNat (c : Int) (h0 : 0 ≤ c) (h1 : c < 256) : ((bo c).toNat : Int) = c := by
  unfold bo
  rw [BitVec.toNat_ofNat, Nat.mod_eq_of_lt (by omega)]
  omega
theorem ret_u32 {a b : Int} (h : a = b) : Ending.returned (.int .u32 a) = .returned (.int .u32 b) := by rw [h]

theorem st_odd (x : BitVec 32) (h : x.toNat % 2 = 1) : ((st x).toNat : Int) = bits .xor .u32 (x.toNat / 2) 3988292384 := by
  unfold st
  rw [odd_iff, decide_eq_true h, if_pos rfl, ← bx, ← bhalf]; rfl
theorem st_even (x : BitVec 32) (h : ¬ x.toNat % 2 = 1) : ((st x).toNat : Int) = (x.toNat : Int) / 2 := by
  unfold st
  rw [odd_iff, decide_eq_false h, if_neg (by simp), BitVec.xor_zero, ← bhalf]; rfl

set_option maxHeartbeats 400000 in
theorem step_any (x : BitVec 32) (w : World) :
    Calls Tryd.prog 15 #[.int .u32 (x.toNat : Int)] w fun e w' => e = .returned (.int .u32 ((st x).toNat : Int)) ∧ w = w' := by
  by_cases h : x.toNat % 2 = 1
  · have e := st_odd x h
    have hb : (bits .and .u32 (x.toNat : Int) 1 == 1) = true := by rw [band1, h]; rfl
    rw [e]; clear e
    go_enter Tryd.func15, Tryd.ntmps15
    go_wp2
    go_ret
    exact ⟨rfl, rfl⟩
  · have e := st_even x h
    have hb : (bits .and .u32 (x.toNat : Int) 1 == 1) = false := by rw [band1]; simp; omega
    rw [e]; clear e
    go_enter Tryd.func15, Tryd.ntmps15
    go_wp2
    go_ret
    exact ⟨rfl, rfl⟩

/- the table in memory -/
def Tab (w : World) : Prop := ∀ i, i < 16 → w.cell? ⟨0, i, none⟩ = some (.int .u32 (tab i : Int))
/- bytes in memory -/
def Byt (w : World) (a : Option Addr) (l : List Int) : Prop :=
  (∀ i, i < l.length → ∃ b off, a = some ⟨b, off, none⟩ ∧ w.cell? ⟨b, off + i, none⟩ = some (.int .u8 (l.getD i 0))) ∧ ∀ c ∈ l, 0 ≤ c ∧ c < 256
theorem nibble (x : BitVec 32) : ∃ (i : Nat) (s t y : BitVec 32), i < 16 ∧ bits .and .u32 (x.toNat : Int) 15 = (i : Int) ∧ (x.toNat : Int) / 16 = (s.toNat : Int) ∧ (tab i : Int) = (t.toNat : Int) ∧
    bits .xor .u32 (s.toNat : Int) (t.toNat : Int) = (y.toNat : Int) ∧ y = stn 4 x := by
  refine ⟨x.toNat % 16, x >>> 4, BitVec.ofNat 32 (tab (x.toNat % 16)), _, Nat.mod_lt _ (by omega), band15 x, bhalf x 4, ?_, bx _ _, nib x⟩
  rw [BitVec.toNat_ofNat, Nat.mod_eq_of_lt (tab_lt _)]

theorem take_snoc (l : List Int) (k : Nat) (h : k < l.length) : l.take (k + 1) = l.take k ++ [l.getD k 0] := by
  rw [List.take_succ_eq_append_getElem h, List.getD_eq_getElem?_getD, List.getElem?_eq_getElem h]; rfl

set_option maxHeartbeats 400000 in
theorem more_any (a : Option Addr) (len cap : Nat) (l : List Int) (r : BitVec 32) (w : World) (hl : l.length = len) (hm : len ≤ maxLen) (hb : Byt w a l) (ht : Tab w) :
    Calls Tryd.prog 9 #[.int .u32 (r.toNat : Int), .slice a len cap] w fun e w' => e = .returned (.int .u32 ((sum r l).toNat : Int)) ∧ w = w' := by
  unfold maxLen at hm
  have hs : IntKind.u32.signed = false := rfl
  have H := Lib.hid hl; clear hl
  go_enter Tryd.func9, Tryd.ntmps9
  go_wp2
  go_loop [5, 12] (fun t i => ∃ k : Nat, k ≤ len ∧ i = .int .i64 k ∧ t = .int .u32 ((row (r ^^^ 4294967295#32) (l.take k)).toNat : Int)) (fun _ i => len - (intOf i).toNat)
  case atStart => exact ⟨0, Nat.zero_le _, rfl, by rw [bmax]; rfl⟩
  case round =>
    obtain ⟨k, hk, rfl, rfl⟩ := hrel
    by_cases hlt : k < len
    · obtain ⟨b, off, rfl, hc⟩ := hb.1 k (by rw [H.out]; exact hlt)
      have hr := hb.2 (l.getD k 0) (by rw [List.getD_eq_getElem?_getD, List.getElem?_eq_getElem (by rw [H.out]; exact hlt)]; exact List.getElem_mem _)
      have S := Lib.hid (take_snoc l k (by rw [H.out]; exact hlt))
      generalize l.getD k 0 = c at hc hr S
      have R := Lib.hid (row_snoc (r ^^^ 4294967295#32) (l.take k) c)
      generalize row (r ^^^ 4294967295#32) (l.take k) = y at R
      obtain ⟨x1, X1⟩ : ∃ x1, x1 = y ^^^ bo c := ⟨_, rfl⟩
      have h1 : bits .xor .u32 (y.toNat : Int) c = (x1.toNat : Int) := by rw [X1, ← bx, bo_toNat c hr.1 hr.2]
      obtain ⟨i1, s1, t1, x2, hi1, e1, e2, e3, e4, X2⟩ := nibble x1
      obtain ⟨i2, s2, t2, x3, hi2, f1, f2, f3, f4, X3⟩ := nibble x2
      have c1 := ht i1 hi1
      have c2 := ht i2 hi2
      rw [e3] at c1
      rw [f3] at c2
      have X := Lib.hid (show x3 = stn 8 (y ^^^ bo c) by rw [X3, X2, X1, ← stn_add])
      clear X1 X2 X3 e3 f3 hb ht
      obtain ⟨r0, r1⟩ := hr
      go_wp2
      go_round
      case rel => exact ⟨k + 1, by omega, by go_num, by rw [S.out, R.out, X.out]⟩
      case measure => simp [intOf]; omega
    · have E := Lib.hid (show l.take k = l from List.take_of_length_le (by rw [H.out]; omega))
      go_wp2
      go_ret
      exact ⟨ret_u32 (by rw [bmax, E.out]; rfl), rfl⟩

set_option maxHeartbeats 400000 in
theorem sum_any (a : Option Addr) (len cap : Nat) (l : List Int) (w : World) (hl : l.length = len) (hm : len ≤ maxLen) (hb : Byt w a l) (ht : Tab w) :
    Calls Tryd.prog 7 #[.slice a len cap] w fun e w' => e = .returned (.int .u32 ((sum 0#32 l).toNat : Int)) ∧ w = w' := by
  have H := Lib.hid (more_any a len cap l 0#32 w hl hm hb ht)
  clear hl
  go_enter Tryd.func7, Tryd.ntmps7
  go_wp2_with fail
  refine H.out.mono ?_
  rintro e w' ⟨rfl, rfl⟩
  go_wp2
  go_ret
  exact ⟨rfl, rfl⟩

set_option maxHeartbeats 400000 in
theorem rrow_any (a : Option Addr) (len cap : Nat) (l : List Int) (r : BitVec 32) (w : World) (hl : l.length = len) (hm : len ≤ maxLen) (hb : Byt w a l) :
    Calls Tryd.prog 12 #[.int .u32 (r.toNat : Int), .slice a len cap] w fun e w' => e = .returned (.int .u32 ((row r l).toNat : Int)) ∧ w = w' := by
  unfold maxLen at hm
  have H := Lib.hid hl; clear hl
  go_enter Tryd.func12, Tryd.ntmps12
  go_wp2
  go_loop [0, 10] (fun t i => ∃ k : Nat, k ≤ len ∧ i = .int .i64 k ∧ t = .int .u32 ((row r (l.take k)).toNat : Int)) (fun _ i => len - (intOf i).toNat)
  case atStart => exact ⟨0, Nat.zero_le _, rfl, rfl⟩
  case round =>
    obtain ⟨k, hk, rfl, rfl⟩ := hrel
    by_cases hlt : k < len
    · obtain ⟨b, off, rfl, hc⟩ := hb.1 k (by rw [H.out]; exact hlt)
      have hr := hb.2 (l.getD k 0) (by rw [List.getD_eq_getElem?_getD, List.getElem?_eq_getElem (by rw [H.out]; exact hlt)]; exact List.getElem_mem _)
      have S := Lib.hid (take_snoc l k (by rw [H.out]; exact hlt))
      generalize l.getD k 0 = c at hc hr S
      have R := Lib.hid (row_snoc r (l.take k) c)
      generalize row r (l.take k) = y at R
      obtain ⟨x1, X1⟩ : ∃ x1, x1 = y ^^^ bo c := ⟨_, rfl⟩
      have h1 : bits .xor .u32 (y.toNat : Int) c = (x1.toNat : Int) := by rw [X1, ← bx, bo_toNat c hr.1 hr.2]
      have X := Lib.hid X1
      clear X1 hb
      obtain ⟨r0, r1⟩ := hr
      go_wp2
      go_loop [0, 6] (fun t i => ∃ j : Nat, j ≤ 8 ∧ i = .int .i64 j ∧ t = .int .u32 ((stn j x1).toNat : Int)) (fun _ i => 8 - (intOf i).toNat)
      case atStart => exact ⟨0, by omega, rfl, rfl⟩
      case round =>
        obtain ⟨j, hj, rfl, rfl⟩ := hrel
        by_cases hjt : j < 8
        · have SS := Lib.hid (stn_succ j x1)
          generalize stn j x1 = z at SS
          by_cases hz : z.toNat % 2 = 1
          · have T := Lib.hid (st_odd z hz)
            have hz2 : ((z.toNat : Int) % 2 == 1) = true := by rw [beq_iff_eq]; omega
            clear hz
            go_wp2
            go_round
            case rel => exact ⟨j + 1, by omega, by go_num, by rw [SS.out, T.out]⟩
            case measure => simp [intOf]; omega
          · have T := Lib.hid (st_even z hz)
            have hz2 : ((z.toNat : Int) % 2 == 1) = false := by rw [beq_eq_false_iff_ne]; omega
            clear hz
            go_wp2
            go_round
            case rel => exact ⟨j + 1, by omega, by go_num, by rw [SS.out, T.out]⟩
            case measure => simp [intOf]; omega
        · have SS := Lib.hid (show stn j x1 = stn 8 x1 by rw [show j = 8 by omega])
          go_wp2
          go_round
          case rel => exact ⟨k + 1, by omega, by go_num, by rw [S.out, R.out, SS.out, X.out]⟩
          case measure => simp [intOf]; omega
    · have E := Lib.hid (show l.take k = l from List.take_of_length_le (by rw [H.out]; omega))
      go_wp2
      go_ret
      exact ⟨ret_u32 (by rw [E.out]), rfl⟩

set_option maxHeartbeats 400000 in
theorem rsum_any (a : Option Addr) (len cap : Nat) (l : List Int) (w : World) (hl : l.length = len) (hm : len ≤ maxLen) (hb : Byt w a l) :
    Calls Tryd.prog 8 #[.slice a len cap] w fun e w' => e = .returned (.int .u32 ((sum 0#32 l).toNat : Int)) ∧ w = w' := by
  have H := Lib.hid (rrow_any a len cap l 4294967295#32 w hl hm hb)
  have E := Lib.hid (bend (row 4294967295#32 l))
  have G := Lib.hid (show sum 0#32 l = row 4294967295#32 l ^^^ 4294967295#32 from rfl)
  clear hl
  go_enter Tryd.func8, Tryd.ntmps8
  go_wp2_with fail
  refine H.out.mono ?_
  rintro e w' ⟨rfl, rfl⟩
  go_wp2
  go_ret
  exact ⟨ret_u32 (by rw [E.out, G.out]), rfl⟩

set_option maxHeartbeats 400000 in
theorem rmore_any (a : Option Addr) (len cap : Nat) (l : List Int) (r : BitVec 32) (w : World) (hl : l.length = len) (hm : len ≤ maxLen) (hb : Byt w a l) :
    Calls Tryd.prog 10 #[.int .u32 (r.toNat : Int), .slice a len cap] w fun e w' => e = .returned (.int .u32 ((sum r l).toNat : Int)) ∧ w = w' := by
  have H := Lib.hid (rrow_any a len cap l (r ^^^ 4294967295#32) w hl hm hb)
  have E := Lib.hid (bend (row (r ^^^ 4294967295#32) l))
  have G := Lib.hid (show sum r l = row (r ^^^ 4294967295#32) l ^^^ 4294967295#32 from rfl)
  have hx := bend r
  clear hl
  go_enter Tryd.func10, Tryd.ntmps10
  go_wp2_with fail
  refine H.out.mono ?_
  rintro e w' ⟨rfl, rfl⟩
  go_wp2
  go_ret
  exact ⟨ret_u32 (by rw [E.out, G.out]), rfl⟩

theorem low_zero (x : BitVec 32) (h : ∀ i, i < 32 - 0 → x.getLsbD i = false) : x = 0#32 := by
  apply BitVec.eq_of_getLsbD_eq
  intro i hi
  rw [h i (by omega)]; simp
theorem low_shl (n : Nat) (x : BitVec 32) (h : ∀ i, i < 32 - (n + 1) → x.getLsbD i = false) : ∀ i, i < 32 - n → (x <<< 1).getLsbD i = false := by
  intro i hi
  rw [BitVec.getLsbD_shiftLeft]
  by_cases h0 : i < 1
  · simp [h0]
  · simp [h (i - 1) (by omega)]
theorem tm_zero (n : Nat) (y : BitVec 32) : tm n 0#32 y = 0#32 := by
  induction n generalizing y with
  | zero => rfl
  | succ n ih => rw [tm, show (0#32 : BitVec 32) <<< 1 = 0#32 by decide, ih]; simp
theorem tm_step (n : Nat) (x y p : BitVec 32) : p ^^^ tm (n + 1) x y = (if x.getLsbD 31 then p ^^^ y else p) ^^^ tm n (x <<< 1) (st y) := by
  rw [tm]
  cases x.getLsbD 31
  · simp
  · simp [BitVec.xor_assoc]
theorem shl_one (x : BitVec 32) : IntKind.u32.wrap ((x.toNat : Int) * 2) = ((x <<< 1).toNat : Int) := by
  rw [IntKind.wrap_u32', BitVec.toNat_shiftLeft, Nat.shiftLeft_eq]
  omega
theorem top_iff (x : BitVec 32) : x.getLsbD 31 = decide (x.toNat / 2147483648 = 1) := by
  rw [BitVec.getLsbD, Nat.testBit_eq_decide_div_mod_eq]
  have := lt32 x
  congr 1
  apply propext
  constructor <;> intro h <;> omega
theorem top_one (x : BitVec 32) (h : x.getLsbD 31 = true) : ((x.toNat : Int) / 2147483648 == 1) = true := by
  rw [top_iff, decide_eq_true_iff] at h
  rw [beq_iff_eq]; omega
theorem top_not (x : BitVec 32) (h : ¬ x.getLsbD 31 = true) : ((x.toNat : Int) / 2147483648 == 1) = false := by
  rw [top_iff, decide_eq_true_iff] at h
  rw [beq_eq_false_iff_ne]; omega

set_option maxHeartbeats 400000 in
theorem times_any (a b : BitVec 32) (w : World) :
    Calls Tryd.prog 14 #[.int .u32 (a.toNat : Int), .int .u32 (b.toNat : Int)] w fun e w' => e = .returned (.int .u32 ((tm 32 a b).toNat : Int)) ∧ w = w' := by
  go_enter Tryd.func14, Tryd.ntmps14
  go_wp2
  go_loopg [0, 1, 5] 32 (fun n s0 s1 s5 wr => wr = w ∧ ∃ x y p : BitVec 32, s0 = .int .u32 (x.toNat : Int) ∧ s1 = .int .u32 (y.toNat : Int) ∧ s5 = .int .u32 (p.toNat : Int) ∧ (∀ i, i < 32 - n → x.getLsbD i = false) ∧ p ^^^ tm n x y = tm 32 a b)
  case atStart => exact ⟨rfl, a, b, 0#32, rfl, rfl, rfl, fun i h => by omega, BitVec.zero_xor⟩
  case round =>
    obtain ⟨rfl, x, y, p, rfl, rfl, rfl, hlow, heq⟩ := hrel
    have HL := Lib.hid hlow
    have HE := Lib.hid heq
    clear hlow heq
    by_cases hx : x = 0#32
    · have hx2 : ((x.toNat : Int) != 0) = false := by rw [hx]; rfl
      have hp := Lib.hid (show p = tm 32 a b by rw [← HE.out, hx, tm_zero, BitVec.xor_zero])
      clear hx
      go_wp2
      go_ret
      exact ⟨ret_u32 (by rw [hp.out]), rfl⟩
    · have hx2 : ((x.toNat : Int) != 0) = true := by
        rw [bne_iff_ne]
        intro h
        exact hx (BitVec.eq_of_toNat_eq (by simpa using h))
      obtain ⟨n, hn⟩ : ∃ n, gk = n + 1 := by
        rcases gk with _ | n
        · exact absurd (low_zero x (HL.out)) hx
        · exact ⟨n, rfl⟩
      subst hn
      obtain ⟨x2, X2⟩ : ∃ x2, x <<< 1 = x2 := ⟨_, rfl⟩
      have hw := shl_one x
      have HE2 := Lib.hid (tm_step n x y p)
      have HL2 := Lib.hid (low_shl n x HL.out)
      rw [X2] at hw HE2 HL2
      clear hx X2
      by_cases h31 : x.getLsbD 31
      · have ht : ((x.toNat : Int) / 2147483648 == 1) = true := top_one x h31
        obtain ⟨p2, P2⟩ : ∃ p2, p ^^^ y = p2 := ⟨_, rfl⟩
        have hb := bx p y
        have HP := Lib.hid (show p2 ^^^ tm n x2 (st y) = tm 32 a b by rw [← HE.out, HE2.out, if_pos h31, P2])
        rw [P2] at hb
        clear h31 P2
        go_wp2_with (go_at_call 15; refine (step_any _ _).mono ?_; rintro e w' ⟨rfl, rfl⟩)
        go_roundg n
        case measure => omega
        case rel => exact ⟨rfl, x2, st y, p2, rfl, rfl, rfl, HL2.out, HP.out⟩
      · have ht : ((x.toNat : Int) / 2147483648 == 1) = false := top_not x h31
        have HP := Lib.hid (show p ^^^ tm n x2 (st y) = tm 32 a b by rw [← HE.out, HE2.out, if_neg h31])
        clear h31
        go_wp2_with (go_at_call 15; refine (step_any _ _).mono ?_; rintro e w' ⟨rfl, rfl⟩)
        go_roundg n
        case measure => omega
        case rel => exact ⟨rfl, x2, st y, p, rfl, rfl, rfl, HL2.out, HP.out⟩

theorem times_pow (a f r : BitVec 32) (k : Nat) (hf : f = stn k one) (hr : stn k a = r) (w : World) :
    Calls Tryd.prog 14 #[.int .u32 (a.toNat : Int), .int .u32 (f.toNat : Int)] w fun e w' => e = .returned (.int .u32 (r.toNat : Int)) ∧ w = w' := by
  have := times_any a f w
  rw [hf, tm_one 32 k a (fun i h => by omega), hr] at this
  rw [hf]
  exact this
theorem band64 (n : Nat) (hn : n < 18446744073709551616) : bits .and .u64 (n : Int) 1 = ((n % 2 : Nat) : Int) := by
  have := u64_and_nat n 1 hn (by omega)
  rw [nat_mask1] at this
  exact this

set_option maxHeartbeats 400000 in
theorem carry_any (a : BitVec 32) (n : Nat) (hn : n < 18446744073709551616) (w : World) :
    Calls Tryd.prog 13 #[.int .u32 (a.toNat : Int), .int .u64 (n : Int)] w fun e w' => e = .returned (.int .u32 ((stn (8 * n) a).toNat : Int)) ∧ w = w' := by
  go_enter Tryd.func13, Tryd.ntmps13
  go_wp2
  go_loop [0, 1, 5] (fun s0 s1 s5 => ∃ (x f : BitVec 32) (m k : Nat), m ≤ n ∧ s0 = .int .u32 (x.toNat : Int) ∧ s1 = .int .u64 (m : Int) ∧ s5 = .int .u32 (f.toNat : Int) ∧ f = stn k one ∧ stn (k * m) x = stn (8 * n) a) (fun _ i _ => (intOf i).toNat)
  case atStart => exact ⟨a, stn 8 one, n, 8, Nat.le_refl _, rfl, rfl, rfl, rfl, rfl⟩
  case round =>
    obtain ⟨x, f, m, k, hm, rfl, rfl, rfl, hf, heq⟩ := hrel
    have HE := Lib.hid heq
    have HF := Lib.hid hf
    clear heq hf
    by_cases h0 : m = 0
    · subst h0
      go_wp2
      go_ret
      exact ⟨ret_u32 (by rw [← HE.out]; rfl), rfl⟩
    · have hp : (0 : Int) < (m : Int) := by omega
      have hp2 : 0 < m := by omega
      obtain ⟨q, hq⟩ : ∃ q, q = m / 2 := ⟨_, rfl⟩
      have hd : (m : Int) / 2 = (q : Int) := by omega
      obtain ⟨f2, F2⟩ : ∃ f2, stn k f = f2 := ⟨_, rfl⟩
      have C2 := Lib.hid (times_pow f f f2 k HF.out F2)
      have HF2 := Lib.hid (show f2 = stn (k + k) one by rw [← F2, HF.out, ← stn_add])
      have hb := band64 m (by omega)
      by_cases h1 : m % 2 = 1
      · have hb2 : (bits .and .u64 (m : Int) 1 == 1) = true := by rw [hb, h1]; rfl
        obtain ⟨x2, X2⟩ : ∃ x2, stn k x = x2 := ⟨_, rfl⟩
        have C1 := Lib.hid (times_pow x f x2 k HF.out X2)
        have HE2 := Lib.hid (show stn ((k + k) * q) x2 = stn (8 * n) a by
          rw [← HE.out, ← X2, ← stn_add, show m = q + q + 1 by omega]; congr 1; rw [Nat.mul_add, Nat.mul_add, Nat.add_mul]; omega)
        have HQ := Lib.hid (show q ≤ n ∧ q < m by omega)
        clear hb h1 F2 X2 hq h0
        go_wp2_with fail
        refine (C1.out _).mono ?_
        rintro e w' ⟨rfl, rfl⟩
        go_wp2_with fail
        refine (C2.out _).mono ?_
        rintro e w' ⟨rfl, rfl⟩
        go_wp2
        go_round
        case rel => exact ⟨x2, f2, q, k + k, HQ.out.1, rfl, rfl, rfl, HF2.out, HE2.out⟩
        case measure => have := HQ.out.2; simp [intOf]; omega
      · have hb2 : (bits .and .u64 (m : Int) 1 == 1) = false := by rw [hb, beq_eq_false_iff_ne]; omega
        have HE2 := Lib.hid (show stn ((k + k) * q) x = stn (8 * n) a by
          rw [← HE.out, show m = q + q by omega]; congr 1; rw [Nat.mul_add, Nat.add_mul])
        have HQ := Lib.hid (show q ≤ n ∧ q < m by omega)
        clear hb h1 F2 hq h0
        go_wp2_with fail
        refine (C2.out _).mono ?_
        rintro e w' ⟨rfl, rfl⟩
        go_wp2
        go_round
        case rel => exact ⟨x, f2, q, k + k, HQ.out.1, rfl, rfl, rfl, HF2.out, HE2.out⟩
        case measure => have := HQ.out.2; simp [intOf]; omega

set_option maxHeartbeats 400000 in
theorem join_any (a b : BitVec 32) (n : Nat) (hn : n ≤ 1048576) (w : World) :
    Calls Tryd.prog 11 #[.int .u32 (a.toNat : Int), .int .u32 (b.toNat : Int), .int .i64 (n : Int)] w fun e w' => e = .returned (.int .u32 ((stn (8 * n) a ^^^ b).toNat : Int)) ∧ w = w' := by
  have C := Lib.hid (carry_any a n (by omega))
  have B := Lib.hid (bx (stn (8 * n) a) b)
  go_enter Tryd.func11, Tryd.ntmps11
  go_wp2_with fail
  refine (C.out _).mono ?_
  rintro e w' ⟨rfl, rfl⟩
  go_wp2
  go_ret
  exact ⟨ret_u32 B.out, rfl⟩
end Go.Proofs.YtbhbgdohpjcmmaaDoor
