/- CrcSpoilt: the walk of the statement's own function. -/
import Derived.Test.YtbhbgdohpjcmmaaDoorC
import Derived.Test.YtbhbgdohpjcmmaaDoorMath2
import Derived.ChangeKeysEq
namespace Go.Proofs.YtbhbgdohpjcmmaaDoor
open Go Go.RowKit Crc

def agg4 (x0 x1 x2 x3 : Int) : Array Value := #[.int .u8 x0, .int .u8 x1, .int .u8 x2, .int .u8 x3]
theorem part5 (x0 x1 x2 x3 : Int) (w : World) : (part 5 (agg4 x0 x1 x2 x3) (0 * 1)).run Tryd.prog w = .ok (.int .u8 x0) w ∧ (part 5 (agg4 x0 x1 x2 x3) (1 * 1)).run Tryd.prog w = .ok (.int .u8 x1) w ∧
    (part 5 (agg4 x0 x1 x2 x3) (2 * 1)).run Tryd.prog w = .ok (.int .u8 x2) w ∧ (part 5 (agg4 x0 x1 x2 x3) (3 * 1)).run Tryd.prog w = .ok (.int .u8 x3) w :=
  ⟨by kernel_rfl, by kernel_rfl, by kernel_rfl, by kernel_rfl⟩
theorem eqStep (xs ys : Array Value) (i : Nat) (is : List Nat) (a b : Int) (w : World) (ha : (part 5 xs (i * 1)).run Tryd.prog w = .ok (.int .u8 a) w) (hb : (part 5 ys (i * 1)).run Tryd.prog w = .ok (.int .u8 b) w) :
    (Op.eqItems 9999 5 1 xs ys (i :: is)).run Tryd.prog w = if a = b then (Op.eqItems 9999 5 1 xs ys is).run Tryd.prog w else .ok false w := by
  rw [Op.eqItems]
  simp only [Sem.run_bind, ha, hb, Result.andThen_ok, run_equalIn_int w 9998 5 .u8 .u8 a b Tryd.underlying5]
  by_cases h : a = b
  · simp [h]
  · simp [h]
theorem eq4 (x0 x1 x2 x3 : Int) (w : World) : (Op.equalIn 10000 30 (.agg (agg4 x0 x1 x2 x3)) (.agg (agg4 0 0 0 0))).run Tryd.prog w = .ok (decide (x0 = 0 ∧ x1 = 0 ∧ x2 = 0 ∧ x3 = 0)) w := by
  obtain ⟨i, hi, _⟩ := info5
  rw [run_equalIn_array w 9999 _ _ Tryd.underlying30 hi, show Tryd.prog.cellsOf 5 = 1 by kernel_rfl, show List.range 4 = [0, 1, 2, 3] from rfl]
  obtain ⟨p0, p1, p2, p3⟩ := part5 x0 x1 x2 x3 w
  obtain ⟨q0, q1, q2, q3⟩ := part5 0 0 0 0 w
  rw [eqStep _ _ _ _ _ _ _ p0 q0, eqStep _ _ _ _ _ _ _ p1 q1, eqStep _ _ _ _ _ _ _ p2 q2, eqStep _ _ _ _ _ _ _ p3 q3, Op.eqItems, Sem.run_pure]
  by_cases h0 : x0 = 0 <;> by_cases h1 : x1 = 0 <;> by_cases h2 : x2 = 0 <;> by_cases h3 : x3 = 0 <;> simp [h0, h1, h2, h3]

theorem Own.at_ {w : World} {B : Nat} {A : Option Addr} {n c : Nat} {l : List Int} (h : Own w B (.slice A n c) l) (hl : 0 < l.length) : ∃ g, A = some ⟨g, 0, none⟩ ∧ n = l.length ∧ B ≤ g := by
  rcases h.2 with ⟨hv, h0⟩ | ⟨g, cap, cur, hv, hg, _⟩
  · omega
  · injection hv with h1 h2 h3
    exact ⟨g, h1, h2, hg⟩
theorem Own.row {w : World} {B : Nat} {g n c : Nat} {l : List Int} (h : Own w B (.slice (some ⟨g, 0, none⟩) n c) l) : ∃ cur, w.heap[g]? = some (.cells cur 5 (0, 0)) ∧ l.length ≤ c ∧ c ≤ maxLen ∧ cur.size = c ∧ cur.toList.take l.length = l.map (Value.int .u8) ∧ B ≤ g ∧ n = l.length := by
  rcases h.2 with ⟨hv, _⟩ | ⟨g', cap, cur, hv, hg, hh, h1, h2, h3, h4⟩
  · cases hv
  · injection hv with e1 e2 e3
    injection e1 with e1
    injection e1 with e1
    subst e1
    subst e3
    rw [Nat.mul_one] at h3 h4
    exact ⟨cur, hh, h1, h2, h3, h4, hg, e2⟩
theorem Own.cell {w : World} {B : Nat} {g n c : Nat} {l : List Int} (h : Own w B (.slice (some ⟨g, 0, none⟩) n c) l) {j : Nat} (hj : j < l.length) : w.cell? ⟨g, j, none⟩ = some (.int .u8 (l.getD j 0)) := by
  have := World.ownsRow.cells h (g := g) rfl j (.int .u8 (l.getD j 0)) (by simp [List.getElem?_eq_getElem hj])
  rwa [add_plain, Nat.zero_add] at this
theorem Own.frozen {w : World} {B : Nat} {g n c : Nat} {l : List Int} (h : Own w B (.slice (some ⟨g, 0, none⟩) n c) l) (j : Nat) : w.frozen? ⟨g, j, none⟩ = false := by
  obtain ⟨cur, hh, _⟩ := h.row
  simp [World.frozen?, hh]
theorem Own.set {w : World} {B : Nat} {g n c : Nat} {l : List Int} (h : Own w B (.slice (some ⟨g, 0, none⟩) n c) l) (j : Nat) (e : Int) :
    Own (w.setCell ⟨g, j, none⟩ (.int .u8 e)) B (.slice (some ⟨g, 0, none⟩) n c) (l.set j e) := by
  obtain ⟨cur, hh, h1, h2, h3, h4, hg, hn⟩ := h.row
  refine ⟨by simp, .inr ⟨g, c, cur.setIfInBounds j (.int .u8 e), by rw [hn, List.length_set], hg, ?_, by rw [List.length_set]; exact h1, h2, by simpa using h3, ?_⟩⟩
  · simp [World.setCell, Array.getElem?_modify, hh]
  · rw [List.length_set, Nat.mul_one, Array.toList_setIfInBounds, List.take_set, h4, List.map_set]
theorem Own.empty_at (w : World) (n : Nat) (h : w.heap.size = n) (B : Nat) (hB : B ≤ n) : Own (w.alloc (.cells #[] 5)) B (.slice (some ⟨n, 0, none⟩) 0 0) [] := by
  subst h
  exact World.ownsRow_made w #[] 0 hB (by decide) rfl
theorem cut4 (l : List Int) (k : Nat) (h : k + 4 ≤ l.length) : ∃ p b0 b1 b2 b3 s, l = p ++ [b0, b1, b2, b3] ++ s ∧ p.length = k := by
  have hd : 4 ≤ (l.drop k).length := by rw [List.length_drop]; omega
  match hq : l.drop k, hd with
  | b0 :: b1 :: b2 :: b3 :: s, _ =>
    refine ⟨l.take k, b0, b1, b2, b3, s, ?_, by rw [List.length_take]; omega⟩
    have := List.take_append_drop k l
    rw [hq] at this
    rw [List.append_assoc]
    exact this.symm
theorem box4 {w w1 : World} {x0 x1 x2 x3 : Int} (hb : Below (w.heap.size + 1) ((w.alloc (.cells #[.int .u8 x0, .int .u8 x1, .int .u8 x2, .int .u8 x3] 30)).alloc (.cells #[] 5)) w1) :
    w1.cell? ⟨w.heap.size, 0, none⟩ = some (.int .u8 x0) ∧ w1.cell? ⟨w.heap.size, 1, none⟩ = some (.int .u8 x1) ∧ w1.cell? ⟨w.heap.size, 2, none⟩ = some (.int .u8 x2) ∧ w1.cell? ⟨w.heap.size, 3, none⟩ = some (.int .u8 x3) := by
  have h : ∀ i, w1.cell? ⟨w.heap.size, i, none⟩ = (#[Value.int .u8 x0, .int .u8 x1, .int .u8 x2, .int .u8 x3])[i]? := fun i => by
    rw [hb.cell (p := ⟨w.heap.size, i, none⟩) (Nat.lt_succ_self _), World.cell?_alloc_lt _ _ _ (by simp), World.cell?_alloc_mark]
  exact ⟨h 0, h 1, h 2, h 3⟩

def mix (p s : List Int) (b0 b1 b2 b3 e0 e1 e2 e3 : Int) (j : Nat) : List Int := p ++ [if 0 < j then e0 else b0, if 1 < j then e1 else b1, if 2 < j then e2 else b2, if 3 < j then e3 else b3] ++ s
theorem xor8 (b x : Int) (hb : 0 ≤ b ∧ b < 256) (hx : 0 ≤ x ∧ x < 256) : ∃ e : Int, bits .xor .u8 b x = e ∧ (0 ≤ e ∧ e < 256) ∧ bo e = bo b ^^^ bo x := by
  refine ⟨_, rfl, ?_⟩
  rw [u8_xor b x hb.1 hb.2 hx.1 hx.2]
  have hlt : b.toNat ^^^ x.toNat < 2 ^ 8 := Nat.xor_lt_two_pow (by omega) (by omega)
  refine ⟨by omega, ?_⟩
  unfold bo
  rw [Int.toNat_natCast]
  apply BitVec.eq_of_toNat_eq
  rw [BitVec.toNat_xor, BitVec.toNat_ofNat, BitVec.toNat_ofNat, BitVec.toNat_ofNat, Nat.mod_eq_of_lt (by omega), Nat.mod_eq_of_lt (by omega), Nat.mod_eq_of_lt (by omega)]
theorem idx4 (x0 x1 x2 x3 : Int) (w : World) : (Instr.index 30 (.agg #[.int .u8 x0, .int .u8 x1, .int .u8 x2, .int .u8 x3]) (.int .i64 0)).run Tryd.prog w = .ok (.int .u8 x0) w ∧
    (Instr.index 30 (.agg #[.int .u8 x0, .int .u8 x1, .int .u8 x2, .int .u8 x3]) (.int .i64 1)).run Tryd.prog w = .ok (.int .u8 x1) w ∧
    (Instr.index 30 (.agg #[.int .u8 x0, .int .u8 x1, .int .u8 x2, .int .u8 x3]) (.int .i64 2)).run Tryd.prog w = .ok (.int .u8 x2) w ∧
    (Instr.index 30 (.agg #[.int .u8 x0, .int .u8 x1, .int .u8 x2, .int .u8 x3]) (.int .i64 3)).run Tryd.prog w = .ok (.int .u8 x3) w :=
  ⟨by kernel_rfl, by kernel_rfl, by kernel_rfl, by kernel_rfl⟩
theorem round4 (p s : List Int) (b0 b1 b2 b3 e0 e1 e2 e3 x0 x1 x2 x3 : Int) (h0 : bits .xor .u8 b0 x0 = e0) (h1 : bits .xor .u8 b1 x1 = e1) (h2 : bits .xor .u8 b2 x2 = e2) (h3 : bits .xor .u8 b3 x3 = e3) (j : Nat) (hj : j < 4) :
    ∃ xj bj ej : Int, (∀ w, (Instr.index 30 (.agg #[.int .u8 x0, .int .u8 x1, .int .u8 x2, .int .u8 x3]) (.int .i64 (j : Int))).run Tryd.prog w = .ok (.int .u8 xj) w) ∧
      (mix p s b0 b1 b2 b3 e0 e1 e2 e3 j).getD (p.length + j) 0 = bj ∧ bits .xor .u8 bj xj = ej ∧ (mix p s b0 b1 b2 b3 e0 e1 e2 e3 j).set (p.length + j) ej = mix p s b0 b1 b2 b3 e0 e1 e2 e3 (j + 1) := by
  match j, hj with
  | 0, _ => exact ⟨x0, b0, e0, fun w => (idx4 x0 x1 x2 x3 w).1, by simp [mix], h0, by simp [mix]⟩
  | 1, _ => exact ⟨x1, b1, e1, fun w => (idx4 x0 x1 x2 x3 w).2.1, by simp [mix], h1, by simp [mix]⟩
  | 2, _ => exact ⟨x2, b2, e2, fun w => (idx4 x0 x1 x2 x3 w).2.2.1, by simp [mix], h2, by simp [mix]⟩
  | 3, _ => exact ⟨x3, b3, e3, fun w => (idx4 x0 x1 x2 x3 w).2.2.2, by simp [mix], h3, by simp [mix]⟩
theorem mix_length (p s : List Int) (b0 b1 b2 b3 e0 e1 e2 e3 : Int) (j : Nat) : (mix p s b0 b1 b2 b3 e0 e1 e2 e3 j).length = (p ++ [b0, b1, b2, b3] ++ s).length := by simp [mix]

set_option maxHeartbeats 400000 in
theorem spoilt_walk (a : Option Addr) (len cap : Nat) (l : List Int) (at_ x0 x1 x2 x3 : Int) (w : World)
    (hl : l.length = len) (hm : len ≤ maxLen) (hn : a = none → cap = 0) (hb : Byt w a l) (hx0 : 0 ≤ x0 ∧ x0 < 256) (hx1 : 0 ≤ x1 ∧ x1 < 256) (hx2 : 0 ≤ x2 ∧ x2 < 256) (hx3 : 0 ≤ x3 ∧ x3 < 256) (ht : Tab w) :
    Calls Tryd.prog 5 #[.slice a len cap, .int .i64 at_, .agg #[.int .u8 x0, .int .u8 x1, .int .u8 x2, .int .u8 x3]] w fun e w' => e = .returned (.bool true) ∧ Below w.heap.size w w' := by
  have HL := Lib.hid hl
  have HN := Lib.hid hn
  have HM := Lib.hid hm
  have HY := Lib.hid hb
  have HT := Lib.hid ht
  clear hl hm hn hb ht
  have B0 := Lib.hid ((Below.refl w.heap.size w).alloc (Nat.le_refl _) (.cells #[.int .u8 x0, .int .u8 x1, .int .u8 x2, .int .u8 x3] 30))
  have T0 := Lib.hid (HT.out.below B0.out HT.out.lt)
  have heq : ∀ w : World, (Op.equalIn 10000 30 (.agg #[.int .u8 x0, .int .u8 x1, .int .u8 x2, .int .u8 x3]) (.agg #[.int .u8 0, .int .u8 0, .int .u8 0, .int .u8 0])).run Tryd.prog w = .ok (decide (x0 = 0 ∧ x1 = 0 ∧ x2 = 0 ∧ x3 = 0)) w := eq4 x0 x1 x2 x3
  by_cases h5 : 5000 < len
  · have hd : decide ((5000 : Int) < (len : Int)) = true := by simp; omega
    clear heq
    go_enter Tryd.func5, Tryd.ntmps5
    go_wp2_with fail
    refine (fixed_any _ T0.out).mono ?_
    rintro e w1 ⟨rfl, hb1⟩
    go_wp2
    go_ret
    exact ⟨rfl, B0.out.trans (hb1.mono B0.out.size)⟩
  have hd : decide ((5000 : Int) < (len : Int)) = false := by simp; omega
  obtain ⟨z, hz⟩ : ∃ z, decide (x0 = 0 ∧ x1 = 0 ∧ x2 = 0 ∧ x3 = 0) = z := ⟨_, rfl⟩
  rw [hz] at heq
  cases z
  case true =>
    clear hz
    go_enter Tryd.func5, Tryd.ntmps5
    go_wp2_with fail
    refine (fixed_any _ T0.out).mono ?_
    rintro e w1 ⟨rfl, hb1⟩
    go_wp2
    go_ret
    exact ⟨rfl, B0.out.trans (hb1.mono B0.out.size)⟩
  have HZ := Lib.hid hz
  clear hz
  by_cases h4 : len < 4
  · have hd4 : decide ((len : Int) < 4) = true := by simp; omega
    go_enter Tryd.func5, Tryd.ntmps5
    go_wp2_with fail
    refine (fixed_any _ T0.out).mono ?_
    rintro e w1 ⟨rfl, hb1⟩
    go_wp2
    go_ret
    exact ⟨rfl, B0.out.trans (hb1.mono B0.out.size)⟩
  have hd4 : decide ((len : Int) < 4) = false := by simp; omega
  by_cases h0 : at_ < 0
  · have hd0 : decide (at_ < 0) = true := by simp; omega
    go_enter Tryd.func5, Tryd.ntmps5
    go_wp2_with fail
    refine (fixed_any _ T0.out).mono ?_
    rintro e w1 ⟨rfl, hb1⟩
    go_wp2
    go_ret
    exact ⟨rfl, B0.out.trans (hb1.mono B0.out.size)⟩
  have hd0 : decide (at_ < 0) = false := by simp; omega
  have hs : (0 : Int) ≤ (len : Int) - 4 := by omega
  by_cases h6 : (len : Int) - 4 < at_
  · have hd6 : decide ((len : Int) - 4 < at_) = true := by simp; omega
    go_enter Tryd.func5, Tryd.ntmps5
    go_wp2_with fail
    refine (fixed_any _ T0.out).mono ?_
    rintro e w1 ⟨rfl, hb1⟩
    go_wp2
    go_ret
    exact ⟨rfl, B0.out.trans (hb1.mono B0.out.size)⟩
  have hd6 : decide ((len : Int) - 4 < at_) = false := by simp; omega
  obtain ⟨k, rfl⟩ : ∃ k : Nat, at_ = k := ⟨at_.toNat, by omega⟩
  have hk : k + 4 ≤ len := by omega
  clear h0 h6
  have B1 := Lib.hid (B0.out.alloc (by simp) (.cells #[] 5))
  go_enter Tryd.func5, Tryd.ntmps5
  go_wp2_with (at_builtin; refine wp_app (.tmp 35) (.tmp 36) _ rfl rfl (w.heap.size + 1) _ [] rfl (Own.empty_at _ _ (by simp) _ (Nat.le_refl _)) a len cap l rfl HL.out (HY.out.below B1.out) HN.out (by simp) len (by simpa using HL.out) (by omega) (by simp) ?_; intro A1 c1 w1 ho hY1 hbel; rw [List.nil_append] at ho; have O1 := Lib.hid ho; have B2 := Lib.hid hbel; obtain ⟨q0, q1, q2, q3⟩ := box4 hbel; clear ho hY1 hbel)
  obtain ⟨g, rfl, -, hg⟩ := O1.out.at_ (by rw [HL.out]; omega)
  obtain ⟨p, b0, b1, b2, b3, s, hcut, hpk⟩ := cut4 l k (by rw [HL.out]; exact hk)
  have hr : ∀ c ∈ [b0, b1, b2, b3], 0 ≤ c ∧ c < 256 := fun c hc => HY.out.2 c (by rw [hcut]; simp only [List.mem_append]; exact .inl (.inr hc))
  have r0 := hr b0 (by simp)
  have r1 := hr b1 (by simp)
  have r2 := hr b2 (by simp)
  have r3 := hr b3 (by simp)
  obtain ⟨e0, E0, f0, F0⟩ := xor8 b0 x0 r0 hx0
  obtain ⟨e1, E1, f1, F1⟩ := xor8 b1 x1 r1 hx1
  obtain ⟨e2, E2, f2, F2⟩ := xor8 b2 x2 r2 hx2
  obtain ⟨e3, E3, f3, F3⟩ := xor8 b3 x3 r3 hx3
  have R := Lib.hid (round4 p s b0 b1 b2 b3 e0 e1 e2 e3 x0 x1 x2 x3 E0 E1 E2 E3)
  have hne : ¬ (x0 = 0 ∧ x1 = 0 ∧ x2 = 0 ∧ x3 = 0) := by simpa using HZ.out
  have N := Lib.hid (spoilt_row 0#32 p s b0 b1 b2 b3 x0 x1 x2 x3 e0 e1 e2 e3 (by omega) (by omega) (by omega) (by omega) (by omega) (by omega) F0 F1 F2 F3 hx0 hx1 hx2 hx3 hne)
  have L := Lib.hid (mix_length p s b0 b1 b2 b3 e0 e1 e2 e3)
  have M0 := Lib.hid (show l = mix p s b0 b1 b2 b3 e0 e1 e2 e3 0 by rw [hcut]; simp [mix])
  have M4 := Lib.hid (show mix p s b0 b1 b2 b3 e0 e1 e2 e3 4 = p ++ [e0, e1, e2, e3] ++ s by simp [mix])
  have C := Lib.hid hcut
  have PK := Lib.hid hpk
  have RM := Lib.hid (show ∀ c ∈ mix p s b0 b1 b2 b3 e0 e1 e2 e3 4, 0 ≤ c ∧ c < 256 by
    intro c hc
    rw [M4.out] at hc
    simp only [List.mem_append, List.mem_cons, List.not_mem_nil, or_false] at hc
    rcases hc with (hc | rfl | rfl | rfl | rfl) | hc
    · exact HY.out.2 c (by rw [hcut]; simp [hc])
    · exact f0
    · exact f1
    · exact f2
    · exact f3
    · exact HY.out.2 c (by rw [hcut]; simp [hc]))
  have BB := Lib.hid (B1.out.trans (B2.out.mono (Nat.le_succ _)))
  clear hcut hpk hr r0 r1 r2 r3 E0 E1 E2 E3 f0 f1 f2 f3 F0 F1 F2 F3 hne q0 q1 q2 q3 heq hd hd4 hd0 hd6 hx0 hx1 hx2 hx3
  generalize mix p s b0 b1 b2 b3 e0 e1 e2 e3 = mx at R L M0 M4 RM
  go_loopw [39] (fun i wr => ∃ j : Nat, j ≤ 4 ∧ i = .int .i64 j ∧ Own wr (w.heap.size + 1) (.slice (some ⟨g, 0, none⟩) len c1) (mx j) ∧ Below w.heap.size w wr) (fun i _ => 4 - (intOf i).toNat)
  case atStart => exact ⟨0, by omega, rfl, by rw [← M0.out]; exact O1.out, BB.out⟩
  case round =>
    obtain ⟨j, hj, rfl, ho, hbe⟩ := hrel
    have O := Lib.hid ho
    have BE := Lib.hid hbe
    clear ho hbe
    by_cases hlt : j < 4
    · obtain ⟨xj, bj, ej, hix, hgd, hxr, hset⟩ := R.out j hlt
      have hlen : k + j < (mx j).length := by rw [L.out, ← C.out, HL.out]; omega
      have hc : wr.cell? ⟨g, k + j, none⟩ = some (.int .u8 bj) := by rw [O.out.cell hlen, ← hgd, PK.out]
      have hfz : wr.frozen? ⟨g, k + j, none⟩ = false := O.out.frozen _
      have ON := Lib.hid (show Own (wr.setCell ⟨g, k + j, none⟩ (.int .u8 ej)) (w.heap.size + 1) (.slice (some ⟨g, 0, none⟩) len c1) (mx (j + 1)) by rw [← hset, PK.out]; exact O.out.set _ _)
      have BN := Lib.hid (BE.out.setCell (p := ⟨g, k + j, none⟩) (show w.heap.size ≤ g by omega) (.int .u8 ej))
      have hjl : (k : Int) + (j : Int) < (len : Int) := by omega
      clear hgd hset hlen
      go_wp2
      go_roundw
      case rel => exact ⟨j + 1, by omega, by go_num, ON.out, BN.out⟩
      case measure => simp [intOf]; omega
    · have J := Lib.hid (show Own wr (w.heap.size + 1) (.slice (some ⟨g, 0, none⟩) len c1) (p ++ [e0, e1, e2, e3] ++ s) by rw [← M4.out, ← show j = 4 by omega]; exact O.out)
      have LL := Lib.hid (show (p ++ [e0, e1, e2, e3] ++ s).length = len by rw [← M4.out, L.out, ← C.out, HL.out])
      have YC := Lib.hid (show Byt wr (some ⟨g, 0, none⟩) (p ++ [e0, e1, e2, e3] ++ s) by
        obtain ⟨A', c', hv, hy⟩ := J.out.form (by rw [← M4.out]; exact RM.out)
        injection hv with h1 h2 h3
        subst h1
        exact hy)
      have YB := Lib.hid (HY.out.below BE.out)
      have TT := Lib.hid (HT.out.below BE.out HT.out.lt)
      go_wp2_with fail
      refine (fixed_any _ TT.out).mono ?_
      rintro e w4 ⟨rfl, hb4⟩
      have T4 := Lib.hid (TT.out.below hb4 TT.out.lt)
      have Y5 := Lib.hid (YC.out.below hb4)
      have Y6 := Lib.hid (YB.out.below hb4)
      have B4 := Lib.hid (BE.out.trans (hb4.mono BE.out.size))
      clear hb4
      have C1 := sum_any (some ⟨g, 0, none⟩) len c1 _ _ LL.out HM.out Y5.out T4.out
      have C2 := sum_any a len cap l _ HL.out HM.out Y6.out T4.out
      obtain ⟨sa, SA⟩ : ∃ q, sum 0#32 (p ++ [e0, e1, e2, e3] ++ s) = q := ⟨_, rfl⟩
      obtain ⟨sb, SB⟩ : ∃ q, sum 0#32 l = q := ⟨_, rfl⟩
      have hne : ((sa.toNat : Int) != (sb.toNat : Int)) = true := by
        rw [bne_iff_ne]
        intro h
        refine N.out ?_
        rw [SA, ← C.out, SB]
        exact BitVec.eq_of_toNat_eq (by omega)
      rw [SA] at C1
      rw [SB] at C2
      have D1 := Lib.hid C1
      have D2 := Lib.hid C2
      clear C1 C2 SA SB
      go_wp2_with fail
      refine D1.out.mono ?_
      rintro e w' ⟨rfl, rfl⟩
      go_wp2_with fail
      refine D2.out.mono ?_
      rintro e w' ⟨rfl, rfl⟩
      go_wp2
      go_ret
      exact ⟨rfl, B4.out⟩
end Go.Proofs.YtbhbgdohpjcmmaaDoor
