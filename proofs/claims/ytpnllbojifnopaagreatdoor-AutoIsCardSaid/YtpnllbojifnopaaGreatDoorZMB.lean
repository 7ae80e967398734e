/- Contracts, joined: LbOwn, LbVal, LbPackMath, LbCmp. -/
import Derived.Test.YtpnllbojifnopaaGreatDoorProg
import Derived.WalkKit
import Derived.WalkLawsBesides
import Derived.Lib.Hide
import Derived.Deep.LoopGhost
import Derived.Below
import Derived.KernelRfl
import Derived.Laws.AppendOwnNone
import Derived.Laws.BytesArg
import Derived.Laws.CopyOwn
import Derived.Laws.OwnMore
import Derived.Laws.MakeOwn
import Derived.Lib.AppendStr
import Derived.OwnWalk
import Derived.Deep.Draws
import Derived.Test.YtpnllbojifnopaaGreatDoorZMA
import Derived.BigQuiet
import Derived.Deep.QuietTactic
import Derived.Lib.BitFns
namespace Go.Proofs.YtpnllbojifnopaaGreatDoor
open Go Go.RowKit
set_option maxRecDepth 20000
def Byt (w : World) (a : Option Addr) (l : List Int) : Prop :=
  (∀ i, i < l.length → ∃ b off, a = some ⟨b, off, none⟩ ∧ w.cell? ⟨b, off + i, none⟩ = some (.int .u8 (l.getD i 0))) ∧ ∀ c ∈ l, 0 ≤ c ∧ c < 256
theorem Byt.below {w w' : World} {a : Option Addr} {l : List Int} (hb : Byt w a l) (h : Below w.heap.size w w') : Byt w' a l :=
  ⟨fun i hi => by
    obtain ⟨b, off, ha, hc⟩ := hb.1 i hi
    exact ⟨b, off, ha, (h.cell (p := ⟨b, off + i, none⟩) (World.block_lt_of_cell? _ _ hc)).trans hc⟩, hb.2⟩
def Own (w : World) (B : Nat) (v : Value) (l : List Int) : Prop := w.ownsRow B 5 1 v l.length (l.map (Value.int .u8))
theorem add_plain (b off i : Nat) : (⟨b, off, none⟩ : Addr).add i = ⟨b, off + i, none⟩ := by unfold Addr.add; split <;> simp_all
theorem Own.form {w : World} {B : Nat} {v : Value} {l : List Int} (h : Own w B v l) (hr : ∀ c ∈ l, 0 ≤ c ∧ c < 256) : ∃ A c, v = .slice A l.length c ∧ Byt w A l := by
  rcases h.2 with ⟨rfl, h0⟩ | ⟨g, cap, cur, rfl, _⟩
  · have : l = [] := List.eq_nil_of_length_eq_zero h0
    subst this
    exact ⟨none, 0, rfl, fun i hi => absurd hi (by simp), hr⟩
  · refine ⟨_, _, rfl, fun i hi => ⟨g, 0, rfl, ?_⟩, hr⟩
    have := World.ownsRow.cells h (g := g) rfl i (.int .u8 (l.getD i 0)) (by simp [List.getElem?_eq_getElem hi])
    rwa [add_plain] at this
theorem Own.empty (w : World) : Own (w.alloc (.cells #[] 5)) w.heap.size (.slice (some ⟨w.heap.size, 0, none⟩) 0 0) [] :=
  World.ownsRow_made w #[] 0 (Nat.le_refl _) (by decide) rfl
theorem Own.below {w w' : World} {B : Nat} {v : Value} {l : List Int} (h : Own w B v l) (hb : Below w.heap.size w w') : Own w' B v l := by
  refine ⟨h.1, ?_⟩
  rcases h.2 with h0 | ⟨g, cap, cur, hv, hg, hh, r⟩
  · exact .inl h0
  · refine .inr ⟨g, cap, cur, hv, hg, ?_, r⟩
    rw [hb.block g ?_]
    · exact hh
    · rcases Nat.lt_or_ge g w.heap.size with h1 | h1
      · exact h1
      · rw [Array.getElem?_eq_none h1] at hh; cases hh
theorem Own.le {w : World} {B : Nat} {A : Option Addr} {k c : Nat} {l : List Int} (h : Own w B (.slice A k c) l) (hk : l.length = k) : k ≤ c := by
  rcases h.2 with ⟨h', h0⟩ | ⟨g, cap, cur, h', _, _, hn, _⟩
  · omega
  · injection h' with e1 e2 e3
    omega
theorem info5 : ∃ i, Tryz.prog.info? 5 = some i ∧ i.zero = some (.int .u8 0) ∧ i.size = 1 ∧ i.bytes = 1 :=
  ⟨(Tryz.prog.info? 5).get (by kernel_rfl), by kernel_rfl, by kernel_rfl, by kernel_rfl, by kernel_rfl⟩
theorem Byt.nil (w : World) : Byt w none [] := ⟨fun i hi => absurd hi (by simp), by simp⟩
theorem Own.made (w' : World) (g n c : Nat) (B : Nat) (hB : B ≤ g) (l : List Int) (hl : l.length = n) (hc : n ≤ c) (hm : c ≤ 1000000)
    (h : w'.heap[g]? = some (.cells (splice (List.replicate c (Value.int .u8 0)) 0 (l.map (Value.int .u8))).toArray 5 (0, 0))) : Own w' B (.slice (some ⟨g, 0, none⟩) n c) l := by
  refine ⟨by simp, .inr ⟨g, c, _, by rw [hl], hB, h, by omega, by unfold maxLen; omega, ?_, ?_⟩⟩
  · have := length_splice (List.replicate c (Value.int .u8 0)) 0 (l.map (Value.int .u8)) (by simp; omega)
    simp only [List.length_replicate] at this
    simp only [List.size_toArray, this]; omega
  · simp [splice]
theorem Byt.one (w : World) (x : Int) (h : 0 ≤ x ∧ x < 256) : Byt (w.alloc (.cells #[.int .u8 x] 5)) (some ⟨w.heap.size, 0, none⟩) [x] := by
  refine ⟨fun i hi => ⟨w.heap.size, 0, rfl, ?_⟩, fun c hc => ?_⟩
  · have : i = 0 := by simpa using hi
    subst this
    simp [go_sem]
  · rw [List.mem_singleton] at hc; subst hc; exact h
theorem Own.cell {w : World} {B g n cap : Nat} {l : List Int} (h : Own w B (.slice (some ⟨g, 0, none⟩) n cap) l) (hl : l.length = n) (j : Nat) (hj : j < n) : w.cell? ⟨g, j, none⟩ = some (.int .u8 (l.getD j 0)) := by
  subst hl
  rw [World.ownsRow.cellAt h j (by omega)]
  simp [List.getElem?_eq_getElem hj]
theorem Own.frozen {w : World} {B g n cap : Nat} {l : List Int} (h : Own w B (.slice (some ⟨g, 0, none⟩) n cap) l) (hl : l.length = n) (j : Nat) : w.frozen? ⟨g, j, none⟩ = false := by
  subst hl
  exact World.ownsRow.frozenAt h j
theorem Own.stored {w : World} {B g n cap : Nat} {l : List Int} (h : Own w B (.slice (some ⟨g, 0, none⟩) n cap) l) (hl : l.length = n) (j : Nat) (x : Int) : Own (w.setCell ⟨g, j, none⟩ (.int .u8 x)) B (.slice (some ⟨g, 0, none⟩) n cap) (l.set j x) := by
  subst hl
  have := (World.ownsRow.stored h j (.int .u8 x)).1
  unfold Own
  rw [List.length_set, List.map_set]
  exact this
def Row (w : World) (g c : Nat) (l : List Int) : Prop := w.heap[g]? = some (.cells (splice (List.replicate c (Value.int .u8 0)) 0 (l.map (Value.int .u8))).toArray 5 (0, 0))
theorem Row.zero {w : World} {g c : Nat} {l : List Int} (h : Row w g c l) (j : Nat) (hj : l.length ≤ j) (hc : j < c) : w.cell? ⟨g, j, none⟩ = some (.int .u8 0) := by
  rw [cell_of_row w g j _ 5 (0, 0) h]
  have e : (splice (List.replicate c (Value.int .u8 0)) 0 (l.map (Value.int .u8)))[j]? = some (.int .u8 0) := by
    unfold splice
    rw [List.take_zero, List.nil_append, List.getElem?_append_right (by simpa using hj)]
    simp only [List.length_map, Nat.zero_add, List.drop_replicate, List.getElem?_replicate]
    rw [if_pos (by omega)]
  simpa using e
theorem Row.below {B : Nat} {w w' : World} {g c : Nat} {l : List Int} (h : Row w g c l) (hb : Below B w w') (hg : g < B) : Row w' g c l := by
  unfold Row
  rw [hb.block g hg]
  exact h
theorem below_go {w5 W W' : World} (h : Below w5.heap.size w5 W) (k : Below W.heap.size W W') : Below w5.heap.size w5 W' := h.trans (k.mono h.size)
theorem below_drewN (B : Nat) (w : World) (n : Nat) : Below B w (w.drewN n) := ⟨rfl, rfl, rfl, Nat.le_refl _, fun _ _ => rfl⟩
end Go.Proofs.YtpnllbojifnopaaGreatDoor
namespace Go.Proofs.YtpnllbojifnopaaGreatDoor
open Go Go.RowKit Rl
set_option maxRecDepth 20000
abbrev vl (k n : Int) (r : Nat) (s : ByteArray) : Value := .agg #[.int .u8 k, .int .i64 n, .float .f64 r, .string s]
abbrev vcells (k n : Int) (r : Nat) (s : ByteArray) : Obj := .cells #[.int .u8 k, .int .i64 n, .float .f64 r, .string s] 168
def mayB (k : Int) (bi br bs bz : Bool) : Bool :=
  if k = 0 then bi && br && bs else if k = 1 then br && bs else if k = 2 then bi && bs else if k = 3 then bi && br && bz else false
def may (k n : Int) (r : Nat) (s : ByteArray) : Bool := mayB k (decide (n = 0)) (decide (r = 0)) (decide (s.size = 0)) (decide (s.size ≤ 255))
theorem toList_nil (s : ByteArray) : (s.toList == []) = decide (s.size = 0) := by
  rw [ByteArray.toList_eq, Bool.eq_iff_iff, beq_iff_eq, decide_eq_true_iff]
  constructor
  · intro h; show s.data.size = 0; rw [← Array.length_toList, h]; rfl
  · intro h; exact List.eq_nil_of_length_eq_zero (by rw [Array.length_toList]; exact h)
theorem ret_bool {a b : Bool} (h : a = b) : Ending.returned (.bool a) = .returned (.bool b) := by rw [h]
set_option maxHeartbeats 1000000 in
theorem may_walk (k n : Int) (r x : Nat) (s : ByteArray) (bi br bs bz : Bool) (hi : (n == 0) = bi) (hr : ((x : Int) == 0) = br) (hs : (s.toList == []) = bs) (hz : decide ((s.size : Int) ≤ 255) = bz)
    (w : World) (R : Hid (∀ w, Calls Tryz.prog 130 #[.float .f64 r] w fun e w' => e = .returned (.int .u64 (x : Int)) ∧ w = w')) :
    Calls Tryz.prog 98 #[vl k n r s] w fun e w' => e = .returned (.bool (mayB k bi br bs bz)) ∧ Below w.heap.size w w' := by
  have B0 := Lib.hid ((Below.refl w.heap.size w).alloc (Nat.le_refl _) (vcells k n r s))
  go_enter Tryz.func98, Tryz.ntmps98
  go_wp2_with fail
  go_quiet (fail)
  go_wp2_with fail
  refine (R.out _).mono ?_
  rintro e w' ⟨rfl, rfl⟩
  clear R
  by_cases h0 : k = 0
  · subst h0
    cases bi <;> cases br <;> (go_wp2_with fail; go_ret; exact ⟨by simp [mayB], B0.out.trans (below_drewN _ _ _)⟩)
  have e0 : (k == 0) = false := by simp; omega
  by_cases h1 : k = 1
  · subst h1
    cases br <;> (go_wp2_with fail; go_ret; exact ⟨by simp [mayB], B0.out.trans (below_drewN _ _ _)⟩)
  have e1 : (k == 1) = false := by simp; omega
  by_cases h2 : k = 2
  · subst h2
    cases bi <;> (go_wp2_with fail; go_ret; exact ⟨by simp [mayB], B0.out.trans (below_drewN _ _ _)⟩)
  have e2 : (k == 2) = false := by simp; omega
  by_cases h3 : k = 3
  · subst h3
    cases bi <;> cases br <;> cases bz <;> (go_wp2_with fail; go_ret; exact ⟨by simp [mayB], B0.out.trans (below_drewN _ _ _)⟩)
  have e3 : (k == 3) = false := by simp; omega
  go_wp2_with fail
  go_ret
  exact ⟨ret_bool (by unfold mayB; rw [if_neg h0, if_neg h1, if_neg h2, if_neg h3]), B0.out.trans (below_drewN _ _ _)⟩
set_option maxHeartbeats 2000000 in
theorem rmay_walk (k n : Int) (r : Nat) (s : ByteArray) (bi br bs bz : Bool) (hi : (n == 0) = bi) (hr : ((r : Int) == 0) = br) (hs : (s.toList == []) = bs) (hz : decide ((s.size : Int) ≤ 255) = bz) (hq : Hid (bs = true → bz = true)) (hk : 0 ≤ k) (w : World) :
    Calls Tryz.prog 92 #[vl k n r s] w fun e w' => e = .returned (.bool (mayB k bi br bs bz)) ∧ Below w.heap.size w w' := by
  have B0 := Lib.hid ((Below.refl w.heap.size w).alloc (Nat.le_refl _) (vcells k n r s))
  have r13 := run13 r
  by_cases h0 : k = 0
  · subst h0
    clear hk
    cases bi <;> cases br <;> cases bs <;> cases bz <;> first | exact Bool.noConfusion (hq.out rfl) | (go_enter Tryz.func92, Tryz.ntmps92; go_wp2; go_ret; exact ⟨by simp [mayB], B0.out⟩)
  have e0 : (k == 0) = false := by simp; omega
  by_cases h1 : k = 1
  · subst h1
    clear hk h0 e0
    cases bi <;> cases br <;> cases bs <;> cases bz <;> first | exact Bool.noConfusion (hq.out rfl) | (go_enter Tryz.func92, Tryz.ntmps92; go_wp2; go_ret; exact ⟨by simp [mayB], B0.out⟩)
  have e1 : (k == 1) = false := by simp; omega
  by_cases h2 : k = 2
  · subst h2
    clear hk h0 e0 h1 e1
    cases bi <;> cases br <;> cases bs <;> cases bz <;> first | exact Bool.noConfusion (hq.out rfl) | (go_enter Tryz.func92, Tryz.ntmps92; go_wp2; go_ret; exact ⟨by simp [mayB], B0.out⟩)
  have e2 : (k == 2) = false := by simp; omega
  by_cases h3 : k = 3
  · subst h3
    clear hk h0 e0 h1 e1 h2 e2
    cases bi <;> cases br <;> cases bs <;> cases bz <;> first | exact Bool.noConfusion (hq.out rfl) | (go_enter Tryz.func92, Tryz.ntmps92; go_wp2; go_ret; exact ⟨by simp [mayB], B0.out⟩)
  have e3 : (k == 3) = false := by simp; omega
  have e4 : decide (k < 4) = false := by simp; omega
  have E := Lib.hid (show mayB k bi br bs bz = false by unfold mayB; rw [if_neg h0, if_neg h1, if_neg h2, if_neg h3])
  rw [E.out]
  clear hq hz hs E h0 h1 h2 h3 hk
  cases bi <;> cases br <;> (go_enter Tryz.func92, Tryz.ntmps92; go_wp2; all_goals (go_ret; exact ⟨rfl, B0.out⟩))
theorem bt_zero (r : Nat) : ((bt r : Int) == 0) = decide (r = 0) := by
  rw [Bool.eq_iff_iff, beq_iff_eq, decide_eq_true_iff]
  unfold bt nan
  split <;> rename_i h <;> simp at h <;> omega
theorem may_any (k n : Int) (r : Nat) (s : ByteArray) (h : r < 18446744073709551616) (w : World) :
    Calls Tryz.prog 98 #[vl k n r s] w fun e w' => e = .returned (.bool (may k n r s)) ∧ Below w.heap.size w w' :=
  may_walk k n r (bt r) s _ _ _ _ (by rw [Bool.eq_iff_iff]; simp) (bt_zero r) (toList_nil s) (by rw [Bool.eq_iff_iff]; simp; omega) w (Lib.hid fun w => bits_any r h w)
theorem rmay_any (k n : Int) (r : Nat) (s : ByteArray) (hk : 0 ≤ k) (w : World) :
    Calls Tryz.prog 92 #[vl k n r s] w fun e w' => e = .returned (.bool (may k n r s)) ∧ Below w.heap.size w w' :=
  rmay_walk k n r s _ _ _ _ (by rw [Bool.eq_iff_iff]; simp) (by rw [Bool.eq_iff_iff]; simp) (toList_nil s) (by rw [Bool.eq_iff_iff]; simp; omega) (Lib.hid (fun h => decide_eq_true (by have := of_decide_eq_true h; omega))) hk w
def At4 (w : World) (a : Nat) (k n : Int) (r : Nat) (s : ByteArray) : Prop :=
  w.cell? ⟨a, 0, none⟩ = some (.int .u8 k) ∧ w.cell? ⟨a, 1, none⟩ = some (.int .i64 n) ∧ w.cell? ⟨a, 2, none⟩ = some (.float .f64 r) ∧ w.cell? ⟨a, 3, none⟩ = some (.string s)
theorem At4.below {w w' : World} {a : Nat} {k n : Int} {r : Nat} {s : ByteArray} {B : Nat} (h : At4 w a k n r s) (hb : Below B w w') (ha : a < B) : At4 w' a k n r s := by
  obtain ⟨h0, h1, h2, h3⟩ := h
  exact ⟨by rw [hb.cell (p := ⟨a, 0, none⟩) ha]; exact h0, by rw [hb.cell (p := ⟨a, 1, none⟩) ha]; exact h1, by rw [hb.cell (p := ⟨a, 2, none⟩) ha]; exact h2, by rw [hb.cell (p := ⟨a, 3, none⟩) ha]; exact h3⟩
theorem At4.alloc (w : World) (k n : Int) (r : Nat) (s : ByteArray) : At4 (w.alloc (vcells k n r s)) w.heap.size k n r s := by
  refine ⟨?_, ?_, ?_, ?_⟩ <;> simp [go_sem]
structure TwoV (w W : World) (k n : Int) (r : Nat) (s : ByteArray) (k' n' : Int) (r' : Nat) (s' : ByteArray) : Prop where
  one : At4 W w.heap.size k n r s
  two : At4 W (w.heap.size + 1) k' n' r' s'
  bel : Below w.heap.size w W
  big : w.heap.size + 1 < W.heap.size
theorem TwoV.start (w : World) (k n : Int) (r : Nat) (s : ByteArray) (k' n' : Int) (r' : Nat) (s' : ByteArray) : TwoV w ((w.alloc (vcells k n r s)).alloc (vcells k' n' r' s')) k n r s k' n' r' s' := by
  have h1 := At4.alloc w k n r s
  have h2 := At4.alloc (w.alloc (vcells k n r s)) k' n' r' s'
  have b2 := (Below.refl (w.alloc (vcells k n r s)).heap.size (w.alloc (vcells k n r s))).alloc (Nat.le_refl _) (vcells k' n' r' s')
  refine ⟨h1.below b2 (by simp), ?_, ((Below.refl w.heap.size w).alloc (Nat.le_refl _) _).alloc (by simp) _, by simp⟩
  have : (w.alloc (vcells k n r s)).heap.size = w.heap.size + 1 := by simp
  rw [this] at h2; exact h2
theorem TwoV.next {w W W' : World} {k n : Int} {r : Nat} {s : ByteArray} {k' n' : Int} {r' : Nat} {s' : ByteArray} (h : TwoV w W k n r s k' n' r' s') (hb : Below W.heap.size W W') : TwoV w W' k n r s k' n' r' s' :=
  ⟨h.one.below hb (by have := h.big; omega), h.two.below hb h.big, h.bel.trans (hb.mono h.bel.size), Nat.lt_of_lt_of_le h.big hb.size⟩
theorem run_store_float (a : Addr) (x : Nat) (m : Mode) (w : World) : (store a (.float .f64 x) m).run Tryz.prog w = stored Tryz.prog w a (.float .f64 x) m := run_store Tryz.prog w a _ m rfl
theorem Own.mono {w : World} {B B' : Nat} {v : Value} {l : List Int} (h : Own w B v l) (hB : B' ≤ B) : Own w B' v l := by
  refine ⟨h.1, ?_⟩
  rcases h.2 with h0 | ⟨g, cap, cur, hv, hg, r⟩
  · exact .inl h0
  · exact .inr ⟨g, cap, cur, hv, Nat.le_trans hB hg, r⟩
theorem At4.next {w W : World} {a : Nat} {k n : Int} {r : Nat} {s : ByteArray} (h : At4 w a k n r s) (hb : Below w.heap.size w W) : At4 W a k n r s := h.below hb (World.block_lt_of_cell? _ _ h.1)
end Go.Proofs.YtpnllbojifnopaaGreatDoor
namespace Pk
def sz (n : Nat) : Nat := (Go.Lib.bitLen (n ||| 1) + 6) / 7
def gt : List Int → Nat → Nat → Nat × Nat × Nat
  | [], _, _ => (0, 0, 3)
  | c :: r, i, a =>
    if i = 9 ∧ 1 < c then (0, 0, 4)
    else if 128 ≤ c then gt r (i + 1) (a + c.toNat % 128 * 128 ^ i)
    else if c = 0 ∧ 0 < i then (0, 0, 2)
    else (a + c.toNat * 128 ^ i, i + 1, 0)
def w8 (n : Nat) : List Int := [((n / 72057594037927936 % 256 : Nat) : Int), ((n / 281474976710656 % 256 : Nat) : Int), ((n / 1099511627776 % 256 : Nat) : Int), ((n / 4294967296 % 256 : Nat) : Int), ((n / 16777216 % 256 : Nat) : Int), ((n / 65536 % 256 : Nat) : Int), ((n / 256 % 256 : Nat) : Int), ((n % 256 : Nat) : Int)]
end Pk
namespace Go.Proofs.YtpnllbojifnopaaGreatDoor
open Go Go.RowKit Rl
set_option maxRecDepth 20000
def ky (b : Nat) : Nat := if 9223372036854775808 ≤ bt b then 18446744073709551615 - bt b else bt b + 9223372036854775808
def c3 (x y : Int) : Int := if x < y then -1 else if y < x then 1 else 0
theorem c3_lt {a b : Int} (h : a < b) : c3 a b = -1 := by unfold c3; rw [if_pos h]
theorem c3_gt {a b : Int} (h : b < a) : c3 a b = 1 := by unfold c3; rw [if_neg (by omega), if_pos h]
theorem c3_eq (a : Int) : c3 a a = 0 := by unfold c3; rw [if_neg (by omega), if_neg (by omega)]
theorem cmpI_any (x y : Int) (w : World) :
    Calls Tryz.prog 168 #[.int .i64 x, .int .i64 y] w fun e w' => e = .returned (.int .i64 (c3 x y)) ∧ w = w' := by
  unfold c3
  by_cases a : x < y
  · rw [if_pos a]
    have h1 : decide (x < y) = true := by simp; omega
    go_enter Tryz.func168, Tryz.ntmps168
    go_wp2_with go_in
    go_ret
    exact ⟨rfl, rfl⟩
  · have h1 : decide (x < y) = false := by simp; omega
    rw [if_neg a]
    by_cases c : y < x
    · rw [if_pos c]
      have h2 : decide (y < x) = true := by simp; omega
      go_enter Tryz.func168, Tryz.ntmps168
      go_wp2_with go_in
      go_ret
      exact ⟨rfl, rfl⟩
    · rw [if_neg c]
      have h2 : decide (y < x) = false := by simp; omega
      go_enter Tryz.func168, Tryz.ntmps168
      go_wp2_with go_in
      go_ret
      exact ⟨rfl, rfl⟩
theorem same_any (a b : Nat) (ha : a < 18446744073709551616) (hb : b < 18446744073709551616) (v : Bool) (hv : decide (bt a = bt b) = v) (w : World) :
    Calls Tryz.prog 175 #[.float .f64 a, .float .f64 b] w fun e w' => e = .returned (.bool v) ∧ w = w' := by
  have H := Lib.hid (bits_any a ha w)
  have G := Lib.hid (bits_any b hb w)
  generalize bt a = x at H hv
  generalize bt b = y at G hv
  have hv' : ((x : Int) == (y : Int)) = v := by rw [← hv, Bool.eq_iff_iff, beq_iff_eq, decide_eq_true_iff]; exact Int.ofNat_inj
  clear hv
  go_enter Tryz.func175, Tryz.ntmps175
  go_wp2_with fail
  refine H.out.mono ?_
  rintro e w' ⟨rfl, rfl⟩
  go_wp2_with fail
  refine G.out.mono ?_
  rintro e w' ⟨rfl, rfl⟩
  go_wp2
  go_ret
  exact ⟨rfl, rfl⟩
theorem tlt (x y : Nat) (hx : x < 18446744073709551616) (hy : y < 18446744073709551616) (nx : nan x = false) (ny : nan y = false) : (FloatKind.f64.format.order x y == some .lt) = decide (sv x < sv y) := by
  rw [show FloatKind.f64.format.order x y = _ from order_eq x y hx hy nx ny, Bool.eq_iff_iff]; simp [Int.compare_eq_lt]
theorem tgt (x y : Nat) (hx : x < 18446744073709551616) (hy : y < 18446744073709551616) (nx : nan x = false) (ny : nan y = false) : (FloatKind.f64.format.order x y == some .gt) = decide (sv y < sv x) := by
  rw [show FloatKind.f64.format.order x y = _ from order_eq x y hx hy nx ny, Bool.eq_iff_iff]; simp [Int.compare_eq_gt]
theorem teq (x y : Nat) (hx : x < 18446744073709551616) (hy : y < 18446744073709551616) (nx : nan x = false) (ny : nan y = false) : (FloatKind.f64.format.order x y == some .eq) = decide (sv x = sv y) := by
  rw [show FloatKind.f64.format.order x y = _ from order_eq x y hx hy nx ny, Bool.eq_iff_iff]; simp
theorem tnan (x y : Nat) (hx : x < 18446744073709551616) (hy : y < 18446744073709551616) (h : (nan x || nan y) = true) (o : Ordering) : (FloatKind.f64.format.order x y == some o) = false := by
  cases hn : nan x
  · rw [show FloatKind.f64.format.order x y = _ from order_nan_r x y hy (by rw [hn] at h; simpa using h)]; rfl
  · rw [show FloatKind.f64.format.order x y = _ from order_nan_l x y hx hn]; rfl
def cv (a b : Nat) : Int := if (nan a || nan b) = true then 0 else c3 (sv a) (sv b)
def co (a b : Nat) : Bool := !(nan a || nan b)
theorem compare_any (a b : Nat) (ha : a < 18446744073709551616) (hb : b < 18446744073709551616) (w : World) :
    Calls Tryz.prog 170 #[.float .f64 a, .float .f64 b] w fun e w' => e = .returned (.tuple #[.int .i64 (cv a b), .bool (co a b)]) ∧ w = w' := by
  by_cases n : (nan a || nan b) = true
  · have t1 := tnan a b ha hb n .lt
    have t2 := tnan a b ha hb n .gt
    have t3 := tnan a b ha hb n .eq
    rw [show cv a b = 0 by unfold cv; rw [if_pos n], show co a b = false by unfold co; rw [n]; rfl]
    clear n
    go_enter Tryz.func170, Tryz.ntmps170
    go_wp2
    go_ret2
    exact ⟨rfl, rfl⟩
  · have na : nan a = false := by cases h : nan a <;> simp_all
    have nb : nan b = false := by cases h : nan b <;> simp_all
    rw [show cv a b = c3 (sv a) (sv b) by unfold cv; rw [if_neg n], show co a b = true by unfold co; rw [na, nb]; rfl]
    have t1 := tlt a b ha hb na nb
    have t2 := tgt a b ha hb na nb
    have t3 := teq a b ha hb na nb
    clear n na nb
    generalize sv a = x at t1 t2 t3
    generalize sv b = y at t1 t2 t3
    unfold c3
    by_cases l : x < y
    · rw [if_pos l]
      rw [decide_eq_true l] at t1
      clear t2 t3
      go_enter Tryz.func170, Tryz.ntmps170
      go_wp2
      go_ret2
      exact ⟨rfl, rfl⟩
    · rw [if_neg l]
      rw [decide_eq_false l] at t1
      by_cases g : y < x
      · rw [if_pos g]
        rw [decide_eq_true g] at t2
        clear t3
        go_enter Tryz.func170, Tryz.ntmps170
        go_wp2
        go_ret2
        exact ⟨rfl, rfl⟩
      · rw [if_neg g]
        rw [decide_eq_false g] at t2
        rw [decide_eq_true (by omega)] at t3
        go_enter Tryz.func170, Tryz.ntmps170
        go_wp2
        go_ret2
        exact ⟨rfl, rfl⟩
end Go.Proofs.YtpnllbojifnopaaGreatDoor
