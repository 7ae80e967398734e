/- Values: their cells; whether they may be, the program's and the document's contract. -/
import Derived.Test.YtnjndlbhnkhlhaaDoorLbReal
import Derived.Test.YtnjndlbhnkhlhaaDoorLbOwn
import Derived.BigQuiet
import Derived.Deep.QuietTactic
namespace Go.Proofs.YtnjndlbhnkhlhaaDoor
open Go Go.RowKit Rl
set_option maxRecDepth 20000

abbrev vl (k n : Int) (r : Nat) (s : ByteArray) : Value := .agg #[.int .u8 k, .int .i64 n, .float .f64 r, .string s]
abbrev vcells (k n : Int) (r : Nat) (s : ByteArray) : Obj := .cells #[.int .u8 k, .int .i64 n, .float .f64 r, .string s] 51
def mayB (k : Int) (bi br bs bz : Bool) : Bool :=
  if k = 0 then bi && br && bs else if k = 1 then br && bs else if k = 2 then bi && bs else if k = 3 then bi && br && bz else false
def may (k n : Int) (r : Nat) (s : ByteArray) : Bool := mayB k (decide (n = 0)) (decide (r = 0)) (decide (s.size = 0)) (decide (s.size ≤ 255))
theorem toList_nil (s : ByteArray) : (s.toList == []) = decide (s.size = 0) := by
  rw [ByteArray.toList_eq, Bool.eq_iff_iff, beq_iff_eq, decide_eq_true_iff]
  constructor
  · intro h; show s.data.size = 0; rw [← Array.length_toList, h]; rfl
  · intro h; exact List.eq_nil_of_length_eq_zero (by rw [Array.length_toList]; exact h)
theorem ret_bool {a b : Bool} (h : a = b) : Ending.returned (.bool a) = .returned (.bool b) := by rw [h]

set_option maxHeartbeats 1000000 in
theorem may_walk (k n : Int) (r x : Nat) (s : ByteArray) (bi br bs bz : Bool) (hi : (n == 0) = bi) (hr : ((x : Int) == 0) = br) (hs : (s.toList == []) = bs) (hz : decide ((s.size : Int) ≤ 255) = bz)
    (w : World) (R : Hid (∀ w, Calls Tryd.prog 60 #[.float .f64 r] w fun e w' => e = .returned (.int .u64 (x : Int)) ∧ w = w')) :
    Calls Tryd.prog 57 #[vl k n r s] w fun e w' => e = .returned (.bool (mayB k bi br bs bz)) ∧ Below w.heap.size w w' := by
  have B0 := Lib.hid ((Below.refl w.heap.size w).alloc (Nat.le_refl _) (vcells k n r s))
  go_enter Tryd.func57, Tryd.ntmps57
  go_wp2_with fail
  go_quiet (fail)
  go_wp2_with fail
  refine (R.out _).mono ?_
  rintro e w' ⟨rfl, rfl⟩
  clear R
  by_cases h0 : k = 0
  · subst h0
    cases bi <;> cases br <;> (go_wp2_with fail; go_ret; exact ⟨by simp [mayB], B0.out.trans (below_drewN _ _ _)⟩)
  have e0 : (k == 0) = false := by simp; omega
  by_cases h1 : k = 1
  · subst h1
    cases br <;> (go_wp2_with fail; go_ret; exact ⟨by simp [mayB], B0.out.trans (below_drewN _ _ _)⟩)
  have e1 : (k == 1) = false := by simp; omega
  by_cases h2 : k = 2
  · subst h2
    cases bi <;> (go_wp2_with fail; go_ret; exact ⟨by simp [mayB], B0.out.trans (below_drewN _ _ _)⟩)
  have e2 : (k == 2) = false := by simp; omega
  by_cases h3 : k = 3
  · subst h3
    cases bi <;> cases br <;> cases bz <;> (go_wp2_with fail; go_ret; exact ⟨by simp [mayB], B0.out.trans (below_drewN _ _ _)⟩)
  have e3 : (k == 3) = false := by simp; omega
  go_wp2_with fail
  go_ret
  exact ⟨ret_bool (by unfold mayB; rw [if_neg h0, if_neg h1, if_neg h2, if_neg h3]), B0.out.trans (below_drewN _ _ _)⟩

set_option maxHeartbeats 2000000 in
theorem rmay_walk (k n : Int) (r : Nat) (s : ByteArray) (bi br bs bz : Bool) (hi : (n == 0) = bi) (hr : ((r : Int) == 0) = br) (hs : (s.toList == []) = bs) (hz : decide ((s.size : Int) ≤ 255) = bz) (hq : Hid (bs = true → bz = true)) (hk : 0 ≤ k) (w : World) :
    Calls Tryd.prog 47 #[vl k n r s] w fun e w' => e = .returned (.bool (mayB k bi br bs bz)) ∧ Below w.heap.size w w' := by
  have B0 := Lib.hid ((Below.refl w.heap.size w).alloc (Nat.le_refl _) (vcells k n r s))
  have r13 := run13 r
  by_cases h0 : k = 0
  · subst h0
    clear hk
    cases bi <;> cases br <;> cases bs <;> cases bz <;> first | exact Bool.noConfusion (hq.out rfl) | (go_enter Tryd.func47, Tryd.ntmps47; go_wp2; go_ret; exact ⟨by simp [mayB], B0.out⟩)
  have e0 : (k == 0) = false := by simp; omega
  by_cases h1 : k = 1
  · subst h1
    clear hk h0 e0
    cases bi <;> cases br <;> cases bs <;> cases bz <;> first | exact Bool.noConfusion (hq.out rfl) | (go_enter Tryd.func47, Tryd.ntmps47; go_wp2; go_ret; exact ⟨by simp [mayB], B0.out⟩)
  have e1 : (k == 1) = false := by simp; omega
  by_cases h2 : k = 2
  · subst h2
    clear hk h0 e0 h1 e1
    cases bi <;> cases br <;> cases bs <;> cases bz <;> first | exact Bool.noConfusion (hq.out rfl) | (go_enter Tryd.func47, Tryd.ntmps47; go_wp2; go_ret; exact ⟨by simp [mayB], B0.out⟩)
  have e2 : (k == 2) = false := by simp; omega
  by_cases h3 : k = 3
  · subst h3
    clear hk h0 e0 h1 e1 h2 e2
    cases bi <;> cases br <;> cases bs <;> cases bz <;> first | exact Bool.noConfusion (hq.out rfl) | (go_enter Tryd.func47, Tryd.ntmps47; go_wp2; go_ret; exact ⟨by simp [mayB], B0.out⟩)
  have e3 : (k == 3) = false := by simp; omega
  have e4 : decide (k < 4) = false := by simp; omega
  have E := Lib.hid (show mayB k bi br bs bz = false by unfold mayB; rw [if_neg h0, if_neg h1, if_neg h2, if_neg h3])
  rw [E.out]
  clear hq hz hs E h0 h1 h2 h3 hk
  cases bi <;> cases br <;> (go_enter Tryd.func47, Tryd.ntmps47; go_wp2; all_goals (go_ret; exact ⟨rfl, B0.out⟩))

theorem bt_zero (r : Nat) : ((bt r : Int) == 0) = decide (r = 0) := by
  rw [Bool.eq_iff_iff, beq_iff_eq, decide_eq_true_iff]
  unfold bt nan
  split <;> rename_i h <;> simp at h <;> omega
theorem may_any (k n : Int) (r : Nat) (s : ByteArray) (h : r < 18446744073709551616) (w : World) :
    Calls Tryd.prog 57 #[vl k n r s] w fun e w' => e = .returned (.bool (may k n r s)) ∧ Below w.heap.size w w' :=
  may_walk k n r (bt r) s _ _ _ _ (by rw [Bool.eq_iff_iff]; simp) (bt_zero r) (toList_nil s) (by rw [Bool.eq_iff_iff]; simp; omega) w (Lib.hid fun w => bits_any r h w)
theorem rmay_any (k n : Int) (r : Nat) (s : ByteArray) (hk : 0 ≤ k) (w : World) :
    Calls Tryd.prog 47 #[vl k n r s] w fun e w' => e = .returned (.bool (may k n r s)) ∧ Below w.heap.size w w' :=
  rmay_walk k n r s _ _ _ _ (by rw [Bool.eq_iff_iff]; simp) (by rw [Bool.eq_iff_iff]; simp) (toList_nil s) (by rw [Bool.eq_iff_iff]; simp; omega) (Lib.hid (fun h => decide_eq_true (by have := of_decide_eq_true h; omega))) hk w
/- four cells of a value -/
def At4 (w : World) (a : Nat) (k n : Int) (r : Nat) (s : ByteArray) : Prop :=
  w.cell? ⟨a, 0, none⟩ = some (.int .u8 k) ∧ w.cell? ⟨a, 1, none⟩ = some (.int .i64 n) ∧ w.cell? ⟨a, 2, none⟩ = some (.float .f64 r) ∧ w.cell? ⟨a, 3, none⟩ = some (.string s)
theorem At4.below {w w' : World} {a : Nat} {k n : Int} {r : Nat} {s : ByteArray} {B : Nat} (h : At4 w a k n r s) (hb : Below B w w') (ha : a < B) : At4 w' a k n r s := by
  obtain ⟨h0, h1, h2, h3⟩ := h
  exact ⟨by rw [hb.cell (p := ⟨a, 0, none⟩) ha]; exact h0, by rw [hb.cell (p := ⟨a, 1, none⟩) ha]; exact h1, by rw [hb.cell (p := ⟨a, 2, none⟩) ha]; exact h2, by rw [hb.cell (p := ⟨a, 3, none⟩) ha]; exact h3⟩
theorem At4.alloc (w : World) (k n : Int) (r : Nat) (s : ByteArray) : At4 (w.alloc (vcells k n r s)) w.heap.size k n r s := by
  refine ⟨?_, ?_, ?_, ?_⟩ <;> simp [go_sem]
structure TwoV (w W : World) (k n : Int) (r : Nat) (s : ByteArray) (k' n' : Int) (r' : Nat) (s' : ByteArray) : Prop where
  one : At4 W w.heap.size k n r s
  two : At4 W (w.heap.size + 1) k' n' r' s'
  bel : Below w.heap.size w W
  big : w.heap.size + 1 < W.heap.size
theorem TwoV.start (w : World) (k n : Int) (r : Nat) (s : ByteArray) (k' n' : Int) (r' : Nat) (s' : ByteArray) : TwoV w ((w.alloc (vcells k n r s)).alloc (vcells k' n' r' s')) k n r s k' n' r' s' := by
  have h1 := At4.alloc w k n r s
  have h2 := At4.alloc (w.alloc (vcells k n r s)) k' n' r' s'
  have b2 := (Below.refl (w.alloc (vcells k n r s)).heap.size (w.alloc (vcells k n r s))).alloc (Nat.le_refl _) (vcells k' n' r' s')
  refine ⟨h1.below b2 (by simp), ?_, ((Below.refl w.heap.size w).alloc (Nat.le_refl _) _).alloc (by simp) _, by simp⟩
  have : (w.alloc (vcells k n r s)).heap.size = w.heap.size + 1 := by simp
  rw [this] at h2; exact h2
theorem TwoV.next {w W W' : World} {k n : Int} {r : Nat} {s : ByteArray} {k' n' : Int} {r' : Nat} {s' : ByteArray} (h : TwoV w W k n r s k' n' r' s') (hb : Below W.heap.size W W') : TwoV w W' k n r s k' n' r' s' :=
  ⟨h.one.below hb (by have := h.big; omega), h.two.below hb h.big, h.bel.trans (hb.mono h.bel.size), Nat.lt_of_lt_of_le h.big hb.size⟩

theorem run_store_float (a : Addr) (x : Nat) (m : Mode) (w : World) : (store a (.float .f64 x) m).run Tryd.prog w = stored Tryd.prog w a (.float .f64 x) m := run_store Tryd.prog w a _ m rfl

theorem Own.mono {w : World} {B B' : Nat} {v : Value} {l : List Int} (h : Own w B v l) (hB : B' ≤ B) : Own w B' v l := by
  refine ⟨h.1, ?_⟩
  rcases h.2 with h0 | ⟨g, cap, cur, hv, hg, r⟩
  · exact .inl h0
  · exact .inr ⟨g, cap, cur, hv, Nat.le_trans hB hg, r⟩
theorem Own.capz {w : World} {B : Nat} {A : Option Addr} {k c : Nat} {l : List Int} (h : Own w B (.slice A k c) l) (hA : A = none) : c = 0 := by
  rcases h.2 with ⟨h', _⟩ | ⟨g, cap, cur, h', _⟩
  · injection h'
  · injection h' with e1 e2 e3
    rw [hA] at e1
    cases e1
theorem At4.next {w W : World} {a : Nat} {k n : Int} {r : Nat} {s : ByteArray} (h : At4 w a k n r s) (hb : Below w.heap.size w W) : At4 W a k n r s := h.below hb (World.block_lt_of_cell? _ _ h.1)
end Go.Proofs.YtnjndlbhnkhlhaaDoor
