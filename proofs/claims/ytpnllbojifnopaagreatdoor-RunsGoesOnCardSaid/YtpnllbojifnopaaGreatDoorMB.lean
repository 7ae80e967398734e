/- Contracts, joined: LbOwn, LbVal, LbPackMath, LbCmp. -/
import Derived.Test.YtpnllbojifnopaaGreatDoorProg
import Derived.WalkKit
import Derived.WalkLawsBesides
import Derived.Lib.Hide
import Derived.Deep.LoopGhost
import Derived.Below
import Derived.KernelRfl
import Derived.Laws.AppendOwnNone
import Derived.Laws.BytesArg
import Derived.Laws.CopyOwn
import Derived.Laws.OwnMore
import Derived.Laws.MakeOwn
import Derived.Lib.AppendStr
import Derived.OwnWalk
import Derived.Deep.Draws
import Derived.Test.YtpnllbojifnopaaGreatDoorMA
import Derived.BigQuiet
import Derived.Deep.QuietTactic
import Derived.Lib.BitFns
/- Bytes of the call's own: making, copying and appending to them, and what they are as a string. -/
namespace Go.Proofs.YtpnllbojifnopaaGreatDoor
open Go Go.RowKit
set_option maxRecDepth 20000


/- bytes in memory -/
def Byt (w : World) (a : Option Addr) (l : List Int) : Prop :=
  (∀ i, i < l.length → ∃ b off, a = some ⟨b, off, none⟩ ∧ w.cell? ⟨b, off + i, none⟩ = some (.int .u8 (l.getD i 0))) ∧ ∀ c ∈ l, 0 ≤ c ∧ c < 256

theorem Byt.below {w w' : World} {a : Option Addr} {l : List Int} (hb : Byt w a l) (h : Below w.heap.size w w') : Byt w' a l :=
  ⟨fun i hi => by
    obtain ⟨b, off, ha, hc⟩ := hb.1 i hi
    exact ⟨b, off, ha, (h.cell (p := ⟨b, off + i, none⟩) (World.block_lt_of_cell? _ _ hc)).trans hc⟩, hb.2⟩

/- a slice value that owns just these bytes, in a block from B on -/
def Own (w : World) (B : Nat) (v : Value) (l : List Int) : Prop := w.ownsRow B 5 1 v l.length (l.map (Value.int .u8))
theorem add_plain (b off i : Nat) : (⟨b, off, none⟩ : Addr).add i = ⟨b, off + i, none⟩ := by unfold Addr.add; split <;> simp_all
theorem Own.form {w : World} {B : Nat} {v : Value} {l : List Int} (h : Own w B v l) (hr : ∀ c ∈ l, 0 ≤ c ∧ c < 256) : ∃ A c, v = .slice A l.length c ∧ Byt w A l := by
  rcases h.2 with ⟨rfl, h0⟩ | ⟨g, cap, cur, rfl, _⟩
  · have : l = [] := List.eq_nil_of_length_eq_zero h0
    subst this
    exact ⟨none, 0, rfl, fun i hi => absurd hi (by simp), hr⟩
  · refine ⟨_, _, rfl, fun i hi => ⟨g, 0, rfl, ?_⟩, hr⟩
    have := World.ownsRow.cells h (g := g) rfl i (.int .u8 (l.getD i 0)) (by simp [List.getElem?_eq_getElem hi])
    rwa [add_plain] at this

theorem Own.empty (w : World) : Own (w.alloc (.cells #[] 5)) w.heap.size (.slice (some ⟨w.heap.size, 0, none⟩) 0 0) [] :=
  World.ownsRow_made w #[] 0 (Nat.le_refl _) (by decide) rfl
theorem Own.below {w w' : World} {B : Nat} {v : Value} {l : List Int} (h : Own w B v l) (hb : Below w.heap.size w w') : Own w' B v l := by
  refine ⟨h.1, ?_⟩
  rcases h.2 with h0 | ⟨g, cap, cur, hv, hg, hh, r⟩
  · exact .inl h0
  · refine .inr ⟨g, cap, cur, hv, hg, ?_, r⟩
    rw [hb.block g ?_]
    · exact hh
    · rcases Nat.lt_or_ge g w.heap.size with h1 | h1
      · exact h1
      · rw [Array.getElem?_eq_none h1] at hh; cases hh

theorem Own.byt {w : World} {B : Nat} {A : Option Addr} {k c : Nat} {l : List Int} (h : Own w B (.slice A k c) l) (hr : ∀ c ∈ l, 0 ≤ c ∧ c < 256) : Byt w A l := by
  obtain ⟨A', c', e, hb⟩ := h.form hr
  injection e with e1 e2 e3
  subst e1
  exact hb

theorem Own.le {w : World} {B : Nat} {A : Option Addr} {k c : Nat} {l : List Int} (h : Own w B (.slice A k c) l) (hk : l.length = k) : k ≤ c := by
  rcases h.2 with ⟨h', h0⟩ | ⟨g, cap, cur, h', _, _, hn, _⟩
  · omega
  · injection h' with e1 e2 e3
    omega

theorem info5 : ∃ i, Tryz.prog.info? 5 = some i ∧ i.zero = some (.int .u8 0) ∧ i.size = 1 ∧ i.bytes = 1 :=
  ⟨(Tryz.prog.info? 5).get (by kernel_rfl), by kernel_rfl, by kernel_rfl, by kernel_rfl, by kernel_rfl⟩
theorem Byt.nil (w : World) : Byt w none [] := ⟨fun i hi => absurd hi (by simp), by simp⟩
/- a string's bytes -/
def txt (s : ByteArray) : List Int := s.data.toList.map fun b => (b.toNat : Int)
theorem txt_length (s : ByteArray) : (txt s).length = s.size := by rw [txt, List.length_map, Array.length_toList]; rfl
theorem txt_range (s : ByteArray) : ∀ c ∈ txt s, 0 ≤ c ∧ c < 256 := by
  intro c hc
  obtain ⟨b, _, rfl⟩ := List.mem_map.1 hc
  have := b.toNat_lt
  omega

theorem strCells_txt (s : ByteArray) : Lib.strCells s = (txt s).map (Value.int .u8) := by
  unfold Lib.strCells txt
  rw [List.map_map]; rfl
theorem str_txt (s : ByteArray) : strOfNums (txt s) = s := by
  rcases s with ⟨d⟩
  unfold strOfNums txt
  rw [List.map_map]
  congr 1
  rw [show ((fun n : Int => UInt8.ofNat n.toNat) ∘ fun b : UInt8 => (b.toNat : Int)) = id by funext b; simp]
  simp

theorem txt_str (l : List Int) (h : ∀ c ∈ l, 0 ≤ c ∧ c < 256) : txt (strOfNums l) = l := by
  unfold strOfNums txt
  simp only [List.map_map]
  conv => rhs; rw [← List.map_id l]
  refine List.map_congr_left fun c hc => ?_
  have := h c hc
  simp
  omega

/- a row of its own, of which so many cells are zeros, then a copy of other bytes -/
theorem Own.made (w' : World) (g n c : Nat) (B : Nat) (hB : B ≤ g) (l : List Int) (hl : l.length = n) (hc : n ≤ c) (hm : c ≤ 1000000)
    (h : w'.heap[g]? = some (.cells (splice (List.replicate c (Value.int .u8 0)) 0 (l.map (Value.int .u8))).toArray 5 (0, 0))) : Own w' B (.slice (some ⟨g, 0, none⟩) n c) l := by
  refine ⟨by simp, .inr ⟨g, c, _, by rw [hl], hB, h, by omega, by unfold maxLen; omega, ?_, ?_⟩⟩
  · have := length_splice (List.replicate c (Value.int .u8 0)) 0 (l.map (Value.int .u8)) (by simp; omega)
    simp only [List.length_replicate] at this
    simp only [List.size_toArray, this]; omega
  · simp [splice]


theorem made_zeros (n : Nat) : (List.replicate n (Value.int .u8 0)).toArray = madeCells #[.int .u8 0] n := by
  apply Array.ext'; rw [toList_madeCells_one]
theorem size5 : (Tryz.prog.info? 5).map (·.size) = some 1 := by kernel_rfl
theorem src_of {w : World} {a : Option Addr} {l : List Int} (hb : Byt w a l) (hp : 0 < l.length) : ∃ ad, a = some ad ∧ ∀ j v, (l.map (Value.int .u8))[j]? = some v → w.cell? (ad.add j) = some v := by
  obtain ⟨b, off, rfl, _⟩ := hb.1 0 hp
  refine ⟨_, rfl, fun j v hj => ?_⟩
  have hjl : j < l.length := by
    rcases Nat.lt_or_ge j l.length with h | h
    · exact h
    · rw [List.getElem?_eq_none (by simpa using h)] at hj; cases hj
  obtain ⟨b', off', h, hc⟩ := hb.1 j hjl
  injection h with h
  injection h with h1 h2 _
  subst h1
  subst h2
  rw [add_plain, hc]
  simp [List.getElem?_eq_getElem hjl] at hj
  rw [← hj]
  simp [List.getElem?_eq_getElem hjl]

theorem cells_one {l : List Int} : ∀ v ∈ l.map (Value.int .u8), v.oneCell' = true := by
  intro u hu
  obtain ⟨x, _, rfl⟩ := List.mem_map.1 hu
  rfl

theorem Byt.one (w : World) (x : Int) (h : 0 ≤ x ∧ x < 256) : Byt (w.alloc (.cells #[.int .u8 x] 5)) (some ⟨w.heap.size, 0, none⟩) [x] := by
  refine ⟨fun i hi => ⟨w.heap.size, 0, rfl, ?_⟩, fun c hc => ?_⟩
  · have : i = 0 := by simpa using hi
    subst this
    simp [go_sem]
  · rw [List.mem_singleton] at hc; subst hc; exact h

theorem range_snoc {l : List Int} {x : Int} (h : ∀ c ∈ l, 0 ≤ c ∧ c < 256) (hx : 0 ≤ x ∧ x < 256) : ∀ c ∈ l ++ [x], 0 ≤ c ∧ c < 256 := by
  intro c hc
  rcases List.mem_append.1 hc with hc | hc
  · exact h c hc
  · rw [List.mem_singleton] at hc; subst hc; exact hx

theorem range_app {l r : List Int} (h : ∀ c ∈ l, 0 ≤ c ∧ c < 256) (hx : ∀ c ∈ r, 0 ≤ c ∧ c < 256) : ∀ c ∈ l ++ r, 0 ≤ c ∧ c < 256 := by
  intro c hc
  rcases List.mem_append.1 hc with hc | hc
  · exact h c hc
  · exact hx c hc


theorem Own.cell {w : World} {B g n cap : Nat} {l : List Int} (h : Own w B (.slice (some ⟨g, 0, none⟩) n cap) l) (hl : l.length = n) (j : Nat) (hj : j < n) : w.cell? ⟨g, j, none⟩ = some (.int .u8 (l.getD j 0)) := by
  subst hl
  rw [World.ownsRow.cellAt h j (by omega)]
  simp [List.getElem?_eq_getElem hj]

theorem Own.frozen {w : World} {B g n cap : Nat} {l : List Int} (h : Own w B (.slice (some ⟨g, 0, none⟩) n cap) l) (hl : l.length = n) (j : Nat) : w.frozen? ⟨g, j, none⟩ = false := by
  subst hl
  exact World.ownsRow.frozenAt h j
theorem Own.stored {w : World} {B g n cap : Nat} {l : List Int} (h : Own w B (.slice (some ⟨g, 0, none⟩) n cap) l) (hl : l.length = n) (j : Nat) (x : Int) : Own (w.setCell ⟨g, j, none⟩ (.int .u8 x)) B (.slice (some ⟨g, 0, none⟩) n cap) (l.set j x) := by
  subst hl
  have := (World.ownsRow.stored h j (.int .u8 x)).1
  unfold Own
  rw [List.length_set, List.map_set]
  exact this

theorem drop_cons (l : List Int) (k : Nat) (h : k < l.length) : l.drop k = l.getD k 0 :: l.drop (k + 1) := by
  rw [List.drop_eq_getElem_cons h, List.getD_eq_getElem?_getD, List.getElem?_eq_getElem h]; rfl
theorem cut_len (l : List Int) (k n : Nat) (h : k + n ≤ l.length) : ((l.drop k).take n).length = n := by
  rw [List.length_take, List.length_drop]; omega
theorem byt_cut {w : World} {b off : Nat} {l : List Int} (hb : Byt w (some ⟨b, off, none⟩) l) (k n : Nat) (h : k + n ≤ l.length) : Byt w (some ⟨b, off + k, none⟩) ((l.drop k).take n) := by
  refine ⟨fun i hi => ⟨b, off + k, rfl, ?_⟩, fun c hc => hb.2 c (List.mem_of_mem_drop (List.mem_of_mem_take hc))⟩
  rw [cut_len l k n h] at hi
  obtain ⟨b', off', e, hc⟩ := hb.1 (k + i) (by omega)
  injection e with e
  injection e with e1 e2 _
  subst e1
  subst e2
  rw [Nat.add_assoc, hc]
  congr 2
  simp [List.getD_eq_getElem?_getD, hi]

theorem take_step (l : List Int) (q k : Nat) (h : q + k < l.length) : (l.drop q).take (k + 1) = (l.drop q).take k ++ [l.getD (q + k) 0] := by
  rw [List.take_succ_eq_append_getElem (by rw [List.length_drop]; omega), List.getElem_drop, List.getD_eq_getElem?_getD, List.getElem?_eq_getElem h]; rfl

/- a row of c zeros over whose front bytes were laid -/
def Row (w : World) (g c : Nat) (l : List Int) : Prop := w.heap[g]? = some (.cells (splice (List.replicate c (Value.int .u8 0)) 0 (l.map (Value.int .u8))).toArray 5 (0, 0))
theorem Row.zero {w : World} {g c : Nat} {l : List Int} (h : Row w g c l) (j : Nat) (hj : l.length ≤ j) (hc : j < c) : w.cell? ⟨g, j, none⟩ = some (.int .u8 0) := by
  rw [cell_of_row w g j _ 5 (0, 0) h]
  have e : (splice (List.replicate c (Value.int .u8 0)) 0 (l.map (Value.int .u8)))[j]? = some (.int .u8 0) := by
    unfold splice
    rw [List.take_zero, List.nil_append, List.getElem?_append_right (by simpa using hj)]
    simp only [List.length_map, Nat.zero_add, List.drop_replicate, List.getElem?_replicate]
    rw [if_pos (by omega)]
  simpa using e

theorem Row.below {B : Nat} {w w' : World} {g c : Nat} {l : List Int} (h : Row w g c l) (hb : Below B w w') (hg : g < B) : Row w' g c l := by
  unfold Row
  rw [hb.block g hg]
  exact h

theorem below_go {w5 W W' : World} (h : Below w5.heap.size w5 W) (k : Below W.heap.size W W') : Below w5.heap.size w5 W' := h.trans (k.mono h.size)
theorem below_drewN (B : Nat) (w : World) (n : Nat) : Below B w (w.drewN n) := ⟨rfl, rfl, rfl, Nat.le_refl _, fun _ _ => rfl⟩
end Go.Proofs.YtpnllbojifnopaaGreatDoor

/- Values: their cells; whether they may be, the program's and the document's contract. -/
namespace Go.Proofs.YtpnllbojifnopaaGreatDoor
open Go Go.RowKit Rl
set_option maxRecDepth 20000

abbrev vl (k n : Int) (r : Nat) (s : ByteArray) : Value := .agg #[.int .u8 k, .int .i64 n, .float .f64 r, .string s]
abbrev vcells (k n : Int) (r : Nat) (s : ByteArray) : Obj := .cells #[.int .u8 k, .int .i64 n, .float .f64 r, .string s] 168
def mayB (k : Int) (bi br bs bz : Bool) : Bool :=
  if k = 0 then bi && br && bs else if k = 1 then br && bs else if k = 2 then bi && bs else if k = 3 then bi && br && bz else false
def may (k n : Int) (r : Nat) (s : ByteArray) : Bool := mayB k (decide (n = 0)) (decide (r = 0)) (decide (s.size = 0)) (decide (s.size ≤ 255))
theorem toList_nil (s : ByteArray) : (s.toList == []) = decide (s.size = 0) := by
  rw [ByteArray.toList_eq, Bool.eq_iff_iff, beq_iff_eq, decide_eq_true_iff]
  constructor
  · intro h; show s.data.size = 0; rw [← Array.length_toList, h]; rfl
  · intro h; exact List.eq_nil_of_length_eq_zero (by rw [Array.length_toList]; exact h)
theorem ret_bool {a b : Bool} (h : a = b) : Ending.returned (.bool a) = .returned (.bool b) := by rw [h]

set_option maxHeartbeats 1000000 in
theorem may_walk (k n : Int) (r x : Nat) (s : ByteArray) (bi br bs bz : Bool) (hi : (n == 0) = bi) (hr : ((x : Int) == 0) = br) (hs : (s.toList == []) = bs) (hz : decide ((s.size : Int) ≤ 255) = bz)
    (w : World) (R : Hid (∀ w, Calls Tryz.prog 130 #[.float .f64 r] w fun e w' => e = .returned (.int .u64 (x : Int)) ∧ w = w')) :
    Calls Tryz.prog 98 #[vl k n r s] w fun e w' => e = .returned (.bool (mayB k bi br bs bz)) ∧ Below w.heap.size w w' := by
  have B0 := Lib.hid ((Below.refl w.heap.size w).alloc (Nat.le_refl _) (vcells k n r s))
  go_enter Tryz.func98, Tryz.ntmps98
  go_wp2_with fail
  go_quiet (fail)
  go_wp2_with fail
  refine (R.out _).mono ?_
  rintro e w' ⟨rfl, rfl⟩
  clear R
  by_cases h0 : k = 0
  · subst h0
    cases bi <;> cases br <;> (go_wp2_with fail; go_ret; exact ⟨by simp [mayB], B0.out.trans (below_drewN _ _ _)⟩)
  have e0 : (k == 0) = false := by simp; omega
  by_cases h1 : k = 1
  · subst h1
    cases br <;> (go_wp2_with fail; go_ret; exact ⟨by simp [mayB], B0.out.trans (below_drewN _ _ _)⟩)
  have e1 : (k == 1) = false := by simp; omega
  by_cases h2 : k = 2
  · subst h2
    cases bi <;> (go_wp2_with fail; go_ret; exact ⟨by simp [mayB], B0.out.trans (below_drewN _ _ _)⟩)
  have e2 : (k == 2) = false := by simp; omega
  by_cases h3 : k = 3
  · subst h3
    cases bi <;> cases br <;> cases bz <;> (go_wp2_with fail; go_ret; exact ⟨by simp [mayB], B0.out.trans (below_drewN _ _ _)⟩)
  have e3 : (k == 3) = false := by simp; omega
  go_wp2_with fail
  go_ret
  exact ⟨ret_bool (by unfold mayB; rw [if_neg h0, if_neg h1, if_neg h2, if_neg h3]), B0.out.trans (below_drewN _ _ _)⟩

set_option maxHeartbeats 2000000 in
theorem rmay_walk (k n : Int) (r : Nat) (s : ByteArray) (bi br bs bz : Bool) (hi : (n == 0) = bi) (hr : ((r : Int) == 0) = br) (hs : (s.toList == []) = bs) (hz : decide ((s.size : Int) ≤ 255) = bz) (hq : Hid (bs = true → bz = true)) (hk : 0 ≤ k) (w : World) :
    Calls Tryz.prog 92 #[vl k n r s] w fun e w' => e = .returned (.bool (mayB k bi br bs bz)) ∧ Below w.heap.size w w' := by
  have B0 := Lib.hid ((Below.refl w.heap.size w).alloc (Nat.le_refl _) (vcells k n r s))
  have r13 := run13 r
  by_cases h0 : k = 0
  · subst h0
    clear hk
    cases bi <;> cases br <;> cases bs <;> cases bz <;> first | exact Bool.noConfusion (hq.out rfl) | (go_enter Tryz.func92, Tryz.ntmps92; go_wp2; go_ret; exact ⟨by simp [mayB], B0.out⟩)
  have e0 : (k == 0) = false := by simp; omega
  by_cases h1 : k = 1
  · subst h1
    clear hk h0 e0
    cases bi <;> cases br <;> cases bs <;> cases bz <;> first | exact Bool.noConfusion (hq.out rfl) | (go_enter Tryz.func92, Tryz.ntmps92; go_wp2; go_ret; exact ⟨by simp [mayB], B0.out⟩)
  have e1 : (k == 1) = false := by simp; omega
  by_cases h2 : k = 2
  · subst h2
    clear hk h0 e0 h1 e1
    cases bi <;> cases br <;> cases bs <;> cases bz <;> first | exact Bool.noConfusion (hq.out rfl) | (go_enter Tryz.func92, Tryz.ntmps92; go_wp2; go_ret; exact ⟨by simp [mayB], B0.out⟩)
  have e2 : (k == 2) = false := by simp; omega
  by_cases h3 : k = 3
  · subst h3
    clear hk h0 e0 h1 e1 h2 e2
    cases bi <;> cases br <;> cases bs <;> cases bz <;> first | exact Bool.noConfusion (hq.out rfl) | (go_enter Tryz.func92, Tryz.ntmps92; go_wp2; go_ret; exact ⟨by simp [mayB], B0.out⟩)
  have e3 : (k == 3) = false := by simp; omega
  have e4 : decide (k < 4) = false := by simp; omega
  have E := Lib.hid (show mayB k bi br bs bz = false by unfold mayB; rw [if_neg h0, if_neg h1, if_neg h2, if_neg h3])
  rw [E.out]
  clear hq hz hs E h0 h1 h2 h3 hk
  cases bi <;> cases br <;> (go_enter Tryz.func92, Tryz.ntmps92; go_wp2; all_goals (go_ret; exact ⟨rfl, B0.out⟩))

theorem bt_zero (r : Nat) : ((bt r : Int) == 0) = decide (r = 0) := by
  rw [Bool.eq_iff_iff, beq_iff_eq, decide_eq_true_iff]
  unfold bt nan
  split <;> rename_i h <;> simp at h <;> omega
theorem may_any (k n : Int) (r : Nat) (s : ByteArray) (h : r < 18446744073709551616) (w : World) :
    Calls Tryz.prog 98 #[vl k n r s] w fun e w' => e = .returned (.bool (may k n r s)) ∧ Below w.heap.size w w' :=
  may_walk k n r (bt r) s _ _ _ _ (by rw [Bool.eq_iff_iff]; simp) (bt_zero r) (toList_nil s) (by rw [Bool.eq_iff_iff]; simp; omega) w (Lib.hid fun w => bits_any r h w)
theorem rmay_any (k n : Int) (r : Nat) (s : ByteArray) (hk : 0 ≤ k) (w : World) :
    Calls Tryz.prog 92 #[vl k n r s] w fun e w' => e = .returned (.bool (may k n r s)) ∧ Below w.heap.size w w' :=
  rmay_walk k n r s _ _ _ _ (by rw [Bool.eq_iff_iff]; simp) (by rw [Bool.eq_iff_iff]; simp) (toList_nil s) (by rw [Bool.eq_iff_iff]; simp; omega) (Lib.hid (fun h => decide_eq_true (by have := of_decide_eq_true h; omega))) hk w
/- four cells of a value -/
def At4 (w : World) (a : Nat) (k n : Int) (r : Nat) (s : ByteArray) : Prop :=
  w.cell? ⟨a, 0, none⟩ = some (.int .u8 k) ∧ w.cell? ⟨a, 1, none⟩ = some (.int .i64 n) ∧ w.cell? ⟨a, 2, none⟩ = some (.float .f64 r) ∧ w.cell? ⟨a, 3, none⟩ = some (.string s)
theorem At4.below {w w' : World} {a : Nat} {k n : Int} {r : Nat} {s : ByteArray} {B : Nat} (h : At4 w a k n r s) (hb : Below B w w') (ha : a < B) : At4 w' a k n r s := by
  obtain ⟨h0, h1, h2, h3⟩ := h
  exact ⟨by rw [hb.cell (p := ⟨a, 0, none⟩) ha]; exact h0, by rw [hb.cell (p := ⟨a, 1, none⟩) ha]; exact h1, by rw [hb.cell (p := ⟨a, 2, none⟩) ha]; exact h2, by rw [hb.cell (p := ⟨a, 3, none⟩) ha]; exact h3⟩
theorem At4.alloc (w : World) (k n : Int) (r : Nat) (s : ByteArray) : At4 (w.alloc (vcells k n r s)) w.heap.size k n r s := by
  refine ⟨?_, ?_, ?_, ?_⟩ <;> simp [go_sem]
structure TwoV (w W : World) (k n : Int) (r : Nat) (s : ByteArray) (k' n' : Int) (r' : Nat) (s' : ByteArray) : Prop where
  one : At4 W w.heap.size k n r s
  two : At4 W (w.heap.size + 1) k' n' r' s'
  bel : Below w.heap.size w W
  big : w.heap.size + 1 < W.heap.size
theorem TwoV.start (w : World) (k n : Int) (r : Nat) (s : ByteArray) (k' n' : Int) (r' : Nat) (s' : ByteArray) : TwoV w ((w.alloc (vcells k n r s)).alloc (vcells k' n' r' s')) k n r s k' n' r' s' := by
  have h1 := At4.alloc w k n r s
  have h2 := At4.alloc (w.alloc (vcells k n r s)) k' n' r' s'
  have b2 := (Below.refl (w.alloc (vcells k n r s)).heap.size (w.alloc (vcells k n r s))).alloc (Nat.le_refl _) (vcells k' n' r' s')
  refine ⟨h1.below b2 (by simp), ?_, ((Below.refl w.heap.size w).alloc (Nat.le_refl _) _).alloc (by simp) _, by simp⟩
  have : (w.alloc (vcells k n r s)).heap.size = w.heap.size + 1 := by simp
  rw [this] at h2; exact h2
theorem TwoV.next {w W W' : World} {k n : Int} {r : Nat} {s : ByteArray} {k' n' : Int} {r' : Nat} {s' : ByteArray} (h : TwoV w W k n r s k' n' r' s') (hb : Below W.heap.size W W') : TwoV w W' k n r s k' n' r' s' :=
  ⟨h.one.below hb (by have := h.big; omega), h.two.below hb h.big, h.bel.trans (hb.mono h.bel.size), Nat.lt_of_lt_of_le h.big hb.size⟩

theorem run_store_float (a : Addr) (x : Nat) (m : Mode) (w : World) : (store a (.float .f64 x) m).run Tryz.prog w = stored Tryz.prog w a (.float .f64 x) m := run_store Tryz.prog w a _ m rfl

theorem Own.mono {w : World} {B B' : Nat} {v : Value} {l : List Int} (h : Own w B v l) (hB : B' ≤ B) : Own w B' v l := by
  refine ⟨h.1, ?_⟩
  rcases h.2 with h0 | ⟨g, cap, cur, hv, hg, r⟩
  · exact .inl h0
  · exact .inr ⟨g, cap, cur, hv, Nat.le_trans hB hg, r⟩
theorem Own.capz {w : World} {B : Nat} {A : Option Addr} {k c : Nat} {l : List Int} (h : Own w B (.slice A k c) l) (hA : A = none) : c = 0 := by
  rcases h.2 with ⟨h', _⟩ | ⟨g, cap, cur, h', _⟩
  · injection h'
  · injection h' with e1 e2 e3
    rw [hA] at e1
    cases e1
theorem At4.next {w W : World} {a : Nat} {k n : Int} {r : Nat} {s : ByteArray} (h : At4 w a k n r s) (hb : Below w.heap.size w W) : At4 W a k n r s := h.below hb (World.block_lt_of_cell? _ _ h.1)
end Go.Proofs.YtpnllbojifnopaaGreatDoor

/- Numbers as bytes, without any program: writing, reading, there and back. -/
namespace Pk

/- ### a number's writing -/
def wrt (n : Nat) : List Int := if n < 128 then [(n : Int)] else ((n % 128 + 128 : Nat) : Int) :: wrt (n / 128)
  termination_by n
  decreasing_by omega
theorem wrt_lo (n : Nat) (h : n < 128) : wrt n = [(n : Int)] := by rw [wrt, if_pos h]
theorem wrt_hi (n : Nat) (h : 128 ≤ n) : wrt n = ((n % 128 + 128 : Nat) : Int) :: wrt (n / 128) := by rw [wrt, if_neg (by omega)]

theorem wrt_range (n : Nat) : ∀ c ∈ wrt n, 0 ≤ c ∧ c < 256 := by
  induction n using Nat.strongRecOn with
  | ind n ih =>
    by_cases h : n < 128
    · rw [wrt_lo n h]
      intro c hc
      rw [List.mem_singleton] at hc
      omega
    · rw [wrt_hi n (by omega)]
      intro c hc
      rcases List.mem_cons.1 hc with rfl | hc
      · omega
      · exact ih (n / 128) (by omega) c hc

theorem wrt_len (k : Nat) : ∀ n : Nat, n < 128 ^ (k + 1) → k = 0 ∨ 128 ^ k ≤ n → (wrt n).length = k + 1 := by
  induction k with
  | zero => intro n h _; rw [wrt_lo n (by simpa using h)]; rfl
  | succ k ih =>
    intro n h h2
    have h3 : 128 ^ (k + 1) ≤ n := by rcases h2 with h2 | h2; omega; exact h2
    have e1 : 128 ^ (k + 1 + 1) = 128 ^ (k + 1) * 128 := Nat.pow_succ ..
    have e2 : 128 ^ (k + 1) = 128 ^ k * 128 := Nat.pow_succ ..
    have p : 0 < 128 ^ k := Nat.pow_pos (by omega)
    rw [e1] at h
    rw [wrt_hi n (by omega), List.length_cons, ih (n / 128) ((Nat.div_lt_iff_lt_mul (by omega)).2 h) ?_]
    by_cases hk : k = 0
    · exact .inl hk
    · right
      rw [e2] at h3
      exact (Nat.le_div_iff_mul_le (by omega)).2 h3

theorem wrt_len_le (k : Nat) : ∀ n : Nat, n < 128 ^ (k + 1) → (wrt n).length ≤ k + 1 := by
  induction k with
  | zero => intro n h; rw [wrt_lo n (by simpa using h)]; exact Nat.le_refl _
  | succ k ih =>
    intro n h
    by_cases c : n < 128
    · rw [wrt_lo n c, List.length_singleton]; omega
    · rw [Nat.pow_succ] at h
      rw [wrt_hi n (by omega), List.length_cons]
      have := ih (n / 128) ((Nat.div_lt_iff_lt_mul (by omega)).2 h)
      omega
theorem wrt_ten (n : Nat) (h : n < 18446744073709551616) : (wrt n).length ≤ 10 := wrt_len_le 9 n (by omega)
theorem wrt_pos (n : Nat) : 1 ≤ (wrt n).length := by
  by_cases c : n < 128
  · rw [wrt_lo n c]; exact Nat.le_refl _
  · rw [wrt_hi n (by omega), List.length_cons]; omega

/- ### how many bytes -/
theorem bl_zero (f : Nat) : Go.Lib.bitLenAux f 0 = 0 := by cases f <;> simp [Go.Lib.bitLenAux]
theorem bl_spec : ∀ (f x : Nat), x < 2 ^ f → x < 2 ^ (Go.Lib.bitLenAux f x) ∧ (x ≠ 0 → 1 ≤ Go.Lib.bitLenAux f x ∧ 2 ^ (Go.Lib.bitLenAux f x - 1) ≤ x)
  | 0, x, h => by
    have : x = 0 := by simpa using h
    subst this; simp [Go.Lib.bitLenAux]
  | f + 1, x, h => by
    unfold Go.Lib.bitLenAux
    by_cases c : x = 0
    · subst c; simp
    · rw [if_neg c]
      have hp : 2 ^ (f + 1) = 2 ^ f * 2 := Nat.pow_succ ..
      obtain ⟨h1, h2⟩ := bl_spec f (x / 2) (by omega)
      generalize e : Go.Lib.bitLenAux f (x / 2) = L at h1 h2
      refine ⟨?_, fun _ => ⟨by omega, ?_⟩⟩
      · rw [show 1 + L = L + 1 by omega, Nat.pow_succ]; omega
      · rw [show 1 + L - 1 = L by omega]
        by_cases d : x / 2 = 0
        · rw [d, bl_zero] at e
          subst e; simp; omega
        · obtain ⟨h3, h4⟩ := h2 d
          rw [show L = (L - 1) + 1 by omega, Nat.pow_succ]; omega

def sz (n : Nat) : Nat := (Go.Lib.bitLen (n ||| 1) + 6) / 7
theorem or_one (n : Nat) : (n ||| 1) / 2 = n / 2 ∧ (n ||| 1) % 2 = 1 := by
  constructor
  · rw [Nat.or_div_two]; simp
  · rw [Nat.or_mod_two_eq_one]; simp
theorem or_one_lt (n : Nat) (h : n < 18446744073709551616) : n ||| 1 < 18446744073709551616 := by
  have := or_one n; omega
theorem sz_eq (n : Nat) (h : n < 18446744073709551616) : sz n = (wrt n).length := by
  obtain ⟨o1, o2⟩ := or_one n
  unfold sz
  have hx := or_one_lt n h
  generalize n ||| 1 = x at o1 o2 hx
  obtain ⟨b1, b2⟩ := bl_spec 64 x (by omega)
  obtain ⟨b3, b4⟩ := b2 (by omega)
  unfold Go.Lib.bitLen
  generalize Go.Lib.bitLenAux 64 x = L at b1 b3 b4
  obtain ⟨k, hk⟩ : ∃ k, (L + 6) / 7 = k + 1 := ⟨(L + 6) / 7 - 1, by omega⟩
  have pw : ∀ j : Nat, 128 ^ j = 2 ^ (7 * j) := fun j => by rw [Nat.pow_mul]
  rw [hk, wrt_len k n ?_ ?_]
  · have : 2 ^ L ≤ 2 ^ (7 * (k + 1)) := Nat.pow_le_pow_right (by omega) (by omega)
    rw [pw]; omega
  · by_cases hz : k = 0
    · exact .inl hz
    · right
      have h1 : 2 ^ (7 * k) ≤ 2 ^ (L - 1) := Nat.pow_le_pow_right (by omega) (by omega)
      have h2 : 2 ^ (7 * k) = 2 ^ (7 * k - 1) * 2 := by rw [← Nat.pow_succ]; congr 1; omega
      rw [pw]
      generalize 2 ^ (7 * k) = M at h1 h2
      generalize 2 ^ (7 * k - 1) = M2 at h2
      generalize 2 ^ (L - 1) = M3 at h1 b4
      omega

/- ### reading: the number, how many bytes were read, the error -/
def gt : List Int → Nat → Nat → Nat × Nat × Nat
  | [], _, _ => (0, 0, 3)
  | c :: r, i, a =>
    if i = 9 ∧ 1 < c then (0, 0, 4)
    else if 128 ≤ c then gt r (i + 1) (a + c.toNat % 128 * 128 ^ i)
    else if c = 0 ∧ 0 < i then (0, 0, 2)
    else (a + c.toNat * 128 ^ i, i + 1, 0)

theorem gt_wrt (r : List Int) (n : Nat) : ∀ i a : Nat, n * 128 ^ i < 18446744073709551616 → i = 0 ∨ 0 < n → gt (wrt n ++ r) i a = (a + n * 128 ^ i, i + (wrt n).length, 0) := by
  induction n using Nat.strongRecOn with
  | ind n ih =>
    intro i a hb hp
    have i9 : i = 9 → n ≤ 1 := fun e => by subst e; omega
    by_cases h : n < 128
    · rw [wrt_lo n h]
      show gt ((n : Int) :: r) i a = _
      rw [gt, if_neg (by omega), if_neg (by omega), if_neg (by omega)]
      simp
    · rw [wrt_hi n (by omega)]
      show gt (((n % 128 + 128 : Nat) : Int) :: (wrt (n / 128) ++ r)) i a = _
      rw [gt, if_neg (by omega), if_pos (by omega)]
      have e : n * 128 ^ i = n % 128 * 128 ^ i + n / 128 * 128 ^ (i + 1) := by
        rw [Nat.pow_succ, Nat.mul_comm (128 ^ i) 128, ← Nat.mul_assoc, ← Nat.add_mul]; congr 1; omega
      rw [ih (n / 128) (by omega) (i + 1) _ (by omega) (.inr (by omega)), e]
      rw [List.length_cons, show (((n % 128 + 128 : Nat) : Int)).toNat % 128 = n % 128 by omega]
      refine Prod.ext ?_ (Prod.ext ?_ rfl)
      · show a + n % 128 * 128 ^ i + n / 128 * 128 ^ (i + 1) = _; omega
      · show i + 1 + (wrt (n / 128)).length = i + ((wrt (n / 128)).length + 1); omega

theorem gt_only : ∀ (l : List Int) (i a n k : Nat), (∀ c ∈ l, 0 ≤ c ∧ c < 256) → gt l i a = (n, k, 0) →
    ∃ m, n = a + m * 128 ^ i ∧ i < k ∧ k ≤ i + l.length ∧ l.take (k - i) = wrt m ∧ (i = 0 ∨ 0 < m)
  | [], i, a, n, k, _, h => by rw [gt] at h; simp at h
  | c :: r, i, a, n, k, hr, h => by
    have hc := hr c (by simp)
    rw [gt] at h
    by_cases c1 : i = 9 ∧ 1 < c
    · rw [if_pos c1] at h; simp at h
    · rw [if_neg c1] at h
      by_cases c2 : 128 ≤ c
      · rw [if_pos c2] at h
        obtain ⟨m, h1, h2, h3, h4, h5⟩ := gt_only r (i + 1) _ n k (fun x hx => hr x (by simp [hx])) h
        refine ⟨m * 128 + c.toNat % 128, ?_, by omega, by rw [List.length_cons]; omega, ?_, .inr (by omega)⟩
        · rw [h1, Nat.pow_succ, Nat.add_mul, Nat.mul_comm (128 ^ i) 128, Nat.mul_assoc]; omega
        · rw [show k - i = (k - (i + 1)) + 1 by omega, List.take_succ_cons, h4, wrt_hi (m * 128 + c.toNat % 128) (by omega)]
          rw [show (m * 128 + c.toNat % 128) / 128 = m by omega, show (m * 128 + c.toNat % 128) % 128 = c.toNat % 128 by omega]
          congr 1
          omega
      · rw [if_neg c2] at h
        by_cases c3 : c = 0 ∧ 0 < i
        · rw [if_pos c3] at h; simp at h
        · rw [if_neg c3] at h
          simp only [Prod.mk.injEq, and_true] at h
          obtain ⟨h1, h2⟩ := h
          refine ⟨c.toNat, h1.symm, by omega, by rw [List.length_cons]; omega, ?_, by omega⟩
          rw [← h2, show i + 1 - i = 0 + 1 by omega, List.take_succ_cons, wrt_lo _ (by omega)]
          simp; omega

/- a number that was read has room in 64 bits -/
theorem gt_room : ∀ (l : List Int) (i a n k : Nat), (∀ c ∈ l, 0 ≤ c ∧ c < 256) → i ≤ 9 → a < 128 ^ i → gt l i a = (n, k, 0) → n < 18446744073709551616
  | [], i, a, n, k, _, _, _, h => by rw [gt] at h; simp at h
  | c :: r, i, a, n, k, hr, hi, ha, h => by
    have hc := hr c (by simp)
    rw [gt] at h
    by_cases c1 : i = 9 ∧ 1 < c
    · rw [if_pos c1] at h; simp at h
    · rw [if_neg c1] at h
      by_cases c2 : 128 ≤ c
      · rw [if_pos c2] at h
        refine gt_room r (i + 1) _ n k (fun x hx => hr x (by simp [hx])) (by omega) ?_ h
        have : c.toNat % 128 * 128 ^ i ≤ 127 * 128 ^ i := Nat.mul_le_mul_right _ (by omega)
        rw [Nat.pow_succ]; omega
      · rw [if_neg c2] at h
        by_cases c3 : c = 0 ∧ 0 < i
        · rw [if_pos c3] at h; simp at h
        · rw [if_neg c3] at h
          simp only [Prod.mk.injEq, and_true] at h
          obtain ⟨h1, h2⟩ := h
          by_cases i9 : i = 9
          · subst i9
            have : c.toNat ≤ 1 := by omega
            have : c.toNat * 128 ^ 9 ≤ 1 * 128 ^ 9 := Nat.mul_le_mul_right _ this
            omega
          · have e : c.toNat * 128 ^ i ≤ 127 * 128 ^ i := Nat.mul_le_mul_right _ (by omega)
            have : 128 ^ (i + 1) ≤ 128 ^ 9 := Nat.pow_le_pow_right (by omega) (by omega)
            rw [Nat.pow_succ] at this
            omega
theorem gt_err : ∀ (l : List Int) (i a : Nat), (gt l i a).2.2 ≠ 0 → (gt l i a).1 = 0 ∧ (gt l i a).2.1 = 0
  | [], i, a, _ => by rw [gt]; exact ⟨rfl, rfl⟩
  | c :: r, i, a, h => by
    rw [gt] at h ⊢
    split
    · exact ⟨rfl, rfl⟩
    · rename_i c1
      rw [if_neg c1] at h
      split
      · rename_i c2
        rw [if_pos c2] at h
        exact gt_err r (i + 1) _ h
      · rename_i c2
        rw [if_neg c2] at h
        split
        · exact ⟨rfl, rfl⟩
        · rename_i c3
          rw [if_neg c3] at h
          exact absurd rfl h

/- ### signed numbers -/
def zig (i : Int) : Nat := if i < 0 then 2 * (-(i + 1)).toNat + 1 else 2 * i.toNat
def sg (n : Nat) : Int := if n % 2 = 1 then -((n / 2 : Nat) : Int) - 1 else ((n / 2 : Nat) : Int)
theorem sg_zig (i : Int) : sg (zig i) = i := by unfold sg zig; split <;> split <;> omega
theorem zig_lt (i : Int) (h : -9223372036854775808 ≤ i) (h2 : i ≤ 9223372036854775807) : zig i < 18446744073709551616 := by unfold zig; split <;> omega

/- ### eight bytes, the highest first -/
def w8 (n : Nat) : List Int := [((n / 72057594037927936 % 256 : Nat) : Int), ((n / 281474976710656 % 256 : Nat) : Int), ((n / 1099511627776 % 256 : Nat) : Int), ((n / 4294967296 % 256 : Nat) : Int), ((n / 16777216 % 256 : Nat) : Int), ((n / 65536 % 256 : Nat) : Int), ((n / 256 % 256 : Nat) : Int), ((n % 256 : Nat) : Int)]
def be (l : List Int) : Nat := l.foldl (fun a c => a * 256 + c.toNat) 0
theorem w8_range (n : Nat) : ∀ c ∈ w8 n, 0 ≤ c ∧ c < 256 := by
  intro c hc
  simp only [w8, List.mem_cons, List.not_mem_nil, or_false] at hc
  omega
theorem be_w8 (n : Nat) (h : n < 18446744073709551616) : be (w8 n) = n := by
  simp only [be, w8, List.foldl, Int.toNat_natCast]
  omega
theorem w8_be (l : List Int) (hl : l.length = 8) (hr : ∀ c ∈ l, 0 ≤ c ∧ c < 256) : w8 (be l) = l := by
  rcases l with _ | ⟨a, _ | ⟨b, _ | ⟨c, _ | ⟨d, _ | ⟨e, _ | ⟨f, _ | ⟨g, _ | ⟨h, l⟩⟩⟩⟩⟩⟩⟩⟩ <;> simp at hl
  subst hl
  have h1 := hr a (by simp)
  have h2 := hr b (by simp)
  have h3 := hr c (by simp)
  have h4 := hr d (by simp)
  have h5 := hr e (by simp)
  have h6 := hr f (by simp)
  have h7 := hr g (by simp)
  have h8 := hr h (by simp)
  clear hr
  obtain ⟨x1, rfl⟩ : ∃ x : Nat, a = (x : Int) := ⟨a.toNat, by omega⟩
  obtain ⟨x2, rfl⟩ : ∃ x : Nat, b = (x : Int) := ⟨b.toNat, by omega⟩
  obtain ⟨x3, rfl⟩ : ∃ x : Nat, c = (x : Int) := ⟨c.toNat, by omega⟩
  obtain ⟨x4, rfl⟩ : ∃ x : Nat, d = (x : Int) := ⟨d.toNat, by omega⟩
  obtain ⟨x5, rfl⟩ : ∃ x : Nat, e = (x : Int) := ⟨e.toNat, by omega⟩
  obtain ⟨x6, rfl⟩ : ∃ x : Nat, f = (x : Int) := ⟨f.toNat, by omega⟩
  obtain ⟨x7, rfl⟩ : ∃ x : Nat, g = (x : Int) := ⟨g.toNat, by omega⟩
  obtain ⟨x8, rfl⟩ : ∃ x : Nat, h = (x : Int) := ⟨h.toNat, by omega⟩
  have eN : be [(x1 : Int), x2, x3, x4, x5, x6, x7, x8] = x1 * 72057594037927936 + x2 * 281474976710656 + x3 * 1099511627776 + x4 * 4294967296 + x5 * 16777216 + x6 * 65536 + x7 * 256 + x8 := by
    simp only [be, List.foldl, Int.toNat_natCast]; omega
  rw [eN]
  clear eN
  generalize eN : x1 * 72057594037927936 + x2 * 281474976710656 + x3 * 1099511627776 + x4 * 4294967296 + x5 * 16777216 + x6 * 65536 + x7 * 256 + x8 = N
  unfold w8
  rw [show N / 72057594037927936 % 256 = x1 by omega, show N / 281474976710656 % 256 = x2 by omega, show N / 1099511627776 % 256 = x3 by omega, show N / 4294967296 % 256 = x4 by omega,
    show N / 16777216 % 256 = x5 by omega, show N / 65536 % 256 = x6 by omega, show N / 256 % 256 = x7 by omega, show N % 256 = x8 by omega]
theorem be_lt : ∀ (l : List Int) (a : Nat), (∀ c ∈ l, 0 ≤ c ∧ c < 256) → l.foldl (fun a c => a * 256 + c.toNat) a < (a + 1) * 256 ^ l.length
  | [], a, _ => by simp
  | c :: r, a, hr => by
    have hc := hr c (by simp)
    rw [List.foldl_cons, List.length_cons, Nat.pow_succ]
    have := be_lt r (a * 256 + c.toNat) (fun x hx => hr x (by simp [hx]))
    have e : (a * 256 + c.toNat + 1) * 256 ^ r.length ≤ ((a + 1) * 256) * 256 ^ r.length := Nat.mul_le_mul_right _ (by omega)
    rw [Nat.mul_comm (256 ^ r.length) 256, ← Nat.mul_assoc]
    omega
end Pk

/- The contracts of cmp.Compare, real.Same and real.Compare; comparing numbers with a point. -/
namespace Go.Proofs.YtpnllbojifnopaaGreatDoor
open Go Go.RowKit Rl
set_option maxRecDepth 20000

def ky (b : Nat) : Nat := if 9223372036854775808 ≤ bt b then 18446744073709551615 - bt b else bt b + 9223372036854775808
def c3 (x y : Int) : Int := if x < y then -1 else if y < x then 1 else 0
theorem c3_lt {a b : Int} (h : a < b) : c3 a b = -1 := by unfold c3; rw [if_pos h]
theorem c3_gt {a b : Int} (h : b < a) : c3 a b = 1 := by unfold c3; rw [if_neg (by omega), if_pos h]
theorem c3_eq (a : Int) : c3 a a = 0 := by unfold c3; rw [if_neg (by omega), if_neg (by omega)]
theorem cmpI_any (x y : Int) (w : World) :
    Calls Tryz.prog 168 #[.int .i64 x, .int .i64 y] w fun e w' => e = .returned (.int .i64 (c3 x y)) ∧ w = w' := by
  unfold c3
  by_cases a : x < y
  · rw [if_pos a]
    have h1 : decide (x < y) = true := by simp; omega
    go_enter Tryz.func168, Tryz.ntmps168
    go_wp2_with go_in
    go_ret
    exact ⟨rfl, rfl⟩
  · have h1 : decide (x < y) = false := by simp; omega
    rw [if_neg a]
    by_cases c : y < x
    · rw [if_pos c]
      have h2 : decide (y < x) = true := by simp; omega
      go_enter Tryz.func168, Tryz.ntmps168
      go_wp2_with go_in
      go_ret
      exact ⟨rfl, rfl⟩
    · rw [if_neg c]
      have h2 : decide (y < x) = false := by simp; omega
      go_enter Tryz.func168, Tryz.ntmps168
      go_wp2_with go_in
      go_ret
      exact ⟨rfl, rfl⟩

theorem same_any (a b : Nat) (ha : a < 18446744073709551616) (hb : b < 18446744073709551616) (v : Bool) (hv : decide (bt a = bt b) = v) (w : World) :
    Calls Tryz.prog 175 #[.float .f64 a, .float .f64 b] w fun e w' => e = .returned (.bool v) ∧ w = w' := by
  have H := Lib.hid (bits_any a ha w)
  have G := Lib.hid (bits_any b hb w)
  generalize bt a = x at H hv
  generalize bt b = y at G hv
  have hv' : ((x : Int) == (y : Int)) = v := by rw [← hv, Bool.eq_iff_iff, beq_iff_eq, decide_eq_true_iff]; exact Int.ofNat_inj
  clear hv
  go_enter Tryz.func175, Tryz.ntmps175
  go_wp2_with fail
  refine H.out.mono ?_
  rintro e w' ⟨rfl, rfl⟩
  go_wp2_with fail
  refine G.out.mono ?_
  rintro e w' ⟨rfl, rfl⟩
  go_wp2
  go_ret
  exact ⟨rfl, rfl⟩

/- ### comparing floats -/
theorem tlt (x y : Nat) (hx : x < 18446744073709551616) (hy : y < 18446744073709551616) (nx : nan x = false) (ny : nan y = false) : (FloatKind.f64.format.order x y == some .lt) = decide (sv x < sv y) := by
  rw [show FloatKind.f64.format.order x y = _ from order_eq x y hx hy nx ny, Bool.eq_iff_iff]; simp [Int.compare_eq_lt]
theorem tgt (x y : Nat) (hx : x < 18446744073709551616) (hy : y < 18446744073709551616) (nx : nan x = false) (ny : nan y = false) : (FloatKind.f64.format.order x y == some .gt) = decide (sv y < sv x) := by
  rw [show FloatKind.f64.format.order x y = _ from order_eq x y hx hy nx ny, Bool.eq_iff_iff]; simp [Int.compare_eq_gt]
theorem teq (x y : Nat) (hx : x < 18446744073709551616) (hy : y < 18446744073709551616) (nx : nan x = false) (ny : nan y = false) : (FloatKind.f64.format.order x y == some .eq) = decide (sv x = sv y) := by
  rw [show FloatKind.f64.format.order x y = _ from order_eq x y hx hy nx ny, Bool.eq_iff_iff]; simp
theorem tnan (x y : Nat) (hx : x < 18446744073709551616) (hy : y < 18446744073709551616) (h : (nan x || nan y) = true) (o : Ordering) : (FloatKind.f64.format.order x y == some o) = false := by
  cases hn : nan x
  · rw [show FloatKind.f64.format.order x y = _ from order_nan_r x y hy (by rw [hn] at h; simpa using h)]; rfl
  · rw [show FloatKind.f64.format.order x y = _ from order_nan_l x y hx hn]; rfl

/- which of two comes first, as numbers; of a NaN: none -/
def cv (a b : Nat) : Int := if (nan a || nan b) = true then 0 else c3 (sv a) (sv b)
def co (a b : Nat) : Bool := !(nan a || nan b)
theorem compare_any (a b : Nat) (ha : a < 18446744073709551616) (hb : b < 18446744073709551616) (w : World) :
    Calls Tryz.prog 170 #[.float .f64 a, .float .f64 b] w fun e w' => e = .returned (.tuple #[.int .i64 (cv a b), .bool (co a b)]) ∧ w = w' := by
  by_cases n : (nan a || nan b) = true
  · have t1 := tnan a b ha hb n .lt
    have t2 := tnan a b ha hb n .gt
    have t3 := tnan a b ha hb n .eq
    rw [show cv a b = 0 by unfold cv; rw [if_pos n], show co a b = false by unfold co; rw [n]; rfl]
    clear n
    go_enter Tryz.func170, Tryz.ntmps170
    go_wp2
    go_ret2
    exact ⟨rfl, rfl⟩
  · have na : nan a = false := by cases h : nan a <;> simp_all
    have nb : nan b = false := by cases h : nan b <;> simp_all
    rw [show cv a b = c3 (sv a) (sv b) by unfold cv; rw [if_neg n], show co a b = true by unfold co; rw [na, nb]; rfl]
    have t1 := tlt a b ha hb na nb
    have t2 := tgt a b ha hb na nb
    have t3 := teq a b ha hb na nb
    clear n na nb
    generalize sv a = x at t1 t2 t3
    generalize sv b = y at t1 t2 t3
    unfold c3
    by_cases l : x < y
    · rw [if_pos l]
      rw [decide_eq_true l] at t1
      clear t2 t3
      go_enter Tryz.func170, Tryz.ntmps170
      go_wp2
      go_ret2
      exact ⟨rfl, rfl⟩
    · rw [if_neg l]
      rw [decide_eq_false l] at t1
      by_cases g : y < x
      · rw [if_pos g]
        rw [decide_eq_true g] at t2
        clear t3
        go_enter Tryz.func170, Tryz.ntmps170
        go_wp2
        go_ret2
        exact ⟨rfl, rfl⟩
      · rw [if_neg g]
        rw [decide_eq_false g] at t2
        rw [decide_eq_true (by omega)] at t3
        go_enter Tryz.func170, Tryz.ntmps170
        go_wp2
        go_ret2
        exact ⟨rfl, rfl⟩

end Go.Proofs.YtpnllbojifnopaaGreatDoor
