/- Contracts, joined: AuB, AuT, AuI, AuA, AuP, AuJ, AuR, AuD. -/
import Derived.RangeFuncNested
import Derived.RangeFuncBound
import Derived.RangeFuncCalls
import Derived.RangeFuncLeaves
import Derived.Shelf.Abstract
import Derived.WalkKit
import Derived.OwnWalkIn
import Derived.TacticsInMore
import Derived.LoopNIn
import Derived.LoopIn
import Derived.OrdersHeld
import Derived.Deep.RegionHeld
import Derived.Test.YtpnllbojifnopaaGreatDoorProg
import Derived.Lib.TrailingZeros
import Derived.Laws.BitsAllLaws
import Derived.ProofKit
import Derived.Handy
import Derived.Shelf.RegionOpen
import Derived.Lib.Hide
import Derived.OpenShut
import Derived.Test.YtpnllbojifnopaaGreatDoorMT
import Derived.Maps.AppendAt
import Derived.Deep.RegionHeldLaw
import Derived.Deep.DeepCutAuto
import Derived.Deep.RegionLaw
import Derived.RangeFuncBox
import Derived.Laws.CopyOwn
import Derived.BigRegion
namespace Go.Proofs.YtpnllbojifnopaaGreatDoor
open Go Go.RowKit
set_option maxRecDepth 20000
theorem oper_inRound {P : Program} {o : Oper} {a : Act} {w : World} {K : Act → World → Prop} {Q : Exit → Act → World → Prop} (l n : Nat) (hd : ∀ c, o.op ≠ .defer c) (h : o.wp P a w K Q) : o.wpIn (Fence.wide.inRound l) n P a w K Q := by
  unfold Oper.wp at h
  unfold Oper.wpIn
  refine ⟨fun _ _ => trivial, ?_⟩
  rw [show (Fence.wide.inRound l).round = some l from rfl, Oper.semAt_some l _ o hd]
  generalize (execOp a.eval o).run P w = r at h ⊢
  cases r with
  | ok x w' =>
    cases x <;> simp only [Oper.upon] at h <;> simp only [Oper.uponIn]
    case value v => exact h
    case skip => exact h
    case defer d => exact h
    case enter f args =>
      refine ⟨fun hs => (by have h0 : (none : Option Nat).isSome = true := hs; cases h0), CallsIn.inRound l (callsIn_wide.2 (Calls.mono h ?_))⟩
      intro e w'' he
      cases e <;> exact he
    case row r args =>
      refine ⟨fun hs => (by have h0 : (none : Option Nat).isSome = true := hs; cases h0), fun c cs _ => ?_⟩
      obtain ⟨v, w2, r, s⟩ := h c cs
      exact ⟨v, w2, r, stepsIn_wide.2 s⟩
  | halt x w' =>
    cases x <;> simp only [Oper.upon] at h <;> simp only [Oper.uponIn]
    case panic v => exact h
def Only (R : Act → World → Prop) : Exit → Act → World → Prop
  | .normal, a, w => R a w
  | _, _, _ => False
theorem wpAny_inRound {P : Program} {md : Region.Mode} {ops : Array Oper} {R : Act → World → Prop} (l n : Nat) (hd : ∀ (i : Nat) (o : Oper), ops[i]? = some o → ∀ c, o.op ≠ .defer c) :
    ∀ (fuel : Nat) (listed : Array Bool) (a : Act) (w : World), wpAny P md ops (Only R) fuel listed a w → wpAnyIn (Fence.wide.inRound l) n P md ops (Only R) fuel listed a w
  | 0, _, _, _, h => h
  | fuel + 1, listed, a, w, h => ⟨h.1, fun i hi => by
      have hh := h.2 i hi
      unfold wpOp at hh
      unfold wpOpIn
      cases ho : ops[i]? with
      | none => simp only [ho] at hh ⊢; exact wpAny_inRound l n hd fuel _ _ _ hh
      | some o =>
        simp only [ho] at hh ⊢
        by_cases hw : Region.wanted o (yielded ops a.tmps) = true
        · rw [if_pos hw] at hh ⊢
          rcases hh with hh | ⟨_, a', w', hf⟩
          · exact Oper.wpIn_mono (fun a w => wpAny_inRound l n hd fuel _ a w) (oper_inRound l n (hd i o ho) hh)
          · exact hf.elim
        · rw [if_neg hw] at hh ⊢
          exact ⟨fun _ _ => trivial, wpAny_inRound l n hd fuel _ _ _ hh⟩⟩
theorem region_inRound {P : Program} {ops : Array Oper} {R : Act → World → Prop} {Q : Exit → Act → World → Prop} {S : World → Prop} {id : Nat} {a : Act} {w : World} (l n : Nat) (hm : P.follows .mixedOrders = true) (hd : ∀ (i : Nat) (o : Oper), ops[i]? = some o → ∀ c, o.op ≠ .defer c)
    (hQ : ∀ a w, R a w → Q .normal a w) (hS : S w.drew) (h : S w.drew → wpAnyH P .any ops (Only R) S ops.size (Array.replicate ops.size false) a w.drew) : (Code.region id ops true).wpIn (Fence.wide.inRound l) n P Q a w :=
  Code.wpIn_mono (Q := Only R) (fun e a w hh => by cases e <;> first | exact hQ _ _ hh | exact hh.elim) (wpIn_region_any hm (wpAny_inRound l n hd _ _ _ _ (wpAny_of_held _ _ _ _ (h hS))))
theorem no_defer {ops : Array Oper} (h : (ops.all fun o => match o.op with | .defer _ => false | _ => true) = true) : ∀ (i : Nat) (o : Oper), ops[i]? = some o → ∀ c, o.op ≠ .defer c := fun i o hi c e => by
  have := Array.all_eq_true.1 h i (Array.getElem?_eq_some_iff.1 hi).1
  rw [(Array.getElem?_eq_some_iff.1 hi).2, e] at this
  cases this
end Go.Proofs.YtpnllbojifnopaaGreatDoor
namespace Go.Proofs.YtpnllbojifnopaaGreatDoor
open Go Go.RowKit
set_option maxRecDepth 20000
def Tab5 (w : World) : Prop := ∀ j, j < 32 → w.cell? ⟨2, j, none⟩ = some (.int .u8 (Lib.deBruijn32tab.getD j 0 : Nat))
theorem Tab5.below {w w' : World} (h : Tab5 w) (hb : Below w.heap.size w w') : Tab5 w' := fun j hj => by
  have c := h j hj
  rw [hb.cell (World.block_lt_of_cell? _ _ c)]
  exact c
theorem Tab5.belowB {B : Nat} {w w' : World} (h : Tab5 w) (hb : Below B w w') (hB : 2 < B) : Tab5 w' := fun j hj => by
  have c := h j hj
  rw [hb.cell (p := ⟨2, j, none⟩) hB]
  exact c
def lw (x : Nat) : Nat := Lib.ctz 32 x
theorem lw_split (x : Nat) (h0 : x ≠ 0) (h : x < 4294967296) : ∃ m, x = 2 ^ (lw x + 1) * m + 2 ^ lw x ∧ lw x < 32 := by
  obtain ⟨m, hm, hk⟩ := Lib.ctzFrom_spec 32 x (by omega) h
  have e : lw x = Lib.ctzFrom 32 x := by unfold lw Lib.ctz; rw [if_neg h0]
  refine ⟨m, ?_, by omega⟩
  rw [e]
  generalize Lib.ctzFrom 32 x = k at hm
  rw [hm, Nat.pow_succ, Nat.mul_add, Nat.mul_assoc, Nat.mul_one]
theorem tb_x (k m j : Nat) : (2 ^ (k + 1) * m + 2 ^ k).testBit j = if j < k + 1 then decide (k = j) else m.testBit (j - (k + 1)) := by
  rw [Nat.testBit_two_pow_mul_add m (by rw [Nat.pow_succ]; have := Nat.two_pow_pos k; omega), Nat.testBit_two_pow]
theorem tb_x1 (k m j : Nat) : (2 ^ (k + 1) * m + (2 ^ k - 1)).testBit j = if j < k + 1 then decide (j < k) else m.testBit (j - (k + 1)) := by
  rw [Nat.testBit_two_pow_mul_add m (by rw [Nat.pow_succ]; have := Nat.two_pow_pos k; omega), Nat.testBit_two_pow_sub_one]
theorem drop_low (x : Nat) (h0 : x ≠ 0) (h : x < 4294967296) (j : Nat) : (x &&& (x - 1)).testBit j = (decide (j ≠ lw x) && x.testBit j) := by
  obtain ⟨m, hm, hk⟩ := lw_split x h0 h
  generalize lw x = k at hm hk ⊢
  have e : x - 1 = 2 ^ (k + 1) * m + (2 ^ k - 1) := by have := Nat.two_pow_pos k; omega
  rw [Nat.testBit_and, e, hm, tb_x, tb_x1]
  by_cases c : j < k + 1
  · rw [if_pos c, if_pos c]
    by_cases d : k = j
    · subst d; simp
    · simp [d]
  · rw [if_neg c, if_neg c, Bool.and_self]
    rw [decide_eq_true (show j ≠ k by omega), Bool.true_and]
theorem below_low (x : Nat) (h0 : x ≠ 0) (h : x < 4294967296) (j : Nat) (hj : j < lw x) : x.testBit j = false := by
  obtain ⟨m, hm, hk⟩ := lw_split x h0 h
  generalize lw x = k at hm hk hj ⊢
  rw [hm, tb_x, if_pos (by omega), decide_eq_false (by omega)]
theorem at_low (x : Nat) (h0 : x ≠ 0) (h : x < 4294967296) : x.testBit (lw x) = true := by
  obtain ⟨m, hm, hk⟩ := lw_split x h0 h
  generalize lw x = k at hm hk ⊢
  rw [hm, tb_x, if_pos (by omega), decide_eq_true rfl]
def btz (x : Nat) : List Nat := (List.range 32).filter fun i => x.testBit i
theorem filter_low (n : Nat) (p q : Nat → Bool) (k : Nat) (hk : k < n) (h1 : ∀ i, i < k → p i = false) (h2 : p k = true) (h3 : ∀ i, q i = (decide (i ≠ k) && p i)) : (List.range n).filter p = k :: (List.range n).filter q := by
  obtain ⟨d, rfl⟩ : ∃ d, n = k + (d + 1) := ⟨n - k - 1, by omega⟩
  rw [List.range_eq_range', ← List.range'_append_1 (s := 0) (m := k) (n := d + 1), Nat.zero_add, List.range'_succ, List.filter_append, List.filter_append, List.filter_cons, List.filter_cons, if_pos h2, h3 k]
  have e1 : (List.range' 0 k).filter p = [] := List.filter_eq_nil_iff.2 fun i hi => by
    have := (List.mem_range'_1.1 hi).2
    rw [h1 i (by omega)]; simp
  have e2 : (List.range' 0 k).filter q = [] := List.filter_eq_nil_iff.2 fun i hi => by
    have := (List.mem_range'_1.1 hi).2
    rw [h3, h1 i (by omega), Bool.and_false]; simp
  have e3 : (List.range' (k + 1) d).filter q = (List.range' (k + 1) d).filter p := List.filter_congr fun i hi => by
    have := (List.mem_range'_1.1 hi).1
    rw [h3, decide_eq_true (by omega), Bool.true_and]
  rw [e1, e2, e3]
  simp
theorem btz_cons (x : Nat) (h0 : x ≠ 0) (h : x < 4294967296) : btz x = lw x :: btz (x &&& (x - 1)) :=
  filter_low 32 _ _ (lw x) (lw_split x h0 h).choose_spec.2 (fun i hi => below_low x h0 h i hi) (at_low x h0 h) (fun i => drop_low x h0 h i)
theorem btz_zero : btz 0 = [] := by decide
theorem btz_len (x : Nat) : (btz x).length ≤ 32 := by unfold btz; exact Nat.le_trans (List.length_filter_le _ _) (by simp)
theorem low_lt (x : Nat) (h0 : x ≠ 0) : x &&& (x - 1) < x := Nat.lt_of_le_of_lt Nat.and_le_right (by omega)
theorem tz_key (x a : Nat) (hx : x < 4294967296) (hx0 : x ≠ 0) (hlow : x &&& (4294967296 - x) = a) :
    bits BinOp.and IntKind.u32 (x : Int) (-(x : Int) % 4294967296) * 125613361 % 4294967296 / 134217728 = ((a * 125613361 % 4294967296 / 134217728 : Nat) : Int) := by
  have e1 : -(x : Int) % 4294967296 = ((4294967296 - x : Nat) : Int) := by omega
  rw [e1, u32_and_nat x _ hx (by omega), hlow]
  omega
set_option maxHeartbeats 1000000 in
theorem tz_core (x k idx : Nat) (w : World) (hx0 : ((x : Int) == 0) = false)
    (key : bits BinOp.and IntKind.u32 (x : Int) (-(x : Int) % 4294967296) * 125613361 % 4294967296 / 134217728 = (idx : Int))
    (hi : idx < 32) (hk : k < 32) (hcell : w.cell? ⟨2, idx, none⟩ = some (.int .u8 (k : Int))) :
    Calls Tryz.prog 155 #[.int .u32 (x : Int)] w fun e w' => e = .returned (.int .i64 (k : Int)) ∧ w = w' := by
  have wrap_u32' : ∀ n : Int, IntKind.u32.wrap n = n % 4294967296 := fun n => by simp [IntKind.wrap, IntKind.signed, IntKind.bits]
  go_enter Tryz.func155, Tryz.ntmps155
  go_wp2_with (simp only [key])
  go_ret
  exact ⟨rfl, rfl⟩
theorem tz_any (x : Nat) (w : World) (h0 : x ≠ 0) (hx : x < 4294967296) (hT : Tab5 w) :
    Calls Tryz.prog 155 #[.int .u32 (x : Int)] w fun e w' => e = .returned (.int .i64 (lw x : Int)) ∧ w = w' := by
  obtain ⟨hlow, hk⟩ := Lib.lowest_bit 32 x h0 hx
  obtain ⟨hi, htab⟩ := Lib.deBruijn32_at _ hk
  have hcell := hT _ hi
  rw [htab] at hcell
  exact tz_core x _ _ w (by simp; omega) (tz_key x _ hx h0 hlow) hi hk hcell
end Go.Proofs.YtpnllbojifnopaaGreatDoor
namespace Go.Proofs.YtpnllbojifnopaaGreatDoor
open Go Go.RowKit Go.Shelf
attribute [local go_sem] Oper.semAt_some
set_option maxRecDepth 20000
set_option maxHeartbeats 4000000 in
theorem places1_in (n : Nat) (hn : 1 ≤ n) (l Bn B : Nat) (s : Nat) (hs : s < 4294967296) (J Jx : List Nat → World → Prop)
    (hY : ∀ pre x W, J pre W → pre.length < (btz s).length → YieldAt Fence.wide (n - 1) Tryz.prog l #[.int .u8 ((x : Nat) : Int)] W fun e W' =>
      (e = .returned (.bool true) ∧ J (pre ++ [x]) W' ∧ Below B W W') ∨ (e = .returned (.bool false) ∧ Jx (pre ++ [x]) W'))
    (W : World) (hBn : W.cell? ⟨Bn, 0, none⟩ = some (.int .u32 (s : Int))) (hT : Tab5 W) (hB : 2 < B) (h0 : J [] W) :
    CallsIn Fence.wide n Tryz.prog 154 #[.func (.yield l) #[] #[], .pointer (some ⟨Bn, 0, none⟩)] W fun e W' => (∃ v, e = .returned v) ∧
      ((∃ ys, ys = btz s ∧ J ys W') ∨ (∃ pre, pre <+: btz s ∧ Jx pre W')) := by
  refine callsIn_of_wp Tryz.func154 rfl trivial ?_ rfl
  simp only [Tryz.ntmps154, List.size_toArray, List.length_cons, List.length_nil, Nat.reduceAdd, Nat.reduceSub, Array.replicate_succ, Array.replicate_zero, List.push_toArray, List.append_toArray, List.nil_append, List.cons_append]
  gi_wp2
  gi_loopw [3] (fun p wr => ∃ (pre : List Nat) (x : Nat), p = .int .u32 (x : Int) ∧ x ≤ s ∧ btz s = pre ++ btz x ∧ Tab5 wr ∧ J pre wr)
    (fun p _ => (intOf p).toNat)
  case atStart =>
    exact ⟨[], s, rfl, Nat.le_refl _, rfl, hT, h0⟩
  case round =>
    obtain ⟨pre, x, rfl, hxs, hx, hTr, hJs⟩ := hrel
    by_cases hx0 : x = 0
    · subst hx0
      gi_wp2
      go_end0
      exact ⟨⟨_, rfl⟩, .inl ⟨pre, by rw [hx, btz_zero, List.append_nil], hJs⟩⟩
    · have hx1 : ((x : Int) != 0) = true := by simp; omega
      have hb := btz_cons x hx0 (by omega)
      have hk := (lw_split x hx0 (by omega)).choose_spec.2
      have hw8 : IntKind.u8.wrap ((lw x : Nat) : Int) = ((lw x : Nat) : Int) := by rw [IntKind.wrap_u8]; omega
      have TZ := Lib.hid (tz_any x wr hx0 (by omega) hTr)
      obtain ⟨fn, tmps, assign, body, hy, hR⟩ := hY pre (lw x) wr hJs (by rw [hx, hb]; simp)
      have hand : bits BinOp.and IntKind.u32 (x : Int) ((x - 1 : Nat) : Int) = ((x &&& (x - 1) : Nat) : Int) := u32_and_nat x _ (by omega) (by omega)
      have hsub : (x : Int) - 1 = ((x - 1 : Nat) : Int) := by omega
      gi_wp2_with (refine ⟨trivial, ?_⟩; gi_at_call 155; refine (callsIn_wide.2 TZ.out).mono ?_; rintro e w' ⟨rfl, rfl⟩)
      refine hR.mono ?_
      have hlt := low_lt x hx0
      rintro e W3 (⟨rfl, hJ3, hk3⟩ | ⟨rfl, hJx3⟩)
      · have hT3 := hTr.belowB hk3 hB
        clear TZ hy hR hTr hJs
        gi_wp2
        go_roundw
        case rel => exact ⟨pre ++ [lw x], x &&& (x - 1), by simp, by omega, by rw [hx, hb]; simp, hT3, hJ3⟩
        case measure => simp [intOf]; omega
      · clear TZ hy hR hTr hJs
        gi_wp2
        refine bodyPost_ret (results_none rfl _ _ _) rfl ?_
        exact ⟨⟨_, rfl⟩, .inr ⟨pre ++ [lw x], ⟨btz (x &&& (x - 1)), by rw [hx, hb]; simp⟩, hJx3⟩⟩
theorem places_stops (n : Nat) (hn : 1 ≤ n) (Bn B : Nat) (s : Nat) (hs : s < 4294967296) (w : World) (hBn : Bn < w.heap.size) (hc : w.cell? ⟨Bn, 0, none⟩ = some (.int .u32 (s : Int))) (hT : Tab5 w) (hB : 2 < B) :
    SeqStopsK Fence.wide n Tryz.prog 154 #[.pointer (some ⟨Bn, 0, none⟩)] (fun x : Nat => #[Value.int .u8 ((x : Nat) : Int)]) (Below B) (fun ys => ys = btz s) (fun pre => pre <+: btz s) (btz s).length w := fun l J Jx W hW _ _ hY h0 =>
  places1_in n hn l Bn B s hs J Jx hY W ((hW.cell (p := ⟨Bn, 0, none⟩) hBn).trans hc) (hT.below hW) hB h0
theorem places_in (n : Nat) (s : Int) (w : World) :
    CallsIn Fence.wide n Tryz.prog 136 #[.int .u32 s] w fun e w' => e = .returned (.func (.func 154) #[] #[.pointer (some ⟨w.heap.size, 0, none⟩)]) ∧ w' = w.alloc (.cells #[.int .u32 s] 33) := by
  refine callsIn_of_wp Tryz.func136 rfl trivial ?_ rfl
  simp only [Tryz.ntmps136, List.size_toArray, List.length_cons, List.length_nil, Nat.reduceAdd, Nat.reduceSub, Array.replicate_succ, Array.replicate_zero, List.push_toArray, List.append_toArray, List.nil_append, List.cons_append]
  gi_wp2
  go_ret
  exact ⟨rfl, rfl⟩
end Go.Proofs.YtpnllbojifnopaaGreatDoor
namespace Go.Proofs.YtpnllbojifnopaaGreatDoor
open Go Go.RowKit Pk Rl
set_option maxRecDepth 20000
set_option maxHeartbeats 1000000 in
theorem tclone_any (a : Option Addr) (n c : Nat) (L : List TT) (w : World) (hn : L.length = n) (hm : n ≤ 1000) (hv : Tsts w a L) :
    Calls Tryz.prog 139 #[.slice a n c] w fun e w' => ∃ A c', e = .returned (.slice A n c') ∧ OwnT w' w.heap.size (.slice A n c') L ∧ Below w.heap.size w w' := by
  rcases a with _ | ad
  · have hl : L = [] := by
      rcases L with _ | ⟨x, L⟩
      · rfl
      · obtain ⟨b, off, h, _⟩ := hv 0 (by simp)
        cases h
    subst hl
    subst hn
    have en : ∀ w, (binOp .eql 43 (.slice none 0 c) (.slice none 0 0)).run Tryz.prog w = .ok (.bool true) w := fun w => Lib.run_eql_slice_nil w 43 171 none 0 c 0 0 Tryz.underlying43
    go_enter Tryz.func139, Tryz.ntmps139
    go_wp2
    go_ret
    exact ⟨none, 0, rfl, OwnT.nil _ _, Below.refl _ _⟩
  · have HN := Lib.hid hn
    have HV := Lib.hid (hv.below (below_alloc w (.cells #[] 171)))
    have B0 := Lib.hid (below_alloc w (.cells #[] 171))
    have O0 := Lib.hid (OwnT.empty w)
    have HK := Lib.hid (show ([] ++ L).length = n by simpa using hn)
    have en : ∀ w, (binOp .eql 43 (.slice (some ad) n c) (.slice none 0 0)).run Tryz.prog w = .ok (.bool false) w := fun w => Lib.run_eql_slice_nil w 43 171 (some ad) n c 0 0 Tryz.underlying43
    clear hn hv
    go_enter Tryz.func139, Tryz.ntmps139
    go_wp2_with (at_builtin; refine wp_appt (.tmp 5) (.tmp 6) _ rfl rfl w.heap.size _ [] rfl O0.out (some ad) n c L rfl HN.out HV.out (by intro h; cases h) n HK.out (by omega) B0.out.size ?_; intro A' c' w1 hO1 hb1)
    go_ret
    exact ⟨A', c', rfl, hO1, B0.out.trans hb1⟩
abbrev VQ := Bool × Int × List TT
def vq (q : Qu) : VQ := (q.x, q.t, q.L)
structure Ed where
  f : Nat
  t : Nat
  y : Bool
  g : Qu
abbrev EV := Nat × Nat × Bool × VQ
def ve (e : Ed) : EV := (e.f, e.t, e.y, vq e.g)
structure Qm (w : World) (B : Nat) (q : Qu) : Prop where
  own : OwnT w B (.slice q.a q.n q.c) q.L
  len : q.L.length = q.n
  few : q.n ≤ 10
  ok : ∀ t ∈ q.L, Okt t
theorem Qm.qok {w : World} {B : Nat} {q : Qu} (h : Qm w B q) : Qok w q := ⟨h.len, h.few, h.own.vals, h.ok⟩
theorem Qm.below {w w' : World} {B : Nat} {q : Qu} (h : Qm w B q) (hb : Below w.heap.size w w') : Qm w' B q := ⟨h.own.below hb, h.len, h.few, h.ok⟩
theorem Qm.mono {w : World} {B B' : Nat} {q : Qu} (h : Qm w B q) (hB : B' ≤ B) : Qm w B' q := ⟨h.own.mono hB, h.len, h.few, h.ok⟩
def OwR (w : World) (q : Qu) (e : Ending) (w' : World) : Prop := ∃ q' : Qu, e = .returned (qv q') ∧ vq q' = vq q ∧ Qm w' w.heap.size q' ∧ Below w.heap.size w w'
set_option maxHeartbeats 2000000 in
theorem own_any (q : Qu) (w : World) (hq : Qok w q) : Calls Tryz.prog 114 #[qv q] w fun e w' => OwR w q e w' := by
  obtain ⟨x, t, a, n, c, L⟩ := q
  have hn := hq.len
  have hf := hq.few
  simp only at hn hf
  obtain ⟨w1, hw1⟩ : ∃ X, (w.alloc (pcells x t a n c)).alloc (pcells false 0 none 0 0) = X := ⟨_, rfl⟩
  have b1 : Below w.heap.size w w1 := hw1 ▸ below_go (below_alloc w _) (below_alloc _ _)
  have P0 : Pdb w1 w.heap.size x t a n c := hw1 ▸ (Pdb.alloc w x t a n c).next (below_alloc _ _)
  have P1 : Pdb w1 (w.heap.size + 1) false 0 none 0 0 := by have := Pdb.alloc (w.alloc (pcells x t a n c)) false 0 none 0 0; rw [World.size_alloc, hw1] at this; exact this
  have CL := Lib.hid (tclone_any a n c L w1 hn (by omega) (hq.row.below b1))
  have HQ := Lib.hid hq
  have B1 := Lib.hid b1
  have Q0 := Lib.hid P0
  have Q1 := Lib.hid P1
  obtain ⟨c0, c1, c2⟩ := P0.pdt
  have zs := P1.lt
  clear hq b1 P0 P1 hn
  go_enter Tryz.func114, Tryz.ntmps114
  go_upto_region 1 with fail
  clear hw1
  go_wp2_with fail
  refine CL.out.mono ?_
  rintro e w2 ⟨A, c', rfl, ho, hb⟩
  have zb : w.heap.size + 1 < w2.heap.size := Nat.lt_of_lt_of_le zs hb.size
  have R0 := Lib.hid ((Q0.out.next hb).set A n c')
  have R1 := Lib.hid ((Q1.out.next hb).other w.heap.size 2 (.slice A n c') (by omega))
  have f0 := (Q0.out.next hb).free 2
  have d2 := (Q0.out.next hb).pdt.2.2
  have O2 := Lib.hid (ho.setCell w.heap.size 2 (by omega) (.slice A n c'))
  have B2 := Lib.hid ((B1.out.trans (hb.mono B1.out.size)).setCell (p := ⟨w.heap.size, 2, none⟩) (Nat.le_refl _) (.slice A n c'))
  have Z2 := Lib.hid B1.out.size
  clear hb ho CL c0 c1 c2
  go_upto_region 2 with fail
  generalize w2.setCell ⟨w.heap.size, 2, none⟩ (.slice A n c') = w3 at R0 R1 O2 B2 ⊢
  obtain ⟨c0, c1, c2⟩ := R0.out.pdt
  obtain ⟨e0, e1, e2⟩ := R1.out.pdt
  have f0 := R1.out.free 0
  have f1 := R1.out.free 1
  have f2 := R1.out.free 2
  have z3 := R1.out.lt
  have O3 := Lib.hid (((O2.out.setCell (w.heap.size + 1) 0 (by omega) (.bool x)).setCell (w.heap.size + 1) 1 (by omega) (.int .u8 t)).setCell (w.heap.size + 1) 2 (by omega) (.slice A n c'))
  have B3 := Lib.hid (((B2.out.setCell (p := ⟨w.heap.size + 1, 0, none⟩) (Nat.le_succ _) (.bool x)).setCell (p := ⟨w.heap.size + 1, 1, none⟩) (Nat.le_succ _) (.int .u8 t)).setCell (p := ⟨w.heap.size + 1, 2, none⟩) (Nat.le_succ _) (.slice A n c'))
  have hL := HQ.out.len
  clear O2 B2 R0 d2
  go_wp2_with fail
  refine bodyPost_ret (v := pv x t A n c') (by simp [results, Tryz.results114, go_sem, *]) rfl ⟨⟨x, t, A, n, c', L⟩, rfl, rfl, ⟨O3.out.mono Z2.out, hL, hf, HQ.out.ok⟩, B3.out⟩
theorem row_same {w w' : World} {B : Nat} {ty : TypeId} {sz : Nat} {v : Value} {n : Nat} {cs : List Value} (h : w.ownsRow B ty sz v n cs) (e : ∀ (g : Nat) (cur : Array Value), v.ownBlock = some g → w.heap[g]? = some (.cells cur ty (0, 0)) → w'.heap[g]? = some (.cells cur ty (0, 0))) : w'.ownsRow B ty sz v n cs := by
  refine ⟨h.1, ?_⟩
  rcases h.2 with h0 | ⟨g, cap, cur, hv, hg, hh, r⟩
  · exact .inl h0
  · exact .inr ⟨g, cap, cur, hv, hg, e g cur (by rw [hv]; rfl) hh, r⟩
theorem row_tag {w : World} {B : Nat} {ty : TypeId} {sz : Nat} {v : Value} {n : Nat} {cs : List Value} (h : w.ownsRow B ty sz v n cs) (g : Nat) (hg : v.ownBlock = some g) : ∃ cur, w.heap[g]? = some (.cells cur ty (0, 0)) := by
  rcases h.2 with ⟨rfl, _⟩ | ⟨g', cap, cur, rfl, _, hh, _⟩
  · cases hg
  · injection hg with hg
    exact ⟨cur, hg ▸ hh⟩
def pcl (q : Qu) : List Value := [.bool q.x, .int .u8 q.t, .slice q.a q.n q.c]
def ecl (e : Ed) : List Value := [.int .u8 (e.f : Int), .int .u8 (e.t : Int), .bool e.y, .bool e.g.x, .int .u8 e.g.t, .slice e.g.a e.g.n e.g.c]
theorem ecls_len (D : List Ed) : (D.flatMap ecl).length = D.length * 6 := by
  induction D with
  | nil => rfl
  | cons v D ih => rw [List.flatMap_cons, List.length_append, ih, List.length_cons]; show 6 + _ = _; omega
abbrev qzero : Value := .agg #[.bool false, .int .u8 0, .slice none 0 0]
abbrev eOf (e : Ed) : Value := .agg #[.int .u8 (e.f : Int), .int .u8 (e.t : Int), .bool e.y, .bool e.g.x, .int .u8 e.g.t, .slice e.g.a e.g.n e.g.c]
theorem infoPq : ∃ i, Tryz.prog.info? 45 = some i ∧ i.zero = some qzero ∧ i.size = 3 ∧ i.bytes = 32 :=
  ⟨(Tryz.prog.info? 45).get (by kernel_rfl), by kernel_rfl, by kernel_rfl, by kernel_rfl, by kernel_rfl⟩
theorem infoE : ∃ i, Tryz.prog.info? 47 = some i ∧ i.zero = some (eOf ⟨0, 0, false, qz⟩) ∧ i.size = 6 ∧ i.bytes = 40 :=
  ⟨(Tryz.prog.info? 47).get (by kernel_rfl), by kernel_rfl, by kernel_rfl, by kernel_rfl, by kernel_rfl⟩
def OwnQ' (w : World) (B : Nat) (v : Value) (D : List Qu) : Prop := w.ownsRow B 45 3 v D.length (D.flatMap pcl)
def OwnE (w : World) (B : Nat) (v : Value) (D : List Ed) : Prop := w.ownsRow B 47 6 v D.length (D.flatMap ecl)
theorem run_appq (w : World) (B : Nat) (ty : TypeId) (v : Value) (D : List Qu) (ho : OwnQ' w B v D) (g : Nat) (q : Qu) (cc : Nat) (hc : Pdt w g q.x q.t q.a q.n q.c) (hlen : D.length ≤ 1000000) (hB : B ≤ w.heap.size) :
    ∃ A' c' w', (Builtin.append_ #[32, 32] ty #[v, .slice (some ⟨g, 0, none⟩) 1 cc]).run Tryz.prog w = .ok (.slice A' (D.length + 1) c') w' ∧ OwnQ' w' B (.slice A' (D.length + 1) c') (D ++ [q]) ∧ w.grownBy w' v.ownBlock ∧ Below B w w' := by
  obtain ⟨i, hi, hz, hsz, hy⟩ := infoPq
  obtain ⟨v', w', hrun, r2, r3, _, r5⟩ := run_append_own_at (P := Tryz.prog) w B 32 ty 45 i qzero 3 32 Tryz.underlying32 hi hz hsz hy rfl (by omega) v D.length (D.flatMap pcl) ho ⟨g, 0, none⟩ 1 cc (pcl q) rfl
    (fun j u hj => by
      obtain ⟨c0, c1, c2⟩ := hc
      rw [add_plain]
      rcases j with _ | _ | _ | j
      · rw [Nat.add_zero, c0]; exact hj
      · rw [c1]; exact hj
      · rw [c2]; exact hj
      · simp [pcl] at hj)
    (fun u hu => by simp [pcl] at hu; rcases hu with rfl | rfl | rfl <;> rfl) (by unfold maxLen; omega) (by omega) hB
  have hl : (D ++ [q]).length = D.length + 1 := by simp
  have hO : OwnQ' w' B v' (D ++ [q]) := by
    unfold OwnQ'
    rw [hl, List.flatMap_append]
    simpa using r2
  rcases r2.2 with ⟨_, h0⟩ | ⟨g', cap, cur, hv, _⟩
  · omega
  · subst hv
    exact ⟨_, _, w', hrun, hO, r3, (Below.refl _ _).grown r3 hB (fun k hk => (World.ownsRow.lt ho k hk).1)⟩
theorem run_appe (w : World) (B : Nat) (ty : TypeId) (v : Value) (D : List Ed) (ho : OwnE w B v D) (g : Nat) (d : Ed) (cc : Nat) (hc : ∀ j u, (ecl d)[j]? = some u → w.cell? ⟨g, j, none⟩ = some u) (hlen : D.length ≤ 2000000000) (hB : B ≤ w.heap.size) :
    ∃ A' c' w', (Builtin.append_ #[34, 34] ty #[v, .slice (some ⟨g, 0, none⟩) 1 cc]).run Tryz.prog w = .ok (.slice A' (D.length + 1) c') w' ∧ OwnE w' B (.slice A' (D.length + 1) c') (D ++ [d]) ∧ w.grownBy w' v.ownBlock ∧ Below B w w' := by
  obtain ⟨i, hi, hz, hsz, hy⟩ := infoE
  obtain ⟨v', w', hrun, r2, r3, _, r5⟩ := run_append_own_at (P := Tryz.prog) w B 34 ty 47 i (eOf ⟨0, 0, false, qz⟩) 6 40 Tryz.underlying34 hi hz hsz hy rfl (by omega) v D.length (D.flatMap ecl) ho ⟨g, 0, none⟩ 1 cc (ecl d) rfl
    (fun j u hj => by
      rw [add_plain, Nat.zero_add]
      exact hc j u hj)
    (fun u hu => by simp [ecl] at hu; rcases hu with rfl | rfl | rfl | rfl | rfl | rfl <;> rfl) (by unfold maxLen; omega) (by omega) hB
  have hl : (D ++ [d]).length = D.length + 1 := by simp
  have hO : OwnE w' B v' (D ++ [d]) := by
    unfold OwnE
    rw [hl, List.flatMap_append]
    simpa using r2
  rcases r2.2 with ⟨_, h0⟩ | ⟨g', cap, cur, hv, _⟩
  · omega
  · subst hv
    exact ⟨_, _, w', hrun, hO, r3, (Below.refl _ _).grown r3 hB (fun k hk => (World.ownsRow.lt ho k hk).1)⟩
def Fx (o : Obj) : Prop := ∀ cur ty fr, o = .cells cur ty fr → ty ≠ 45 ∧ ty ≠ 47
structure Ka (r : Nat) (w w' : World) : Prop where
  o : Below r w w'
  b : ∀ x o, w.heap[x]? = some o → x ≠ r → Fx o → w'.heap[x]? = some o
theorem Ka.of_below {r : Nat} {w w' : World} (h : Below w.heap.size w w') (hr : r ≤ w.heap.size) : Ka r w w' := ⟨h.mono hr, fun x o hx _ _ => by rw [h.block x (Array.getElem?_eq_some_iff.1 hx).1]; exact hx⟩
theorem Ka.refl (r : Nat) (w : World) : Ka r w w := ⟨Below.refl _ _, fun _ _ h _ _ => h⟩
theorem Ka.trans {r : Nat} {a b c : World} (h : Ka r a b) (k : Ka r b c) : Ka r a c := ⟨h.o.trans k.o, fun x o hx h1 h2 => k.b x o (h.b x o hx h1 h2) h1 h2⟩
theorem Ka.z {r : Nat} {w w' : World} (h : Ka r w w') : w.heap.size ≤ w'.heap.size := h.o.size
theorem Ka.next {r : Nat} {a b c : World} (h : Ka r a b) (k : Below b.heap.size b c) (hr : r ≤ b.heap.size) : Ka r a c := h.trans (Ka.of_below k hr)
theorem Ka.set {r : Nat} {a w : World} (h : Ka r a w) (j : Nat) (v : Value) : Ka r a (w.setCell ⟨r, j, none⟩ v) :=
  h.trans ⟨(Below.refl r w).setCell (p := ⟨r, j, none⟩) (Nat.le_refl _) v, fun x o hx h1 _ => by rw [heap_setCell_other w ⟨r, j, none⟩ x v h1]; exact hx⟩
theorem Ka.loc {r : Nat} {a w : World} (h : Ka r a w) (g j : Nat) (v : Value) (hg : a.heap.size ≤ g) (hr : r < g) : Ka r a (w.setCell ⟨g, j, none⟩ v) :=
  ⟨h.o.setCell (p := ⟨g, j, none⟩) (Nat.le_of_lt hr) v, fun x o hx h1 h2 => by
    rw [heap_setCell_other w ⟨g, j, none⟩ x v (by have := (Array.getElem?_eq_some_iff.1 hx).1; show x ≠ g; omega)]
    exact h.b x o hx h1 h2⟩
theorem Ka.app {r : Nat} {a w w' : World} {v : Value} (h : Ka r a w) (hb : Below r w w') (hg : w.grownBy w' v.ownBlock) (ht : ∀ g, v.ownBlock = some g → ∃ cur ty fr, w.heap[g]? = some (.cells cur ty fr) ∧ (ty = 45 ∨ ty = 47)) : Ka r a w' :=
  h.trans ⟨hb, fun x o hx _ h2 => by
    rw [hg.block x (Array.getElem?_eq_some_iff.1 hx).1 (fun e => ?_)]
    · exact hx
    · obtain ⟨cur, ty, fr, hh, ht⟩ := ht x e.symm
      rw [hx] at hh
      injection hh with hh
      obtain ⟨n1, n2⟩ := h2 cur ty fr hh
      rcases ht with rfl | rfl
      · exact n1 rfl
      · exact n2 rfl⟩
structure Mi (W : World) (r : Nat) (Ap : Option Addr) (kp cp : Nat) (Ae : Option Addr) (ke ce : Nat) (Ps : List Qu) (Es : List Ed) : Prop where
  box : W.heap[r]? = some (.cells #[.slice Ap kp cp, .slice Ae ke ce] 119 (0, 0))
  rp : OwnQ' W (r + 1) (.slice Ap kp cp) Ps
  re : OwnE W (r + 1) (.slice Ae ke ce) Es
  lp : Ps.length = kp
  le : Es.length = ke
  qp : ∀ q ∈ Ps, Qm W (r + 1) q
  qe : ∀ d ∈ Es, Qm W (r + 1) d.g
def Mk (W : World) (r : Nat) (P : List VQ) (E : List EV) : Prop := ∃ Ap kp cp Ae ke ce Ps Es, Mi W r Ap kp cp Ae ke ce Ps Es ∧ Ps.map vq = P ∧ Es.map ve = E
def Tg (o : Obj) : Prop := ∃ cur ty fr, o = .cells cur ty fr ∧ (ty = 119 ∨ ty = 45 ∨ ty = 47 ∨ ty = 171)
theorem qm_same {w w' : World} {B : Nat} {q : Qu} (h : Qm w B q) (e : ∀ (x : Nat) (cur : Array Value), w.heap[x]? = some (.cells cur 171 (0, 0)) → w'.heap[x]? = some (.cells cur 171 (0, 0))) : Qm w' B q :=
  ⟨row_same h.own (fun g cur _ hh => e g cur hh), h.len, h.few, h.ok⟩
theorem Mi.same {W W' : World} {r : Nat} {Ap : Option Addr} {kp cp : Nat} {Ae : Option Addr} {ke ce : Nat} {Ps : List Qu} {Es : List Ed} (h : Mi W r Ap kp cp Ae ke ce Ps Es) (e : ∀ (x : Nat) (o : Obj), W.heap[x]? = some o → Tg o → W'.heap[x]? = some o) : Mi W' r Ap kp cp Ae ke ce Ps Es :=
  ⟨e _ _ h.box ⟨_, _, _, rfl, .inl rfl⟩, row_same h.rp (fun g _ _ hh => e g _ hh ⟨_, _, _, rfl, .inr (.inl rfl)⟩), row_same h.re (fun g _ _ hh => e g _ hh ⟨_, _, _, rfl, .inr (.inr (.inl rfl))⟩), h.lp, h.le,
    fun q hq => qm_same (h.qp q hq) (fun x _ hh => e x _ hh ⟨_, _, _, rfl, .inr (.inr (.inr rfl))⟩), fun d hd => qm_same (h.qe d hd) (fun x _ hh => e x _ hh ⟨_, _, _, rfl, .inr (.inr (.inr rfl))⟩)⟩
theorem Mk.same {W W' : World} {r : Nat} {P : List VQ} {E : List EV} (h : Mk W r P E) (e : ∀ (x : Nat) (o : Obj), W.heap[x]? = some o → Tg o → W'.heap[x]? = some o) : Mk W' r P E := by
  obtain ⟨Ap, kp, cp, Ae, ke, ce, Ps, Es, h1, h2, h3⟩ := h
  exact ⟨Ap, kp, cp, Ae, ke, ce, Ps, Es, h1.same e, h2, h3⟩
theorem Mk.next {W W' : World} {r : Nat} {P : List VQ} {E : List EV} (h : Mk W r P E) (hb : Below W.heap.size W W') : Mk W' r P E := Mk.same h fun x o hx _ => by rw [hb.block x (Array.getElem?_eq_some_iff.1 hx).1]; exact hx
theorem Mk.other {W : World} {r : Nat} {P : List VQ} {E : List EV} (h : Mk W r P E) (g j : Nat) (v : Value) (o : Obj) (hg : W.heap[g]? = some o) (ht : ¬ Tg o) : Mk (W.setCell ⟨g, j, none⟩ v) r P E := Mk.same h fun x o' hx hT => by
  rw [heap_setCell_other W ⟨g, j, none⟩ x v (fun e => ht (by rw [show x = g from e, hg] at hx; injection hx with hx; rw [hx]; exact hT))]
  exact hx
theorem Mi.lt {W : World} {r : Nat} {Ap : Option Addr} {kp cp : Nat} {Ae : Option Addr} {ke ce : Nat} {Ps : List Qu} {Es : List Ed} (h : Mi W r Ap kp cp Ae ke ce Ps Es) : r < W.heap.size := (Array.getElem?_eq_some_iff.1 h.box).1
theorem Mk.lt {W : World} {r : Nat} {P : List VQ} {E : List EV} (h : Mk W r P E) : r < W.heap.size := by obtain ⟨_, _, _, _, _, _, _, _, h, _⟩ := h; exact h.lt
theorem Mi.cells {W : World} {r : Nat} {Ap : Option Addr} {kp cp : Nat} {Ae : Option Addr} {ke ce : Nat} {Ps : List Qu} {Es : List Ed} (h : Mi W r Ap kp cp Ae ke ce Ps Es) : W.cell? ⟨r, 0, none⟩ = some (.slice Ap kp cp) ∧ W.cell? ⟨r, 1, none⟩ = some (.slice Ae ke ce) ∧ ∀ j, W.frozen? ⟨r, j, none⟩ = false := by
  refine ⟨by rw [cell_of_row W r _ _ _ _ h.box]; rfl, by rw [cell_of_row W r _ _ _ _ h.box]; rfl, fun j => ?_⟩
  have := h.box
  simp [World.frozen?] at this ⊢
  simp [this]
theorem Mi.addp {W W' : World} {r : Nat} {Ap : Option Addr} {kp cp : Nat} {Ae : Option Addr} {ke ce : Nat} {Ps : List Qu} {Es : List Ed} (h : Mi W r Ap kp cp Ae ke ce Ps Es) {A' : Option Addr} {k' c' : Nat} {q : Qu} (hq : Qm W (r + 1) q) (ho : OwnQ' W' (r + 1) (.slice A' k' c') (Ps ++ [q])) (hk : Ps.length + 1 = k') (hg : W.grownBy W' (Value.slice Ap kp cp).ownBlock) :
    Mi (W'.setCell ⟨r, 0, none⟩ (.slice A' k' c')) r A' k' c' Ae ke ce (Ps ++ [q]) Es := by
  have hs : ∀ (x : Nat) (o : Obj), W.heap[x]? = some o → (∀ cur ty fr, o = .cells cur ty fr → ty ≠ 45) → x ≠ r → (W'.setCell ⟨r, 0, none⟩ (.slice A' k' c')).heap[x]? = some o := fun x o hx ht hr => by
    rw [heap_setCell_other W' ⟨r, 0, none⟩ x _ hr, hg.block x (Array.getElem?_eq_some_iff.1 hx).1 (fun e => ?_)]
    · exact hx
    · obtain ⟨cur, hh⟩ := row_tag h.rp x e.symm
      rw [hx] at hh
      injection hh with hh
      exact ht _ _ _ hh rfl
  have hrb : W'.heap[r]? = some (.cells #[.slice Ap kp cp, .slice Ae ke ce] 119 (0, 0)) := by
    rw [hg.block r h.lt (fun e => ?_)]
    · exact h.box
    · have := (World.ownsRow.lt h.rp r e.symm).1
      omega
  have tq : ∀ q, Qm W (r + 1) q → Qm (W'.setCell ⟨r, 0, none⟩ (.slice A' k' c')) (r + 1) q := fun q hq => ⟨row_same hq.own (fun g cur ho hh => hs g _ hh (fun _ _ _ e => by injection e with _ e _; rw [← e]; decide) (by have := (World.ownsRow.lt hq.own g ho).1; omega)), hq.len, hq.few, hq.ok⟩
  refine ⟨by rw [heap_setCell_same W' r 0 _ _ _ hrb]; rfl, row_same ho (fun g cur hgo hh => ?_), row_same h.re (fun g cur hgo hh => hs g _ hh (fun _ _ _ e => by injection e with _ e _; rw [← e]; decide) (by have := (World.ownsRow.lt h.re g hgo).1; omega)), by rw [List.length_append]; exact hk, h.le, fun q' hq' => ?_, fun d hd => tq _ (h.qe d hd)⟩
  · rw [heap_setCell_other W' ⟨r, 0, none⟩ g _ (by have := (World.ownsRow.lt ho g hgo).1; show g ≠ r; omega)]; exact hh
  · rcases List.mem_append.1 hq' with hq' | hq'
    · exact tq _ (h.qp q' hq')
    · rw [List.mem_singleton] at hq'; subst hq'; exact tq _ hq
theorem Mi.adde {W W' : World} {r : Nat} {Ap : Option Addr} {kp cp : Nat} {Ae : Option Addr} {ke ce : Nat} {Ps : List Qu} {Es : List Ed} (h : Mi W r Ap kp cp Ae ke ce Ps Es) {A' : Option Addr} {k' c' : Nat} {d : Ed} (hq : Qm W (r + 1) d.g) (ho : OwnE W' (r + 1) (.slice A' k' c') (Es ++ [d])) (hk : Es.length + 1 = k') (hg : W.grownBy W' (Value.slice Ae ke ce).ownBlock) :
    Mi (W'.setCell ⟨r, 1, none⟩ (.slice A' k' c')) r Ap kp cp A' k' c' Ps (Es ++ [d]) := by
  have hs : ∀ (x : Nat) (o : Obj), W.heap[x]? = some o → (∀ cur ty fr, o = .cells cur ty fr → ty ≠ 47) → x ≠ r → (W'.setCell ⟨r, 1, none⟩ (.slice A' k' c')).heap[x]? = some o := fun x o hx ht hr => by
    rw [heap_setCell_other W' ⟨r, 1, none⟩ x _ hr, hg.block x (Array.getElem?_eq_some_iff.1 hx).1 (fun e => ?_)]
    · exact hx
    · obtain ⟨cur, hh⟩ := row_tag h.re x e.symm
      rw [hx] at hh
      injection hh with hh
      exact ht _ _ _ hh rfl
  have hrb : W'.heap[r]? = some (.cells #[.slice Ap kp cp, .slice Ae ke ce] 119 (0, 0)) := by
    rw [hg.block r h.lt (fun e => ?_)]
    · exact h.box
    · have := (World.ownsRow.lt h.re r e.symm).1
      omega
  have tq : ∀ q, Qm W (r + 1) q → Qm (W'.setCell ⟨r, 1, none⟩ (.slice A' k' c')) (r + 1) q := fun q hq => ⟨row_same hq.own (fun g cur ho hh => hs g _ hh (fun _ _ _ e => by injection e with _ e _; rw [← e]; decide) (by have := (World.ownsRow.lt hq.own g ho).1; omega)), hq.len, hq.few, hq.ok⟩
  refine ⟨by rw [heap_setCell_same W' r 1 _ _ _ hrb]; rfl, row_same h.rp (fun g cur hgo hh => hs g _ hh (fun _ _ _ e => by injection e with _ e _; rw [← e]; decide) (by have := (World.ownsRow.lt h.rp g hgo).1; omega)), row_same ho (fun g cur hgo hh => ?_), h.lp, by rw [List.length_append]; exact hk, fun q hq => tq _ (h.qp q hq), fun d' hd' => ?_⟩
  · rw [heap_setCell_other W' ⟨r, 1, none⟩ g _ (by have := (World.ownsRow.lt ho g hgo).1; show g ≠ r; omega)]; exact hh
  · rcases List.mem_append.1 hd' with hd' | hd'
    · exact tq _ (h.qe d' hd')
    · rw [List.mem_singleton] at hd'; subst hd'; exact tq _ hq
end Go.Proofs.YtpnllbojifnopaaGreatDoor
namespace Go.Proofs.YtpnllbojifnopaaGreatDoor
open Go Go.RowKit Pk Rl
set_option maxRecDepth 20000
def EB (w : World) (g : Nat) (a b : Nat) : Prop := w.heap[g]? = some (.cells #[.int .u32 (a : Int), .int .u32 (b : Int)] 121 (0, 0))
abbrev eobj (a b : Nat) : Obj := .cells #[.int .u32 (a : Int), .int .u32 (b : Int)] 121
abbrev ev2 (a b : Nat) : Value := .agg #[.int .u32 (a : Int), .int .u32 (b : Int)]
theorem EB.cells {w : World} {g a b : Nat} (h : EB w g a b) : w.cell? ⟨g, 0, none⟩ = some (.int .u32 (a : Int)) ∧ w.cell? ⟨g, 1, none⟩ = some (.int .u32 (b : Int)) ∧ ∀ j, w.frozen? ⟨g, j, none⟩ = false := by
  refine ⟨by rw [cell_of_row w g _ _ _ _ h]; rfl, by rw [cell_of_row w g _ _ _ _ h]; rfl, fun j => ?_⟩
  simp [World.frozen?, EB] at h ⊢
  simp [h]
theorem EB.lt {w : World} {g a b : Nat} (h : EB w g a b) : g < w.heap.size := (Array.getElem?_eq_some_iff.1 h).1
theorem EB.alloc (w : World) (a b : Nat) : EB (w.alloc (eobj a b)) w.heap.size a b := heap_alloc_new w _
theorem EB.next {w w' : World} {g a b : Nat} (h : EB w g a b) (hb : Below w.heap.size w w') : EB w' g a b := by unfold EB; rw [hb.block g h.lt]; exact h
theorem EB.ka {r : Nat} {w w' : World} {g a b : Nat} (h : EB w g a b) (k : Ka r w w') (hg : g ≠ r) : EB w' g a b := k.b g _ h hg (fun _ _ _ e => by injection e with _ e _; rw [← e]; decide)
theorem EB.set0 {w : World} {g a b : Nat} (h : EB w g a b) (c : Nat) : EB (w.setCell ⟨g, 0, none⟩ (.int .u32 (c : Int))) g c b := by
  unfold EB
  rw [heap_setCell_same w g 0 _ _ _ h]
  rfl
theorem EB.set1 {w : World} {g a b : Nat} (h : EB w g a b) (c : Nat) : EB (w.setCell ⟨g, 1, none⟩ (.int .u32 (c : Int))) g a c := by
  unfold EB
  rw [heap_setCell_same w g 1 _ _ _ h]
  rfl
theorem EB.other {w : World} {g a b : Nat} (h : EB w g a b) (g' j : Nat) (v : Value) (hne : g ≠ g') : EB (w.setCell ⟨g', j, none⟩ v) g a b := by
  unfold EB
  rw [heap_setCell_other w ⟨g', j, none⟩ g v hne]
  exact h
theorem EB.tg {w : World} {g a b : Nat} (_ : EB w g a b) : ¬ Tg (.cells #[.int .u32 (a : Int), .int .u32 (b : Int)] 121 (0, 0)) := by
  rintro ⟨cur, ty, fr, e, h⟩
  injection e with _ e _
  subst e
  revert h
  decide
theorem Mk.eset {W : World} {r : Nat} {P : List VQ} {E : List EV} (h : Mk W r P E) {g a b : Nat} (hg : EB W g a b) (j : Nat) (v : Value) : Mk (W.setCell ⟨g, j, none⟩ v) r P E := Mk.other h g j v _ hg hg.tg
theorem step_appq {ops : Array Oper} {o : Oper} {a : Act} {K : Act → World → Prop} {Q : Exit → Act → World → Prop} {E : Prop} (w : World) (hgd : o.guard = none) (s x : Operand)
    (hop : o.op = .call { callee := .builtin .append, args := #[s, x], argTypes := #[32, 32] })
    {r : Nat} {Ap : Option Addr} {kp cp : Nat} {Ae : Option Addr} {ke ce : Nat} {Ps : List Qu} {Es : List Ed} (hM : Mi w r Ap kp cp Ae ke ce Ps Es) (hs : a.eval s = .slice Ap kp cp) (g : Nat) (q : Qu) (hx : a.eval x = .slice (some ⟨g, 0, none⟩) 1 1) (hc : Pdt w g q.x q.t q.a q.n q.c) (hq : Qm w (r + 1) q) (hlen : kp ≤ 1000)
    (h : ∀ A' c' w', Mi (w'.setCell ⟨r, 0, none⟩ (.slice A' (kp + 1) c')) r A' (kp + 1) c' Ae ke ce (Ps ++ [q]) Es → Ka r w (w'.setCell ⟨r, 0, none⟩ (.slice A' (kp + 1) c')) → w'.cell? ⟨r, 0, none⟩ = some (.slice Ap kp cp) → w'.frozen? ⟨r, 0, none⟩ = false → r < w'.heap.size → K (a.put o.dst (.slice A' (kp + 1) c')) w') :
    if Region.wanted o (yielded ops a.tmps) = true then Oper.wp Tryz.prog o a w K Q else E := by
  have hw : Region.wanted o (yielded ops a.tmps) = true := by simp [Region.wanted, hgd]
  rw [if_pos hw]
  have hlt := hM.lt
  obtain ⟨A', c', w', h1, h2, h3, h4⟩ := run_appq w (r + 1) o.type _ Ps hM.rp g q 1 hc (by rw [hM.lp]; omega) (by omega)
  have hk : Ps.length + 1 = kp + 1 := by rw [hM.lp]
  have hr := h3.block r hlt (fun e => by have := (World.ownsRow.lt hM.rp r e.symm).1; omega)
  obtain ⟨c0, _, f0⟩ := hM.cells
  rw [hk] at h1 h2
  unfold Oper.wp
  simp [execOp, hop, resolve, invoke, builtin, hs, hx, h1, Result.andThen]
  refine h A' c' w' (hM.addp hq h2 hk h3) (((Ka.refl r w).app (h4.mono (Nat.le_succ r)) h3 (fun g hg => ?_)).set 0 _) ((World.cell?_of_block hr).trans c0) ((World.frozen?_of_block hr).trans (f0 0)) (Nat.lt_of_lt_of_le hlt h3.size)
  obtain ⟨cur, hh⟩ := row_tag hM.rp g hg
  exact ⟨_, _, _, hh, .inl rfl⟩
theorem step_appe {ops : Array Oper} {o : Oper} {a : Act} {K : Act → World → Prop} {Q : Exit → Act → World → Prop} {E : Prop} (w : World) (hgd : o.guard = none) (s x : Operand)
    (hop : o.op = .call { callee := .builtin .append, args := #[s, x], argTypes := #[34, 34] })
    {r : Nat} {Ap : Option Addr} {kp cp : Nat} {Ae : Option Addr} {ke ce : Nat} {Ps : List Qu} {Es : List Ed} (hM : Mi w r Ap kp cp Ae ke ce Ps Es) (hs : a.eval s = .slice Ae ke ce) (g : Nat) (d : Ed) (hx : a.eval x = .slice (some ⟨g, 0, none⟩) 1 1) (hc : ∀ j u, (ecl d)[j]? = some u → w.cell? ⟨g, j, none⟩ = some u) (hq : Qm w (r + 1) d.g) (hlen : ke ≤ 1900000000)
    (h : ∀ A' c' w', Mi (w'.setCell ⟨r, 1, none⟩ (.slice A' (ke + 1) c')) r Ap kp cp A' (ke + 1) c' Ps (Es ++ [d]) → Ka r w w' → Ka r w (w'.setCell ⟨r, 1, none⟩ (.slice A' (ke + 1) c')) → w'.cell? ⟨r, 1, none⟩ = some (.slice Ae ke ce) → w'.frozen? ⟨r, 1, none⟩ = false → r < w'.heap.size → K (a.put o.dst (.slice A' (ke + 1) c')) w') :
    if Region.wanted o (yielded ops a.tmps) = true then Oper.wp Tryz.prog o a w K Q else E := by
  have hw : Region.wanted o (yielded ops a.tmps) = true := by simp [Region.wanted, hgd]
  rw [if_pos hw]
  have hlt := hM.lt
  obtain ⟨A', c', w', h1, h2, h3, h4⟩ := run_appe w (r + 1) o.type _ Es hM.re g d 1 hc (by rw [hM.le]; omega) (by omega)
  have hk : Es.length + 1 = ke + 1 := by rw [hM.le]
  have hr := h3.block r hlt (fun e => by have := (World.ownsRow.lt hM.re r e.symm).1; omega)
  obtain ⟨_, c0, f0⟩ := hM.cells
  rw [hk] at h1 h2
  unfold Oper.wp
  simp [execOp, hop, resolve, invoke, builtin, hs, hx, h1, Result.andThen]
  have hka : Ka r w w' := (Ka.refl r w).app (h4.mono (Nat.le_succ r)) h3 (fun g hg => by
    obtain ⟨cur, hh⟩ := row_tag hM.re g hg
    exact ⟨_, _, _, hh, .inr rfl⟩)
  exact h A' c' w' (hM.adde hq h2 hk h3) hka (hka.set 1 _) ((World.cell?_of_block hr).trans c0) ((World.frozen?_of_block hr).trans (f0 1)) (Nat.lt_of_lt_of_le hlt h3.size)
def PlR (r : Nat) (w : World) (q : Qu) (P : List VQ) (E : List EV) (e : Ending) (w' : World) : Prop := e = .returned (ev2 (2 ^ P.length) (2 ^ P.length)) ∧ Mk w' r (P ++ [vq q]) E ∧ Ka r w w'
set_option maxHeartbeats 4000000 in
theorem place_any (r : Nat) (q : Qu) (P : List VQ) (E : List EV) (w : World) (h : Mk w r P E) (hP : P.length ≤ 31) (hq : Qok w q) :
    Calls Tryz.prog 85 #[.pointer (some ⟨r, 0, none⟩), qv q] w fun e w' => PlR r w q P E e w' := by
  obtain ⟨Ap, kp, cp, Ae, ke, ce, Ps, Es, hM, rfl, rfl⟩ := h
  have hkp : (Ps.map vq).length = kp := by rw [List.length_map]; exact hM.lp
  obtain ⟨Z, hZ⟩ : ∃ Z, Ps.map vq = Z := ⟨_, rfl⟩
  rw [hZ] at hkp hP ⊢
  rw [hkp] at hP
  have hpw : 2 ^ kp ≤ 2 ^ 31 := Nat.pow_le_pow_right (by omega) hP
  have hsh : (2 : Int) ^ kp % 4294967296 = ((2 ^ kp : Nat) : Int) := by
    rw [Int.natCast_pow]
    have h1 : ((2 ^ kp : Nat) : Int) ≤ 2147483648 := by omega
    rw [Int.natCast_pow] at h1
    have h2 : (0 : Int) ≤ 2 ^ kp := Int.pow_nonneg (by omega)
    exact Int.emod_eq_of_lt h2 (by have : ((2 : Nat) : Int) = 2 := rfl; rw [this] at h1; omega)
  obtain ⟨X, hX⟩ : ∃ X : Nat, 2 ^ kp = X := ⟨_, rfl⟩
  rw [hX] at hsh hpw
  have HX := Lib.hid hX
  clear hX
  obtain ⟨x, t, a, n, c, L⟩ := q
  obtain ⟨w1, hw1⟩ : ∃ X, (w.alloc (pcells x t a n c)).alloc (.cells #[.int .u32 0, .int .u32 0] 121) = X := ⟨_, rfl⟩
  have b1 : Below w.heap.size w w1 := hw1 ▸ below_go (below_alloc w _) (below_alloc _ _)
  have P0 : Pdb w1 w.heap.size x t a n c := hw1 ▸ (Pdb.alloc w x t a n c).next (below_alloc _ _)
  have E0 : EB w1 (w.heap.size + 1) 0 0 := by rw [← hw1, ← World.size_alloc w (pcells x t a n c)]; exact EB.alloc (w.alloc (pcells x t a n c)) 0 0
  have M1 := Lib.hid (hM.same (fun y o hy _ => by rw [b1.block y (Array.getElem?_eq_some_iff.1 hy).1]; exact hy))
  have OW := Lib.hid (fun W (hW : Below w1.heap.size w1 W) => own_any ⟨x, t, a, n, c, L⟩ W ((hq.below b1).below hW))
  have HKP := Lib.hid hkp
  have HZ := Lib.hid hZ
  have B1 := Lib.hid b1
  have PP := Lib.hid P0
  have EE := Lib.hid E0
  obtain ⟨c0, c1, c2⟩ := P0.pdt
  obtain ⟨m0, m1, mf⟩ := M1.out.cells
  have mf0 := mf 0
  have zr := M1.out.lt
  have zr0 := hM.lt
  have ze := E0.lt
  clear hM hkp hZ b1 P0 E0 hq mf
  go_enter Tryz.func85, Tryz.ntmps85
  go_upto_region 1 with fail
  clear hw1
  go_wp2_with fail
  (try rw [hsh])
  go_region_law (first
    | (refine step_appq _ (by rfl) (.tmp 16) (.tmp 19) (by rfl) M4.out (by rfl) _ ⟨ox, ot, oa, on, oc, oL⟩ (by rfl) (Pdt.alloc w2 ox ot oa on oc) Q4.out (by omega) ?_; intro A5 c5 w5 hM5 hK5 d0 df dz; have M5 := Lib.hid hM5; have K5 := Lib.hid (KA4.out.trans hK5); have E5 := Lib.hid (EE.out.ka (KB4.out.trans hK5) (by omega)); clear hM5 hK5)
    | (go_simp; go_at_call 114; refine (OW.out _ (below_drewN _ _ 1)).mono ?_; rintro e w2 ⟨⟨ox, ot, oa, on, oc, oL⟩, rfl, hv, hq2, hb⟩; have hD := (below_drewN w1.heap.size w1 1).trans hb; have m02 := (hD.cell (p := ⟨r, 0, none⟩) zr).trans m0; have zr2 := Nat.lt_of_lt_of_le zr hD.size; have hD4 := below_go hD (below_alloc w2 (pcells ox ot oa on oc)); have M4 := Lib.hid (M1.out.same (fun y o hy _ => by rw [hD4.block y (Array.getElem?_eq_some_iff.1 hy).1]; exact hy)); have Q4 := Lib.hid ((hq2.below (below_alloc w2 (pcells ox ot oa on oc))).mono (B' := r + 1) (by show r + 1 ≤ w1.heap.size; omega)); have KA4 := Lib.hid ((Ka.of_below (r := r) B1.out (by omega)).next hD4 (by omega)); have KB4 := Lib.hid (Ka.of_below (r := r) hD4 (by omega)); have HV := Lib.hid hv; clear hb hq2 hv hD hD4))
  all_goals (
    clear M4 Q4 KA4 KB4 c0 c1 c2 m0 m1 mf0 d0 df dz OW PP m02 zr2
    generalize w5.setCell ⟨r, 0, none⟩ (.slice A5 (kp + 1) c5) = w6 at M5 K5 E5 ⊢
    obtain ⟨e0, e1, ef⟩ := E5.out.cells
    have f0 := ef 0
    have f1 := ef 1
    have z6 := E5.out.lt
    clear ef
    have MF := Lib.hid (Mk.eset (Mk.eset (⟨A5, kp + 1, c5, Ae, ke, ce, _, Es, M5.out, rfl, rfl⟩ : Mk w6 r _ _) E5.out 0 (.int .u32 (X : Int))) (E5.out.set0 X) 1 (.int .u32 (X : Int)))
    have KF := Lib.hid ((K5.out.loc (w.heap.size + 1) 0 (.int .u32 (X : Int)) (by omega) (by omega)).loc (w.heap.size + 1) 1 (.int .u32 (X : Int)) (by omega) (by omega))
    clear M5 K5 E5
    go_wp2_with fail
    refine bodyPost_ret (v := ev2 X X) (by simp [results, Tryz.results85, go_sem, *]) rfl ⟨by rw [HKP.out, HX.out], ?_, KF.out⟩
    have := MF.out
    rw [List.map_append, HZ.out] at this
    simpa [HV.out] using this)
end Go.Proofs.YtpnllbojifnopaaGreatDoor
namespace Go.Proofs.YtpnllbojifnopaaGreatDoor
open Go Go.RowKit Go.Shelf Pk Rl
attribute [local go_sem] Oper.semAt_some
set_option maxRecDepth 20000
theorem grown_cells {W W' : World} {row : Option Nat} (hg : W.grownBy W' row) (hr : ∀ r, row = some r → ∃ o : Obj, W.heap[r]? = some o ∧ o.isCells = false) (x : Nat) (o : Obj) (hx : W.heap[x]? = some o) (hc : o.isCells = true) : W'.heap[x]? = some o := by
  rw [hg.block x (Array.getElem?_eq_some_iff.1 hx).1 (fun e => ?_)]
  · exact hx
  · obtain ⟨o', h1, h2⟩ := hr x e.symm
    rw [hx] at h1
    injection h1 with h1
    rw [h1, h2] at hc
    cases hc
theorem mk_own {β : Type} (r : Nat) (P : β → List VQ) (E : β → List EV) : Go.Own (fun s W => Mk W r (P s) (E s)) := fun s X Y row hs hg hr =>
  Mk.same hs fun x o hx ht => grown_cells hg (fun r e => by obtain ⟨o, h1, h2⟩ := hr r e; exact ⟨o, h1, h2⟩) x o hx (by obtain ⟨cur, ty, fr, rfl, _⟩ := ht; rfl)
theorem ka_own {β : Type} {r B : Nat} {w0 : World} (hB : w0.heap.size ≤ B) (hr0 : r ≤ w0.heap.size) : OwnFrom B (fun (_ : β) W => Ka r w0 W) := fun _ X Y row hs hg hr =>
  have key : ∀ x, x < w0.heap.size → Y.heap[x]? = X.heap[x]? := fun x hx => hg.block x (Nat.lt_of_lt_of_le hx hs.z) (fun e => by have := (hr x e.symm).1; omega)
  ⟨⟨hg.os.trans hs.o.os, hg.tape.trans hs.o.tape, hg.output.trans hs.o.output, Nat.le_trans hs.z hg.size, fun x hx => by rw [key x (by omega)]; exact hs.o.block x hx⟩,
    fun x o hx h1 h2 => by rw [key x (Array.getElem?_eq_some_iff.1 hx).1]; exact hs.b x o hx h1 h2⟩
theorem Ka.keeps {r B : Nat} {W W' : World} (h : Ka r W W') (hr : r < B) : KeepsFrom B W W' := ⟨h.z, fun k o hk ho hc => h.b k o ho (by omega) (fun cur ty fr e => by subst e; cases hc)⟩
theorem own_and {β : Type} {B : Nat} {I J : β → World → Prop} (h : OwnFrom B I) (k : OwnFrom B J) : OwnFrom B (fun s W => I s W ∧ J s W) := OwnFrom.and h k
def NB (w : World) (g : Nat) (nd : Nd) : Prop := w.heap[g]? = some (nobj nd)
theorem NB.atn {w : World} {g : Nat} {nd : Nd} (h : NB w g nd) : Atn w g 0 nd := by
  unfold NB at h
  refine ⟨?_, ?_, ?_, ?_, ?_, ?_, ?_, ?_, ?_, ?_, ?_⟩ <;> (rw [cell_of_row w g _ _ _ _ h]; rfl)
theorem NB.lt {w : World} {g : Nat} {nd : Nd} (h : NB w g nd) : g < w.heap.size := (Array.getElem?_eq_some_iff.1 h).1
theorem NB.next {w w' : World} {g : Nat} {nd : Nd} (h : NB w g nd) (hb : Below w.heap.size w w') : NB w' g nd := by unfold NB; rw [hb.block g h.lt]; exact h
theorem NB.ka {r : Nat} {w w' : World} {g : Nat} {nd : Nd} (h : NB w g nd) (k : Ka r w w') (hg : g ≠ r) : NB w' g nd := k.b g _ h hg (fun _ _ _ e => by injection e with _ e _; rw [← e]; decide)
theorem NB.alloc (w : World) (nd : Nd) : NB (w.alloc (nobj nd)) w.heap.size nd := heap_alloc_new w _
theorem bx_ka {r : Nat} {w w' : World} {g : Nat} {t : TypeId} {v : Value} (h : Boxed w g t v) (k : Ka r w w') (hg : g ≠ r) (ht : t ≠ 45 ∧ t ≠ 47) : Boxed w' g t v := k.b g _ h hg (fun _ _ _ e => by injection e with _ e _; rw [← e]; exact ht)
theorem bx_next {w w' : World} {g : Nat} {t : TypeId} {v : Value} (h : Boxed w g t v) (hb : Below w.heap.size w w') : Boxed w' g t v := by unfold Boxed; rw [hb.block g h.lt]; exact h
def jnI (y : Bool) (g : VQ) (f : Nat) (ts : List Nat) : List EV := ts.map fun t => (f, t, y, g)
def jnO (y : Bool) (g : VQ) (nf : Nat) (fs : List Nat) : List EV := fs.flatMap fun f => jnI y g f (btz nf)
def jn (y : Bool) (g : VQ) (al nf : Nat) : List EV := jnO y g nf (btz al)
theorem jnI_snoc (y : Bool) (g : VQ) (f : Nat) (ts : List Nat) (t : Nat) : jnI y g f (ts ++ [t]) = jnI y g f ts ++ [(f, t, y, g)] := by unfold jnI; rw [List.map_append]; rfl
theorem jnO_snoc (y : Bool) (g : VQ) (nf : Nat) (fs : List Nat) (f : Nat) : jnO y g nf (fs ++ [f]) = jnO y g nf fs ++ jnI y g f (btz nf) := by unfold jnO; rw [List.flatMap_append]; simp
theorem jnI_len (y : Bool) (g : VQ) (f : Nat) (ts : List Nat) : (jnI y g f ts).length = ts.length := List.length_map ..
theorem jnO_len (y : Bool) (g : VQ) (nf : Nat) (fs : List Nat) : (jnO y g nf fs).length ≤ fs.length * 32 := by
  induction fs with
  | nil => exact Nat.le_refl _
  | cons f fs ih =>
    show (jnI y g f (btz nf) ++ jnO y g nf fs).length ≤ _
    rw [List.length_append, jnI_len, List.length_cons]
    have := btz_len nf
    omega
def JnR (r : Nat) (w : World) (P : List VQ) (E : List EV) (e : Ending) (w' : World) : Prop := (∃ v, e = .returned v) ∧ Mk w' r P E ∧ Ka r w w'
structure Jw (wb W : World) (r b4 : Nat) (nd : Nd) (na nb : Nat) (P : List VQ) (E : List EV) : Prop where
  mkk : Mk W r P E
  mb : Boxed W b4 177 (.pointer (some ⟨r, 0, none⟩))
  nbx : NB W (b4 + 1) nd
  eb : EB W (b4 + 3) na nb
  bel : Below wb.heap.size wb W
theorem Jw.ka {wb W W' : World} {r b4 : Nat} {nd : Nd} {na nb : Nat} {P P' : List VQ} {E E' : List EV} (h : Jw wb W r b4 nd na nb P E) (k : Ka r W W') (hr : r < b4) (hb : wb.heap.size ≤ r) (hm : Mk W' r P' E') : Jw wb W' r b4 nd na nb P' E' :=
  ⟨hm, bx_ka h.mb k (by omega) (by decide), h.nbx.ka k (by omega), h.eb.ka k (by omega), h.bel.trans (k.o.mono hb)⟩
theorem Jw.next {wb W W' : World} {r b4 : Nat} {nd : Nd} {na nb : Nat} {P : List VQ} {E : List EV} (h : Jw wb W r b4 nd na nb P E) (hb : Below W.heap.size W W') : Jw wb W' r b4 nd na nb P E :=
  ⟨Mk.next h.mkk hb, bx_next h.mb hb, h.nbx.next hb, h.eb.next hb, below_go h.bel hb⟩
theorem below_own {β : Type} {n B : Nat} {wb : World} (hB : n ≤ B) : OwnFrom B (fun (_ : β) W => n ≤ W.heap.size ∧ Below n wb W) := fun _ X Y row hs hg hr =>
  ⟨Nat.le_trans hs.1 hg.size, hg.os.trans hs.2.os, hg.tape.trans hs.2.tape, hg.output.trans hs.2.output, Nat.le_trans hs.2.size hg.size, fun x hx => by
    rw [hg.block x (Nat.lt_of_lt_of_le hx hs.1) (fun e => by have := (hr x e.symm).1; omega)]
    exact hs.2.block x hx⟩
theorem jw_own {β : Type} {wb : World} {B r b4 : Nat} {nd : Nd} {na nb : Nat} (P : List VQ) (E : β → List EV) (hB : wb.heap.size ≤ B) : OwnFrom B (fun s W => Jw wb W r b4 nd na nb P (E s)) := fun s X Y row hs hg hr =>
  have h2 : ∀ r, row = some r → ∃ o : Obj, X.heap[r]? = some o ∧ o.isCells = false := fun r e => by obtain ⟨_, o, h1, h2⟩ := hr r e; exact ⟨o, h1, h2⟩
  ⟨Mk.same hs.mkk fun x o hx ht => grown_cells hg h2 x o hx (by obtain ⟨cur, ty, fr, rfl, _⟩ := ht; rfl), grown_cells hg h2 _ _ hs.mb rfl, grown_cells hg h2 _ _ hs.nbx rfl, grown_cells hg h2 _ _ hs.eb rfl,
    (below_own (β := Unit) hB () X Y row ⟨hs.bel.size, hs.bel⟩ hg hr).2⟩
set_option maxRecDepth 100000 in
set_option maxHeartbeats 8000000 in
theorem join_in (r : Nat) (nd : Nd) (a1 a2 n1 n2 : Nat) (P : List VQ) (E : List EV) (wb w : World) (h : Mk w r P E) (ha2 : a2 < 4294967296) (hn1 : n1 < 4294967296) (hnd : Nok wb nd) (hT : Tab5 wb) (hwb : Below wb.heap.size wb w) (hrb : wb.heap.size ≤ r) (hE : E.length ≤ 1000000000) :
    CallsIn Fence.wide 6 Tryz.prog 112 #[.pointer (some ⟨r, 0, none⟩), nOf nd, ev2 a1 a2, ev2 n1 n2] w fun e w' => JnR r w P (E ++ jn nd.y (vq nd.g) a2 n1) e w' := by
  have zr := Mk.lt h
  have hr : 2 < r := by have := World.block_lt_of_cell? _ _ (hT 0 (by omega)); exact Nat.lt_of_lt_of_le this hrb
  obtain ⟨k, ⟨px, pt, pa, pn, pc, pL⟩, y, ⟨gx, gt, ga, gn, gc, gL⟩, lo, hi, s⟩ := nd
  obtain ⟨W0, hW0⟩ : ∃ X, (((w.alloc (.cells #[.pointer (some ⟨r, 0, none⟩)] 177)).alloc (nobj ⟨k, ⟨px, pt, pa, pn, pc, pL⟩, y, ⟨gx, gt, ga, gn, gc, gL⟩, lo, hi, s⟩)).alloc (eobj a1 a2)).alloc (eobj n1 n2) = X := ⟨_, rfl⟩
  have b0 : Below w.heap.size w W0 := hW0 ▸ below_go (below_go (below_go (below_alloc w _) (below_alloc _ _)) (below_alloc _ _)) (below_alloc _ _)
  have sz0 : W0.heap.size = w.heap.size + 4 := by rw [← hW0]; simp
  have J0 : Jw wb W0 r w.heap.size ⟨k, ⟨px, pt, pa, pn, pc, pL⟩, y, ⟨gx, gt, ga, gn, gc, gL⟩, lo, hi, s⟩ n1 n2 P E := by
    refine ⟨Mk.next h b0, ?_, ?_, ?_, below_go hwb b0⟩
    · rw [← hW0]
      exact bx_next (Boxed.new w 177 (.pointer (some ⟨r, 0, none⟩))) (below_go (below_go (below_alloc _ _) (below_alloc _ _)) (below_alloc _ _))
    · rw [← hW0]
      have := NB.alloc (w.alloc (.cells #[.pointer (some ⟨r, 0, none⟩)] 177)) ⟨k, ⟨px, pt, pa, pn, pc, pL⟩, y, ⟨gx, gt, ga, gn, gc, gL⟩, lo, hi, s⟩
      rw [World.size_alloc] at this
      exact (this.next (below_alloc _ _)).next (below_alloc _ _)
    · rw [← hW0]
      have := EB.alloc (((w.alloc (.cells #[.pointer (some ⟨r, 0, none⟩)] 177)).alloc (nobj ⟨k, ⟨px, pt, pa, pn, pc, pL⟩, y, ⟨gx, gt, ga, gn, gc, gL⟩, lo, hi, s⟩)).alloc (eobj a1 a2)) n1 n2
      simp only [World.size_alloc] at this
      exact this
  have E0 : EB W0 (w.heap.size + 2) a1 a2 := by
    rw [← hW0]
    have := EB.alloc ((w.alloc (.cells #[.pointer (some ⟨r, 0, none⟩)] 177)).alloc (nobj ⟨k, ⟨px, pt, pa, pn, pc, pL⟩, y, ⟨gx, gt, ga, gn, gc, gL⟩, lo, hi, s⟩)) a1 a2
    simp only [World.size_alloc] at this
    exact this.next (below_alloc _ _)
  have T0 := (hT.below hwb).below b0
  have hm1 := E0.cells.2.1
  have zE := E0.lt
  refine callsIn_of_wp_marks Tryz.func112 rfl trivial ?_ rfl
  simp only [Tryz.ntmps112, List.size_toArray, List.length_cons, List.length_nil, Nat.reduceAdd, Nat.reduceSub, Array.replicate_succ, Array.replicate_zero, List.push_toArray, List.append_toArray, List.nil_append, List.cons_append]
  gi_wp2_with (refine ⟨trivial, ?_⟩; gi_at_call 136; refine (places_in _ _ _).mono ?_; rintro e w' ⟨rfl, rfl⟩)
  have hszP : Below r w W0 := b0.mono (Nat.le_of_lt zr)
  have ka0 : Ka r w W0 := Ka.of_below b0 (Nat.le_of_lt zr)
  have b1 := below_alloc W0 (.cells #[.int .u32 (a2 : Int)] 33)
  have szp : (W0.alloc (.cells #[.int .u32 (a2 : Int)] 33)).heap.size = w.heap.size + 5 := by simp [sz0]
  have J1 := J0.next b1
  have T1 := T0.below b1
  have ka1 := ka0.next b1 (by omega)
  have bS := Boxed.new W0 33 (.int .u32 (a2 : Int))
  rw [sz0] at bS
  obtain ⟨W1, hW1⟩ : ∃ X, W0.alloc (.cells #[.int .u32 (a2 : Int)] 33) = X := ⟨_, rfl⟩
  rw [hW1] at b1 szp J1 T1 ka1 bS ⊢
  clear hW1 hW0 b0 sz0 J0 E0 T0 hm1 zE ka0 hszP h
  refine wpIn_rangeFunc_ownH rfl (by omega) (gf := 154) (lb := #[.pointer (some ⟨w.heap.size + 4, 0, none⟩)]) rfl trivial (enters_of Tryz.func154 (by kernel_rfl) rfl)
    (places_stops 5 (by omega) (w.heap.size + 4) r a2 ha2 W1 (by omega) bS.cell T1 hr) belowK_t (belowK_b (by omega)) (Below.refl _ _) (fun _ => rfl)
    (fun pre W => Jw wb W r w.heap.size ⟨k, ⟨px, pt, pa, pn, pc, pL⟩, y, ⟨gx, gt, ga, gn, gc, gL⟩, lo, hi, s⟩ n1 n2 P (E ++ jnO y (vq ⟨gx, gt, ga, gn, gc, gL⟩) n1 pre) ∧ Ka r w W)
    (fun _ _ _ => False)
    (own_and (jw_own P (fun pre => E ++ jnO y (vq ⟨gx, gt, ga, gn, gc, gL⟩) n1 pre) (by omega)) (ka_own (by omega) (Nat.le_of_lt zr)))
    (fun _ _ _ _ _ hs _ _ => hs)
    ⟨by simpa [jnO] using J1, ka1⟩
    (fun x a' W => ∃ Bx, w.heap.size + 3 < Bx ∧ Boxed W Bx 5 (.int .u8 ((x : Nat) : Int)) ∧ a' = { tmps := #[.pointer (some ⟨r, 0, none⟩), nOf ⟨k, ⟨px, pt, pa, pn, pc, pL⟩, y, ⟨gx, gt, ga, gn, gc, gL⟩, lo, hi, s⟩, ev2 a1 a2, ev2 n1 n2, .pointer (some ⟨w.heap.size, 0, none⟩), .pointer (some ⟨w.heap.size + 1, 0, none⟩), .pointer (some ⟨w.heap.size + 1 + 1, 0, none⟩), .pointer (some ⟨w.heap.size + 1 + 1 + 1, 0, none⟩), .pointer (some ⟨Bx, 0, none⟩), undef, .pointer (some ⟨w.heap.size + 1 + 1, 1, none⟩), .int .u32 (a2 : Int), .func (.func 154) #[] #[.pointer (some ⟨w.heap.size + 4, 0, none⟩)], .int .u8 ((x : Nat) : Int), undef, undef, undef, undef, undef, undef, undef, undef, undef, undef, undef, undef, undef, undef, undef, undef, undef, undef, undef, undef, undef], defers := [] })
    (fun x a' _ X Y row hs hg hr => by obtain ⟨Bx, h1, h2, h3⟩ := hs; exact ⟨Bx, h1, boxed_own Bx 5 (fun (_ : Unit) => Value.int .u8 ((x : Nat) : Int)) () X Y row h2 hg (fun r e => (hr r e).2), h3⟩)
    ?assign ?body ?done ?stop
  case assign =>
    rintro l pre x W K ⟨hJ, hK1⟩ hK
    have hb := below_alloc W (.cells #[.int .u8 ((x : Nat) : Int)] 5)
    have hk := Ka.of_below (r := r) hb (by have := hK1.z; omega)
    have hz := hJ.eb.lt
    gi_wp2
    exact hK _ _ (hk.keeps (by omega)) hk.o ⟨hJ.next hb, hK1.trans hk⟩ ⟨W.heap.size, hz, Boxed.new W 5 _, rfl⟩
  case body =>
    rintro l pre x a' W hl ⟨r0, hr0⟩ ⟨hJ, hK1⟩ ⟨Bx, hBx, bX, rfl⟩ hlt
    have cN := hJ.eb.cells.1
    have zN := hJ.eb.lt
    have hpre := hlt
    gi_wp2_with (refine ⟨trivial, ?_⟩; gi_at_call 136; refine (CallsIn.inRound l (places_in _ _ _)).mono ?_; rintro e w' ⟨rfl, rfl⟩)
    have hb2 := below_alloc W (.cells #[.int .u32 (n1 : Int)] 33)
    have hk2 := Ka.of_below (r := r) hb2 (by have := hK1.z; omega)
    have hr' : (W.alloc (.cells #[.int .u32 (n1 : Int)] 33)).heap[l]? = some (.loop r0) := (Below.heap_alloc W _ l (Array.getElem?_eq_some_iff.1 hr0).1).trans hr0
    have bN := Boxed.new W 33 (.int .u32 (n1 : Int))
    have TN := (hT.below hJ.bel).below hb2
    have szW := hK1.z
    refine wpIn_rangeFunc_ownN (l₀ := l) (r₀ := r0) rfl hr' (by omega) (gf := 154) (lb := #[.pointer (some ⟨W.heap.size, 0, none⟩)]) rfl trivial (enters_of Tryz.func154 (by kernel_rfl) rfl)
      ((places_stops 3 (by omega) W.heap.size r n1 hn1 _ (by simp) bN.cell TN hr).inRound l) belowK_t (belowK_b (by simp; omega)) (Below.refl _ _) (fun _ => rfl)
      (fun pre' W' => (Jw wb W' r w.heap.size ⟨k, ⟨px, pt, pa, pn, pc, pL⟩, y, ⟨gx, gt, ga, gn, gc, gL⟩, lo, hi, s⟩ n1 n2 P (E ++ jnO y (vq ⟨gx, gt, ga, gn, gc, gL⟩) n1 pre ++ jnI y (vq ⟨gx, gt, ga, gn, gc, gL⟩) x pre') ∧ Boxed W' Bx 5 (.int .u8 ((x : Nat) : Int))) ∧ Ka r W W')
      (fun _ _ _ => False)
      (own_and (own_and (jw_own P (fun pre' => E ++ jnO y (vq ⟨gx, gt, ga, gn, gc, gL⟩) n1 pre ++ jnI y (vq ⟨gx, gt, ga, gn, gc, gL⟩) x pre') (by simp; omega)) (Go.Own.from (boxed_own _ _ _) _)) (ka_own (by simp) (by omega)))
      (fun _ _ _ _ _ hs _ _ => hs)
      ⟨⟨by simpa [jnI] using hJ.next hb2, bx_next bX hb2⟩, hk2⟩
      (fun t a'' _ => a'' = { tmps := #[.pointer (some ⟨r, 0, none⟩), nOf ⟨k, ⟨px, pt, pa, pn, pc, pL⟩, y, ⟨gx, gt, ga, gn, gc, gL⟩, lo, hi, s⟩, ev2 a1 a2, ev2 n1 n2, .pointer (some ⟨w.heap.size, 0, none⟩), .pointer (some ⟨w.heap.size + 1, 0, none⟩), .pointer (some ⟨w.heap.size + 1 + 1, 0, none⟩), .pointer (some ⟨w.heap.size + 1 + 1 + 1, 0, none⟩), .pointer (some ⟨Bx, 0, none⟩), .int .u8 ((t : Nat) : Int), .pointer (some ⟨w.heap.size + 1 + 1, 1, none⟩), .int .u32 (a2 : Int), .func (.func 154) #[] #[.pointer (some ⟨w.heap.size + 4, 0, none⟩)], .int .u8 ((x : Nat) : Int), .pointer (some ⟨w.heap.size + 1 + 1 + 1, 0, none⟩), .int .u32 (n1 : Int), .func (.func 154) #[] #[.pointer (some ⟨W.heap.size, 0, none⟩)], .int .u8 ((t : Nat) : Int), undef, undef, undef, undef, undef, undef, undef, undef, undef, undef, undef, undef, undef, undef, undef, undef, undef], defers := [] })
      (fun _ _ _ _ _ _ hs _ _ => hs)
      ?assign2 ?body2 ?done2 ?stop2
    case assign2 =>
      rintro l2 pre' t W' K hi hK
      gi_wp2
      exact hK _ _ (KeepsFrom.refl _ _) (Below.refl _ _) hi rfl
    case body2 =>
      rintro l2 pre' t a'' wr _ _ ⟨⟨hJ2, bX2⟩, hK2⟩ rfl hlt2
      gi_wp2
      have zb4 := hJ2.mb.lt
      have hJ3 := hJ2
      obtain ⟨Ap, kp, cp, Ae, ke, ce, Ps, Es, hM, hP, hEE⟩ := hJ3.mkk
      have zrr := hM.lt
      have m1 := hM.cells.2.1
      have hke : ke ≤ 1900000000 := by
        have h1 := congrArg List.length hEE
        have h2 := jnO_len y (vq ⟨gx, gt, ga, gn, gc, gL⟩) n1 pre
        have h3 := btz_len a2
        have h4 := btz_len n1
        simp only [List.length_map, List.length_append, jnI_len] at h1
        rw [← hM.le]
        omega
      have SK : Hid (∀ W, Ka r wr W → (fun W => W.cell? ⟨w.heap.size, 0, none⟩ = some (.pointer (some ⟨r, 0, none⟩)) ∧ W.cell? ⟨Bx, 0, none⟩ = some (.int .u8 ((x : Nat) : Int)) ∧ W.cell? ⟨w.heap.size + 1, 4, none⟩ = some (.bool y) ∧ W.cell? ⟨w.heap.size + 1, 5, none⟩ = some (.bool gx) ∧ W.cell? ⟨w.heap.size + 1, 6, none⟩ = some (.int .u8 gt) ∧ W.cell? ⟨w.heap.size + 1, 7, none⟩ = some (.slice ga gn gc) ∧ Hid (Ka r wr W)) W) := Lib.hid (fun W hW => by
        obtain ⟨_, _, _, _, n4, n5, n6, n7, _⟩ := (hJ2.nbx.ka hW (by omega)).atn
        simp only [Nat.zero_add] at n4 n5 n6 n7
        exact ⟨(bx_ka hJ2.mb hW (by omega) (by decide)).cell, (bx_ka bX2 hW (by omega) (by decide)).cell, n4, n5, n6, n7, Lib.hid hW⟩)
      have OW : Hid (∀ W, (fun W => W.cell? ⟨w.heap.size, 0, none⟩ = some (.pointer (some ⟨r, 0, none⟩)) ∧ W.cell? ⟨Bx, 0, none⟩ = some (.int .u8 ((x : Nat) : Int)) ∧ W.cell? ⟨w.heap.size + 1, 4, none⟩ = some (.bool y) ∧ W.cell? ⟨w.heap.size + 1, 5, none⟩ = some (.bool gx) ∧ W.cell? ⟨w.heap.size + 1, 6, none⟩ = some (.int .u8 gt) ∧ W.cell? ⟨w.heap.size + 1, 7, none⟩ = some (.slice ga gn gc) ∧ Hid (Ka r wr W)) W → Calls Tryz.prog 114 #[qv ⟨gx, gt, ga, gn, gc, gL⟩] W fun e w' => OwR W ⟨gx, gt, ga, gn, gc, gL⟩ e w') := Lib.hid (fun W hW => own_any ⟨gx, gt, ga, gn, gc, gL⟩ W (hnd.g.below (hJ2.bel.trans (hW.2.2.2.2.2.2.out.o.mono hrb))))
      have MD := Lib.hid (fun W (hW : Below wr.heap.size wr W) => hM.same (W' := W) (fun x o hx _ => by rw [hW.block x (Array.getElem?_eq_some_iff.1 hx).1]; exact hx))
      have BD := Lib.hid ((Below.refl wr.heap.size wr).drew)
      have RR : Hid (∀ W', Ka r wr W' → ∀ q' : Qu, vq q' = (vq ⟨gx, gt, ga, gn, gc, gL⟩) → ∀ Ap kp cp Ae ke ce, Mi W' r Ap kp cp Ae ke ce Ps (Es ++ [⟨x, t, y, q'⟩]) → (Jw wb W' r w.heap.size ⟨k, ⟨px, pt, pa, pn, pc, pL⟩, y, ⟨gx, gt, ga, gn, gc, gL⟩, lo, hi, s⟩ n1 n2 P (E ++ jnO y (vq ⟨gx, gt, ga, gn, gc, gL⟩) n1 pre ++ jnI y (vq ⟨gx, gt, ga, gn, gc, gL⟩) x (pre' ++ [t])) ∧ Boxed W' Bx 5 (.int .u8 ((x : Nat) : Int))) ∧ Ka r wr W') := Lib.hid (fun W' hW q' hq Ap kp cp Ae ke ce hMi =>
        ⟨⟨hJ2.ka hW (by omega) hrb ⟨Ap, kp, cp, Ae, ke, ce, Ps, _, hMi, hP, by rw [List.map_append, hEE, jnI_snoc, ← List.append_assoc, ← hq]; rfl⟩, bx_ka bX2 hW (by omega) (by decide)⟩, hW⟩)
      have KS : Hid (∀ W', ((Jw wb W' r w.heap.size ⟨k, ⟨px, pt, pa, pn, pc, pL⟩, y, ⟨gx, gt, ga, gn, gc, gL⟩, lo, hi, s⟩ n1 n2 P (E ++ jnO y (vq ⟨gx, gt, ga, gn, gc, gL⟩) n1 pre ++ jnI y (vq ⟨gx, gt, ga, gn, gc, gL⟩) x (pre' ++ [t])) ∧ Boxed W' Bx 5 (.int .u8 ((x : Nat) : Int))) ∧ Ka r wr W') → ownPostG (W.alloc (.cells #[.int .u32 (n1 : Int)] 33)).heap.size (Below r) (fun pre' W' => (Jw wb W' r w.heap.size ⟨k, ⟨px, pt, pa, pn, pc, pL⟩, y, ⟨gx, gt, ga, gn, gc, gL⟩, lo, hi, s⟩ n1 n2 P (E ++ jnO y (vq ⟨gx, gt, ga, gn, gc, gL⟩) n1 pre ++ jnI y (vq ⟨gx, gt, ga, gn, gc, gL⟩) x pre') ∧ Boxed W' Bx 5 (.int .u8 ((x : Nat) : Int))) ∧ Ka r W W') (fun _ _ _ => False) (pre' ++ [t]) wr .normal { tmps := #[], defers := [] } W') := Lib.hid (fun W' h => ⟨h.2.keeps (by simp; omega), h.2.o, h.1, hK2.trans h.2⟩)
      refine region_inRound l2 _ (by kernel_rfl) (no_defer (by kernel_rfl)) (R := fun _ W' => (Jw wb W' r w.heap.size ⟨k, ⟨px, pt, pa, pn, pc, pL⟩, y, ⟨gx, gt, ga, gn, gc, gL⟩, lo, hi, s⟩ n1 n2 P (E ++ jnO y (vq ⟨gx, gt, ga, gn, gc, gL⟩) n1 pre ++ jnI y (vq ⟨gx, gt, ga, gn, gc, gL⟩) x (pre' ++ [t])) ∧ Boxed W' Bx 5 (.int .u8 ((x : Nat) : Int))) ∧ Ka r wr W') (S := fun W => W.cell? ⟨w.heap.size, 0, none⟩ = some (.pointer (some ⟨r, 0, none⟩)) ∧ W.cell? ⟨Bx, 0, none⟩ = some (.int .u8 ((x : Nat) : Int)) ∧ W.cell? ⟨w.heap.size + 1, 4, none⟩ = some (.bool y) ∧ W.cell? ⟨w.heap.size + 1, 5, none⟩ = some (.bool gx) ∧ W.cell? ⟨w.heap.size + 1, 6, none⟩ = some (.int .u8 gt) ∧ W.cell? ⟨w.heap.size + 1, 7, none⟩ = some (.slice ga gn gc) ∧ Hid (Ka r wr W)) (fun _ W' h => KS.out W' h) (SK.out _ (Ka.of_below BD.out (by omega))) (fun hHeld => ?_)
      clear hJ2 hM hJ3 hP hEE hK2 hJ hK1 bX bX2 KS
      refine wpAnyH_take (i := 0) (v := ?_) rfl (by kernel_rfl) (by kernel_rfl) (by kernel_rfl) (fun _ _ _ h => h) (Or.inl ⟨by rfl, ?_⟩) (by assumption) ?_
      rotate_left
      · (intro W hSw; simp only [List.getElem_toArray, List.getElem_cons_zero]; (try dsimp only at hSw); go_simp; with_reducible rfl)
      simp only [List.getElem_toArray, List.getElem_cons_zero, Act.put, List.setIfInBounds_toArray, List.set_cons_zero, List.set_cons_succ]
      refine wpAnyH_take (i := 1) (v := ?_) rfl (by kernel_rfl) (by kernel_rfl) (by kernel_rfl) (fun _ _ _ h => h) (Or.inl ⟨by rfl, ?_⟩) (by assumption) ?_
      rotate_left
      · (intro W hSw; simp only [List.getElem_toArray, List.getElem_cons_succ, List.getElem_cons_zero]; (try dsimp only at hSw); go_simp; with_reducible rfl)
      simp only [List.getElem_toArray, List.getElem_cons_succ, List.getElem_cons_zero, Act.put, List.setIfInBounds_toArray, List.set_cons_zero, List.set_cons_succ]
      refine wpAnyH_take (i := 2) (v := ?_) rfl (by kernel_rfl) (by kernel_rfl) (by kernel_rfl) (fun _ _ _ h => h) (Or.inl ⟨by rfl, ?_⟩) (by assumption) ?_
      rotate_left
      · (intro W hSw; simp only [List.getElem_toArray, List.getElem_cons_succ, List.getElem_cons_zero]; (try dsimp only at hSw); go_simp; with_reducible rfl)
      simp only [List.getElem_toArray, List.getElem_cons_succ, List.getElem_cons_zero, Act.put, List.setIfInBounds_toArray, List.set_cons_zero, List.set_cons_succ]
      refine wpAnyH_take (i := 3) (v := ?_) rfl (by kernel_rfl) (by kernel_rfl) (by kernel_rfl) (fun _ _ _ h => h) (Or.inl ⟨by rfl, ?_⟩) (by assumption) ?_
      rotate_left
      · (intro W hSw; simp only [List.getElem_toArray, List.getElem_cons_succ, List.getElem_cons_zero]; (try dsimp only at hSw); go_simp; with_reducible rfl)
      simp only [List.getElem_toArray, List.getElem_cons_succ, List.getElem_cons_zero, Act.put, List.setIfInBounds_toArray, List.set_cons_zero, List.set_cons_succ]
      refine wpAnyH_take (i := 5) (v := ?_) rfl (by kernel_rfl) (by kernel_rfl) (by kernel_rfl) (fun _ _ _ h => h) (Or.inl ⟨by rfl, ?_⟩) (by assumption) ?_
      rotate_left
      · (intro W hSw; simp only [List.getElem_toArray, List.getElem_cons_succ, List.getElem_cons_zero]; (try dsimp only at hSw); go_simp; with_reducible rfl)
      simp only [List.getElem_toArray, List.getElem_cons_succ, List.getElem_cons_zero, Act.put, List.setIfInBounds_toArray, List.set_cons_zero, List.set_cons_succ]
      refine wpAnyH_take (i := 6) (v := ?_) rfl (by kernel_rfl) (by kernel_rfl) (by kernel_rfl) (fun _ _ _ h => h) (Or.inl ⟨by rfl, ?_⟩) (by assumption) ?_
      rotate_left
      · (intro W hSw; simp only [List.getElem_toArray, List.getElem_cons_succ, List.getElem_cons_zero]; (try dsimp only at hSw); go_simp; with_reducible rfl)
      simp only [List.getElem_toArray, List.getElem_cons_succ, List.getElem_cons_zero, Act.put, List.setIfInBounds_toArray, List.set_cons_zero, List.set_cons_succ]
      refine wpAnyH_take (i := 7) (v := ?_) rfl (by kernel_rfl) (by kernel_rfl) (by kernel_rfl) (fun _ _ _ h => h) (Or.inl ⟨by rfl, ?_⟩) (by assumption) ?_
      rotate_left
      · (intro W hSw; simp only [List.getElem_toArray, List.getElem_cons_succ, List.getElem_cons_zero]; (try dsimp only at hSw); go_simp; with_reducible rfl)
      simp only [List.getElem_toArray, List.getElem_cons_succ, List.getElem_cons_zero, Act.put, List.setIfInBounds_toArray, List.set_cons_zero, List.set_cons_succ]
      refine wpAnyH_take (i := 8) (v := ?_) rfl (by kernel_rfl) (by kernel_rfl) (by kernel_rfl) (fun _ _ _ h => h) (Or.inl ⟨by rfl, ?_⟩) (by assumption) ?_
      rotate_left
      · (intro W hSw; simp only [List.getElem_toArray, List.getElem_cons_succ, List.getElem_cons_zero]; (try dsimp only at hSw); go_simp; with_reducible rfl)
      simp only [List.getElem_toArray, List.getElem_cons_succ, List.getElem_cons_zero, Act.put, List.setIfInBounds_toArray, List.set_cons_zero, List.set_cons_succ]
      refine wpAnyH_take (i := 9) (v := ?_) rfl (by kernel_rfl) (by kernel_rfl) (by kernel_rfl) (fun _ _ _ h => h) (Or.inl ⟨by rfl, ?_⟩) (by assumption) ?_
      rotate_left
      · (intro W hSw; simp only [List.getElem_toArray, List.getElem_cons_succ, List.getElem_cons_zero]; (try dsimp only at hSw); go_simp; with_reducible rfl)
      simp only [List.getElem_toArray, List.getElem_cons_succ, List.getElem_cons_zero, Act.put, List.setIfInBounds_toArray, List.set_cons_zero, List.set_cons_succ]
      refine wpAnyH_take (i := 10) (v := ?_) rfl (by kernel_rfl) (by kernel_rfl) (by kernel_rfl) (fun _ _ _ h => h) (Or.inl ⟨by rfl, ?_⟩) (by assumption) ?_
      rotate_left
      · (intro W hSw; simp only [List.getElem_toArray, List.getElem_cons_succ, List.getElem_cons_zero]; (try dsimp only at hSw); go_simp; with_reducible rfl)
      simp only [List.getElem_toArray, List.getElem_cons_succ, List.getElem_cons_zero, Act.put, List.setIfInBounds_toArray, List.set_cons_zero, List.set_cons_succ]
      refine wpAnyH_ready (rs := [4, 11]) (by kernel_rfl) (by simp) ?_
      refine AllReadyH.cons rfl (fun K hK => ?_) (AllReadyH.cons rfl (fun K hK => ?_) AllReadyH.nil)
      ·
        (try simp only [List.getElem_toArray, List.getElem_cons_succ, List.getElem_cons_zero])
        go_simp
        refine hK.out _ _ hHeld (fun hHeld => ?_)
        (try simp only [List.getElem_toArray, List.getElem_cons_succ, List.getElem_cons_zero, Act.put, List.setIfInBounds_toArray, List.set_cons_zero, List.set_cons_succ])
        refine wpAnyH_ready (rs := [11]) (by kernel_rfl) (by simp) ?_
        refine AllReadyH.cons rfl (fun K hK => ?_) AllReadyH.nil
        ·
          (try simp only [List.getElem_toArray, List.getElem_cons_succ, List.getElem_cons_zero])
          go_simp
          go_at_call 114
          refine (OW.out _ hHeld).mono ?_
          rintro e w2 ⟨⟨ox, ot, oa, on, oc, oL⟩, rfl, hv, hq2, hb⟩
          have hKa := Lib.hid (hHeld.2.2.2.2.2.2.out.next hb (by show r ≤ wr.heap.size; omega))
          have zr2 := Nat.lt_of_lt_of_le zrr hKa.out.z
          have M2 := Lib.hid (MD.out _ (BD.out.trans hb))
          have m12 := M2.out.cells.2.1
          have Q2 := Lib.hid (hq2.mono (B' := r + 1) (by show r + 1 ≤ wr.heap.size; omega))
          have HV := Lib.hid hv
          clear hq2 hb hv
          refine hK.out _ _ (SK.out _ hKa.out) (fun hHeld => ?_)
          (try simp only [List.getElem_toArray, List.getElem_cons_succ, List.getElem_cons_zero, Act.put, List.setIfInBounds_toArray, List.set_cons_zero, List.set_cons_succ])
          refine wpAnyH_take (i := 12) (v := ?_) rfl (by kernel_rfl) (by kernel_rfl) (by kernel_rfl) (fun _ _ _ h => h) (Or.inl ⟨by rfl, ?_⟩) (by assumption) ?_
          rotate_left
          · (intro W hSw; simp only [List.getElem_toArray, List.getElem_cons_succ, List.getElem_cons_zero]; (try dsimp only at hSw); go_simp; with_reducible rfl)
          simp only [List.getElem_toArray, List.getElem_cons_succ, List.getElem_cons_zero, Act.put, List.setIfInBounds_toArray, List.set_cons_zero, List.set_cons_succ]
          refine wpAnyH_ready (rs := [13]) (by kernel_rfl) (by simp) ?_
          refine AllReadyH.cons rfl (fun K hK => ?_) AllReadyH.nil
          ·
            (try simp only [List.getElem_toArray, List.getElem_cons_succ, List.getElem_cons_zero])
            go_simp
            have b3 := below_alloc w2 (.cells #[.int .u8 ((x : Nat) : Int), .int .u8 ((t : Nat) : Int), .bool y, .bool ox, .int .u8 ot, .slice oa on oc] 47)
            have hKa3 := Lib.hid (hKa.out.next b3 (by omega))
            have M3 := Lib.hid (M2.out.same (fun x o hx _ => by rw [b3.block x (Array.getElem?_eq_some_iff.1 hx).1]; exact hx))
            have Q3 := Lib.hid (Q2.out.below b3)
            have m13 := M3.out.cells.2.1
            have zr3 := M3.out.lt
            clear b3
            refine hK.out _ _ (SK.out _ hKa3.out) (fun hHeld => ?_)
            (try simp only [List.getElem_toArray, List.getElem_cons_succ, List.getElem_cons_zero, Act.put, List.setIfInBounds_toArray, List.set_cons_zero, List.set_cons_succ])
            refine wpAnyH_ready (rs := [14]) (by kernel_rfl) (by simp) ?_
            refine AllReadyH.cons rfl (fun K hK => ?_) AllReadyH.nil
            refine step_appe _ (by rfl) (.tmp 22) (.tmp 31) (by rfl) M3.out (by rfl) _ ⟨x, t, y, ⟨ox, ot, oa, on, oc, oL⟩⟩ (by rfl) (fun j u hj => by rcases j with _ | _ | _ | _ | _ | _ | j <;> (first | (simp [ecl] at hj; subst hj; simp [go_sem]) | (simp [ecl] at hj))) Q3.out (by omega) ?_
            intro A5 c5 w5 hM5 hK5 hL5 d0 df dz
            refine hK.out _ _ (SK.out _ (hKa3.out.trans hK5)) (fun hHeld => ?_)
            (try simp only [List.getElem_toArray, List.getElem_cons_succ, List.getElem_cons_zero, Act.put, List.setIfInBounds_toArray, List.set_cons_zero, List.set_cons_succ])
            refine wpAnyH_take (i := 15) (v := ?_) rfl (by kernel_rfl) (by kernel_rfl) (by kernel_rfl) (fun _ _ _ h => h) (Or.inl ⟨by rfl, ?_⟩) (by assumption) ?_
            rotate_left
            · (intro W hSw; simp only [List.getElem_toArray, List.getElem_cons_succ, List.getElem_cons_zero]; (try dsimp only at hSw); go_simp; with_reducible rfl)
            simp only [List.getElem_toArray, List.getElem_cons_succ, List.getElem_cons_zero, Act.put, List.setIfInBounds_toArray, List.set_cons_zero, List.set_cons_succ]
            refine wpAnyH_take (i := 16) (v := ?_) rfl (by kernel_rfl) (by kernel_rfl) (by kernel_rfl) (fun _ _ _ h => h) (Or.inl ⟨by rfl, ?_⟩) (by assumption) ?_
            rotate_left
            · (intro W hSw; simp only [List.getElem_toArray, List.getElem_cons_succ, List.getElem_cons_zero]; (try dsimp only at hSw); go_simp; with_reducible rfl)
            simp only [List.getElem_toArray, List.getElem_cons_succ, List.getElem_cons_zero, Act.put, List.setIfInBounds_toArray, List.set_cons_zero, List.set_cons_succ]
            refine wpAnyH_ready (rs := [17]) (by kernel_rfl) (by simp) ?_
            refine AllReadyH.cons rfl (fun K hK => ?_) AllReadyH.nil
            (try simp only [List.getElem_toArray, List.getElem_cons_succ, List.getElem_cons_zero])
            go_simp
            refine hK.out _ _ (SK.out _ (hKa3.out.trans hL5)) (fun hHeld => ?_)
            (try simp only [List.getElem_toArray, List.getElem_cons_succ, List.getElem_cons_zero, Act.put, List.setIfInBounds_toArray, List.set_cons_zero, List.set_cons_succ])
            refine wpAnyH_done (by kernel_rfl) ?_ _
            exact RR.out _ (hKa3.out.trans hL5) ⟨ox, ot, oa, on, oc, oL⟩ HV.out _ _ _ _ _ _ hM5
      ·
        (try simp only [List.getElem_toArray, List.getElem_cons_succ, List.getElem_cons_zero])
        go_simp
        go_at_call 114
        refine (OW.out _ hHeld).mono ?_
        rintro e w2 ⟨⟨ox, ot, oa, on, oc, oL⟩, rfl, hv, hq2, hb⟩
        have hKa := Lib.hid (hHeld.2.2.2.2.2.2.out.next hb (by show r ≤ wr.heap.size; omega))
        have zr2 := Nat.lt_of_lt_of_le zrr hKa.out.z
        have M2 := Lib.hid (MD.out _ (BD.out.trans hb))
        have m12 := M2.out.cells.2.1
        have Q2 := Lib.hid (hq2.mono (B' := r + 1) (by show r + 1 ≤ wr.heap.size; omega))
        have HV := Lib.hid hv
        clear hq2 hb hv
        refine hK.out _ _ (SK.out _ hKa.out) (fun hHeld => ?_)
        (try simp only [List.getElem_toArray, List.getElem_cons_succ, List.getElem_cons_zero, Act.put, List.setIfInBounds_toArray, List.set_cons_zero, List.set_cons_succ])
        refine wpAnyH_take (i := 12) (v := ?_) rfl (by kernel_rfl) (by kernel_rfl) (by kernel_rfl) (fun _ _ _ h => h) (Or.inl ⟨by rfl, ?_⟩) (by assumption) ?_
        rotate_left
        · (intro W hSw; simp only [List.getElem_toArray, List.getElem_cons_succ, List.getElem_cons_zero]; (try dsimp only at hSw); go_simp; with_reducible rfl)
        simp only [List.getElem_toArray, List.getElem_cons_succ, List.getElem_cons_zero, Act.put, List.setIfInBounds_toArray, List.set_cons_zero, List.set_cons_succ]
        refine wpAnyH_ready (rs := [4, 13]) (by kernel_rfl) (by simp) ?_
        refine AllReadyH.cons rfl (fun K hK => ?_) (AllReadyH.cons rfl (fun K hK => ?_) AllReadyH.nil)
        ·
          (try simp only [List.getElem_toArray, List.getElem_cons_succ, List.getElem_cons_zero])
          go_simp
          refine hK.out _ _ hHeld (fun hHeld => ?_)
          (try simp only [List.getElem_toArray, List.getElem_cons_succ, List.getElem_cons_zero, Act.put, List.setIfInBounds_toArray, List.set_cons_zero, List.set_cons_succ])
          refine wpAnyH_ready (rs := [13]) (by kernel_rfl) (by simp) ?_
          refine AllReadyH.cons rfl (fun K hK => ?_) AllReadyH.nil
          ·
            (try simp only [List.getElem_toArray, List.getElem_cons_succ, List.getElem_cons_zero])
            go_simp
            have b3 := below_alloc w2 (.cells #[.int .u8 ((x : Nat) : Int), .int .u8 ((t : Nat) : Int), .bool y, .bool ox, .int .u8 ot, .slice oa on oc] 47)
            have hKa3 := Lib.hid (hKa.out.next b3 (by omega))
            have M3 := Lib.hid (M2.out.same (fun x o hx _ => by rw [b3.block x (Array.getElem?_eq_some_iff.1 hx).1]; exact hx))
            have Q3 := Lib.hid (Q2.out.below b3)
            have m13 := M3.out.cells.2.1
            have zr3 := M3.out.lt
            clear b3
            refine hK.out _ _ (SK.out _ hKa3.out) (fun hHeld => ?_)
            (try simp only [List.getElem_toArray, List.getElem_cons_succ, List.getElem_cons_zero, Act.put, List.setIfInBounds_toArray, List.set_cons_zero, List.set_cons_succ])
            refine wpAnyH_ready (rs := [14]) (by kernel_rfl) (by simp) ?_
            refine AllReadyH.cons rfl (fun K hK => ?_) AllReadyH.nil
            refine step_appe _ (by rfl) (.tmp 22) (.tmp 31) (by rfl) M3.out (by rfl) _ ⟨x, t, y, ⟨ox, ot, oa, on, oc, oL⟩⟩ (by rfl) (fun j u hj => by rcases j with _ | _ | _ | _ | _ | _ | j <;> (first | (simp [ecl] at hj; subst hj; simp [go_sem]) | (simp [ecl] at hj))) Q3.out (by omega) ?_
            intro A5 c5 w5 hM5 hK5 hL5 d0 df dz
            refine hK.out _ _ (SK.out _ (hKa3.out.trans hK5)) (fun hHeld => ?_)
            (try simp only [List.getElem_toArray, List.getElem_cons_succ, List.getElem_cons_zero, Act.put, List.setIfInBounds_toArray, List.set_cons_zero, List.set_cons_succ])
            refine wpAnyH_take (i := 15) (v := ?_) rfl (by kernel_rfl) (by kernel_rfl) (by kernel_rfl) (fun _ _ _ h => h) (Or.inl ⟨by rfl, ?_⟩) (by assumption) ?_
            rotate_left
            · (intro W hSw; simp only [List.getElem_toArray, List.getElem_cons_succ, List.getElem_cons_zero]; (try dsimp only at hSw); go_simp; with_reducible rfl)
            simp only [List.getElem_toArray, List.getElem_cons_succ, List.getElem_cons_zero, Act.put, List.setIfInBounds_toArray, List.set_cons_zero, List.set_cons_succ]
            refine wpAnyH_take (i := 16) (v := ?_) rfl (by kernel_rfl) (by kernel_rfl) (by kernel_rfl) (fun _ _ _ h => h) (Or.inl ⟨by rfl, ?_⟩) (by assumption) ?_
            rotate_left
            · (intro W hSw; simp only [List.getElem_toArray, List.getElem_cons_succ, List.getElem_cons_zero]; (try dsimp only at hSw); go_simp; with_reducible rfl)
            simp only [List.getElem_toArray, List.getElem_cons_succ, List.getElem_cons_zero, Act.put, List.setIfInBounds_toArray, List.set_cons_zero, List.set_cons_succ]
            refine wpAnyH_ready (rs := [17]) (by kernel_rfl) (by simp) ?_
            refine AllReadyH.cons rfl (fun K hK => ?_) AllReadyH.nil
            (try simp only [List.getElem_toArray, List.getElem_cons_succ, List.getElem_cons_zero])
            go_simp
            refine hK.out _ _ (SK.out _ (hKa3.out.trans hL5)) (fun hHeld => ?_)
            (try simp only [List.getElem_toArray, List.getElem_cons_succ, List.getElem_cons_zero, Act.put, List.setIfInBounds_toArray, List.set_cons_zero, List.set_cons_succ])
            refine wpAnyH_done (by kernel_rfl) ?_ _
            exact RR.out _ (hKa3.out.trans hL5) ⟨ox, ot, oa, on, oc, oL⟩ HV.out _ _ _ _ _ _ hM5
        ·
          (try simp only [List.getElem_toArray, List.getElem_cons_succ, List.getElem_cons_zero])
          go_simp
          have b3 := below_alloc w2 (.cells #[.int .u8 ((x : Nat) : Int), .int .u8 ((t : Nat) : Int), .bool y, .bool ox, .int .u8 ot, .slice oa on oc] 47)
          have hKa3 := Lib.hid (hKa.out.next b3 (by omega))
          have M3 := Lib.hid (M2.out.same (fun x o hx _ => by rw [b3.block x (Array.getElem?_eq_some_iff.1 hx).1]; exact hx))
          have Q3 := Lib.hid (Q2.out.below b3)
          have m13 := M3.out.cells.2.1
          have zr3 := M3.out.lt
          clear b3
          refine hK.out _ _ (SK.out _ hKa3.out) (fun hHeld => ?_)
          (try simp only [List.getElem_toArray, List.getElem_cons_succ, List.getElem_cons_zero, Act.put, List.setIfInBounds_toArray, List.set_cons_zero, List.set_cons_succ])
          refine wpAnyH_ready (rs := [4]) (by kernel_rfl) (by simp) ?_
          refine AllReadyH.cons rfl (fun K hK => ?_) AllReadyH.nil
          ·
            (try simp only [List.getElem_toArray, List.getElem_cons_succ, List.getElem_cons_zero])
            go_simp
            refine hK.out _ _ hHeld (fun hHeld => ?_)
            (try simp only [List.getElem_toArray, List.getElem_cons_succ, List.getElem_cons_zero, Act.put, List.setIfInBounds_toArray, List.set_cons_zero, List.set_cons_succ])
            refine wpAnyH_ready (rs := [14]) (by kernel_rfl) (by simp) ?_
            refine AllReadyH.cons rfl (fun K hK => ?_) AllReadyH.nil
            refine step_appe _ (by rfl) (.tmp 22) (.tmp 31) (by rfl) M3.out (by rfl) _ ⟨x, t, y, ⟨ox, ot, oa, on, oc, oL⟩⟩ (by rfl) (fun j u hj => by rcases j with _ | _ | _ | _ | _ | _ | j <;> (first | (simp [ecl] at hj; subst hj; simp [go_sem]) | (simp [ecl] at hj))) Q3.out (by omega) ?_
            intro A5 c5 w5 hM5 hK5 hL5 d0 df dz
            refine hK.out _ _ (SK.out _ (hKa3.out.trans hK5)) (fun hHeld => ?_)
            (try simp only [List.getElem_toArray, List.getElem_cons_succ, List.getElem_cons_zero, Act.put, List.setIfInBounds_toArray, List.set_cons_zero, List.set_cons_succ])
            refine wpAnyH_take (i := 15) (v := ?_) rfl (by kernel_rfl) (by kernel_rfl) (by kernel_rfl) (fun _ _ _ h => h) (Or.inl ⟨by rfl, ?_⟩) (by assumption) ?_
            rotate_left
            · (intro W hSw; simp only [List.getElem_toArray, List.getElem_cons_succ, List.getElem_cons_zero]; (try dsimp only at hSw); go_simp; with_reducible rfl)
            simp only [List.getElem_toArray, List.getElem_cons_succ, List.getElem_cons_zero, Act.put, List.setIfInBounds_toArray, List.set_cons_zero, List.set_cons_succ]
            refine wpAnyH_take (i := 16) (v := ?_) rfl (by kernel_rfl) (by kernel_rfl) (by kernel_rfl) (fun _ _ _ h => h) (Or.inl ⟨by rfl, ?_⟩) (by assumption) ?_
            rotate_left
            · (intro W hSw; simp only [List.getElem_toArray, List.getElem_cons_succ, List.getElem_cons_zero]; (try dsimp only at hSw); go_simp; with_reducible rfl)
            simp only [List.getElem_toArray, List.getElem_cons_succ, List.getElem_cons_zero, Act.put, List.setIfInBounds_toArray, List.set_cons_zero, List.set_cons_succ]
            refine wpAnyH_ready (rs := [17]) (by kernel_rfl) (by simp) ?_
            refine AllReadyH.cons rfl (fun K hK => ?_) AllReadyH.nil
            (try simp only [List.getElem_toArray, List.getElem_cons_succ, List.getElem_cons_zero])
            go_simp
            refine hK.out _ _ (SK.out _ (hKa3.out.trans hL5)) (fun hHeld => ?_)
            (try simp only [List.getElem_toArray, List.getElem_cons_succ, List.getElem_cons_zero, Act.put, List.setIfInBounds_toArray, List.set_cons_zero, List.set_cons_succ])
            refine wpAnyH_done (by kernel_rfl) ?_ _
            exact RR.out _ (hKa3.out.trans hL5) ⟨ox, ot, oa, on, oc, oL⟩ HV.out _ _ _ _ _ _ hM5
    case done2 =>
      rintro ts W' rfl ⟨⟨hJ2, bX2⟩, hK2⟩
      gi_wp2
      exact ⟨hK2.keeps (by omega), hK2.o, by rw [jnO_snoc, ← List.append_assoc]; exact hJ2, hK1.trans hK2⟩
    case stop2 =>
      rintro c pre' W' _ h
      exact h.elim
  case done =>
    rintro D zs W hD rfl ⟨hJ, hK1⟩ hK
    gi_wp2
    refine ⟨by simp, .inl ⟨_, _, rfl, run_takeDeferred hK, ?_⟩⟩
    have hg := grownBy_putObj' W D (.deferred none)
    have hrow : ∀ q, some D = some q → w.heap.size ≤ q ∧ ∃ o : Obj, W.heap[q]? = some o ∧ o.isCells = false := fun q e => by cases e; exact ⟨by omega, _, hK, rfl⟩
    refine ⟨_, results_none rfl _ _ _, ⟨_, rfl⟩, (mk_own r (fun (_ : Unit) => P) (fun _ => E ++ jnO y (vq ⟨gx, gt, ga, gn, gc, gL⟩) n1 (btz a2)) () _ _ _ hJ.mkk hg (fun q e => (hrow q e).2)), (ka_own (β := Unit) (Nat.le_refl _) (Nat.le_of_lt zr) () _ _ _ hK1 hg hrow)⟩
  case stop =>
    rintro D c pre W _ _ h _
    exact h.elim
end Go.Proofs.YtpnllbojifnopaaGreatDoor
namespace Go.Proofs.YtpnllbojifnopaaGreatDoor
open Go Go.RowKit Pk Rl
set_option maxRecDepth 20000
set_option maxHeartbeats 4000000 in
theorem mul_any (h : Nat) (h8 : h ≤ 8) (w : World) : Calls Tryz.prog 113 #[.int .u64 1, .int .u64 (h : Int)] w fun e w' => e = .returned (.tuple #[.int .u64 0, .int .u64 (h : Int)]) ∧ w = w' := by
  have a0 : bits .and .u64 (0 : Int) 4294967295 = 0 := u64_and_nat 0 4294967295 (by omega) (by omega)
  have a1 : bits .and .u64 (1 : Int) 4294967295 = 1 := u64_and_nat 1 4294967295 (by omega) (by omega)
  have a2 : bits .and .u64 (h : Int) 4294967295 = (h : Int) := by
    have := u64_and_nat h 4294967295 (by omega) (by omega)
    rw [show (4294967295 : Nat) = 2 ^ 32 - 1 from rfl, Nat.and_two_pow_sub_one_eq_mod, Nat.mod_eq_of_lt (by omega)] at this
    exact this
  have d1 : (h : Int) / 4294967296 = 0 := by omega
  have w0 : IntKind.u64.wrap 0 = 0 := by rw [IntKind.wrap_u64]; rfl
  go_enter Tryz.func113, Tryz.ntmps113
  go_wp2
  go_ret2
  exact ⟨by simp, rfl⟩
abbrev snil : Value := .slice none 0 0
def rwv (V : Value) (m T : Nat) : List Value := List.replicate m V ++ List.replicate (T - m) snil
theorem rwv_len (V : Value) (m T : Nat) (h : m ≤ T) : (rwv V m T).length = T := by simp [rwv]; omega
theorem rwv_step (V : Value) (m q T : Nat) (h : m + q ≤ T) : (rwv V m T).take m ++ (List.replicate q V ++ (rwv V m T).drop (m + q)) = rwv V (m + q) T := by
  unfold rwv
  have hl : (List.replicate m V).length = m := by simp
  rw [List.take_append_of_le_length (by omega), List.take_of_length_le (by omega), List.drop_append, List.drop_of_length_le (by omega), List.nil_append, hl, List.drop_replicate, ← List.append_assoc, List.replicate_append_replicate]
  congr 2
  omega
def Rv (w : World) (g : Nat) (V : Value) (m T : Nat) : Prop := w.heap[g]? = some (.cells (rwv V m T).toArray 26 (0, 0))
theorem Rv.start (w : World) (V : Value) (T : Nat) : Rv (w.alloc (.cells (madeCells #[snil] T) 26)) w.heap.size V 0 T := by
  unfold Rv
  rw [heap_alloc_new w _]
  congr 2
  refine Array.ext' ?_
  simp only [rwv, madeCells, List.replicate_zero, List.nil_append, Nat.sub_zero]
  refine List.ext_getElem (by simp) fun j h1 h2 => ?_
  simp [Nat.mod_one]
theorem Rv.cell {w : World} {g : Nat} {V : Value} {m T : Nat} (h : Rv w g V m T) (j : Nat) (hj : j < m) : w.cell? ⟨g, j, none⟩ = some V := by
  rw [cell_of_row w g j _ _ _ h, List.getElem?_toArray]
  unfold rwv
  rw [List.getElem?_append_left (by simpa using hj), List.getElem?_replicate, if_pos hj]
theorem psz1 : (Tryz.prog.info? 26).map (·.size) = some 1 := by kernel_rfl
theorem run_mkp (w : World) (d : Nat) (hd : d ≤ 1000000) : (Instr.makeSlice 178 (.int .i64 (d : Int)) (.int .i64 (d : Int))).run Tryz.prog w = .ok (.slice (some ⟨w.heap.size, 0, none⟩) d d) (w.alloc (.cells (madeCells #[snil] d) 26)) := by
  obtain ⟨i, hi, hz, hs, hy⟩ := infoP
  have := run_make (P := Tryz.prog) w 178 26 i snil Tryz.underlying178 hi hz .i64 .i64 d d (by omega) (by omega) (by rw [hy]; omega) (by omega)
  rw [hs] at this
  simpa [Value.cells] using this
set_option maxHeartbeats 4000000 in
theorem repeat1_any (ad : Addr) (c : Nat) (A0 : Option Addr) (n0 c0 : Nat) (T : Nat) (w : World) (h1 : 1 ≤ T) (h8 : T ≤ 8) (hc : w.cell? ad = some (.slice A0 n0 c0)) :
    Calls Tryz.prog 84 #[.slice (some ad) 1 c, .int .i64 (T : Int)] w fun e w' => e = .returned (.slice (some ⟨w.heap.size, 0, none⟩) T T) ∧ Rv w' w.heap.size (.slice A0 n0 c0) T T ∧ Below w.heap.size w w' := by
  obtain ⟨V, hV⟩ : ∃ V, Value.slice A0 n0 c0 = V := ⟨_, rfl⟩
  have hone : V.oneCell' = true := by rw [← hV]; rfl
  rw [hV] at hc ⊢
  clear hV
  have M := Lib.hid (mul_any T h8)
  have R := run_mkp w T (by omega)
  have T0 := Lib.hid (Rv.start w V T)
  have B0 := Lib.hid (below_alloc w (.cells (madeCells #[snil] T) 26))
  have Z0 : Hid (w.heap.size < (w.alloc (.cells (madeCells #[snil] T) 26)).heap.size) := Lib.hid (by simp)
  generalize w.alloc (.cells (madeCells #[snil] T) 26) = w1 at R T0 B0 Z0
  have HC := Lib.hid ((B0.out.cell (World.block_lt_of_cell? _ _ hc)).trans hc)
  have ON0 : ∀ q, ∀ u ∈ List.replicate q V, u.oneCell' = true := fun q u hu => by rw [(List.mem_replicate.1 hu).2]; exact hone
  clear hc
  go_enter Tryz.func84, Tryz.ntmps84
  go_wp2_with fail
  refine (M.out _).mono ?_
  rintro e w' ⟨rfl, hw⟩
  obtain rfl : w = w' := hw
  have CO := Lib.hid (show (List.replicate 1 V).length = Nat.min 1 T by rw [List.length_replicate]; show 1 = min 1 T; omega)
  have HP1 := Lib.hid (show 0 < (List.replicate 1 V).length → ∃ a, some ad = some a ∧ ∀ j v, (List.replicate 1 V)[j]? = some v → w1.cell? (a.add j) = some v from fun _ => ⟨ad, rfl, fun j v hj => by
    rcases j with _ | j
    · have : ad.add 0 = ad := by obtain ⟨b, off, sp⟩ := ad; cases sp <;> simp [Addr.add]
      rw [this, HC.out]
      simpa using hj
    · simp at hj⟩)
  have SP : Hid (splice (rwv V 0 T) 0 (List.replicate 1 V) = rwv V 1 T) := Lib.hid (by
    have := rwv_step V 0 1 T (by omega)
    rw [Nat.zero_add] at this
    rw [← this]
    simp [splice])
  have HF := Lib.hid (show 0 + (List.replicate 1 V).length ≤ (rwv V 0 T).length by rw [rwv_len V 0 T (by omega)]; simpa using h1)
  have ON := Lib.hid (ON0 1)
  have CL : Hid ((List.replicate 1 V).length = 1) := Lib.hid (by simp)
  have T0' := Lib.hid (show w1.heap[w.heap.size]? = some (.cells (rwv V 0 T).toArray 26 (0, 0)) from T0.out)
  generalize List.replicate 1 V = CS at CO HP1 SP HF ON CL
  generalize rwv V 0 T = CU at SP HF T0'
  have hCL : CS.length = 1 := CL.out
  go_wp2_with ((with_reducible show wpList _ _ _ (Oper.mk (some 33) _ _ _ _ _ :: _) _ _); refine wpList_copy_splice rfl (.tmp 31) (.tmp 32) 178 178 rfl 26 Tryz.underlying178 psz1 _ _ T T 1 c rfl rfl w.heap.size 0 CU 26 T0'.out CS CO.out (fun hp => ⟨rfl, HP1.out hp⟩) HF.out ON.out w.heap.size w B0.out (Nat.le_refl _) ?_; intro w2 hg hb; have G2 := Lib.hid (show Rv w2 w.heap.size V 1 T by have h8 := hg.out; rw [SP.out] at h8; exact h8); have B2 := Lib.hid hb; clear hg hb)
  go_loopw [8] (fun t W => ∃ (m : Nat), 1 ≤ m ∧ m ≤ T ∧ t = .int .i64 m ∧ Hid (Rv W w.heap.size V m T ∧ Below w.heap.size w W)) (fun t _ => T - (intOf t).toNat)
  case atStart => exact ⟨1, Nat.le_refl _, h1, rfl, Lib.hid ⟨G2.out, B2.out⟩⟩
  case round =>
    obtain ⟨m, hm1, hmT, rfl, H⟩ := hrel
    by_cases hlt : m < T
    · obtain ⟨q, hq⟩ : ∃ q, min m (T - m) = q := ⟨_, rfl⟩
      have hq1 : 1 ≤ q := by omega
      have hq2 : m + q ≤ T := by omega
      have CO3 := Lib.hid (show (List.replicate q V).length = Nat.min m (T - m) by rw [List.length_replicate]; show q = min m (T - m); omega)
      have CL3 : Hid ((List.replicate q V).length = q) := Lib.hid (by simp)
      have HP3 := Lib.hid (show 0 < (List.replicate q V).length → ∀ j v, (List.replicate q V)[j]? = some v → wr.cell? ((⟨w.heap.size, 0, none⟩ : Addr).add j) = some v from fun _ j v hj => by
        have hjl : j < q := by have := (List.getElem?_eq_some_iff.1 hj).1; simpa using this
        rw [add_plain, Nat.zero_add, H.out.1.cell j (by omega), ← hj, List.getElem?_replicate, if_pos hjl])
      have SP3 : Hid (splice (rwv V m T) m (List.replicate q V) = rwv V (m + q) T) := Lib.hid (by
        have := rwv_step V m q T hq2
        rw [← this]
        simp only [splice, CL3.out])
      have HF3 := Lib.hid (show m + (List.replicate q V).length ≤ (rwv V m T).length by rw [rwv_len V m T hmT, CL3.out]; omega)
      have ON3 := Lib.hid (ON0 q)
      have T3 := Lib.hid (show wr.heap[w.heap.size]? = some (.cells (rwv V m T).toArray 26 (0, 0)) from H.out.1)
      have BW := Lib.hid H.out.2
      generalize List.replicate q V = CS3 at CO3 HP3 SP3 HF3 ON3 CL3
      generalize rwv V m T = CU3 at SP3 HF3 T3
      have hCL3 : CS3.length = q := CL3.out
      clear H hq
      have RN : ∀ ty, (Builtin.copy_ #[178, 178] ty #[.slice (some ⟨w.heap.size, m, none⟩) (T - m) (T - m), .slice (some ⟨w.heap.size, 0, none⟩) m T]).run Tryz.prog wr.drew = .ok (.int .i64 (q : Int)) (wr.drew.setRow w.heap.size (splice CU3 m CS3).toArray) := fun ty => by
        have := run_copy_row (P := Tryz.prog) wr.drew 178 178 ty 26 w.heap.size m (T - m) (T - m) ⟨w.heap.size, 0, none⟩ m T CU3.toArray 26 CS3 Tryz.underlying178 psz1 T3.out CO3.out (HP3.out (by rw [CL3.out]; omega)) (by have := HF3.out; simpa using this) ON3.out
        rw [this, CL3.out]
        simp [splice, goInt, CL3.out]
      rw [SP3.out] at RN
      have B4 : Hid (Below w.heap.size w (wr.drew.setRow w.heap.size (rwv V (m + q) T).toArray)) := Lib.hid (below_setRow (BW.out.trans (Below.refl _ _).drew) (Nat.le_refl _) _)
      have G4 : Hid (Rv (wr.drew.setRow w.heap.size (rwv V (m + q) T).toArray) w.heap.size V (m + q) T) := Lib.hid (setRow_heap wr.drew w.heap.size _ _ 26 _ T3.out)
      generalize wr.drew.setRow w.heap.size (rwv V (m + q) T).toArray = w4 at RN B4 G4
      clear hCL hCL3 R
      go_wp2_with fail
      go_region
      go_wp2_with fail
      exact ⟨⟨m + q, by omega, hq2, by go_num, Lib.hid ⟨G4.out, B4.out⟩⟩, by simp [intOf]; omega⟩
    · obtain rfl : m = T := by omega
      go_wp2_with fail
      go_ret
      exact ⟨rfl, H.out.1, H.out.2⟩
end Go.Proofs.YtpnllbojifnopaaGreatDoor
namespace Go.Proofs.YtpnllbojifnopaaGreatDoor
open Go Go.RowKit Pk Rl
set_option maxRecDepth 20000
abbrev Res := Nat × Nat × List VQ × List EV
abbrev Res.P (s : Res) : List VQ := s.2.2.1
abbrev Res.E (s : Res) : List EV := s.2.2.2
def eis (f : List Nd → Nat → Res) (n : Nat) (s : Res) (p : List Nd) : Res :=
  (s.1 ||| (f p (n + s.2.2.1.length)).1, s.2.1 ||| (f p (n + s.2.2.1.length)).2.1, s.2.2.1 ++ (f p (n + s.2.2.1.length)).2.2.1, s.2.2.2 ++ (f p (n + s.2.2.1.length)).2.2.2)
def ei (f : List Nd → Nat → Res) (n : Nat) (ps : List (List Nd)) : Res := ps.foldl (eis f n) (0, 0, [], [])
structure Cs where
  fi : Nat
  la : Nat
  af : Nat
  al : Nat
  P : List VQ
  E : List EV
  i : Nat
def cs0 : Cs := ⟨0, 0, 0, 0, [], [], 0⟩
def cst (f : List Nd → Nat → Res) (n : Nat) (y : Bool) (g : VQ) (least : Nat) (s : Cs) (p : List Nd) : Cs :=
  { fi := if s.i = 0 then (f p (n + s.P.length)).1 else s.fi, la := if least ≤ s.i + 1 then s.la ||| (f p (n + s.P.length)).2.1 else s.la, af := (f p (n + s.P.length)).1, al := (f p (n + s.P.length)).2.1,
    P := s.P ++ (f p (n + s.P.length)).2.2.1, E := s.E ++ (f p (n + s.P.length)).2.2.2 ++ jn y g s.al (f p (n + s.P.length)).1, i := s.i + 1 }
def chf (f : List Nd → Nat → Res) (n : Nat) (y : Bool) (g : VQ) (least : Nat) (ps : List (List Nd)) : Cs := ps.foldl (cst f n y g least) cs0
def ch (f : List Nd → Nat → Res) (n : Nat) (y : Bool) (g : VQ) (least : Nat) (ps : List (List Nd)) : Res := ((chf f n y g least ps).fi, (chf f n y g least ps).la, (chf f n y g least ps).P, (chf f n y g least ps).E)
def au : Nat → List Nd → Nat → Res
  | 0, _, _ => (0, 0, [], [])
  | k + 1, l, n => if (l.headD nz).k = 2 then ch (au k) n (l.headD nz).y (vq (l.headD nz).g) (pts l).length (pts l)
    else if (l.headD nz).k = 3 then ei (au k) n (pts l)
    else if (l.headD nz).k = 4 then ch (au k) n (l.headD nz).y (vq (l.headD nz).g) (l.headD nz).lo.toNat (List.replicate (l.headD nz).hi.toNat ((pts l).headD []))
    else (2 ^ n, 2 ^ n, [vq (l.headD nz).p], [])
theorem foldl_snoc {α β : Type} (f : α → β → α) (s : α) (l : List β) (d : β) (i : Nat) (h : i < l.length) : (l.take (i + 1)).foldl f s = f ((l.take i).foldl f s) (l.getD i d) := by
  rw [List.take_succ_eq_append_getElem h, List.foldl_append, List.getD_eq_getElem?_getD, List.getElem?_eq_getElem h]; rfl
theorem foldl_rise {α β : Type} (f : α → β → α) (m : α → Nat) (h : ∀ s b, m s ≤ m (f s b)) (l : List β) : ∀ s, m s ≤ m (l.foldl f s) := by
  induction l with
  | nil => intro s; exact Nat.le_refl _
  | cons b l ih => intro s; exact Nat.le_trans (h s b) (ih (f s b))
theorem foldl_part {α β : Type} (f : α → β → α) (m : α → Nat) (h : ∀ s b, m s ≤ m (f s b)) (l : List β) (s : α) (i : Nat) : m ((l.take i).foldl f s) ≤ m (l.foldl f s) := by
  conv => rhs; rw [← List.take_append_drop i l, List.foldl_append]
  exact foldl_rise f m h _ _
theorem eis_P (f : List Nd → Nat → Res) (n : Nat) (s : Res) (p : List Nd) : s.2.2.1.length ≤ (eis f n s p).2.2.1.length := by unfold eis; simp
theorem eis_E (f : List Nd → Nat → Res) (n : Nat) (s : Res) (p : List Nd) : s.2.2.2.length ≤ (eis f n s p).2.2.2.length := by unfold eis; simp
theorem cst_P (f : List Nd → Nat → Res) (n : Nat) (y : Bool) (g : VQ) (least : Nat) (s : Cs) (p : List Nd) : s.P.length ≤ (cst f n y g least s p).P.length := by unfold cst; simp
theorem cst_E (f : List Nd → Nat → Res) (n : Nat) (y : Bool) (g : VQ) (least : Nat) (s : Cs) (p : List Nd) : s.E.length ≤ (cst f n y g least s p).E.length := by unfold cst; simp
theorem cst_i (f : List Nd → Nat → Res) (n : Nat) (y : Bool) (g : VQ) (least : Nat) (ps : List (List Nd)) : ∀ s : Cs, (ps.foldl (cst f n y g least) s).i = s.i + ps.length := by
  induction ps with
  | nil => intro s; rfl
  | cons p ps ih => intro s; rw [List.foldl_cons, ih]; show s.i + 1 + ps.length = _; simp; omega
def PrT (wb W : World) (A : Option Addr) (ps : List (List Nd)) : Prop := ∃ (g : Nat) (cur : Array Value), A = some ⟨g, 0, none⟩ ∧ W.heap[g]? = some (.cells cur 26 (0, 0)) ∧ ∀ i, i < ps.length → ∃ A' C, cur[i]? = some (.slice A' (ps.getD i []).length C) ∧ Pt wb A' (ps.getD i []).length C (ps.getD i [])
theorem PrT.next {wb W W' : World} {A : Option Addr} {ps : List (List Nd)} (h : PrT wb W A ps) (hb : Below W.heap.size W W') : PrT wb W' A ps := by
  obtain ⟨g, cur, e, hh, k⟩ := h
  exact ⟨g, cur, e, by rw [hb.block g (Array.getElem?_eq_some_iff.1 hh).1]; exact hh, k⟩
theorem PrT.ka {wb W W' : World} {A : Option Addr} {ps : List (List Nd)} {r : Nat} {P : List VQ} {E : List EV} (h : PrT wb W A ps) (hk : Ka r W W') (hM : Mk W r P E) : PrT wb W' A ps := by
  obtain ⟨g, cur, e, hh, k⟩ := h
  refine ⟨g, cur, e, hk.b g _ hh (fun e2 => ?_) (fun _ _ _ e => by injection e with _ e _; rw [← e]; decide), k⟩
  obtain ⟨_, _, _, _, _, _, _, _, hMi, _⟩ := hM
  have := hMi.box
  rw [← e2, hh] at this
  injection this with this
  injection this with _ this _
  revert this
  decide
theorem PrT.eset {wb W : World} {A : Option Addr} {ps : List (List Nd)} (h : PrT wb W A ps) {g a b : Nat} (hg : EB W g a b) (j : Nat) (v : Value) : PrT wb (W.setCell ⟨g, j, none⟩ v) A ps := by
  obtain ⟨g', cur, e, hh, k⟩ := h
  refine ⟨g', cur, e, ?_, k⟩
  rw [heap_setCell_other W ⟨g, j, none⟩ g' v (fun e2 => ?_)]
  · exact hh
  · have e3 : g' = g := e2
    unfold EB at hg
    rw [← e3, hh] at hg
    injection hg with hg
    injection hg with _ hg _
    revert hg
    decide
theorem PrT.at {wb W : World} {A : Option Addr} {ps : List (List Nd)} (h : PrT wb W A ps) (_hne : ps ≠ []) : ∃ g, A = some ⟨g, 0, none⟩ ∧ g < W.heap.size ∧ ∀ i, i < ps.length → ∃ A' C, W.cell? ⟨g, i, none⟩ = some (.slice A' (ps.getD i []).length C) ∧ Pt wb A' (ps.getD i []).length C (ps.getD i []) := by
  obtain ⟨g, cur, e, hh, k⟩ := h
  refine ⟨g, e, (Array.getElem?_eq_some_iff.1 hh).1, fun i hi => ?_⟩
  obtain ⟨A', C, h1, h2⟩ := k i hi
  exact ⟨A', C, by rw [cell_of_row W g i _ _ _ hh]; exact h1, h2⟩
def PtR (r : Nat) (w : World) (s : Res) (P : List VQ) (E : List EV) (e : Ending) (w' : World) : Prop := e = .returned (ev2 s.1 s.2.1) ∧ Mk w' r (P ++ s.2.2.1) (E ++ s.2.2.2) ∧ Ka r w w'
def AC (wb : World) (r : Nat) (f : List Nd → Nat → Res) (p : List Nd) : Prop :=
  ∀ (w : World) (A : Option Addr) (n c : Nat) (P : List VQ) (E : List EV), Mk w r P E → Below wb.heap.size wb w → Pt wb A n c p → P.length + (f p P.length).2.2.1.length ≤ 32 → E.length + (f p P.length).2.2.2.length ≤ 1000000000 →
    Calls Tryz.prog 44 #[.pointer (some ⟨r, 0, none⟩), .slice A n c] w fun e w' => PtR r w (f p P.length) P E e w'
theorem join_any (r : Nat) (nd : Nd) (a1 a2 n1 n2 : Nat) (P : List VQ) (E : List EV) (wb w : World) (h : Mk w r P E) (ha2 : a2 < 4294967296) (hn1 : n1 < 4294967296) (hnd : Nok wb nd) (hT : Tab5 wb) (hwb : Below wb.heap.size wb w) (hrb : wb.heap.size ≤ r) (hE : E.length ≤ 1000000000) :
    Calls Tryz.prog 112 #[.pointer (some ⟨r, 0, none⟩), nOf nd, ev2 a1 a2, ev2 n1 n2] w fun e w' => JnR r w P (E ++ jn nd.y (vq nd.g) a2 n1) e w' :=
  callsIn_wide.1 (join_in r nd a1 a2 n1 n2 P E wb w h ha2 hn1 hnd hT hwb hrb hE)
end Go.Proofs.YtpnllbojifnopaaGreatDoor
