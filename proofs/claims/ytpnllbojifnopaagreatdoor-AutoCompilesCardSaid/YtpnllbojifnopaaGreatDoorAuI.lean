/- The function that is ranged over: the places of a set, rising. -/
import Derived.Test.YtpnllbojifnopaaGreatDoorAuT
import Derived.RangeFuncBound
import Derived.Shelf.RegionOpen
import Derived.Lib.Hide
import Derived.OpenShut
namespace Go.Proofs.YtpnllbojifnopaaGreatDoor
open Go Go.RowKit Go.Shelf
attribute [local go_sem] Oper.semAt_some
set_option maxRecDepth 20000

set_option maxHeartbeats 4000000 in
theorem places1_in (n : Nat) (hn : 1 ≤ n) (l Bn B : Nat) (s : Nat) (hs : s < 4294967296) (J Jx : List Nat → World → Prop)
    (hY : ∀ pre x W, J pre W → pre.length < (btz s).length → YieldAt Fence.wide (n - 1) Tryz.prog l #[.int .u8 ((x : Nat) : Int)] W fun e W' =>
      (e = .returned (.bool true) ∧ J (pre ++ [x]) W' ∧ Below B W W') ∨ (e = .returned (.bool false) ∧ Jx (pre ++ [x]) W'))
    (W : World) (hBn : W.cell? ⟨Bn, 0, none⟩ = some (.int .u32 (s : Int))) (hT : Tab5 W) (hB : 2 < B) (h0 : J [] W) :
    CallsIn Fence.wide n Tryz.prog 154 #[.func (.yield l) #[] #[], .pointer (some ⟨Bn, 0, none⟩)] W fun e W' => (∃ v, e = .returned v) ∧
      ((∃ ys, ys = btz s ∧ J ys W') ∨ (∃ pre, pre <+: btz s ∧ Jx pre W')) := by
  refine callsIn_of_wp Tryz.func154 rfl trivial ?_ rfl
  simp only [Tryz.ntmps154, List.size_toArray, List.length_cons, List.length_nil, Nat.reduceAdd, Nat.reduceSub, Array.replicate_succ, Array.replicate_zero, List.push_toArray, List.append_toArray, List.nil_append, List.cons_append]
  gi_wp2
  gi_loopw [3] (fun p wr => ∃ (pre : List Nat) (x : Nat), p = .int .u32 (x : Int) ∧ x ≤ s ∧ btz s = pre ++ btz x ∧ Tab5 wr ∧ J pre wr)
    (fun p _ => (intOf p).toNat)
  case atStart =>
    exact ⟨[], s, rfl, Nat.le_refl _, rfl, hT, h0⟩
  case round =>
    obtain ⟨pre, x, rfl, hxs, hx, hTr, hJs⟩ := hrel
    by_cases hx0 : x = 0
    · subst hx0
      gi_wp2
      go_end0
      exact ⟨⟨_, rfl⟩, .inl ⟨pre, by rw [hx, btz_zero, List.append_nil], hJs⟩⟩
    · have hx1 : ((x : Int) != 0) = true := by simp; omega
      have hb := btz_cons x hx0 (by omega)
      have hk := (lw_split x hx0 (by omega)).choose_spec.2
      have hw8 : IntKind.u8.wrap ((lw x : Nat) : Int) = ((lw x : Nat) : Int) := by rw [IntKind.wrap_u8]; omega
      have TZ := Lib.hid (tz_any x wr hx0 (by omega) hTr)
      obtain ⟨fn, tmps, assign, body, hy, hR⟩ := hY pre (lw x) wr hJs (by rw [hx, hb]; simp)
      have hand : bits BinOp.and IntKind.u32 (x : Int) ((x - 1 : Nat) : Int) = ((x &&& (x - 1) : Nat) : Int) := u32_and_nat x _ (by omega) (by omega)
      have hsub : (x : Int) - 1 = ((x - 1 : Nat) : Int) := by omega
      gi_wp2_with (refine ⟨trivial, ?_⟩; gi_at_call 155; refine (callsIn_wide.2 TZ.out).mono ?_; rintro e w' ⟨rfl, rfl⟩)
      refine hR.mono ?_
      have hlt := low_lt x hx0
      rintro e W3 (⟨rfl, hJ3, hk3⟩ | ⟨rfl, hJx3⟩)
      · have hT3 := hTr.belowB hk3 hB
        clear TZ hy hR hTr hJs
        gi_wp2
        go_roundw
        case rel => exact ⟨pre ++ [lw x], x &&& (x - 1), by simp, by omega, by rw [hx, hb]; simp, hT3, hJ3⟩
        case measure => simp [intOf]; omega
      · clear TZ hy hR hTr hJs
        gi_wp2
        refine bodyPost_ret (results_none rfl _ _ _) rfl ?_
        exact ⟨⟨_, rfl⟩, .inr ⟨pre ++ [lw x], ⟨btz (x &&& (x - 1)), by rw [hx, hb]; simp⟩, hJx3⟩⟩
/- what ranges over a set's places may ask of them -/
theorem places_stops (n : Nat) (hn : 1 ≤ n) (Bn B : Nat) (s : Nat) (hs : s < 4294967296) (w : World) (hBn : Bn < w.heap.size) (hc : w.cell? ⟨Bn, 0, none⟩ = some (.int .u32 (s : Int))) (hT : Tab5 w) (hB : 2 < B) :
    SeqStopsK Fence.wide n Tryz.prog 154 #[.pointer (some ⟨Bn, 0, none⟩)] (fun x : Nat => #[Value.int .u8 ((x : Nat) : Int)]) (Below B) (fun ys => ys = btz s) (fun pre => pre <+: btz s) (btz s).length w := fun l J Jx W hW _ _ hY h0 =>
  places1_in n hn l Bn B s hs J Jx hY W ((hW.cell (p := ⟨Bn, 0, none⟩) hBn).trans hc) (hT.below hW) hB h0
theorem places_in (n : Nat) (s : Int) (w : World) :
    CallsIn Fence.wide n Tryz.prog 136 #[.int .u32 s] w fun e w' => e = .returned (.func (.func 154) #[] #[.pointer (some ⟨w.heap.size, 0, none⟩)]) ∧ w' = w.alloc (.cells #[.int .u32 s] 33) := by
  refine callsIn_of_wp Tryz.func136 rfl trivial ?_ rfl
  simp only [Tryz.ntmps136, List.size_toArray, List.length_cons, List.length_nil, Nat.reduceAdd, Nat.reduceSub, Array.replicate_succ, Array.replicate_zero, List.push_toArray, List.append_toArray, List.nil_append, List.cons_append]
  gi_wp2
  go_ret
  exact ⟨rfl, rfl⟩
end Go.Proofs.YtpnllbojifnopaaGreatDoor
