/- A part of a node, so many times. -/
import Derived.Test.YtpnllbojifnopaaGreatDoorAuA
import Derived.Laws.BitsAllLaws
import Derived.Maps.AppendAt
import Derived.Laws.CopyOwn
import Derived.Deep.RegionLaw
import Derived.BigRegion
namespace Go.Proofs.YtpnllbojifnopaaGreatDoor
open Go Go.RowKit Pk Rl
set_option maxRecDepth 20000

set_option maxHeartbeats 4000000 in
theorem mul_any (h : Nat) (h8 : h ≤ 8) (w : World) : Calls Tryz.prog 113 #[.int .u64 1, .int .u64 (h : Int)] w fun e w' => e = .returned (.tuple #[.int .u64 0, .int .u64 (h : Int)]) ∧ w = w' := by
  have a0 : bits .and .u64 (0 : Int) 4294967295 = 0 := u64_and_nat 0 4294967295 (by omega) (by omega)
  have a1 : bits .and .u64 (1 : Int) 4294967295 = 1 := u64_and_nat 1 4294967295 (by omega) (by omega)
  have a2 : bits .and .u64 (h : Int) 4294967295 = (h : Int) := by
    have := u64_and_nat h 4294967295 (by omega) (by omega)
    rw [show (4294967295 : Nat) = 2 ^ 32 - 1 from rfl, Nat.and_two_pow_sub_one_eq_mod, Nat.mod_eq_of_lt (by omega)] at this
    exact this
  have d1 : (h : Int) / 4294967296 = 0 := by omega
  have w0 : IntKind.u64.wrap 0 = 0 := by rw [IntKind.wrap_u64]; rfl
  go_enter Tryz.func113, Tryz.ntmps113
  go_wp2
  go_ret2
  exact ⟨by simp, rfl⟩
abbrev snil : Value := .slice none 0 0
def rwv (V : Value) (m T : Nat) : List Value := List.replicate m V ++ List.replicate (T - m) snil
theorem rwv_len (V : Value) (m T : Nat) (h : m ≤ T) : (rwv V m T).length = T := by simp [rwv]; omega
theorem rwv_step (V : Value) (m q T : Nat) (h : m + q ≤ T) : (rwv V m T).take m ++ (List.replicate q V ++ (rwv V m T).drop (m + q)) = rwv V (m + q) T := by
  unfold rwv
  have hl : (List.replicate m V).length = m := by simp
  rw [List.take_append_of_le_length (by omega), List.take_of_length_le (by omega), List.drop_append, List.drop_of_length_le (by omega), List.nil_append, hl, List.drop_replicate, ← List.append_assoc, List.replicate_append_replicate]
  congr 2
  omega
def Rv (w : World) (g : Nat) (V : Value) (m T : Nat) : Prop := w.heap[g]? = some (.cells (rwv V m T).toArray 26 (0, 0))
theorem Rv.start (w : World) (V : Value) (T : Nat) : Rv (w.alloc (.cells (madeCells #[snil] T) 26)) w.heap.size V 0 T := by
  unfold Rv
  rw [heap_alloc_new w _]
  congr 2
  refine Array.ext' ?_
  simp only [rwv, madeCells, List.replicate_zero, List.nil_append, Nat.sub_zero]
  refine List.ext_getElem (by simp) fun j h1 h2 => ?_
  simp [Nat.mod_one]
theorem Rv.cell {w : World} {g : Nat} {V : Value} {m T : Nat} (h : Rv w g V m T) (j : Nat) (hj : j < m) : w.cell? ⟨g, j, none⟩ = some V := by
  rw [cell_of_row w g j _ _ _ h, List.getElem?_toArray]
  unfold rwv
  rw [List.getElem?_append_left (by simpa using hj), List.getElem?_replicate, if_pos hj]
theorem psz1 : (Tryz.prog.info? 26).map (·.size) = some 1 := by kernel_rfl
theorem run_mkp (w : World) (d : Nat) (hd : d ≤ 1000000) : (Instr.makeSlice 178 (.int .i64 (d : Int)) (.int .i64 (d : Int))).run Tryz.prog w = .ok (.slice (some ⟨w.heap.size, 0, none⟩) d d) (w.alloc (.cells (madeCells #[snil] d) 26)) := by
  obtain ⟨i, hi, hz, hs, hy⟩ := infoP
  have := run_make (P := Tryz.prog) w 178 26 i snil Tryz.underlying178 hi hz .i64 .i64 d d (by omega) (by omega) (by rw [hy]; omega) (by omega)
  rw [hs] at this
  simpa [Value.cells] using this
set_option maxHeartbeats 4000000 in
theorem repeat1_any (ad : Addr) (c : Nat) (A0 : Option Addr) (n0 c0 : Nat) (T : Nat) (w : World) (h1 : 1 ≤ T) (h8 : T ≤ 8) (hc : w.cell? ad = some (.slice A0 n0 c0)) :
    Calls Tryz.prog 84 #[.slice (some ad) 1 c, .int .i64 (T : Int)] w fun e w' => e = .returned (.slice (some ⟨w.heap.size, 0, none⟩) T T) ∧ Rv w' w.heap.size (.slice A0 n0 c0) T T ∧ Below w.heap.size w w' := by
  obtain ⟨V, hV⟩ : ∃ V, Value.slice A0 n0 c0 = V := ⟨_, rfl⟩
  have hone : V.oneCell' = true := by rw [← hV]; rfl
  rw [hV] at hc ⊢
  clear hV
  have M := Lib.hid (mul_any T h8)
  have R := run_mkp w T (by omega)
  have T0 := Lib.hid (Rv.start w V T)
  have B0 := Lib.hid (below_alloc w (.cells (madeCells #[snil] T) 26))
  have Z0 : Hid (w.heap.size < (w.alloc (.cells (madeCells #[snil] T) 26)).heap.size) := Lib.hid (by simp)
  generalize w.alloc (.cells (madeCells #[snil] T) 26) = w1 at R T0 B0 Z0
  have HC := Lib.hid ((B0.out.cell (World.block_lt_of_cell? _ _ hc)).trans hc)
  have ON0 : ∀ q, ∀ u ∈ List.replicate q V, u.oneCell' = true := fun q u hu => by rw [(List.mem_replicate.1 hu).2]; exact hone
  clear hc
  go_enter Tryz.func84, Tryz.ntmps84
  go_wp2_with fail
  refine (M.out _).mono ?_
  rintro e w' ⟨rfl, hw⟩
  obtain rfl : w = w' := hw
  have CO := Lib.hid (show (List.replicate 1 V).length = Nat.min 1 T by rw [List.length_replicate]; show 1 = min 1 T; omega)
  have HP1 := Lib.hid (show 0 < (List.replicate 1 V).length → ∃ a, some ad = some a ∧ ∀ j v, (List.replicate 1 V)[j]? = some v → w1.cell? (a.add j) = some v from fun _ => ⟨ad, rfl, fun j v hj => by
    rcases j with _ | j
    · have : ad.add 0 = ad := by obtain ⟨b, off, sp⟩ := ad; cases sp <;> simp [Addr.add]
      rw [this, HC.out]
      simpa using hj
    · simp at hj⟩)
  have SP : Hid (splice (rwv V 0 T) 0 (List.replicate 1 V) = rwv V 1 T) := Lib.hid (by
    have := rwv_step V 0 1 T (by omega)
    rw [Nat.zero_add] at this
    rw [← this]
    simp [splice])
  have HF := Lib.hid (show 0 + (List.replicate 1 V).length ≤ (rwv V 0 T).length by rw [rwv_len V 0 T (by omega)]; simpa using h1)
  have ON := Lib.hid (ON0 1)
  have CL : Hid ((List.replicate 1 V).length = 1) := Lib.hid (by simp)
  have T0' := Lib.hid (show w1.heap[w.heap.size]? = some (.cells (rwv V 0 T).toArray 26 (0, 0)) from T0.out)
  generalize List.replicate 1 V = CS at CO HP1 SP HF ON CL
  generalize rwv V 0 T = CU at SP HF T0'
  have hCL : CS.length = 1 := CL.out
  go_wp2_with ((with_reducible show wpList _ _ _ (Oper.mk (some 33) _ _ _ _ _ :: _) _ _); refine wpList_copy_splice rfl (.tmp 31) (.tmp 32) 178 178 rfl 26 Tryz.underlying178 psz1 _ _ T T 1 c rfl rfl w.heap.size 0 CU 26 T0'.out CS CO.out (fun hp => ⟨rfl, HP1.out hp⟩) HF.out ON.out w.heap.size w B0.out (Nat.le_refl _) ?_; intro w2 hg hb; have G2 := Lib.hid (show Rv w2 w.heap.size V 1 T by have h8 := hg.out; rw [SP.out] at h8; exact h8); have B2 := Lib.hid hb; clear hg hb)
  go_loopw [8] (fun t W => ∃ (m : Nat), 1 ≤ m ∧ m ≤ T ∧ t = .int .i64 m ∧ Hid (Rv W w.heap.size V m T ∧ Below w.heap.size w W)) (fun t _ => T - (intOf t).toNat)
  case atStart => exact ⟨1, Nat.le_refl _, h1, rfl, Lib.hid ⟨G2.out, B2.out⟩⟩
  case round =>
    obtain ⟨m, hm1, hmT, rfl, H⟩ := hrel
    by_cases hlt : m < T
    · obtain ⟨q, hq⟩ : ∃ q, min m (T - m) = q := ⟨_, rfl⟩
      have hq1 : 1 ≤ q := by omega
      have hq2 : m + q ≤ T := by omega
      have CO3 := Lib.hid (show (List.replicate q V).length = Nat.min m (T - m) by rw [List.length_replicate]; show q = min m (T - m); omega)
      have CL3 : Hid ((List.replicate q V).length = q) := Lib.hid (by simp)
      have HP3 := Lib.hid (show 0 < (List.replicate q V).length → ∀ j v, (List.replicate q V)[j]? = some v → wr.cell? ((⟨w.heap.size, 0, none⟩ : Addr).add j) = some v from fun _ j v hj => by
        have hjl : j < q := by have := (List.getElem?_eq_some_iff.1 hj).1; simpa using this
        rw [add_plain, Nat.zero_add, H.out.1.cell j (by omega), ← hj, List.getElem?_replicate, if_pos hjl])
      have SP3 : Hid (splice (rwv V m T) m (List.replicate q V) = rwv V (m + q) T) := Lib.hid (by
        have := rwv_step V m q T hq2
        rw [← this]
        simp only [splice, CL3.out])
      have HF3 := Lib.hid (show m + (List.replicate q V).length ≤ (rwv V m T).length by rw [rwv_len V m T hmT, CL3.out]; omega)
      have ON3 := Lib.hid (ON0 q)
      have T3 := Lib.hid (show wr.heap[w.heap.size]? = some (.cells (rwv V m T).toArray 26 (0, 0)) from H.out.1)
      have BW := Lib.hid H.out.2
      generalize List.replicate q V = CS3 at CO3 HP3 SP3 HF3 ON3 CL3
      generalize rwv V m T = CU3 at SP3 HF3 T3
      have hCL3 : CS3.length = q := CL3.out
      clear H hq
      have RN : ∀ ty, (Builtin.copy_ #[178, 178] ty #[.slice (some ⟨w.heap.size, m, none⟩) (T - m) (T - m), .slice (some ⟨w.heap.size, 0, none⟩) m T]).run Tryz.prog wr.drew = .ok (.int .i64 (q : Int)) (wr.drew.setRow w.heap.size (splice CU3 m CS3).toArray) := fun ty => by
        have := run_copy_row (P := Tryz.prog) wr.drew 178 178 ty 26 w.heap.size m (T - m) (T - m) ⟨w.heap.size, 0, none⟩ m T CU3.toArray 26 CS3 Tryz.underlying178 psz1 T3.out CO3.out (HP3.out (by rw [CL3.out]; omega)) (by have := HF3.out; simpa using this) ON3.out
        rw [this, CL3.out]
        simp [splice, goInt, CL3.out]
      rw [SP3.out] at RN
      have B4 : Hid (Below w.heap.size w (wr.drew.setRow w.heap.size (rwv V (m + q) T).toArray)) := Lib.hid (below_setRow (BW.out.trans (Below.refl _ _).drew) (Nat.le_refl _) _)
      have G4 : Hid (Rv (wr.drew.setRow w.heap.size (rwv V (m + q) T).toArray) w.heap.size V (m + q) T) := Lib.hid (setRow_heap wr.drew w.heap.size _ _ 26 _ T3.out)
      generalize wr.drew.setRow w.heap.size (rwv V (m + q) T).toArray = w4 at RN B4 G4
      clear hCL hCL3 R
      go_wp2_with fail
      go_region
      go_wp2_with fail
      exact ⟨⟨m + q, by omega, hq2, by go_num, Lib.hid ⟨G4.out, B4.out⟩⟩, by simp [intOf]; omega⟩
    · obtain rfl : m = T := by omega
      go_wp2_with fail
      go_ret
      exact ⟨rfl, H.out.1, H.out.2⟩
end Go.Proofs.YtpnllbojifnopaaGreatDoor
