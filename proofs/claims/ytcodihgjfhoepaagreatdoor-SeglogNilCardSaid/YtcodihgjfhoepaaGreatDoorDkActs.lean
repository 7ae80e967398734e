/- Whether a disk is up; a fall; an act counted; a fuse; a name; how much of a file is safe; a new disk. -/
import Derived.Test.YtcodihgjfhoepaaGreatDoorDkMem
import Derived.Handy
import Derived.BigRegion
import Derived.Lib.MinMax
import Derived.Carry
namespace Go.Proofs.YtcodihgjfhoepaaGreatDoor
open Go Go.RowKit
set_option maxRecDepth 20000

theorem up_any {w : World} {d m : Nat} {V : ByteArray → Value} {S : St} (h : Dk w d m V S) :
    Calls Tryz.prog 97 #[ptr d] w fun e w' => e = .returned (.bool S.up) ∧ w = w' := by
  have c2 := h.c2
  clear h
  generalize S.up = u at *
  go_enter Tryz.func97, Tryz.ntmps97
  go_wp2
  go_ret
  exact ⟨rfl, rfl⟩
theorem up_nil (w : World) : Calls Tryz.prog 97 #[.pointer none] w fun e w' => e = .returned (.bool false) ∧ w = w' := by
  go_enter Tryz.func97, Tryz.ntmps97
  go_wp2
  go_ret
  exact ⟨rfl, rfl⟩
theorem crash_nil (w : World) : Calls Tryz.prog 15 #[.pointer none] w fun e w' => e = .returned (.tuple #[]) ∧ w = w' := by
  go_enter Tryz.func15, Tryz.ntmps15
  go_wp2
  go_returns
  exact ⟨rfl, rfl⟩
theorem named_any (s : ByteArray) (w : World) (hs : s.size ≤ maxLen) : Calls Tryz.prog 127 #[.string s] w fun e w' => e = .returned (.bool (named s)) ∧ w = w' := by
  unfold maxLen at hs
  have E : Hid (named s = (decide ((1 : Int) ≤ (s.size : Int)) && decide ((s.size : Int) ≤ 32))) := Lib.hid (by unfold named; congr 1 <;> (rw [decide_eq_decide]; omega))
  by_cases h1 : (1 : Int) ≤ (s.size : Int)
  · by_cases h2 : (s.size : Int) ≤ 32
    · go_enter Tryz.func127, Tryz.ntmps127
      go_wp2
      go_ret
      exact ⟨by rw [E.out]; simp [h1, h2], rfl⟩
    · go_enter Tryz.func127, Tryz.ntmps127
      go_wp2
      go_ret
      exact ⟨by rw [E.out]; simp [h2], rfl⟩
  · go_enter Tryz.func127, Tryz.ntmps127
    go_wp2
    go_ret
    exact ⟨by rw [E.out]; simp; omega, rfl⟩
theorem down_is (S : St) (h : S.up = true) : down S = ⟨S.room, S.fs, false, wrap64 (S.falls + 1), false, 0, 0⟩ := by unfold down; rw [h]; rfl
theorem down_was (S : St) (h : S.up = false) : down S = ⟨S.room, S.fs, false, S.falls, false, 0, 0⟩ := by unfold down; rw [h]; rfl
/- the struct, cell by cell -/
theorem turn_to {w w' : World} {d m : Nat} {V : ByteArray → Value} {S T : St} (h : Dk w d m V S) (hk : Keep (fun x => x = d) w w') (hb : w'.heap[d]? = some (.cells (dcells m T) 83 (0, 0))) (hT : Ok T) (hf : T.fs = S.fs) :
    Dk w' d m V T ∧ Keep (Fp d m V S.fs) w w' := ⟨h.turn hk hb hT hf, hk.wide (fun _ _ e => .inl e)⟩
set_option maxHeartbeats 1000000 in
theorem crash_any {w : World} {d m : Nat} {V : ByteArray → Value} {S : St} (h : Dk w d m V S) :
    Calls Tryz.prog 15 #[ptr d] w fun e w' => e = .returned (.tuple #[]) ∧ Dk w' d m V (down S) ∧ Keep (Fp d m V S.fs) w w' := by
  have c2 := h.c2
  have c3 := h.c3
  have c4 := h.c4
  have c5 := h.c5
  have c6 := h.c6
  have f2 := h.free 2
  have f3 := h.free 3
  have f4 := h.free 4
  have f5 := h.free 5
  have f6 := h.free 6
  have HD := Lib.hid (h.ok.down)
  have H := Lib.hid h
  clear h
  cases hu : S.up with
  | true =>
    have HU := Lib.hid (down_is S hu)
    rw [hu] at c2
    clear hu
    have e1 := block_set w d 3 (.int .i64 (wrap64 (S.falls + 1))) _ _ _ H.out.blk
    have e2 := block_set _ d 2 (.bool false) _ _ _ e1
    have e3 := block_set _ d 4 (.bool false) _ _ _ e2
    have e4 := block_set _ d 5 (.int .i64 0) _ _ _ e3
    have E := Lib.hid (block_set _ d 6 (.int .i64 0) _ _ _ e4)
    clear e1 e2 e3 e4
    generalize S.falls = fl at *
    go_enter Tryz.func15, Tryz.ntmps15
    go_wp2
    go_returns
    refine ⟨rfl, turn_to H.out ?_ ?_ HD.out rfl⟩
    · exact (((((Keep.set (fun x => x = d) w ⟨d, 3, none⟩ _ rfl).tr (Keep.set _ _ ⟨d, 2, none⟩ _ rfl)).tr (Keep.set _ _ ⟨d, 4, none⟩ _ rfl)).tr (Keep.set _ _ ⟨d, 5, none⟩ _ rfl)).tr (Keep.set _ _ ⟨d, 6, none⟩ _ rfl))
    · rw [HU.out]; exact E.out
  | false =>
    have HU := Lib.hid (down_was S hu)
    rw [hu] at c2
    have e2 := block_set w d 2 (.bool false) _ _ _ H.out.blk
    have e3 := block_set _ d 4 (.bool false) _ _ _ e2
    have e4 := block_set _ d 5 (.int .i64 0) _ _ _ e3
    have E := Lib.hid (block_set _ d 6 (.int .i64 0) _ _ _ e4)
    clear e2 e3 e4 hu
    go_enter Tryz.func15, Tryz.ntmps15
    go_wp2
    go_returns
    refine ⟨rfl, turn_to H.out ?_ ?_ HD.out rfl⟩
    · exact ((((Keep.set (fun x => x = d) w ⟨d, 2, none⟩ _ rfl)).tr (Keep.set _ _ ⟨d, 4, none⟩ _ rfl)).tr (Keep.set _ _ ⟨d, 5, none⟩ _ rfl)).tr (Keep.set _ _ ⟨d, 6, none⟩ _ rfl)
    · rw [HU.out]; exact E.out
set_option maxHeartbeats 1000000 in
theorem cuts_any {w : World} {d m : Nat} {V : ByteArray → Value} {S : St} (h : Dk w d m V S) :
    Calls Tryz.prog 114 #[ptr d] w fun e w' => e = .returned (.bool (cutOff S)) ∧ Dk w' d m V (tick S) ∧ Keep (Fp d m V S.fs) w w' := by
  have c4 := h.c4
  have c5 := h.c5
  have f5 := h.free 5
  have HK := Lib.hid h.ok.tick
  have hac := h.ok.acts
  cases hl : S.lit with
  | false =>
    have e1 : cutOff S = false := by unfold cutOff; rw [hl]; rfl
    have e2 : tick S = S := by unfold tick; rw [hl]; rfl
    rw [e1, e2]
    have H := Lib.hid h
    rw [hl] at c4
    clear h e1 e2 hl HK
    go_enter Tryz.func114, Tryz.ntmps114
    go_wp2
    go_ret
    exact ⟨rfl, H.out, Keep.refl _ _⟩
  | true =>
    rw [hl] at c4
    by_cases ha : S.acts = 0
    · have e1 : cutOff S = true := by unfold cutOff; rw [hl, ha]; rfl
      have e2 : tick S = down S := by unfold tick; rw [hl, ha]; rfl
      rw [e1, e2]
      have C := Lib.hid (crash_any h)
      rw [ha] at c5
      clear h e1 e2 hl ha HK hac
      go_enter Tryz.func114, Tryz.ntmps114
      go_wp2_with fail
      refine C.out.mono ?_
      rintro e w1 ⟨rfl, h1, h2⟩
      have H1 := Lib.hid h1
      have H2 := Lib.hid h2
      clear h1 h2 C
      go_wp2_with fail
      go_ret
      exact ⟨rfl, H1.out, H2.out⟩
    · have e1 : cutOff S = false := by unfold cutOff; rw [hl]; simp [ha]
      have e2 : tick S = ⟨S.room, S.fs, S.up, S.falls, true, S.acts - 1, S.part⟩ := by unfold tick; rw [hl]; simp [ha]
      rw [e1]
      have H := Lib.hid h
      have E2 := Lib.hid e2
      have E3 := Lib.hid (show ((S.acts : Int) - 1) = ((S.acts - 1 : Nat) : Int) by omega)
      have EL := Lib.hid hl
      have hp : (0 : Int) < (S.acts : Int) := by omega
      have hq : (S.acts : Int) ≤ 9223372036854775807 := by omega
      have E := Lib.hid (block_set w d 5 (.int .i64 ((S.acts : Int) - 1)) _ _ _ h.blk)
      clear h e1 e2 hl ha hac
      go_enter Tryz.func114, Tryz.ntmps114
      go_wp2_with fail
      go_ret
      refine ⟨rfl, turn_to H.out (Keep.set (fun x => x = d) w ⟨d, 5, none⟩ _ rfl) ?_ HK.out (tick_fs S)⟩
      rw [E2.out, E.out, E3.out]
      simp [dcells, EL.out]
set_option maxHeartbeats 1000000 in
theorem begin_any {w : World} {d m : Nat} {V : ByteArray → Value} {S : St} (h : Dk w d m V S) :
    Calls Tryz.prog 105 #[ptr d] w fun e w' => e = .returned (.bool (goes S)) ∧ Dk w' d m V (begun S) ∧ Keep (Fp d m V S.fs) w w' := by
  have C := Lib.hid (up_any h)
  have C2 := Lib.hid (cuts_any h)
  cases hu : S.up with
  | false =>
    have e1 : goes S = false := by unfold goes; rw [hu]; rfl
    have e2 : begun S = S := by unfold begun; rw [hu]; rfl
    rw [e1, e2]
    have H := Lib.hid h
    rw [hu] at C
    clear h e1 e2 hu C2
    go_enter Tryz.func105, Tryz.ntmps105
    go_wp2_with fail
    refine C.out.mono ?_
    rintro e w1 ⟨rfl, rfl⟩
    go_wp2_with fail
    go_ret
    exact ⟨rfl, H.out, Keep.refl _ _⟩
  | true =>
    have e1 : goes S = !cutOff S := by unfold goes; rw [hu]; rfl
    have e2 : begun S = tick S := by unfold begun; rw [hu]; rfl
    rw [e1, e2]
    rw [hu] at C
    clear h e1 e2 hu
    generalize cutOff S = b at *
    go_enter Tryz.func105, Tryz.ntmps105
    go_wp2_with fail
    refine C.out.mono ?_
    rintro e w1 ⟨rfl, rfl⟩
    clear C
    go_wp2_with fail
    refine C2.out.mono ?_
    rintro e w2 ⟨rfl, h1, h2⟩
    have H1 := Lib.hid h1
    have H2 := Lib.hid h2
    clear h1 h2 C2
    go_wp2_with fail
    go_ret
    exact ⟨rfl, H1.out, H2.out⟩
theorem begin_nil (w : World) : Calls Tryz.prog 105 #[.pointer none] w fun e w' => e = .returned (.bool false) ∧ w = w' := by
  have C := Lib.hid (up_nil w)
  go_enter Tryz.func105, Tryz.ntmps105
  go_wp2_with fail
  refine C.out.mono ?_
  rintro e w1 ⟨rfl, rfl⟩
  go_wp2_with fail
  go_ret
  exact ⟨rfl, rfl⟩
theorem fuse_nil (n k : Int) (w : World) : Calls Tryz.prog 19 #[.pointer none, .int .i64 n, .int .i64 k] w fun e w' => e = .returned (.tuple #[]) ∧ w = w' := by
  go_enter Tryz.func19, Tryz.ntmps19
  go_wp2
  go_returns
  exact ⟨rfl, rfl⟩
set_option maxHeartbeats 1000000 in
theorem fuse_any {w : World} {d m : Nat} {V : ByteArray → Value} {S : St} (h : Dk w d m V S) (n k : Int) (hn : n ≤ 9223372036854775807) (hk : k ≤ 9223372036854775807) :
    Calls Tryz.prog 19 #[ptr d, .int .i64 n, .int .i64 k] w fun e w' => e = .returned (.tuple #[]) ∧ Dk w' d m V (lighted S n k) ∧ Keep (Fp d m V S.fs) w w' := by
  have c4 := h.c4
  have c5 := h.c5
  have c6 := h.c6
  have f4 := h.free 4
  have f5 := h.free 5
  have f6 := h.free 6
  have HD := Lib.hid (h.ok.lighted n k (by omega) (by omega))
  have H := Lib.hid h
  have e3 := block_set _ d 4 (.bool true) _ _ _ h.blk
  have e4 := block_set _ d 5 (.int .i64 (max n 0)) _ _ _ e3
  have E := Lib.hid (block_set _ d 6 (.int .i64 (max k 0)) _ _ _ e4)
  have E1 := Lib.hid (show max n 0 = (((max n 0).toNat : Nat) : Int) by omega)
  have E2 := Lib.hid (show max k 0 = (((max k 0).toNat : Nat) : Int) by omega)
  clear h e3 e4
  go_enter Tryz.func19, Tryz.ntmps19
  go_wp2_with fail
  go_returns
  refine ⟨rfl, turn_to H.out ?_ ?_ HD.out rfl⟩
  · exact ((Keep.set (fun x => x = d) w ⟨d, 4, none⟩ _ rfl).tr (Keep.set _ _ ⟨d, 5, none⟩ _ rfl)).tr (Keep.set _ _ ⟨d, 6, none⟩ _ rfl)
  · rw [E.out, E1.out, E2.out]
    simp [dcells, lighted]
theorem safe_nil (s : ByteArray) (w : World) : Calls Tryz.prog 109 #[.pointer none, .string s] w fun e w' => e = .returned (.int .i64 0) ∧ w = w' := by
  go_enter Tryz.func109, Tryz.ntmps109
  go_wp2
  go_ret
  exact ⟨rfl, rfl⟩
theorem field_safe (x : Value) (n : Int) (w : World) : (Instr.field 87 (.agg #[x, .int .i64 n]) 1).run Tryz.prog w = .ok (.int .i64 n) w := by kernel_rfl
theorem safe_any {w : World} {d m : Nat} {V : ByteArray → Value} {S : St} (h : Dk w d m V S) (s : ByteArray) (f : Fl) (hf : fnd S.fs s = some f) (hs : s.size ≤ maxLen) :
    Calls Tryz.prog 109 #[ptr d, .string s] w fun e w' => e = .returned (.int .i64 (f.sf : Int)) ∧ w = w' := by
  have c1 := h.c1
  have L := h.mp.look1 hs
  rw [tell_some hf] at L
  simp only [Option.getD_some] at L
  have hfs := field_safe (V s) (f.sf : Int)
  clear h hf
  generalize V s = v at *
  generalize f.sf = n at *
  go_enter Tryz.func109, Tryz.ntmps109
  go_wp2
  go_ret
  exact ⟨rfl, rfl⟩
def St0 (room : Nat) : St := ⟨room, [], true, 0, false, 0, 0⟩
theorem St0_ok (room : Nat) (h : room ≤ 16777216) : Ok (St0 room) := ⟨List.Pairwise.nil, h, by show (0 : Nat) ≤ _; omega, by show 0 ≤ 256; omega, fun f hf => (by cases hf), by show 0 < _; omega, by show 0 < _; omega⟩
set_option maxHeartbeats 1000000 in
theorem new_any (w : World) (room : Nat) (hr : room ≤ 16777216) :
    Calls Tryz.prog 27 #[.int .i64 (room : Int)] w fun e w' => e = .returned (.tuple #[ptr (w.heap.size + 1), .int .i64 0]) ∧ Dk w' (w.heap.size + 1) w.heap.size (fun _ => .slice none 0 0) (St0 room) ∧ Below w.heap.size w w' := by
  have hr0 : (0 : Int) ≤ (room : Int) := by omega
  have hr1 : (room : Int) ≤ 16777216 := by omega
  have hmm := @run_makeMap Tryz.prog
  have hD : Dk ((w.alloc (.map #[] 0)).alloc (.cells (dcells w.heap.size (St0 room)) 83)) (w.heap.size + 1) w.heap.size (fun _ => .slice none 0 0) (St0 room) := by
    refine ⟨?_, ?_, fun f hf => (by cases hf), fun f hf => (by cases hf), St0_ok room hr⟩
    · have := heap_alloc_new (w.alloc (.map #[] 0)) (.cells (dcells w.heap.size (St0 room)) 83)
      rwa [World.size_alloc] at this
    · exact (Mp.new w).same (Below.heap_alloc _ _ _ (by simp))
  have HD := Lib.hid hD
  clear hr hD
  go_enter Tryz.func27, Tryz.ntmps27
  go_wp2
  go_ret2
  exact ⟨by simp, HD.out, ((Below.refl _ _).alloc (Nat.le_refl _) _).alloc (by simp) _⟩
end Go.Proofs.YtcodihgjfhoepaaGreatDoor
