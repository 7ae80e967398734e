/- The chapter's example. -/
import Derived.Test.YtahjodpaikhhmaaDkWake
import Derived.Lib.SmallJoins
namespace Go.Proofs.Ytahjodpaikhhmaa
open Go Go.RowKit
set_option maxRecDepth 20000

/- a disk all of whose blocks lie from B on -/
structure Db (B : Nat) (w : World) (d m : Nat) (V : ByteArray → Value) (S : St) : Prop where
  dk : Dk w d m V S
  from_ : ∀ k, Fp d m V S.fs k → B ≤ k
section
variable {B : Nat} {w w' : World} {d m : Nat} {V V' : ByteArray → Value} {S T : St}
theorem Db.below (h : Db B w d m V S) (hb : Below w.heap.size w w') : Db B w' d m V S := ⟨h.dk.below hb, h.from_⟩
theorem Db.step (h : Db B w d m V S) (h' : Dk w' d m V' T) (hB : B ≤ w.heap.size) (hm : ∀ x, Fp d m V' T.fs x → Fp d m V S.fs x ∨ w.heap.size ≤ x) : Db B w' d m V' T :=
  ⟨h', fun k hk => by
    rcases hm k hk with e | e
    · exact h.from_ k e
    · omega⟩
theorem Db.acted {n : Nat} {e : Ending} (h : Db B w d m V S) (hB : B ≤ w.heap.size) (ha : Acted w d m V S n T e w') : e = .returned (.int .i64 (n : Int)) ∧ ∃ V', Db B w' d m V' T ∧ Below B w w' ∧ Keep (Fp d m V S.fs) w w' ∧ ∀ x, Fp d m V' T.fs x → Fp d m V S.fs x ∨ w.heap.size ≤ x := by
  obtain ⟨e1, V', h1, h2, h3⟩ := ha
  exact ⟨e1, V', h.step h1 hB h3, h2.below h.from_ hB, h2, h3⟩
theorem Db.woken {e : Ending} (h : Db B w d m V S) (hB : B ≤ w.heap.size) (ha : Woken w d m V S T e w') : e = .returned (.tuple #[]) ∧ ∃ V', Db B w' d m V' T ∧ Below B w w' ∧ Keep (Fp d m V S.fs) w w' ∧ ∀ x, Fp d m V' T.fs x → Fp d m V S.fs x ∨ w.heap.size ≤ x := by
  obtain ⟨e1, V', h1, h2, h3⟩ := ha
  exact ⟨e1, V', h.step h1 hB h3, h2.below h.from_ hB, h2, h3⟩
theorem new_b (w : World) (room : Nat) (hr : room ≤ 16777216) : Calls Try.prog 6 #[.int .i64 (room : Int)] w fun e w' => ∃ d m V, e = .returned (.tuple #[ptr d, .int .i64 0]) ∧ Db w.heap.size w' d m V (St0 room) ∧ Below w.heap.size w w' := by
  refine (new_any w room hr).mono ?_
  rintro e w' ⟨rfl, h1, h2⟩
  exact ⟨_, _, _, rfl, ⟨h1, fun k hk => by
    rcases hk with e | e | ⟨f, hf, _⟩
    · omega
    · omega
    · cases hf⟩, h2⟩
end
def nmA : ByteArray := ⟨#[97]⟩
def exS : St := woke (down (appS (St0 10) nmA [120, 121])) [1]
theorem ex_file : fnd exS.fs nmA = some ⟨nmA, [120], 1⟩ := by rfl
theorem ex_up : exS.up = true := by rfl
theorem nmA_size : nmA.size ≤ maxLen := by unfold maxLen; decide
theorem byt2 (w : World) (x y : Int) (hx : 0 ≤ x ∧ x < 256) (hy : 0 ≤ y ∧ y < 256) : Byt (w.alloc (.cells #[.int .u8 x, .int .u8 y] 5 (2, 3))) (some ⟨w.heap.size, 0, none⟩) [x, y] := by
  refine ⟨fun i hi => ⟨w.heap.size, 0, rfl, ?_⟩, fun c hc => ?_⟩
  · have : i = 0 ∨ i = 1 := by simp at hi; omega
    rcases this with rfl | rfl
    · exact World.cell?_alloc_mark w _ _ _ 0
    · exact World.cell?_alloc_mark w _ _ _ 1
  · simp only [List.mem_cons, List.not_mem_nil, or_false] at hc
    rcases hc with rfl | rfl
    · exact hx
    · exact hy
theorem ints1 (w : World) (x : Int) : Ints (w.alloc (.cells #[.int .i64 x] 3)) (some ⟨w.heap.size, 0, none⟩) [x] := fun i hi => by
  have : i = 0 := by simpa using hi
  subst this
  exact ⟨w.heap.size, 0, rfl, by simp [go_sem]⟩
theorem str120 : strOfNums [120] = ⟨#[120]⟩ := by rfl
set_option maxHeartbeats 2000000 in
theorem fixed_any (w : World) : Calls Try.prog 5 #[] w fun e w' => e = .returned (.bool true) ∧ Below w.heap.size w w' := by
  have C := Lib.hid (new_b w 10 (by omega))
  have hcv := fun (w : World) (C : Array Value) (n c : Nat) => Lib.run_convert_bytes_const (P := Try.prog) w 33 5 C n c Try.underlying33 Try.underlying5
  go_enter Try.func5, Try.ntmps5
  go_wp2_with fail
  refine C.out.mono ?_
  rintro e w1 ⟨d, m, V, rfl, h1, h2⟩
  have D1 := h1.below (below_alloc w1 (.cells #[.int .u8 120, .int .u8 121] 5 (2, 3)))
  have hfar : ∀ x, (some (⟨w1.heap.size, 0, none⟩ : Addr)) = some x → ¬ Fp d m V (St0 10).fs x.block := fun x e f => by
    injection e with e
    subst e
    have := h1.dk.lt _ f
    simp only at this
    omega
  have C1 := Lib.hid (append_any D1.dk nmA nmA_size (some ⟨w1.heap.size, 0, none⟩) 2 2 [120, 121] rfl (byt2 w1 120 121 (by omega) (by omega)) (by intro e; cases e) hfar (by omega) (by omega))
  have HD1 := Lib.hid D1
  have b1 := below_go h2 (below_alloc w1 (.cells #[.int .u8 120, .int .u8 121] 5 (2, 3)))
  have B1 := Lib.hid b1
  clear h1 h2 C D1 hfar b1
  go_wp2_with fail
  refine C1.out.mono ?_
  intro e w2 hA
  obtain ⟨rfl, V2, d2, b2, -, -⟩ := HD1.out.acted B1.out.size hA
  have C2 := Lib.hid (crash_any d2.dk)
  have HD2 := Lib.hid d2
  have B2 := Lib.hid (B1.out.trans b2)
  clear hA d2 b2 C1 HD1 B1 hcv
  go_wp2_with fail
  refine C2.out.mono ?_
  rintro e w3 ⟨rfl, d3, k3⟩
  have D3 := HD2.out.step d3 B2.out.size (fun x hx => .inl hx)
  have b3 := B2.out.trans (k3.below HD2.out.from_ B2.out.size)
  have D3' := D3.below (below_alloc w3 (.cells #[.int .i64 1] 3))
  have b3' := below_go b3 (below_alloc w3 (.cells #[.int .i64 1] 3))
  have C3 := Lib.hid (wake_any D3'.dk (some ⟨w3.heap.size, 0, none⟩) 1 1 [1] rfl (ints1 w3 1) (fun x e => by
    injection e with e
    subst e
    refine ⟨fun f => ?_, by simp⟩
    have := D3.dk.lt _ f
    simp only at this
    omega) (by omega))
  have HD3 := Lib.hid D3'
  have B3 := Lib.hid b3'
  clear d3 k3 D3 b3 D3' b3' C2 HD2 B2
  go_wp2_with fail
  refine C3.out.mono ?_
  intro e w4 hA
  obtain ⟨rfl, V4, d4, b4, -, -⟩ := HD3.out.woken B3.out.size hA
  have C4 := Lib.hid (read_some (S := exS) d4.dk nmA nmA_size ex_up ⟨nmA, [120], 1⟩ ex_file)
  have HD4 := Lib.hid (show Db w.heap.size w4 d m V4 exS from d4)
  have B4 := Lib.hid (B3.out.trans b4)
  clear hA d4 b4 C3 HD3 B3
  go_wp2_with fail
  refine C4.out.mono ?_
  rintro e w5 ⟨A5, c5, rfl, o5, b5⟩
  have o5' : Own w5 w4.heap.size (.slice A5 1 c5) [120] := o5
  have ST := o5'.str (by simp) rfl
  rw [str120] at ST
  have D5 := HD4.out.below b5
  have C5 := Lib.hid (up_any D5.dk)
  rw [ex_up] at C5
  have B5 := Lib.hid (below_go B4.out b5)
  clear o5 o5' b5 D5 C4 HD4 B4
  simp only [List.length_cons, List.length_nil, Nat.zero_add]
  go_wp2_with fail
  refine C5.out.mono ?_
  rintro e w6 ⟨rfl, rfl⟩
  clear C5
  go_wp2_with fail
  go_ret
  exact ⟨rfl, B5.out⟩
end Go.Proofs.Ytahjodpaikhhmaa
