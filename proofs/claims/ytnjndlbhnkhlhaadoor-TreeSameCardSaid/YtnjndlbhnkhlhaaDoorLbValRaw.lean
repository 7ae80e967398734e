/- What statements are handed: a value by its bits. -/
import Derived.Test.YtnjndlbhnkhlhaaDoorLbVal
namespace Go.Proofs.YtnjndlbhnkhlhaaDoor
open Go Go.RowKit Rl
set_option maxRecDepth 20000
abbrev rw4 (k n : Int) (b : Nat) (s : ByteArray) : Value := .agg #[.int .u8 k, .int .i64 n, .int .u64 (b : Int), .string s]
abbrev rcells (k n : Int) (b : Nat) (s : ByteArray) : Obj := .cells #[.int .u8 k, .int .i64 n, .int .u64 (b : Int), .string s] 75
def Rat4 (w : World) (a : Nat) (k n : Int) (b : Nat) (s : ByteArray) : Prop :=
  w.cell? ⟨a, 0, none⟩ = some (.int .u8 k) ∧ w.cell? ⟨a, 1, none⟩ = some (.int .i64 n) ∧ w.cell? ⟨a, 2, none⟩ = some (.int .u64 (b : Int)) ∧ w.cell? ⟨a, 3, none⟩ = some (.string s)

set_option maxHeartbeats 1000000 in
theorem raw_any (k n : Int) (b : Nat) (s : ByteArray) (w : World) :
    Calls Tryd.prog 35 #[rw4 k n b s] w fun e w' => e = .returned (vl k n b s) ∧ Below w.heap.size w w' := by
  have r15 := run15 b
  have sf := run_store_float
  go_enter Tryd.func35, Tryd.ntmps35
  go_wp2_with fail
  go_region
  go_wp2
  exact bodyPost_ret (v := vl k n b s) (by simp [results, Tryd.results35, go_sem]) rfl ⟨rfl, (((Below.refl w.heap.size w).alloc (Nat.le_refl _) _).alloc (by simp) _).drew⟩

theorem Rat4.alloc (w : World) (k n : Int) (b : Nat) (s : ByteArray) : Rat4 (w.alloc (rcells k n b s)) w.heap.size k n b s := by
  refine ⟨?_, ?_, ?_, ?_⟩ <;> simp [go_sem]
theorem Rat4.next {w w' : World} {a : Nat} {k n : Int} {b : Nat} {s : ByteArray} (h : Rat4 w a k n b s) (hb : Below w.heap.size w w') : Rat4 w' a k n b s := by
  obtain ⟨h0, h1, h2, h3⟩ := h
  refine ⟨?_, ?_, ?_, ?_⟩
  · rw [hb.cell (World.block_lt_of_cell? _ _ h0)]; exact h0
  · rw [hb.cell (World.block_lt_of_cell? _ _ h1)]; exact h1
  · rw [hb.cell (World.block_lt_of_cell? _ _ h2)]; exact h2
  · rw [hb.cell (World.block_lt_of_cell? _ _ h3)]; exact h3
end Go.Proofs.YtnjndlbhnkhlhaaDoor
