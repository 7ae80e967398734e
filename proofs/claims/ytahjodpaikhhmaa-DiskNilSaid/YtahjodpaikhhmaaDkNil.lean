/- A nil disk: the walk of the statement's function. -/
import Derived.Test.YtahjodpaikhhmaaDkOps
namespace Go.Proofs.Ytahjodpaikhhmaa
open Go Go.RowKit
set_option maxRecDepth 20000

theorem opr_one (w : World) (o : OP) : Opr (w.alloc (.cells (opc o) 35)) (some ⟨w.heap.size, 0, none⟩) [o] := fun i hi => by
  have : i = 0 := by simpa using hi
  subst this
  refine ⟨w.heap.size, 0, rfl, ?_, ?_, ?_, ?_, ?_, ?_, ?_⟩ <;> simp [go_sem]
set_option maxHeartbeats 4000000 in
theorem nil_walk (w : World) (o : OP) (hok : Oko w o) :
    Calls Try.prog 4 #[.agg (opc o)] w fun e w' => e = .returned (.bool true) ∧ Below w.heap.size w w' := by
  have b0 := below_alloc w (.cells (opc o) 35)
  have b1 := below_alloc (w.alloc (.cells (opc o) 35)) (.cells (opc o) 35)
  have C := Lib.hid (cut_any _ (some ⟨(w.alloc (.cells (opc o) 35)).heap.size, 0, none⟩) 1 1 [o] rfl (opr_one (w.alloc (.cells (opc o) 35)) o) (fun i hi => by
    have : i = 0 := by omega
    subst this
    exact ⟨hok.nm, hok.nt, hok.b47, hok.k47⟩) (by omega) (by omega))
  have B1 := Lib.hid (below_go b0 b1)
  have HK := Lib.hid hok
  clear b0 b1 hok
  obtain ⟨q, nm, nt, ba, bn, bc, n, k, ka, kn, kc⟩ := o
  simp only [opc, World.size_alloc] at C
  simp only [opc]
  simp only [opc] at B1
  go_enter Try.func4, Try.ntmps4
  go_wp2_with fail
  refine C.out.mono ?_
  rintro e w1 ⟨j, rfl, hj, -, -, hb⟩
  have B2 := Lib.hid (below_go B1.out hb)
  have cc : ∀ off v, ((w.alloc (.cells #[.int .i64 q, .string nm, .string nt, .slice ba bn bc, .int .i64 n, .int .i64 k, .slice ka kn kc] 35)).alloc (.cells #[.int .i64 q, .string nm, .string nt, .slice ba bn bc, .int .i64 n, .int .i64 k, .slice ka kn kc] 35)).cell? ⟨w.heap.size, off, none⟩ = some v → w1.cell? ⟨w.heap.size, off, none⟩ = some v := fun off v h => (hb.cell (World.block_lt_of_cell? _ _ h)).trans h
  have x1 := cc 1 (.string nm) (by simp [go_sem])
  have x2 := cc 2 (.string nt) (by simp [go_sem])
  have x3 := cc 3 (.slice ba bn bc) (by simp [go_sem])
  have x4 := cc 4 (.int .i64 n) (by simp [go_sem])
  have x5 := cc 5 (.int .i64 k) (by simp [go_sem])
  have x6 := cc 6 (.slice ka kn kc) (by simp [go_sem])
  clear cc hb C B1
  have j2 : j = 0 ∨ j = 1 := by omega
  rcases j2 with rfl | rfl
  · have CF := Lib.hid (fixed_any w1)
    go_wp2_with fail
    refine CF.out.mono ?_
    rintro e w2 ⟨rfl, b2⟩
    have B3 := Lib.hid (below_go B2.out b2)
    clear CF b2
    go_wp2_with fail
    go_ret
    exact ⟨rfl, B3.out⟩
  · go_wp2_with (first
      | (go_at_call 16; refine (fuse_nil _ _ _).mono ?_; rintro e w' ⟨rfl, rfl⟩)
      | (go_at_call 10; refine (crash_nil _).mono ?_; rintro e w' ⟨rfl, rfl⟩)
      | (go_at_call 13; refine (wake_nil _ _).mono ?_; rintro e w' ⟨rfl, rfl⟩)
      | (go_at_call 14; refine (read_nil _ _).mono ?_; rintro e w' ⟨rfl, rfl⟩))
    have CF := Lib.hid (fixed_any w1)
    refine CF.out.mono ?_
    rintro e w2 ⟨rfl, b2⟩
    have y1 := (b2.cell (World.block_lt_of_cell? _ _ x1)).trans x1
    have y2 := (b2.cell (World.block_lt_of_cell? _ _ x2)).trans x2
    have y3 := (b2.cell (World.block_lt_of_cell? _ _ x3)).trans x3
    have y4 := (b2.cell (World.block_lt_of_cell? _ _ x4)).trans x4
    have B3 := Lib.hid (below_go B2.out b2)
    clear CF b2 x1 x2 x3 x4 x5 x6
    go_wp2_with (first
      | (go_at_call 12; refine (append_nil _ _ _).mono ?_; rintro e w' ⟨rfl, rfl⟩)
      | (go_at_call 17; refine (sync_nil _ _).mono ?_; rintro e w' ⟨rfl, rfl⟩)
      | (go_at_call 18; refine (rename_nil _ _ _).mono ?_; rintro e w' ⟨rfl, rfl⟩)
      | (go_at_call 19; refine (truncate_nil _ _ _).mono ?_; rintro e w' ⟨rfl, rfl⟩)
      | (go_at_call 20; refine (delete_nil _ _).mono ?_; rintro e w' ⟨rfl, rfl⟩)
      | (go_at_call 9; refine (list_nil _).mono ?_; rintro e w' ⟨rfl, rfl⟩)
      | (go_at_call 21; refine (used_nil _).mono ?_; rintro e w' ⟨rfl, rfl⟩)
      | (go_at_call 15; refine (safe_nil _ _).mono ?_; rintro e w' ⟨rfl, rfl⟩)
      | (go_at_call 11; refine (up_nil _).mono ?_; rintro e w' ⟨rfl, rfl⟩)
      | (go_at_call 22; refine (falls_nil _).mono ?_; rintro e w' ⟨rfl, rfl⟩))
    go_ret
    exact ⟨rfl, B3.out⟩
end Go.Proofs.Ytahjodpaikhhmaa
