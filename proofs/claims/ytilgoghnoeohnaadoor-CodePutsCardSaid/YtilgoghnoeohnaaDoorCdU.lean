/- A node's first byte, in so many others: read. -/
import Derived.Test.YtilgoghnoeohnaaDoorCdL
namespace Go.Proofs.YtilgoghnoeohnaaDoor
open Go Go.RowKit Pk Rl
set_option maxRecDepth 20000

set_option maxHeartbeats 2000000 in
theorem kind_ok (b off len cap i : Nat) (k : Int) (y : Bool) (o : Int) (r : Nat) (A2 : Option Addr) (m2 c2 : Nat) (w : World) (h : Rb w r (.slice (some ⟨b, off, none⟩) len cap) (i : Int) (.slice A2 m2 c2)) (hi : i + 1 ≤ len) (hl : len ≤ 100000) (hc : len ≤ cap)
    (hx : w.cell? ⟨b, off + i, none⟩ = some (.int .u8 (if y then k + 16 else k))) (hbr : b ≠ r) (hk : k = 1 ∨ k = 2 ∨ k = 3 ∨ k = 4) (hy : y = true → k = 2 ∨ k = 4) (hm : m2 < 32) (ho : k = 1 ∨ o < 8) :
    Calls Tryd.prog 42 #[.pointer (some ⟨r, 0, none⟩), .int .i64 o] w fun e w' => e = .returned (.tuple #[nOf { nz with k := k, y := y }, .int .i64 0]) ∧ Rb w' r (.slice (some ⟨b, off, none⟩) len cap) ((i + 1 : Nat) : Int) (.slice A2 m2 c2) ∧ Fr r r w w' := by
  obtain ⟨v0, v1, v2⟩ := h.cells
  have zr := h.lt
  have H0 := below_alloc w (nobj nz)
  have BY := Lib.hid (bytes_ok b off len cap 1 i r A2 m2 c2 (w.alloc (nobj nz)) (h.next H0) hi hl hc (by omega) (by omega))
  have zb := World.block_lt_of_cell? _ _ hx
  have HX := Lib.hid (fun w' (k : Fr r r (w.alloc (nobj nz)) w') => And.intro (k.cell ((H0.cell zb).trans hx) hbr hbr) (NB.fr (NB.alloc w nz) k (by omega) (by omega)))
  have HF0 : Hid (Fr r r w (w.alloc (nobj nz))) := Lib.hid (Fr.of_below H0)
  have OF := Lib.hid (fun W => ofFirst_any k y W hk hy)
  have tm : ((m2 : Int) == 32) = false := by simp; omega
  obtain ⟨C, hC⟩ : ∃ C, (if y then k + 16 else k) = C := ⟨_, rfl⟩
  rw [hC] at HX OF
  clear h hx H0 hy hC
  go_enter Tryd.func42, Tryd.ntmps42
  go_wp2_with fail
  refine BY.out.mono ?_
  rintro e w1 ⟨rfl, hR, hF⟩
  obtain ⟨x1, hN⟩ := HX.out w1 hF
  have RR := Lib.hid hR
  have FF := Lib.hid (HF0.out.trans hF)
  have NN := Lib.hid hN
  clear hR hF hN HX BY
  go_wp2_with fail
  refine (OF.out w1).mono ?_
  rintro e w2 ⟨rfl, hb⟩
  have N2 := Lib.hid (NN.out.next hb)
  have R2 := Lib.hid (RR.out.next hb)
  have F2 := Lib.hid (FF.out.next hb)
  clear hb
  have zw := N2.out.lt
  obtain ⟨x0, x1', x2, x3, x4, x5, x6, x7, x8, x9, x10⟩ := N2.out.atn
  simp only [Nat.zero_add] at x0 x1' x2 x3 x4 x5 x6 x7 x8 x9 x10
  have f0 := N2.out.free 0
  have f1 := N2.out.free 1
  have f2 := N2.out.free 2
  have f3 := N2.out.free 3
  have f4 := N2.out.free 4
  have f5 := N2.out.free 5
  have f6 := N2.out.free 6
  have f7 := N2.out.free 7
  have f8 := N2.out.free 8
  have f9 := N2.out.free 9
  have f10 := N2.out.free 10
  have S0 : Hid (Rb w2 r (.slice (some ⟨b, off, none⟩) len cap) ((i + 1 : Nat) : Int) (.slice A2 m2 c2) ∧ Fr r w.heap.size w w2) := Lib.hid ⟨R2.out, F2.out.wide⟩
  have SG : Hid (∀ X, (Rb X r (.slice (some ⟨b, off, none⟩) len cap) ((i + 1 : Nat) : Int) (.slice A2 m2 c2) ∧ Fr r w.heap.size w X) → ∀ j v, Rb (X.setCell ⟨w.heap.size, j, none⟩ v) r (.slice (some ⟨b, off, none⟩) len cap) ((i + 1 : Nat) : Int) (.slice A2 m2 c2) ∧ Fr r w.heap.size w (X.setCell ⟨w.heap.size, j, none⟩ v)) :=
    Lib.hid (fun X hX j v => ⟨hX.1.other _ _ _ (by omega), hX.2.set _ _ _ (.inr rfl)⟩)
  have SF : Hid (∀ X o, (Rb X r (.slice (some ⟨b, off, none⟩) len cap) ((i + 1 : Nat) : Int) (.slice A2 m2 c2) ∧ Fr r w.heap.size w X) → Rb (X.alloc o) r (.slice (some ⟨b, off, none⟩) len cap) ((i + 1 : Nat) : Int) (.slice A2 m2 c2) ∧ Fr r r w (X.alloc o)) :=
    Lib.hid (fun X o hX => ⟨hX.1.next (below_alloc _ _), (hX.2.next (below_alloc _ _)).drop (Nat.le_refl _)⟩)
  clear OF RR FF NN x1
  by_cases h1 : k = 1
  · have e1 : (k != 1) = false := by simp [h1]
    clear ho hk h1
    go_wp2_with fail
    refine bodyPost_ret (v := .tuple #[nOf { nz with k := k, y := y }, .int .i64 0]) (by simp [results, Tryd.results42, go_sem, *]) rfl ⟨rfl, ?_⟩
    refine SF.out _ _ ?_
    iterate 11 (refine SG.out _ ?_ _ _)
    exact S0.out
  · have ho : o < 8 := ho.resolve_left h1
    have e1 : (k != 1) = true := by simp [h1]
    have e2 : decide (8 ≤ o) = false := by simp; omega
    go_wp2_with fail
    refine bodyPost_ret (v := .tuple #[nOf { nz with k := k, y := y }, .int .i64 0]) (by simp [results, Tryd.results42, go_sem, *]) rfl ⟨rfl, ?_⟩
    refine SF.out _ _ ?_
    iterate 11 (refine SG.out _ ?_ _ _)
    exact S0.out
end Go.Proofs.YtilgoghnoeohnaaDoor
