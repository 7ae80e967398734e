/- A question: read. -/
import Derived.Test.YtilgoghnoeohnaaDoorCdI
namespace Go.Proofs.YtilgoghnoeohnaaDoor
open Go Go.RowKit Pk Rl
set_option maxRecDepth 20000

theorem q_tail {w F : World} {r : Nat} {S N : Value} {i : Int} {A : Option Addr} {k c : Nat} {L : List TT} (hr : r < w.heap.size) (h : Rb F r S i N) (ho : OwnT F (w.heap.size + 1) (.slice A k c) L) (hb : Below w.heap.size w F) (j : Int) (u y z : Value) :
    OwnT ((((F.setCell ⟨r, 1, none⟩ (.int .i64 j)).setCell ⟨w.heap.size, 0, none⟩ u).setCell ⟨w.heap.size, 1, none⟩ y).setCell ⟨w.heap.size, 2, none⟩ z) w.heap.size (.slice A k c) L ∧
    Rb ((((F.setCell ⟨r, 1, none⟩ (.int .i64 j)).setCell ⟨w.heap.size, 0, none⟩ u).setCell ⟨w.heap.size, 1, none⟩ y).setCell ⟨w.heap.size, 2, none⟩ z) r S j N ∧
    Fr r r w ((((F.setCell ⟨r, 1, none⟩ (.int .i64 j)).setCell ⟨w.heap.size, 0, none⟩ u).setCell ⟨w.heap.size, 1, none⟩ y).setCell ⟨w.heap.size, 2, none⟩ z) :=
  ⟨((((ho.setCell r 1 (by omega) _).setCell w.heap.size 0 (by omega) u).setCell w.heap.size 1 (by omega) y).setCell w.heap.size 2 (by omega) z).mono (by omega),
   (((h.to j).other _ _ _ (by omega)).other _ _ _ (by omega)).other _ _ _ (by omega),
   ((((((Fr.of_below hb : Fr r w.heap.size w F).set r 1 _ (.inl rfl)).set w.heap.size 0 u (.inr rfl)).set w.heap.size 1 y (.inr rfl)).set w.heap.size 2 z (.inr rfl))).drop (Nat.le_refl _)⟩
set_option maxHeartbeats 2000000 in
theorem question_ok (b off len cap ee : Nat) (l z : List Int) (q : Qu) (r : Nat) (A2 : Option Addr) (m2 c2 : Nat) (w : World) (h : Rb w r (.slice (some ⟨b, off, none⟩) len cap) (l.length : Int) (.slice A2 m2 c2)) (hee : (l ++ wpd q.x q.t q.L).length = ee) (hlen : (l ++ (wpd q.x q.t q.L ++ z)).length = len) (hl : len ≤ 100000) (hc : len ≤ cap)
    (hb : Byt w (some ⟨b, off, none⟩) (l ++ (wpd q.x q.t q.L ++ z))) (hk : ∀ v ∈ q.L, Okt v) (hT : Tab w) (hm : pmay q.x q.t q.L = true) :
    Calls Tryd.prog 44 #[.pointer (some ⟨r, 0, none⟩)] w fun e w' => ∃ A k c, e = .returned (.tuple #[pv q.x q.t A k c, .int .i64 0]) ∧ (q.L.map nt).length = k ∧ OwnT w' w.heap.size (.slice A k c) (q.L.map nt) ∧ Rb w' r (.slice (some ⟨b, off, none⟩) len cap) (ee : Int) (.slice A2 m2 c2) ∧ Fr r r w w' := by
  obtain ⟨v0, v1, v2⟩ := h.cells
  have f1 := h.free 1
  have zr := h.lt
  have HH := Lib.hid h
  have PG := Lib.hid (fun X (hX : Below w.heap.size w X) => pgetz_ok b off len cap ee l z q.x q.t q.L.length q.L X hee hlen hl hc (hb.below hX) rfl hk (hT.below hX) hm)
  obtain ⟨n, hn⟩ : ∃ n, l.length = n := ⟨_, rfl⟩
  rw [hn] at v1 PG
  obtain ⟨L2, hL2⟩ : ∃ L2, q.L.map nt = L2 := ⟨_, rfl⟩
  rw [hL2] at PG ⊢
  clear h hb hT hk hee hlen hn
  go_enter Tryd.func44, Tryd.ntmps44
  go_upto_region 1 with fail
  have ZZ : Hid (w.heap.size ≤ w.heap.size) := Lib.hid (Nat.le_refl _)
  have kS0 : (∀ a j, a < w.heap.size → ((w.alloc (pcells false 0 none 0 0)).drew).cell? ⟨a, j, none⟩ = w.cell? ⟨a, j, none⟩) ∧ Hid (Below w.heap.size w ((w.alloc (pcells false 0 none 0 0)).drew) ∧ w.heap.size ≤ ((w.alloc (pcells false 0 none 0 0)).drew).heap.size) := mkS (below_go (Below.refl _ _) (below_alloc w _)).drew (below_alloc w (pcells false 0 none 0 0)).size
  go_region_held3 (fun W => (∀ a j, a < w.heap.size → W.cell? ⟨a, j, none⟩ = w.cell? ⟨a, j, none⟩) ∧ Hid (Below w.heap.size w W ∧ w.heap.size ≤ W.heap.size))
    (first
      | (with_reducible assumption)
      | (with_reducible apply sCall; assumption; assumption)
      | (refine mkS ?_ ?_ <;> repeat' (first
          | (with_reducible apply sB; assumption)
          | (with_reducible apply sZ; assumption)
          | (with_reducible refine Below.alloc ?_ ?_ _)
          | (with_reducible refine Below.drew ?_)
          | (with_reducible refine Below.setCell ?_ (Nat.le_add_right _ _) _)
          | (rw [World.size_setCell])
          | (rw [World.size_alloc])
          | (rw [World.size_drew])
          | (with_reducible exact Below.refl _ _)
          | (with_reducible exact ZZ.out)
          | (with_reducible refine Nat.le_add_right_of_le ?_)
          | (dsimp only))))
    (first
      | (go_at_call 62; (with_reducible refine Calls.mono (PG.out _ (sB (by assumption))) ?_); rintro e wa ⟨Ap, kp, cp, rfl, hkp, hop, hbp⟩; have KA := Lib.hid hkp; have kA := sCall hbp (by assumption);
          (first
            | (have OA : Hid (OwnT wa (w.heap.size + 1 + 1) (.slice Ap kp cp) L2) := Lib.hid (hop.mono (by simp [World.size_alloc, World.size_drew]))
               have P1 : Pdb wa (w.heap.size + 1) false 0 none 0 0 := Pdb.next (by (have := Pdb.alloc ((w.alloc (pcells false 0 none 0 0)).drew) false 0 none 0 0; rw [World.size_drew, World.size_alloc] at this; exact this)) hbp
               have RB : Hid (Pdb wa w.heap.size false 0 none 0 0) := Lib.hid (Pdb.next (Pdb.next (show Pdb ((w.alloc (pcells false 0 none 0 0)).drew) w.heap.size false 0 none 0 0 from Pdb.alloc w false 0 none 0 0) (below_alloc _ _)) hbp)
               obtain ⟨y0, y1, y2⟩ := P1.pdt
               have g0 := P1.free 0
               have g1 := P1.free 1
               have g2 := P1.free 2
               have P1 := Lib.hid P1)
            | (have OA : Hid (OwnT wa (w.heap.size + 1) (.slice Ap kp cp) L2) := Lib.hid (hop.mono (by simp [World.size_alloc, World.size_drew]))
               have RB : Hid (Pdb wa w.heap.size false 0 none 0 0) := Lib.hid (Pdb.next (show Pdb ((w.alloc (pcells false 0 none 0 0)).drew) w.heap.size false 0 none 0 0 from Pdb.alloc w false 0 none 0 0) hbp)));
          clear hop hkp hbp))
  · obtain ⟨r0, r1, r2⟩ := RB.out.pdt
    have f0 := RB.out.free 0
    have f1' := RB.out.free 1
    have f2' := RB.out.free 2
    have zw := RB.out.lt
    have RA := Lib.hid (HH.out.next kA.2.out.1)
    have f3 := RA.out.free 1
    have z3 := RA.out.lt
    go_wp2_with fail
    have TT := q_tail zr RA.out OA.out kA.2.out.1 ee (.bool q.x) (.int .u8 q.t) (.slice Ap kp cp)
    exact bodyPost_ret (v := .tuple #[pv q.x q.t Ap kp cp, .int .i64 0]) (by simp [results, Tryd.results44, go_sem, *]) rfl ⟨Ap, kp, cp, rfl, KA.out, TT.1.below (below_alloc _ _), TT.2.1.next (below_alloc _ _), TT.2.2.next (below_alloc _ _)⟩
  · obtain ⟨r0, r1, r2⟩ := RB.out.pdt
    have f0 := RB.out.free 0
    have f1' := RB.out.free 1
    have f2' := RB.out.free 2
    have zw := RB.out.lt
    have zp := P1.out.lt
    have RA := Lib.hid (HH.out.next kA.2.out.1)
    have f3 := RA.out.free 1
    have z3 := RA.out.lt
    go_wp2_with fail
    have TT := q_tail zr (((RA.out.other (w.heap.size + 1) 0 (.bool q.x) (by omega)).other (w.heap.size + 1) 1 (.int .u8 q.t) (by omega)).other (w.heap.size + 1) 2 (.slice Ap kp cp) (by omega)) ((((OA.out.setCell (w.heap.size + 1) 0 (by omega) (.bool q.x)).setCell (w.heap.size + 1) 1 (by omega) (.int .u8 q.t)).setCell (w.heap.size + 1) 2 (by omega) (.slice Ap kp cp)).mono (by omega)) (((kA.2.out.1.setCell (p := ⟨w.heap.size + 1, 0, none⟩) (Nat.le_add_right _ _) (.bool q.x)).setCell (p := ⟨w.heap.size + 1, 1, none⟩) (Nat.le_add_right _ _) (.int .u8 q.t)).setCell (p := ⟨w.heap.size + 1, 2, none⟩) (Nat.le_add_right _ _) (.slice Ap kp cp)) ee (.bool q.x) (.int .u8 q.t) (.slice Ap kp cp)
    exact bodyPost_ret (v := .tuple #[pv q.x q.t Ap kp cp, .int .i64 0]) (by simp [results, Tryd.results44, go_sem, *]) rfl ⟨Ap, kp, cp, rfl, KA.out, TT.1, TT.2⟩
end Go.Proofs.YtilgoghnoeohnaaDoor
