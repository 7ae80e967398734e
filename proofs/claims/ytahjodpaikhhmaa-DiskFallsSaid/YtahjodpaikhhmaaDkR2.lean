/- The document's with: a file in the place of another one of its name. -/
import Derived.Test.YtahjodpaikhhmaaDkR1
import Derived.Deep.RegionHeld3
namespace Go.Proofs.Ytahjodpaikhhmaa
open Go Go.RowKit
set_option maxRecDepth 20000

theorem st7 {W : World} {g : Nat} {T : TypeId} {a0 a1 a2 a3 a4 a5 a6 : Value} (h : W.heap[g]? = some (.cells #[a0, a1, a2, a3, a4, a5, a6] T (0, 0))) (v0 v1 v2 v3 v4 v5 v6 : Value) :
    (((((((W.setCell ⟨g, 0, none⟩ v0).setCell ⟨g, 1, none⟩ v1).setCell ⟨g, 2, none⟩ v2).setCell ⟨g, 3, none⟩ v3).setCell ⟨g, 4, none⟩ v4).setCell ⟨g, 5, none⟩ v5).setCell ⟨g, 6, none⟩ v6).heap[g]? = some (.cells #[v0, v1, v2, v3, v4, v5, v6] T (0, 0)) := by
  have h0 := block_set _ g 0 v0 _ _ _ h
  rw [show (#[a0, a1, a2, a3, a4, a5, a6] : Array Value).setIfInBounds 0 v0 = #[v0, a1, a2, a3, a4, a5, a6] from rfl] at h0
  have h1 := block_set _ g 1 v1 _ _ _ h0
  rw [show (#[v0, a1, a2, a3, a4, a5, a6] : Array Value).setIfInBounds 1 v1 = #[v0, v1, a2, a3, a4, a5, a6] from rfl] at h1
  have h2 := block_set _ g 2 v2 _ _ _ h1
  rw [show (#[v0, v1, a2, a3, a4, a5, a6] : Array Value).setIfInBounds 2 v2 = #[v0, v1, v2, a3, a4, a5, a6] from rfl] at h2
  have h3 := block_set _ g 3 v3 _ _ _ h2
  rw [show (#[v0, v1, v2, a3, a4, a5, a6] : Array Value).setIfInBounds 3 v3 = #[v0, v1, v2, v3, a4, a5, a6] from rfl] at h3
  have h4 := block_set _ g 4 v4 _ _ _ h3
  rw [show (#[v0, v1, v2, v3, a4, a5, a6] : Array Value).setIfInBounds 4 v4 = #[v0, v1, v2, v3, v4, a5, a6] from rfl] at h4
  have h5 := block_set _ g 5 v5 _ _ _ h4
  rw [show (#[v0, v1, v2, v3, v4, a5, a6] : Array Value).setIfInBounds 5 v5 = #[v0, v1, v2, v3, v4, v5, a6] from rfl] at h5
  have h6 := block_set _ g 6 v6 _ _ _ h5
  rw [show (#[v0, v1, v2, v3, v4, v5, a6] : Array Value).setIfInBounds 6 v6 = #[v0, v1, v2, v3, v4, v5, v6] from rfl] at h6
  exact h6
theorem st7_off (W : World) (g : Nat) (v0 v1 v2 v3 v4 v5 v6 : Value) (k : Nat) (hk : k ≠ g) :
    (((((((W.setCell ⟨g, 0, none⟩ v0).setCell ⟨g, 1, none⟩ v1).setCell ⟨g, 2, none⟩ v2).setCell ⟨g, 3, none⟩ v3).setCell ⟨g, 4, none⟩ v4).setCell ⟨g, 5, none⟩ v5).setCell ⟨g, 6, none⟩ v6).heap[k]? = W.heap[k]? := by
  simp only [heap_setCell_other _ ⟨g, _, none⟩ k _ hk]
theorem st7_below {w W : World} {B : Nat} (h : Below B w W) (g : Nat) (v0 v1 v2 v3 v4 v5 v6 : Value) (hg : B ≤ g) :
    Below B w (((((((W.setCell ⟨g, 0, none⟩ v0).setCell ⟨g, 1, none⟩ v1).setCell ⟨g, 2, none⟩ v2).setCell ⟨g, 3, none⟩ v3).setCell ⟨g, 4, none⟩ v4).setCell ⟨g, 5, none⟩ v5).setCell ⟨g, 6, none⟩ v6) :=
  ((((((h.setCell (p := ⟨g, 0, none⟩) hg v0).setCell (p := ⟨g, 1, none⟩) hg v1).setCell (p := ⟨g, 2, none⟩) hg v2).setCell (p := ⟨g, 3, none⟩) hg v3).setCell (p := ⟨g, 4, none⟩) hg v4).setCell (p := ⟨g, 5, none⟩) hg v5).setCell (p := ⟨g, 6, none⟩) hg v6
theorem st7_size (W : World) (g : Nat) (v0 v1 v2 v3 v4 v5 v6 : Value) :
    (((((((W.setCell ⟨g, 0, none⟩ v0).setCell ⟨g, 1, none⟩ v1).setCell ⟨g, 2, none⟩ v2).setCell ⟨g, 3, none⟩ v3).setCell ⟨g, 4, none⟩ v4).setCell ⟨g, 5, none⟩ v5).setCell ⟨g, 6, none⟩ v6).heap.size = W.heap.size := by simp
theorem OwnF.same {w w' : World} {B : Nat} {v : Value} {L : List RF} (h : OwnF w B v L) (hb : ∀ k, B ≤ k → k < w.heap.size → w'.heap[k]? = w.heap[k]?) : OwnF w' B v L := by
  have hlt := World.ownsRow.lt h
  refine ⟨h.1, ?_⟩
  rcases h.2 with h0 | ⟨g0, cap, cur, rfl, hg, hh, r⟩
  · exact .inl h0
  · exact .inr ⟨g0, cap, cur, rfl, hg, by rw [hb g0 hg (hlt g0 rfl).2]; exact hh, r⟩
structure Three (W : World) (g : Nat) (R : Int) (A : Option Addr) (n c : Nat) (dn : Bool) (fl : Int) (lt : Bool) (ac pt : Int) (r : RF) : Prop where
  b0 : W.heap[g]? = some (rc R A n c dn fl lt ac pt)
  b1 : W.heap[g + 1]? = some (.cells #[.string r.f.nm, .slice r.A r.f.bs.length r.c, .int .i64 (r.f.sf : Int)] 43)
  b2 : W.heap[g + 1 + 1]? = some rc0
theorem Three.below {W W' : World} {g : Nat} {R : Int} {A : Option Addr} {n c : Nat} {dn : Bool} {fl : Int} {lt : Bool} {ac pt : Int} {r : RF} {B : Nat} (h : Three W g R A n c dn fl lt ac pt r) (hb : Below B W W') (hB : g + 1 + 1 < B) : Three W' g R A n c dn fl lt ac pt r :=
  ⟨(hb.block g (by omega)).trans h.b0, (hb.block (g + 1) (by omega)).trans h.b1, (hb.block (g + 1 + 1) hB).trans h.b2⟩
theorem three_start (w : World) (R : Int) (A : Option Addr) (n c : Nat) (dn : Bool) (fl : Int) (lt : Bool) (ac pt : Int) (r : RF) : Three (((w.alloc (rc R A n c dn fl lt ac pt)).alloc (.cells #[.string r.f.nm, .slice r.A r.f.bs.length r.c, .int .i64 (r.f.sf : Int)] 43)).alloc rc0) w.heap.size R A n c dn fl lt ac pt r := by
  refine ⟨?_, ?_, ?_⟩
  · rw [Below.heap_alloc _ _ _ (by simp; omega), Below.heap_alloc _ _ _ (by simp)]
    exact heap_alloc_new w _
  · rw [Below.heap_alloc _ _ _ (by simp)]
    have := heap_alloc_new (w.alloc (rc R A n c dn fl lt ac pt)) (.cells #[.string r.f.nm, .slice r.A r.f.bs.length r.c, .int .i64 (r.f.sf : Int)] 43)
    rwa [World.size_alloc] at this
  · have := heap_alloc_new ((w.alloc (rc R A n c dn fl lt ac pt)).alloc (.cells #[.string r.f.nm, .slice r.A r.f.bs.length r.c, .int .i64 (r.f.sf : Int)] 43)) rc0
    rwa [World.size_alloc, World.size_alloc] at this
def rrest (r : RF) (M : List RF) (dn : Bool) (i : Nat) : List RF := if dn then M.drop i else rins r (M.drop i)
theorem drop_getR (M : List RF) (i : Nat) (hi : i < M.length) : M.drop i = M.getD i rz :: M.drop (i + 1) := by
  rw [List.drop_eq_getElem_cons hi, List.getD_eq_getElem?_getD, List.getElem?_eq_getElem hi]; rfl
theorem rrest_done (r : RF) (M : List RF) (i : Nat) (hi : i < M.length) : rrest r M true i = [M.getD i rz] ++ rrest r M true (i + 1) := by unfold rrest; simp only [if_true]; rw [drop_getR M i hi]; rfl
theorem rrest_here (r : RF) (M : List RF) (i : Nat) (hi : i < M.length) (h : nl r.f.nm < nl (M.getD i rz).f.nm) : rrest r M false i = ([r] ++ [M.getD i rz]) ++ rrest r M true (i + 1) := by
  unfold rrest; simp only [Bool.false_eq_true, if_false, if_true]; rw [drop_getR M i hi]; unfold rins; rw [if_pos h]; rfl
theorem rrest_later (r : RF) (M : List RF) (i : Nat) (hi : i < M.length) (h : ¬ nl r.f.nm < nl (M.getD i rz).f.nm) : rrest r M false i = [M.getD i rz] ++ rrest r M false (i + 1) := by
  unfold rrest; simp only [Bool.false_eq_true, if_false]; rw [drop_getR M i hi]; conv => lhs; unfold rins
  rw [if_neg h]; rfl
theorem less_is (a b : ByteArray) : Op.bytesLess a.toList b.toList = decide (nl a < nl b) := by rw [bytesLess_is, ByteArray.toList_eq, ByteArray.toList_eq]
set_option maxHeartbeats 4000000 in
theorem rwith_any (w : World) (R : Int) (A : Option Addr) (n c : Nat) (dn : Bool) (fl : Int) (lt : Bool) (ac pt : Int) (L : List RF) (r : RF) (hl : L.length = n) (hf : Fls w A L) (hn : n ≤ 1000) :
    Calls Try.prog 43 #[rv R A n c dn fl lt ac pt, .agg #[.string r.f.nm, .slice r.A r.f.bs.length r.c, .int .i64 (r.f.sf : Int)]] w (RRow w R dn fl lt ac pt (rwi L r)) := by
  have b0 := below_go (below_alloc w (rc R A n c dn fl lt ac pt)) (below_alloc (w.alloc (rc R A n c dn fl lt ac pt)) (.cells #[.string r.f.nm, .slice r.A r.f.bs.length r.c, .int .i64 (r.f.sf : Int)] 43))
  have b1 := below_go b0 (below_alloc _ rc0)
  have T0 := three_start w R A n c dn fl lt ac pt r
  have C := Lib.hid (rwithout_any _ R A n c dn fl lt ac pt L r.f.nm hl (hf.below b1) hn)
  have HT := Lib.hid T0
  have B1 := Lib.hid b1
  have HM := Lib.hid (show (rwo L r.f.nm).length ≤ n from by rw [← hl]; exact rwo_len L r.f.nm)
  have HE := Lib.hid (show rwi L r = rins r (rwo L r.f.nm) from rfl)
  generalize rwo L r.f.nm = M at *
  generalize rwi L r = WI at *
  clear hl hf b0 b1 T0
  go_enter Try.func43, Try.ntmps43
  go_wp2_with fail
  refine C.out.mono ?_
  rintro e w1 ⟨A1, n1, c1, rfl, hl1, ho1, hb1⟩
  have hs1 := hb1.size
  simp only [World.size_alloc] at hs1
  have T1 := HT.out.below hb1 (by simp)
  have y0 : w1.cell? ⟨w.heap.size, 0, none⟩ = some (.int .i64 R) := by rw [cell_in T1.b0]; rfl
  have y1 : w1.cell? ⟨w.heap.size, 1, none⟩ = some (.slice A n c) := by rw [cell_in T1.b0]; rfl
  have y2 : w1.cell? ⟨w.heap.size, 2, none⟩ = some (.bool dn) := by rw [cell_in T1.b0]; rfl
  have y3 : w1.cell? ⟨w.heap.size, 3, none⟩ = some (.int .i64 fl) := by rw [cell_in T1.b0]; rfl
  have y4 : w1.cell? ⟨w.heap.size, 4, none⟩ = some (.bool lt) := by rw [cell_in T1.b0]; rfl
  have y5 : w1.cell? ⟨w.heap.size, 5, none⟩ = some (.int .i64 ac) := by rw [cell_in T1.b0]; rfl
  have y6 : w1.cell? ⟨w.heap.size, 6, none⟩ = some (.int .i64 pt) := by rw [cell_in T1.b0]; rfl
  have fr0 : w1.frozen? ⟨w.heap.size, 0, none⟩ = false := free_in T1.b0 0
  have fr1 : w1.frozen? ⟨w.heap.size, 1, none⟩ = false := free_in T1.b0 1
  have fr2 : w1.frozen? ⟨w.heap.size, 2, none⟩ = false := free_in T1.b0 2
  have fr3 : w1.frozen? ⟨w.heap.size, 3, none⟩ = false := free_in T1.b0 3
  have fr4 : w1.frozen? ⟨w.heap.size, 4, none⟩ = false := free_in T1.b0 4
  have fr5 : w1.frozen? ⟨w.heap.size, 5, none⟩ = false := free_in T1.b0 5
  have fr6 : w1.frozen? ⟨w.heap.size, 6, none⟩ = false := free_in T1.b0 6
  have z0 : w1.cell? ⟨w.heap.size + 1, 0, none⟩ = some (.string r.f.nm) := by rw [cell_in T1.b1]; rfl
  obtain ⟨W1, hW1⟩ : ∃ W1, (((((((w1.setCell ⟨w.heap.size, 0, none⟩ (.int .i64 R)).setCell ⟨w.heap.size, 1, none⟩ (.slice A1 n1 c1)).setCell ⟨w.heap.size, 2, none⟩ (.bool dn)).setCell ⟨w.heap.size, 3, none⟩ (.int .i64 fl)).setCell ⟨w.heap.size, 4, none⟩ (.bool lt)).setCell ⟨w.heap.size, 5, none⟩ (.int .i64 ac)).setCell ⟨w.heap.size, 6, none⟩ (.int .i64 pt)) = W1 := ⟨_, rfl⟩
  have T2 : Three W1 w.heap.size R A1 n1 c1 dn fl lt ac pt r := by
    rw [← hW1]
    exact ⟨st7 T1.b0 _ _ _ _ _ _ _, (st7_off _ _ _ _ _ _ _ _ _ _ (by omega)).trans T1.b1, (st7_off _ _ _ _ _ _ _ _ _ _ (by omega)).trans T1.b2⟩
  have BW : Below w.heap.size w W1 := by rw [← hW1]; exact st7_below (below_go B1.out hb1) _ _ _ _ _ _ _ _ (Nat.le_refl _)
  have SZ : W1.heap.size = w1.heap.size := by rw [← hW1]; exact st7_size _ _ _ _ _ _ _ _ _
  have OF : OwnF W1 (w.heap.size + 1 + 1 + 1) (.slice A1 n1 c1) M := by
    rw [← hW1]
    simp only [World.size_alloc] at ho1
    exact ho1.same (fun k hk _ => st7_off _ _ _ _ _ _ _ _ _ _ (by omega))
  obtain ⟨A1', c1', ee, FL, -, -⟩ := OF.form
  rw [hl1] at ee
  injection ee with e1 e2 e3
  subst e1
  have hbig : w.heap.size + 1 + 1 < W1.heap.size := by omega
  have n1n : n1 ≤ 1000 := by have := HM.out; omega
  have hg0 : w.heap.size < w1.heap.size := by omega
  have hg1 : w.heap.size + 1 < w1.heap.size := by omega
  have b2 := below_alloc W1 (.cells #[] 43)
  have O0 : Hid (OwnF (W1.alloc (.cells #[] 43)) W1.heap.size (.slice (some ⟨w1.heap.size, 0, none⟩) 0 0) []) := by rw [← SZ]; exact OwnF.made W1
  have HW := Lib.hid hW1
  have K := Lib.hid (And.intro T2 (And.intro FL (And.intro BW (And.intro hl1 b2))))
  clear C HT B1 ho1 hb1 T1 T2 BW SZ OF FL hW1 e2 e3 hl1 b2 hs1
  go_wp2_with fail
  rw [HW.out]
  go_loopw [16, 5, 6] (fun s t u wr => ∃ (i : Nat) (T : Option Addr) (p q : Nat) (dd : Bool) (acc : List RF), s = .int .i64 i ∧ t = .slice T p q ∧ u = .bool dd ∧ i ≤ n1 ∧ p ≤ i + 1 ∧ Hid (acc.length = p ∧ OwnF wr W1.heap.size (.slice T p q) acc ∧ acc ++ rrest r M dd i = rins r M ∧ Below W1.heap.size W1 wr ∧ (dd = false → p ≤ i))) (fun s _ _ _ => n1 - (intOf s).toNat)
  case atStart => exact ⟨0, _, 0, 0, false, [], rfl, rfl, rfl, by omega, by omega, rfl, O0.out, rfl, K.out.2.2.2.2, fun _ => Nat.le_refl _⟩
  case round =>
    obtain ⟨i, T, p, q, dd, acc, rfl, rfl, rfl, hi, hp, H⟩ := hrel
    clear O0
    obtain ⟨l2, o2, q2, b2, d2⟩ := H.out
    have D2 := Lib.hid d2
    clear d2
    by_cases ci : i < n1
    · have ciM : i < M.length := by rw [K.out.2.2.2.1]; exact ci
      obtain ⟨b, off, rfl, -, -, -⟩ := K.out.2.1 i ciM
      have FX : Hid (∀ W2, Below W1.heap.size W1 W2 → W2.cell? ⟨w.heap.size, 1, none⟩ = some (.slice (some ⟨b, off, none⟩) n1 c1) ∧ W2.cell? ⟨w.heap.size + 1, 0, none⟩ = some (.string r.f.nm) ∧ W2.cell? ⟨w.heap.size + 1, 1, none⟩ = some (.slice r.A r.f.bs.length r.c) ∧ W2.cell? ⟨w.heap.size + 1, 2, none⟩ = some (.int .i64 (r.f.sf : Int)) ∧
          W2.cell? ⟨b, off + i * 3, none⟩ = some (.string (M.getD i rz).f.nm) ∧ W2.cell? ⟨b, off + i * 3 + 1, none⟩ = some (.slice (M.getD i rz).A (M.getD i rz).f.bs.length (M.getD i rz).c) ∧ W2.cell? ⟨b, off + i * 3 + 2, none⟩ = some (.int .i64 ((M.getD i rz).f.sf : Int)) ∧ w.heap.size < W2.heap.size ∧ w.heap.size + 1 < W2.heap.size ∧ b < W2.heap.size) := Lib.hid (fun W2 hb2 => by
        have t := K.out.1.below hb2 hbig
        obtain ⟨b', off', e, x0, x1, x2⟩ := (K.out.2.1.below hb2) i ciM
        injection e with e
        injection e with e1 e2 _
        subst e1 e2
        have := hb2.size
        exact ⟨by rw [cell_in t.b0]; rfl, by rw [cell_in t.b1]; rfl, by rw [cell_in t.b1]; rfl, by rw [cell_in t.b1]; rfl, x0, x1, x2, by omega, by omega, World.block_lt_of_cell? _ _ x0⟩)
      have ci' : (i : Int) < (n1 : Int) := by omega
      have ci0 : (0 : Int) ≤ (i : Int) := by omega
      obtain ⟨y1, z0, z1, z2, x0, x1, x2, hga, hgb, hbl⟩ := FX.out wr b2
      obtain ⟨x, hx⟩ : ∃ x, M.getD i rz = x := ⟨_, rfl⟩
      have G1 := Lib.hid (rrest_done r M i ciM)
      have G2 := Lib.hid (rrest_here r M i ciM)
      have G3 := Lib.hid (rrest_later r M i ciM)
      rw [hx] at x0 x1 x2 FX G1 G2 G3
      clear hx ciM H
      have R2 := Lib.hid (And.intro l2 (And.intro o2 (And.intro q2 b2)))
      have LS := Lib.hid (less_is r.f.nm x.f.nm)
      have BX := Lib.hid (fun o => (below_go b2 (below_alloc wr o)).drew)
      have OX := Lib.hid (fun o => o2.below (below_alloc wr o).drew)
      clear l2 o2 q2 b2
      cases dd
      · by_cases cl : nl r.f.nm < nl x.f.nm
        · have hls : Op.bytesLess r.f.nm.toList x.f.nm.toList = true := by rw [LS.out]; simpa using cl
          go_wp2_with fail
          refine wp_region_noPanic ?_
          refine wp_region_held_drew (S := fun W => W.cell? ⟨w.heap.size + 1, 0, none⟩ = some (.string r.f.nm) ∧ W.cell? ⟨w.heap.size, 1, none⟩ = some (.slice (some ⟨b, off, none⟩) n1 c1) ∧ W.cell? ⟨b, off + i * 3, none⟩ = some (.string x.f.nm)) (by kernel_rfl) (⟨z0, y1, x0⟩) (fun hHeld => ?_)
          refine wpAnyH_take (i := 0) (v := ?_) rfl (by kernel_rfl) (by kernel_rfl) (by kernel_rfl) (fun _ _ _ h => h) (Or.inl ⟨by rfl, ?_⟩) (by assumption) ?_
          rotate_left
          · (intro W hSw; simp only [List.getElem_toArray, List.getElem_cons_succ, List.getElem_cons_zero]; (try dsimp only at hSw); go_simp; with_reducible rfl)
          simp only [List.getElem_toArray, List.getElem_cons_succ, List.getElem_cons_zero, Act.put, List.setIfInBounds_toArray, List.set_cons_zero, List.set_cons_succ]
          refine wpAnyH_take (i := 1) (v := ?_) rfl (by kernel_rfl) (by kernel_rfl) (by kernel_rfl) (fun _ _ _ h => h) (Or.inl ⟨by rfl, ?_⟩) (by assumption) ?_
          rotate_left
          · (intro W hSw; simp only [List.getElem_toArray, List.getElem_cons_succ, List.getElem_cons_zero]; (try dsimp only at hSw); go_simp; with_reducible rfl)
          simp only [List.getElem_toArray, List.getElem_cons_succ, List.getElem_cons_zero, Act.put, List.setIfInBounds_toArray, List.set_cons_zero, List.set_cons_succ]
          refine wpAnyH_take (i := 2) (v := ?_) rfl (by kernel_rfl) (by kernel_rfl) (by kernel_rfl) (fun _ _ _ h => h) (Or.inl ⟨by rfl, ?_⟩) (by assumption) ?_
          rotate_left
          · (intro W hSw; simp only [List.getElem_toArray, List.getElem_cons_succ, List.getElem_cons_zero]; (try dsimp only at hSw); go_simp; with_reducible rfl)
          simp only [List.getElem_toArray, List.getElem_cons_succ, List.getElem_cons_zero, Act.put, List.setIfInBounds_toArray, List.set_cons_zero, List.set_cons_succ]
          refine wpAnyH_take (i := 3) (v := ?_) rfl (by kernel_rfl) (by kernel_rfl) (by kernel_rfl) (fun _ _ _ h => h) (Or.inl ⟨by rfl, ?_⟩) (by assumption) ?_
          rotate_left
          · (intro W hSw; simp only [List.getElem_toArray, List.getElem_cons_succ, List.getElem_cons_zero]; (try dsimp only at hSw); go_simp; with_reducible rfl)
          simp only [List.getElem_toArray, List.getElem_cons_succ, List.getElem_cons_zero, Act.put, List.setIfInBounds_toArray, List.set_cons_zero, List.set_cons_succ]
          refine wpAnyH_take (i := 4) (v := ?_) rfl (by kernel_rfl) (by kernel_rfl) (by kernel_rfl) (fun _ _ _ h => h) (Or.inl ⟨by rfl, ?_⟩) (by assumption) ?_
          rotate_left
          · (intro W hSw; simp only [List.getElem_toArray, List.getElem_cons_succ, List.getElem_cons_zero]; (try dsimp only at hSw); go_simp; with_reducible rfl)
          simp only [List.getElem_toArray, List.getElem_cons_succ, List.getElem_cons_zero, Act.put, List.setIfInBounds_toArray, List.set_cons_zero, List.set_cons_succ]
          refine wpAnyH_take (i := 5) (v := ?_) rfl (by kernel_rfl) (by kernel_rfl) (by kernel_rfl) (fun _ _ _ h => h) (Or.inl ⟨by rfl, ?_⟩) (by assumption) ?_
          rotate_left
          · (intro W hSw; simp only [List.getElem_toArray, List.getElem_cons_succ, List.getElem_cons_zero]; (try dsimp only at hSw); go_simp; with_reducible rfl)
          simp only [List.getElem_toArray, List.getElem_cons_succ, List.getElem_cons_zero, Act.put, List.setIfInBounds_toArray, List.set_cons_zero, List.set_cons_succ]
          refine wpAnyH_take (i := 6) (v := ?_) rfl (by kernel_rfl) (by kernel_rfl) (by kernel_rfl) (fun _ _ _ h => h) (Or.inl ⟨by rfl, ?_⟩) (by assumption) ?_
          rotate_left
          · (intro W hSw; simp only [List.getElem_toArray, List.getElem_cons_succ, List.getElem_cons_zero]; (try dsimp only at hSw); go_simp; with_reducible rfl)
          simp only [List.getElem_toArray, List.getElem_cons_succ, List.getElem_cons_zero, Act.put, List.setIfInBounds_toArray, List.set_cons_zero, List.set_cons_succ]
          refine wpAnyH_take (i := 7) (v := ?_) rfl (by kernel_rfl) (by kernel_rfl) (by kernel_rfl) (fun _ _ _ h => h) (Or.inl ⟨by rfl, ?_⟩) (by assumption) ?_
          rotate_left
          · (intro W hSw; simp only [List.getElem_toArray, List.getElem_cons_succ, List.getElem_cons_zero]; (try dsimp only at hSw); go_simp; with_reducible rfl)
          simp only [List.getElem_toArray, List.getElem_cons_succ, List.getElem_cons_zero, Act.put, List.setIfInBounds_toArray, List.set_cons_zero, List.set_cons_succ]
          refine wpAnyH_take (i := 8) (v := ?_) rfl (by kernel_rfl) (by kernel_rfl) (by kernel_rfl) (fun _ _ _ h => h) (Or.inl ⟨by rfl, ?_⟩) (by assumption) ?_
          rotate_left
          · (intro W hSw; simp only [List.getElem_toArray, List.getElem_cons_succ, List.getElem_cons_zero]; (try dsimp only at hSw); go_simp; with_reducible rfl)
          simp only [List.getElem_toArray, List.getElem_cons_succ, List.getElem_cons_zero, Act.put, List.setIfInBounds_toArray, List.set_cons_zero, List.set_cons_succ]
          refine wpAnyH_take (i := 9) (v := ?_) rfl (by kernel_rfl) (by kernel_rfl) (by kernel_rfl) (fun _ _ _ h => h) (Or.inl ⟨by rfl, ?_⟩) (by assumption) ?_
          rotate_left
          · (intro W hSw; simp only [List.getElem_toArray, List.getElem_cons_succ, List.getElem_cons_zero]; (try dsimp only at hSw); go_simp; with_reducible rfl)
          simp only [List.getElem_toArray, List.getElem_cons_succ, List.getElem_cons_zero, Act.put, List.setIfInBounds_toArray, List.set_cons_zero, List.set_cons_succ]
          refine wpAnyH_take (i := 10) (v := ?_) rfl (by kernel_rfl) (by kernel_rfl) (by kernel_rfl) (fun _ _ _ h => h) (Or.inl ⟨by rfl, ?_⟩) (by assumption) ?_
          rotate_left
          · (intro W hSw; simp only [List.getElem_toArray, List.getElem_cons_succ, List.getElem_cons_zero]; (try dsimp only at hSw); go_simp; with_reducible rfl)
          simp only [List.getElem_toArray, List.getElem_cons_succ, List.getElem_cons_zero, Act.put, List.setIfInBounds_toArray, List.set_cons_zero, List.set_cons_succ]
          refine wpAnyH_take (i := 11) (v := ?_) rfl (by kernel_rfl) (by kernel_rfl) (by kernel_rfl) (fun _ _ _ h => h) (Or.inl ⟨by rfl, ?_⟩) (by assumption) ?_
          rotate_left
          · (intro W hSw; simp only [List.getElem_toArray, List.getElem_cons_succ, List.getElem_cons_zero]; (try dsimp only at hSw); go_simp; with_reducible rfl)
          simp only [List.getElem_toArray, List.getElem_cons_succ, List.getElem_cons_zero, Act.put, List.setIfInBounds_toArray, List.set_cons_zero, List.set_cons_succ]
          refine wpAnyH_take (i := 12) (v := ?_) rfl (by kernel_rfl) (by kernel_rfl) (by kernel_rfl) (fun _ _ _ h => h) (Or.inl ⟨by rfl, ?_⟩) (by assumption) ?_
          rotate_left
          · (intro W hSw; simp only [List.getElem_toArray, List.getElem_cons_succ, List.getElem_cons_zero]; (try dsimp only at hSw); go_simp; with_reducible rfl)
          simp only [List.getElem_toArray, List.getElem_cons_succ, List.getElem_cons_zero, Act.put, List.setIfInBounds_toArray, List.set_cons_zero, List.set_cons_succ]
          refine wpAnyH_done (by kernel_rfl) ?_ _
          refine NoPanic.normal ?_
          have tok : True := trivial
          go_wp2_with (first
            | (at_builtin; have _t := tok; refine wp_appf _ rfl _ _ rfl W1.heap.size _ acc rfl (OX.out _) wr.heap.size 0 1 r rfl (by simp [go_sem]) (by simp [go_sem]) (by simp [go_sem]) (by rw [R2.out.1]; omega) (BX.out _).size (p + 1) (by rw [R2.out.1]) ?_; intro T' q' w2 hO2 hb2; have b3 := (BX.out _).trans hb2; obtain ⟨u1, v0, v1, v2, t0, t1, t2, hgc, hgd, hbl2⟩ := FX.out w2 b3; have R4 := Lib.hid (And.intro (hO2.below (below_alloc w2 (.cells #[.string x.f.nm, .slice x.A x.f.bs.length x.c, .int .i64 (x.f.sf : Int)] 43))) (below_go b3 (below_alloc w2 (.cells #[.string x.f.nm, .slice x.A x.f.bs.length x.c, .int .i64 (x.f.sf : Int)] 43)))); clear tok _t hO2 hb2 b3)
            | (at_builtin; refine wp_appf _ rfl _ _ rfl W1.heap.size _ (acc ++ [r]) rfl R4.out.1 w2.heap.size 0 1 x rfl (by simp [go_sem]) (by simp [go_sem]) (by simp [go_sem]) (by rw [List.length_append, R2.out.1]; simp; omega) R4.out.2.size (p + 1 + 1) (by rw [List.length_append, R2.out.1]; rfl) ?_; intro T3 q3 w3 hO3 hb3))
          have R5 := Lib.hid (And.intro hO3 (R4.out.2.trans hb3))
          clear hO3 hb3
          go_wp2_with fail
          go_roundw
          case rel => exact ⟨i + 1, T3, p + 1 + 1, q3, true, acc ++ [r] ++ [x], by go_num, rfl, rfl, by omega, by have := D2.out (by first | rfl | trivial); omega, by rw [List.length_append, List.length_append, R2.out.1]; rfl, R5.out.1, by rw [List.append_assoc acc, List.append_assoc, ← G2.out cl]; exact R2.out.2.2.1, R5.out.2, fun e => by cases e⟩
          case measure => simp [intOf]; omega
        · have hls : Op.bytesLess r.f.nm.toList x.f.nm.toList = false := by rw [LS.out]; simpa using cl
          go_wp2_with fail
          refine wp_region_noPanic ?_
          refine wp_region_held_drew (S := fun W => W.cell? ⟨w.heap.size + 1, 0, none⟩ = some (.string r.f.nm) ∧ W.cell? ⟨w.heap.size, 1, none⟩ = some (.slice (some ⟨b, off, none⟩) n1 c1) ∧ W.cell? ⟨b, off + i * 3, none⟩ = some (.string x.f.nm)) (by kernel_rfl) (⟨z0, y1, x0⟩) (fun hHeld => ?_)
          refine wpAnyH_take (i := 0) (v := ?_) rfl (by kernel_rfl) (by kernel_rfl) (by kernel_rfl) (fun _ _ _ h => h) (Or.inl ⟨by rfl, ?_⟩) (by assumption) ?_
          rotate_left
          · (intro W hSw; simp only [List.getElem_toArray, List.getElem_cons_succ, List.getElem_cons_zero]; (try dsimp only at hSw); go_simp; with_reducible rfl)
          simp only [List.getElem_toArray, List.getElem_cons_succ, List.getElem_cons_zero, Act.put, List.setIfInBounds_toArray, List.set_cons_zero, List.set_cons_succ]
          refine wpAnyH_take (i := 1) (v := ?_) rfl (by kernel_rfl) (by kernel_rfl) (by kernel_rfl) (fun _ _ _ h => h) (Or.inl ⟨by rfl, ?_⟩) (by assumption) ?_
          rotate_left
          · (intro W hSw; simp only [List.getElem_toArray, List.getElem_cons_succ, List.getElem_cons_zero]; (try dsimp only at hSw); go_simp; with_reducible rfl)
          simp only [List.getElem_toArray, List.getElem_cons_succ, List.getElem_cons_zero, Act.put, List.setIfInBounds_toArray, List.set_cons_zero, List.set_cons_succ]
          refine wpAnyH_take (i := 2) (v := ?_) rfl (by kernel_rfl) (by kernel_rfl) (by kernel_rfl) (fun _ _ _ h => h) (Or.inl ⟨by rfl, ?_⟩) (by assumption) ?_
          rotate_left
          · (intro W hSw; simp only [List.getElem_toArray, List.getElem_cons_succ, List.getElem_cons_zero]; (try dsimp only at hSw); go_simp; with_reducible rfl)
          simp only [List.getElem_toArray, List.getElem_cons_succ, List.getElem_cons_zero, Act.put, List.setIfInBounds_toArray, List.set_cons_zero, List.set_cons_succ]
          refine wpAnyH_take (i := 3) (v := ?_) rfl (by kernel_rfl) (by kernel_rfl) (by kernel_rfl) (fun _ _ _ h => h) (Or.inl ⟨by rfl, ?_⟩) (by assumption) ?_
          rotate_left
          · (intro W hSw; simp only [List.getElem_toArray, List.getElem_cons_succ, List.getElem_cons_zero]; (try dsimp only at hSw); go_simp; with_reducible rfl)
          simp only [List.getElem_toArray, List.getElem_cons_succ, List.getElem_cons_zero, Act.put, List.setIfInBounds_toArray, List.set_cons_zero, List.set_cons_succ]
          refine wpAnyH_take (i := 4) (v := ?_) rfl (by kernel_rfl) (by kernel_rfl) (by kernel_rfl) (fun _ _ _ h => h) (Or.inl ⟨by rfl, ?_⟩) (by assumption) ?_
          rotate_left
          · (intro W hSw; simp only [List.getElem_toArray, List.getElem_cons_succ, List.getElem_cons_zero]; (try dsimp only at hSw); go_simp; with_reducible rfl)
          simp only [List.getElem_toArray, List.getElem_cons_succ, List.getElem_cons_zero, Act.put, List.setIfInBounds_toArray, List.set_cons_zero, List.set_cons_succ]
          refine wpAnyH_take (i := 5) (v := ?_) rfl (by kernel_rfl) (by kernel_rfl) (by kernel_rfl) (fun _ _ _ h => h) (Or.inl ⟨by rfl, ?_⟩) (by assumption) ?_
          rotate_left
          · (intro W hSw; simp only [List.getElem_toArray, List.getElem_cons_succ, List.getElem_cons_zero]; (try dsimp only at hSw); go_simp; with_reducible rfl)
          simp only [List.getElem_toArray, List.getElem_cons_succ, List.getElem_cons_zero, Act.put, List.setIfInBounds_toArray, List.set_cons_zero, List.set_cons_succ]
          refine wpAnyH_take (i := 6) (v := ?_) rfl (by kernel_rfl) (by kernel_rfl) (by kernel_rfl) (fun _ _ _ h => h) (Or.inl ⟨by rfl, ?_⟩) (by assumption) ?_
          rotate_left
          · (intro W hSw; simp only [List.getElem_toArray, List.getElem_cons_succ, List.getElem_cons_zero]; (try dsimp only at hSw); go_simp; with_reducible rfl)
          simp only [List.getElem_toArray, List.getElem_cons_succ, List.getElem_cons_zero, Act.put, List.setIfInBounds_toArray, List.set_cons_zero, List.set_cons_succ]
          refine wpAnyH_take (i := 7) (v := ?_) rfl (by kernel_rfl) (by kernel_rfl) (by kernel_rfl) (fun _ _ _ h => h) (Or.inl ⟨by rfl, ?_⟩) (by assumption) ?_
          rotate_left
          · (intro W hSw; simp only [List.getElem_toArray, List.getElem_cons_succ, List.getElem_cons_zero]; (try dsimp only at hSw); go_simp; with_reducible rfl)
          simp only [List.getElem_toArray, List.getElem_cons_succ, List.getElem_cons_zero, Act.put, List.setIfInBounds_toArray, List.set_cons_zero, List.set_cons_succ]
          refine wpAnyH_take (i := 8) (v := ?_) rfl (by kernel_rfl) (by kernel_rfl) (by kernel_rfl) (fun _ _ _ h => h) (Or.inl ⟨by rfl, ?_⟩) (by assumption) ?_
          rotate_left
          · (intro W hSw; simp only [List.getElem_toArray, List.getElem_cons_succ, List.getElem_cons_zero]; (try dsimp only at hSw); go_simp; with_reducible rfl)
          simp only [List.getElem_toArray, List.getElem_cons_succ, List.getElem_cons_zero, Act.put, List.setIfInBounds_toArray, List.set_cons_zero, List.set_cons_succ]
          refine wpAnyH_take (i := 9) (v := ?_) rfl (by kernel_rfl) (by kernel_rfl) (by kernel_rfl) (fun _ _ _ h => h) (Or.inl ⟨by rfl, ?_⟩) (by assumption) ?_
          rotate_left
          · (intro W hSw; simp only [List.getElem_toArray, List.getElem_cons_succ, List.getElem_cons_zero]; (try dsimp only at hSw); go_simp; with_reducible rfl)
          simp only [List.getElem_toArray, List.getElem_cons_succ, List.getElem_cons_zero, Act.put, List.setIfInBounds_toArray, List.set_cons_zero, List.set_cons_succ]
          refine wpAnyH_take (i := 10) (v := ?_) rfl (by kernel_rfl) (by kernel_rfl) (by kernel_rfl) (fun _ _ _ h => h) (Or.inl ⟨by rfl, ?_⟩) (by assumption) ?_
          rotate_left
          · (intro W hSw; simp only [List.getElem_toArray, List.getElem_cons_succ, List.getElem_cons_zero]; (try dsimp only at hSw); go_simp; with_reducible rfl)
          simp only [List.getElem_toArray, List.getElem_cons_succ, List.getElem_cons_zero, Act.put, List.setIfInBounds_toArray, List.set_cons_zero, List.set_cons_succ]
          refine wpAnyH_take (i := 11) (v := ?_) rfl (by kernel_rfl) (by kernel_rfl) (by kernel_rfl) (fun _ _ _ h => h) (Or.inl ⟨by rfl, ?_⟩) (by assumption) ?_
          rotate_left
          · (intro W hSw; simp only [List.getElem_toArray, List.getElem_cons_succ, List.getElem_cons_zero]; (try dsimp only at hSw); go_simp; with_reducible rfl)
          simp only [List.getElem_toArray, List.getElem_cons_succ, List.getElem_cons_zero, Act.put, List.setIfInBounds_toArray, List.set_cons_zero, List.set_cons_succ]
          refine wpAnyH_take (i := 12) (v := ?_) rfl (by kernel_rfl) (by kernel_rfl) (by kernel_rfl) (fun _ _ _ h => h) (Or.inl ⟨by rfl, ?_⟩) (by assumption) ?_
          rotate_left
          · (intro W hSw; simp only [List.getElem_toArray, List.getElem_cons_succ, List.getElem_cons_zero]; (try dsimp only at hSw); go_simp; with_reducible rfl)
          simp only [List.getElem_toArray, List.getElem_cons_succ, List.getElem_cons_zero, Act.put, List.setIfInBounds_toArray, List.set_cons_zero, List.set_cons_succ]
          refine wpAnyH_done (by kernel_rfl) ?_ _
          refine NoPanic.normal ?_
          go_wp2_with (at_builtin; refine wp_appf _ rfl _ _ rfl W1.heap.size _ acc rfl (OX.out _) wr.heap.size 0 1 x rfl (by simp [go_sem]) (by simp [go_sem]) (by simp [go_sem]) (by rw [R2.out.1]; omega) (BX.out _).size (p + 1) (by rw [R2.out.1]) ?_; intro T' q' w2 hO2 hb2)
          have R3 := Lib.hid (And.intro hO2 ((BX.out _).trans hb2))
          clear hO2 hb2
          go_wp2_with fail
          go_roundw
          case rel => exact ⟨i + 1, T', p + 1, q', false, acc ++ [x], by go_num, rfl, rfl, by omega, by omega, by rw [List.length_append, R2.out.1]; rfl, R3.out.1, by rw [List.append_assoc, ← G3.out cl]; exact R2.out.2.2.1, R3.out.2, fun _ => by have := D2.out (by first | rfl | trivial); omega⟩
          case measure => simp [intOf]; omega
      · go_wp2_with fail
        refine wp_region_noPanic ?_
        refine wp_region_held_drew (S := fun W => W.cell? ⟨w.heap.size + 1, 0, none⟩ = some (.string r.f.nm) ∧ W.cell? ⟨w.heap.size, 1, none⟩ = some (.slice (some ⟨b, off, none⟩) n1 c1) ∧ W.cell? ⟨b, off + i * 3, none⟩ = some (.string x.f.nm)) (by kernel_rfl) (⟨z0, y1, x0⟩) (fun hHeld => ?_)
        refine wpAnyH_take (i := 0) (v := ?_) rfl (by kernel_rfl) (by kernel_rfl) (by kernel_rfl) (fun _ _ _ h => h) (Or.inl ⟨by rfl, ?_⟩) (by assumption) ?_
        rotate_left
        · (intro W hSw; simp only [List.getElem_toArray, List.getElem_cons_succ, List.getElem_cons_zero]; (try dsimp only at hSw); go_simp; with_reducible rfl)
        simp only [List.getElem_toArray, List.getElem_cons_succ, List.getElem_cons_zero, Act.put, List.setIfInBounds_toArray, List.set_cons_zero, List.set_cons_succ]
        refine wpAnyH_take (i := 1) (v := ?_) rfl (by kernel_rfl) (by kernel_rfl) (by kernel_rfl) (fun _ _ _ h => h) (Or.inl ⟨by rfl, ?_⟩) (by assumption) ?_
        rotate_left
        · (intro W hSw; simp only [List.getElem_toArray, List.getElem_cons_succ, List.getElem_cons_zero]; (try dsimp only at hSw); go_simp; with_reducible rfl)
        simp only [List.getElem_toArray, List.getElem_cons_succ, List.getElem_cons_zero, Act.put, List.setIfInBounds_toArray, List.set_cons_zero, List.set_cons_succ]
        refine wpAnyH_take (i := 2) (v := ?_) rfl (by kernel_rfl) (by kernel_rfl) (by kernel_rfl) (fun _ _ _ h => h) (Or.inl ⟨by rfl, ?_⟩) (by assumption) ?_
        rotate_left
        · (intro W hSw; simp only [List.getElem_toArray, List.getElem_cons_succ, List.getElem_cons_zero]; (try dsimp only at hSw); go_simp; with_reducible rfl)
        simp only [List.getElem_toArray, List.getElem_cons_succ, List.getElem_cons_zero, Act.put, List.setIfInBounds_toArray, List.set_cons_zero, List.set_cons_succ]
        refine wpAnyH_take (i := 3) (v := undef) rfl (by kernel_rfl) (by kernel_rfl) (by kernel_rfl) (fun _ _ _ h => h) (Or.inr ⟨by rfl, rfl⟩) (by assumption) ?_
        simp only [List.getElem_toArray, List.getElem_cons_succ, List.getElem_cons_zero, Act.put, List.setIfInBounds_toArray, List.set_cons_zero, List.set_cons_succ]
        refine wpAnyH_take (i := 4) (v := undef) rfl (by kernel_rfl) (by kernel_rfl) (by kernel_rfl) (fun _ _ _ h => h) (Or.inr ⟨by rfl, rfl⟩) (by assumption) ?_
        simp only [List.getElem_toArray, List.getElem_cons_succ, List.getElem_cons_zero, Act.put, List.setIfInBounds_toArray, List.set_cons_zero, List.set_cons_succ]
        refine wpAnyH_take (i := 5) (v := undef) rfl (by kernel_rfl) (by kernel_rfl) (by kernel_rfl) (fun _ _ _ h => h) (Or.inr ⟨by rfl, rfl⟩) (by assumption) ?_
        simp only [List.getElem_toArray, List.getElem_cons_succ, List.getElem_cons_zero, Act.put, List.setIfInBounds_toArray, List.set_cons_zero, List.set_cons_succ]
        refine wpAnyH_take (i := 6) (v := undef) rfl (by kernel_rfl) (by kernel_rfl) (by kernel_rfl) (fun _ _ _ h => h) (Or.inr ⟨by rfl, rfl⟩) (by assumption) ?_
        simp only [List.getElem_toArray, List.getElem_cons_succ, List.getElem_cons_zero, Act.put, List.setIfInBounds_toArray, List.set_cons_zero, List.set_cons_succ]
        refine wpAnyH_take (i := 7) (v := undef) rfl (by kernel_rfl) (by kernel_rfl) (by kernel_rfl) (fun _ _ _ h => h) (Or.inr ⟨by rfl, rfl⟩) (by assumption) ?_
        simp only [List.getElem_toArray, List.getElem_cons_succ, List.getElem_cons_zero, Act.put, List.setIfInBounds_toArray, List.set_cons_zero, List.set_cons_succ]
        refine wpAnyH_take (i := 8) (v := undef) rfl (by kernel_rfl) (by kernel_rfl) (by kernel_rfl) (fun _ _ _ h => h) (Or.inr ⟨by rfl, rfl⟩) (by assumption) ?_
        simp only [List.getElem_toArray, List.getElem_cons_succ, List.getElem_cons_zero, Act.put, List.setIfInBounds_toArray, List.set_cons_zero, List.set_cons_succ]
        refine wpAnyH_take (i := 9) (v := undef) rfl (by kernel_rfl) (by kernel_rfl) (by kernel_rfl) (fun _ _ _ h => h) (Or.inr ⟨by rfl, rfl⟩) (by assumption) ?_
        simp only [List.getElem_toArray, List.getElem_cons_succ, List.getElem_cons_zero, Act.put, List.setIfInBounds_toArray, List.set_cons_zero, List.set_cons_succ]
        refine wpAnyH_take (i := 10) (v := undef) rfl (by kernel_rfl) (by kernel_rfl) (by kernel_rfl) (fun _ _ _ h => h) (Or.inr ⟨by rfl, rfl⟩) (by assumption) ?_
        simp only [List.getElem_toArray, List.getElem_cons_succ, List.getElem_cons_zero, Act.put, List.setIfInBounds_toArray, List.set_cons_zero, List.set_cons_succ]
        refine wpAnyH_take (i := 11) (v := undef) rfl (by kernel_rfl) (by kernel_rfl) (by kernel_rfl) (fun _ _ _ h => h) (Or.inr ⟨by rfl, rfl⟩) (by assumption) ?_
        simp only [List.getElem_toArray, List.getElem_cons_succ, List.getElem_cons_zero, Act.put, List.setIfInBounds_toArray, List.set_cons_zero, List.set_cons_succ]
        refine wpAnyH_take (i := 12) (v := ?_) rfl (by kernel_rfl) (by kernel_rfl) (by kernel_rfl) (fun _ _ _ h => h) (Or.inl ⟨by rfl, ?_⟩) (by assumption) ?_
        rotate_left
        · (intro W hSw; simp only [List.getElem_toArray, List.getElem_cons_succ, List.getElem_cons_zero]; (try dsimp only at hSw); go_simp; with_reducible rfl)
        simp only [List.getElem_toArray, List.getElem_cons_succ, List.getElem_cons_zero, Act.put, List.setIfInBounds_toArray, List.set_cons_zero, List.set_cons_succ]
        refine wpAnyH_done (by kernel_rfl) ?_ _
        refine NoPanic.normal ?_
        go_wp2_with (at_builtin; refine wp_appf _ rfl _ _ rfl W1.heap.size _ acc rfl (OX.out _) wr.heap.size 0 1 x rfl (by simp [go_sem]) (by simp [go_sem]) (by simp [go_sem]) (by rw [R2.out.1]; omega) (BX.out _).size (p + 1) (by rw [R2.out.1]) ?_; intro T' q' w2 hO2 hb2)
        have R3 := Lib.hid (And.intro hO2 ((BX.out _).trans hb2))
        clear hO2 hb2
        go_wp2_with fail
        go_roundw
        case rel => exact ⟨i + 1, T', p + 1, q', true, acc ++ [x], by go_num, rfl, rfl, by omega, by omega, by rw [List.length_append, R2.out.1]; rfl, R3.out.1, by rw [List.append_assoc, ← G1.out]; exact R2.out.2.2.1, R3.out.2, fun e => by cases e⟩
        case measure => simp [intOf]; omega
    · obtain rfl : i = n1 := by omega
      have hdr : M.drop i = [] := List.drop_of_length_le (by rw [K.out.2.2.2.1]; exact Nat.le_refl _)
      have EX : Hid (∀ W2, Below W1.heap.size W1 W2 → W2.cell? ⟨w.heap.size, 0, none⟩ = some (.int .i64 R) ∧ W2.cell? ⟨w.heap.size, 1, none⟩ = some (.slice A1 i c1) ∧ W2.cell? ⟨w.heap.size, 2, none⟩ = some (.bool dn) ∧ W2.cell? ⟨w.heap.size, 3, none⟩ = some (.int .i64 fl) ∧ W2.cell? ⟨w.heap.size, 4, none⟩ = some (.bool lt) ∧ W2.cell? ⟨w.heap.size, 5, none⟩ = some (.int .i64 ac) ∧ W2.cell? ⟨w.heap.size, 6, none⟩ = some (.int .i64 pt) ∧ W2.cell? ⟨w.heap.size + 1 + 1, 0, none⟩ = some (.int .i64 0) ∧ W2.cell? ⟨w.heap.size + 1 + 1, 1, none⟩ = some (.slice none 0 0) ∧ W2.cell? ⟨w.heap.size + 1 + 1, 2, none⟩ = some (.bool false) ∧ W2.cell? ⟨w.heap.size + 1 + 1, 3, none⟩ = some (.int .i64 0) ∧ W2.cell? ⟨w.heap.size + 1 + 1, 4, none⟩ = some (.bool false) ∧ W2.cell? ⟨w.heap.size + 1 + 1, 5, none⟩ = some (.int .i64 0) ∧ W2.cell? ⟨w.heap.size + 1 + 1, 6, none⟩ = some (.int .i64 0) ∧ W2.frozen? ⟨w.heap.size, 1, none⟩ = false ∧ W2.frozen? ⟨w.heap.size + 1 + 1, 0, none⟩ = false ∧ W2.frozen? ⟨w.heap.size + 1 + 1, 1, none⟩ = false ∧ W2.frozen? ⟨w.heap.size + 1 + 1, 2, none⟩ = false ∧ W2.frozen? ⟨w.heap.size + 1 + 1, 3, none⟩ = false ∧ W2.frozen? ⟨w.heap.size + 1 + 1, 4, none⟩ = false ∧ W2.frozen? ⟨w.heap.size + 1 + 1, 5, none⟩ = false ∧ W2.frozen? ⟨w.heap.size + 1 + 1, 6, none⟩ = false) := Lib.hid (fun W2 hb2 => by
        have t := K.out.1.below hb2 hbig
        exact ⟨by rw [cell_in t.b0]; rfl, by rw [cell_in t.b0]; rfl, by rw [cell_in t.b0]; rfl, by rw [cell_in t.b0]; rfl, by rw [cell_in t.b0]; rfl, by rw [cell_in t.b0]; rfl, by rw [cell_in t.b0]; rfl, by rw [cell_in t.b2]; rfl, by rw [cell_in t.b2]; rfl, by rw [cell_in t.b2]; rfl, by rw [cell_in t.b2]; rfl, by rw [cell_in t.b2]; rfl, by rw [cell_in t.b2]; rfl, by rw [cell_in t.b2]; rfl, free_in t.b0 1, free_in t.b2 0, free_in t.b2 1, free_in t.b2 2, free_in t.b2 3, free_in t.b2 4, free_in t.b2 5, free_in t.b2 6⟩)
      clear y0 y1 y2 y3 y4 y5 y6 fr0 fr1 fr2 fr3 fr4 fr5 fr6 z0 H
      cases dd
      · have q3 : acc ++ [r] = rins r M := by
          have e : rrest r M false i = [r] := by unfold rrest; simp only [Bool.false_eq_true, if_false]; rw [hdr]; rfl
          rw [e] at q2; exact q2
        have t := K.out.1.below b2 hbig
        have z0 : wr.cell? ⟨w.heap.size + 1, 0, none⟩ = some (.string r.f.nm) := by rw [cell_in t.b1]; rfl
        have z1 : wr.cell? ⟨w.heap.size + 1, 1, none⟩ = some (.slice r.A r.f.bs.length r.c) := by rw [cell_in t.b1]; rfl
        have z2 : wr.cell? ⟨w.heap.size + 1, 2, none⟩ = some (.int .i64 (r.f.sf : Int)) := by rw [cell_in t.b1]; rfl
        have hgb : w.heap.size + 1 < wr.heap.size := by have := b2.size; omega
        have ba := below_alloc wr (.cells #[.string r.f.nm, .slice r.A r.f.bs.length r.c, .int .i64 (r.f.sf : Int)] 43)
        have R2 := Lib.hid (And.intro l2 (And.intro (o2.below ba) (And.intro q3 (below_go b2 ba))))
        clear l2 o2 q2 q3 b2 t ba hdr ci
        go_wp2_with (at_builtin; refine wp_appf _ rfl _ _ rfl W1.heap.size _ acc rfl R2.out.2.1 wr.heap.size 0 1 r rfl (by simp [go_sem]) (by simp [go_sem]) (by simp [go_sem]) (by rw [R2.out.1]; omega) R2.out.2.2.2.size (p + 1) (by rw [R2.out.1]) ?_; intro T' q' w2 hO2 hb2; have b3 := R2.out.2.2.2.trans hb2; obtain ⟨y0, y1, y2, y3, y4, y5, y6, s0, s1, s2, s3, s4, s5, s6, g1, h0, h1, h2, h3, h4, h5, h6⟩ := EX.out w2 b3; have R3 := Lib.hid (And.intro hO2 b3); have hgc : w.heap.size < w2.heap.size := (by have := R3.out.2.size; omega); clear hO2 hb2 b3)
        rw [HE.out, ← R2.out.2.2.1]
        exact bodyPost_ret (v := rv R T' (p + 1) q' dn fl lt ac pt) (by simp [results, Try.results43, go_sem, *]) rfl ⟨T', (p + 1), q', rfl, by rw [List.length_append, R2.out.1]; rfl, ((((((((R3.out.1.set _ 1 (by omega) _).set _ 0 (by omega) _).set _ 1 (by omega) _).set _ 2 (by omega) _).set _ 3 (by omega) _).set _ 4 (by omega) _).set _ 5 (by omega) _).set _ 6 (by omega) _).base K.out.2.2.1.size,
          st7_below (((K.out.2.2.1.trans (R3.out.2.mono K.out.2.2.1.size))).setCell (p := ⟨w.heap.size, 1, none⟩) (by show w.heap.size ≤ w.heap.size; omega) _) (w.heap.size + 1 + 1) _ _ _ _ _ _ _ (by omega)⟩
      · have q3 : acc = rins r M := by
          have e : rrest r M true i = [] := by unfold rrest; simp only [if_true]; exact hdr
          rw [e, List.append_nil] at q2; exact q2
        obtain ⟨y0, y1, y2, y3, y4, y5, y6, s0, s1, s2, s3, s4, s5, s6, g1, h0, h1, h2, h3, h4, h5, h6⟩ := EX.out wr b2
        have hgc : w.heap.size < wr.heap.size := by have := b2.size; omega
        have R2 := Lib.hid (And.intro l2 (And.intro o2 (And.intro q3 b2)))
        clear l2 o2 q2 q3 b2 hdr ci EX
        go_wp2_with fail
        rw [HE.out, ← R2.out.2.2.1]
        exact bodyPost_ret (v := rv R T p q dn fl lt ac pt) (by simp [results, Try.results43, go_sem, *]) rfl ⟨T, p, q, rfl, R2.out.1, ((((((((R2.out.2.1.set _ 1 (by omega) _).set _ 0 (by omega) _).set _ 1 (by omega) _).set _ 2 (by omega) _).set _ 3 (by omega) _).set _ 4 (by omega) _).set _ 5 (by omega) _).set _ 6 (by omega) _).base K.out.2.2.1.size,
          st7_below (((K.out.2.2.1.trans (R2.out.2.2.2.mono K.out.2.2.1.size))).setCell (p := ⟨w.heap.size, 1, none⟩) (by show w.heap.size ≤ w.heap.size; omega) _) (w.heap.size + 1 + 1) _ _ _ _ _ _ _ (by omega)⟩
end Go.Proofs.Ytahjodpaikhhmaa
