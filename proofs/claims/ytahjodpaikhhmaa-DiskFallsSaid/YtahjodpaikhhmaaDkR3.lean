/- The document's fall, fuse, and how an act begins. -/
import Derived.Test.YtahjodpaikhhmaaDkR2
namespace Go.Proofs.Ytahjodpaikhhmaa
open Go Go.RowKit
set_option maxRecDepth 20000

theorem look7 {W : World} {g : Nat} {T : TypeId} {a0 a1 a2 a3 a4 a5 a6 : Value} (h : W.heap[g]? = some (.cells #[a0, a1, a2, a3, a4, a5, a6] T (0, 0))) :
    W.cell? ⟨g, 0, none⟩ = some a0 ∧ W.cell? ⟨g, 1, none⟩ = some a1 ∧ W.cell? ⟨g, 2, none⟩ = some a2 ∧ W.cell? ⟨g, 3, none⟩ = some a3 ∧ W.cell? ⟨g, 4, none⟩ = some a4 ∧ W.cell? ⟨g, 5, none⟩ = some a5 ∧ W.cell? ⟨g, 6, none⟩ = some a6 ∧ W.frozen? ⟨g, 0, none⟩ = false ∧ W.frozen? ⟨g, 1, none⟩ = false ∧ W.frozen? ⟨g, 2, none⟩ = false ∧ W.frozen? ⟨g, 3, none⟩ = false ∧ W.frozen? ⟨g, 4, none⟩ = false ∧ W.frozen? ⟨g, 5, none⟩ = false ∧ W.frozen? ⟨g, 6, none⟩ = false ∧ g < W.heap.size :=
  ⟨by rw [cell_in h]; rfl, by rw [cell_in h]; rfl, by rw [cell_in h]; rfl, by rw [cell_in h]; rfl, by rw [cell_in h]; rfl, by rw [cell_in h]; rfl, by rw [cell_in h]; rfl, free_in h 0, free_in h 1, free_in h 2, free_in h 3, free_in h 4, free_in h 5, free_in h 6, (Array.getElem?_eq_some_iff.1 h).1⟩
theorem look3 {W : World} {g : Nat} {T : TypeId} {a0 a1 a2 : Value} (h : W.heap[g]? = some (.cells #[a0, a1, a2] T (0, 0))) :
    W.cell? ⟨g, 0, none⟩ = some a0 ∧ W.cell? ⟨g, 1, none⟩ = some a1 ∧ W.cell? ⟨g, 2, none⟩ = some a2 ∧ W.frozen? ⟨g, 0, none⟩ = false ∧ W.frozen? ⟨g, 1, none⟩ = false ∧ W.frozen? ⟨g, 2, none⟩ = false ∧ g < W.heap.size :=
  ⟨by rw [cell_in h]; rfl, by rw [cell_in h]; rfl, by rw [cell_in h]; rfl, free_in h 0, free_in h 1, free_in h 2, (Array.getElem?_eq_some_iff.1 h).1⟩
/- a struct is stored whole -/
theorem boxed {W : World} {g : Nat} {T : TypeId} {a0 a1 a2 a3 a4 a5 a6 : Value} (h : W.heap[g]? = some (.cells #[a0, a1, a2, a3, a4, a5, a6] T (0, 0))) (v0 v1 v2 v3 v4 v5 v6 : Value) :
    ∃ W1, (((((((W.setCell ⟨g, 0, none⟩ v0).setCell ⟨g, 1, none⟩ v1).setCell ⟨g, 2, none⟩ v2).setCell ⟨g, 3, none⟩ v3).setCell ⟨g, 4, none⟩ v4).setCell ⟨g, 5, none⟩ v5).setCell ⟨g, 6, none⟩ v6) = W1 ∧ W1.heap[g]? = some (.cells #[v0, v1, v2, v3, v4, v5, v6] T (0, 0)) ∧ (∀ k, k ≠ g → W1.heap[k]? = W.heap[k]?) ∧ W1.heap.size = W.heap.size ∧ ∀ B w, Below B w W → B ≤ g → Below B w W1 :=
  ⟨_, rfl, st7 h _ _ _ _ _ _ _, fun k hk => st7_off _ _ _ _ _ _ _ _ _ _ hk, st7_size _ _ _ _ _ _ _ _ _, fun B w hb hg => st7_below hb _ _ _ _ _ _ _ _ hg⟩
structure Rs (w : World) (A : Option Addr) (L : List RF) : Prop where
  fls : Fls w A L
  hdr : ∀ r ∈ L, Byt w r.A r.f.bs ∧ r.f.bs.length ≤ r.c ∧ (r.A = none → r.c = 0)
theorem Rs.below {w w' : World} {A : Option Addr} {L : List RF} (h : Rs w A L) (hb : Below w.heap.size w w') : Rs w' A L := ⟨h.fls.below hb, fun r hr => ⟨(h.hdr r hr).1.below hb, (h.hdr r hr).2⟩⟩
structure Nw (w : World) (A : Option Addr) (L : List RF) (w' : World) (A' : Option Addr) (L' : List RF) : Prop where
  a : ∀ x, A' = some x → A = some x ∨ (w.heap.size ≤ x.block ∧ x.block < w'.heap.size)
  h : ∀ r ∈ L', (∃ r0 ∈ L, r.A = r0.A) ∨ ∀ x, r.A = some x → w.heap.size ≤ x.block ∧ x.block < w'.heap.size
theorem Nw.same (w w' : World) (A : Option Addr) (L : List RF) : Nw w A L w' A L := ⟨fun x e => .inl e, fun r hr => .inl ⟨r, hr, rfl⟩⟩
def RAct (w : World) (A : Option Addr) (L : List RF) (n : Int) (R : Int) (dn : Bool) (fl : Int) (lt : Bool) (ac pt : Int) (l' : List Fl) (e : Ending) (w' : World) : Prop :=
  ∃ A' n' c' L', e = .returned (.tuple #[.int .i64 n, .agg #[.int .i64 R, .slice A' n' c', .bool dn, .int .i64 fl, .bool lt, .int .i64 ac, .int .i64 pt]]) ∧ Go.Proofs.Ytahjodpaikhhmaa.fls L' = l' ∧ L'.length = n' ∧ Rs w' A' L' ∧ Nw w A L w' A' L' ∧ Below w.heap.size w w'
set_option maxHeartbeats 1000000 in
theorem rcrash_any (w : World) (R : Int) (A : Option Addr) (n c : Nat) (dn : Bool) (fl : Int) (lt : Bool) (ac pt : Int) :
    Calls Try.prog 29 #[rv R A n c dn fl lt ac pt] w fun e w' => e = .returned (.agg #[.int .i64 R, .slice A n c, .bool true, .int .i64 (if dn then fl else wrap64 (fl + 1)), .bool false, .int .i64 0, .int .i64 0]) ∧ Below w.heap.size w w' := by
  cases dn
  all_goals
    go_enter Try.func29, Try.ntmps29
    go_wp2
    exact bodyPost_ret (v := .agg #[.int .i64 R, .slice A n c, .bool true, .int .i64 _, .bool false, .int .i64 0, .int .i64 0]) (by simp [results, Try.results29, go_sem]) rfl ⟨rfl, below_go (below_alloc _ _) (below_alloc _ _)⟩
set_option maxHeartbeats 1000000 in
theorem rlight_any (w : World) (R : Int) (A : Option Addr) (n c : Nat) (dn : Bool) (fl : Int) (lt : Bool) (ac pt : Int) (x y : Int) :
    Calls Try.prog 28 #[rv R A n c dn fl lt ac pt, .int .i64 x, .int .i64 y] w fun e w' => e = .returned (.agg #[.int .i64 R, .slice A n c, .bool dn, .int .i64 fl, .bool true, .int .i64 (max x 0), .int .i64 (max y 0)]) ∧ Below w.heap.size w w' := by
  go_enter Try.func28, Try.ntmps28
  go_wp2
  exact bodyPost_ret (v := .agg #[.int .i64 R, .slice A n c, .bool dn, .int .i64 fl, .bool true, .int .i64 (max x 0), .int .i64 (max y 0)]) (by simp [results, Try.results28, go_sem]) rfl ⟨rfl, below_go (below_alloc _ _) (below_alloc _ _)⟩
/- how an act begins: as the list's disk does -/
def how (S : St) : Nat := if S.up then (if cutOff S then 1 else 0) else 2
def Begun (w : World) (S : St) (A : Option Addr) (n c : Nat) (e : Ending) (w' : World) : Prop :=
  e = .returned (.tuple #[.int .i64 (how S : Int), .agg #[.int .i64 (S.room : Int), .slice A n c, .bool (!(begun S).up), .int .i64 (begun S).falls, .bool (begun S).lit, .int .i64 ((begun S).acts : Int), .int .i64 ((begun S).part : Int)]]) ∧ Below w.heap.size w w'
set_option maxHeartbeats 2000000 in
theorem rbegin_any (w : World) (S : St) (A : Option Addr) (n c : Nat) (ha : S.acts < 9223372036854775808) :
    Calls Try.prog 40 #[rv (S.room : Int) A n c (!S.up) S.falls S.lit (S.acts : Int) (S.part : Int)] w (Begun w S A n c) := by
  obtain ⟨room, fs, up, falls, lit, acts, part⟩ := S
  simp only at ha ⊢
  cases up
  · have E : Hid (Begun w ⟨room, fs, false, falls, lit, acts, part⟩ A n c = fun e w' => e = .returned (.tuple #[.int .i64 2, .agg #[.int .i64 (room : Int), .slice A n c, .bool true, .int .i64 falls, .bool lit, .int .i64 (acts : Int), .int .i64 (part : Int)]]) ∧ Below w.heap.size w w') := Lib.hid rfl
    rw [E.out]
    clear ha E
    go_enter Try.func40, Try.ntmps40
    go_wp2
    go_region
    all_goals
      go_wp2
      exact bodyPost_ret (v := .tuple #[.int .i64 2, .agg #[.int .i64 (room : Int), .slice A n c, .bool true, .int .i64 falls, .bool lit, .int .i64 (acts : Int), .int .i64 (part : Int)]]) (by simp [results, Try.results40, go_sem]) rfl ⟨rfl, (below_go (below_alloc _ _) (below_alloc _ _)).drew⟩
  · cases lit
    · have E : Hid (Begun w ⟨room, fs, true, falls, false, acts, part⟩ A n c = fun e w' => e = .returned (.tuple #[.int .i64 0, .agg #[.int .i64 (room : Int), .slice A n c, .bool false, .int .i64 falls, .bool false, .int .i64 (acts : Int), .int .i64 (part : Int)]]) ∧ Below w.heap.size w w') := Lib.hid rfl
      rw [E.out]
      clear ha E
      go_enter Try.func40, Try.ntmps40
      go_wp2
      go_region
      all_goals
        go_wp2
        exact bodyPost_ret (v := .tuple #[.int .i64 0, .agg #[.int .i64 (room : Int), .slice A n c, .bool false, .int .i64 falls, .bool false, .int .i64 (acts : Int), .int .i64 (part : Int)]]) (by simp [results, Try.results40, go_sem]) rfl ⟨rfl, (below_go (below_alloc _ _) (below_alloc _ _)).drew⟩
    · by_cases hz : acts = 0
      · subst hz
        have E : Hid (Begun w ⟨room, fs, true, falls, true, 0, part⟩ A n c = fun e w' => e = .returned (.tuple #[.int .i64 1, .agg #[.int .i64 (room : Int), .slice A n c, .bool true, .int .i64 (wrap64 (falls + 1)), .bool false, .int .i64 0, .int .i64 0]]) ∧ Below w.heap.size w w') := Lib.hid rfl
        rw [E.out]
        have b0 := below_go (below_alloc w (rc (room : Int) A n c false falls true ((0 : Nat) : Int) (part : Int))) (below_alloc _ rc0)
        have B0 := Lib.hid b0
        have C := Lib.hid (rcrash_any ((w.alloc (rc (room : Int) A n c false falls true ((0 : Nat) : Int) (part : Int))).alloc rc0) (room : Int) A n c false falls true 0 (part : Int))
        have T0 := Lib.hid (two_start w (room : Int) A n c false falls true ((0 : Nat) : Int) (part : Int))
        clear ha b0 E
        go_enter Try.func40, Try.ntmps40
        go_wp2_with fail
        refine C.out.mono ?_
        rintro e w1 ⟨rfl, hb1⟩
        have t1 := T0.out.below hb1 (by simp)
        obtain ⟨y0, y1, y2, y3, y4, y5, y6, f0, f1, f2, f3, f4, f5, f6, hg⟩ := look7 t1.b1
        have BB := Lib.hid (below_go B0.out hb1)
        clear C T0 B0 hb1 t1
        go_wp2_with fail
        exact bodyPost_ret (v := .tuple #[.int .i64 1, .agg #[.int .i64 (room : Int), .slice A n c, .bool true, .int .i64 (wrap64 (falls + 1)), .bool false, .int .i64 0, .int .i64 0]]) (by simp [results, Try.results40, go_sem, *]) rfl ⟨rfl, st7_below BB.out _ _ _ _ _ _ _ _ (by omega)⟩
      · have E : Hid (Begun w ⟨room, fs, true, falls, true, acts, part⟩ A n c = fun e w' => e = .returned (.tuple #[.int .i64 0, .agg #[.int .i64 (room : Int), .slice A n c, .bool false, .int .i64 falls, .bool true, .int .i64 ((acts - 1 : Nat) : Int), .int .i64 (part : Int)]]) ∧ Below w.heap.size w w') := Lib.hid (by
          unfold Begun how begun cutOff tick; simp [hz])
        rw [E.out]
        have hp : (0 : Int) < (acts : Int) := by omega
        have hq : (acts : Int) ≤ 9223372036854775807 := by omega
        have E3 := Lib.hid (show ((acts - 1 : Nat) : Int) = (acts : Int) - 1 by omega)
        rw [E3.out]
        clear ha hz E
        go_enter Try.func40, Try.ntmps40
        go_wp2
        go_region
        all_goals
          go_wp2
          exact bodyPost_ret (v := .tuple #[.int .i64 0, .agg #[.int .i64 (room : Int), .slice A n c, .bool false, .int .i64 falls, .bool true, .int .i64 ((acts : Int) - 1), .int .i64 (part : Int)]]) (by simp [results, Try.results40, go_sem]) rfl ⟨rfl, (below_go (below_alloc _ _) (below_alloc _ _)).drew⟩
end Go.Proofs.Ytahjodpaikhhmaa
