/- A list of dues: one is removed. -/
import Derived.Test.YtnomegopjdgbjaaDuHeap
namespace Go.Proofs.Ytnomegopjdgbjaa
open Go Go.RowKit
set_option maxRecDepth 20000

/- a list of dues: a heap whose map tells the places -/
structure Dl (w : World) (d m : Nat) (v : Value) (L : List E) : Prop where
  du : ∃ M, Du w d m v L L.length M ∧ Pos M L
  hp : Hp L.length L
section
variable {w w' : World} {d m : Nat} {v : Value} {L : List E}
theorem Dl.lt (h : Dl w d m v L) : ∀ k, Fp d m v k → k < w.heap.size := by
  obtain ⟨M, h1, _⟩ := h.du
  exact h1.lt
theorem Dl.keep (h : Dl w d m v L) {F : Nat → Prop} (hb : Keep F w w') (hF : ∀ k, Fp d m v k → ¬ F k) : Dl w' d m v L := by
  obtain ⟨⟨M, h1, h2⟩, h3⟩ := h
  exact ⟨⟨M, h1.keep hb hF, h2⟩, h3⟩
theorem Dl.below (h : Dl w d m v L) (hb : Below w.heap.size w w') : Dl w' d m v L := by
  obtain ⟨⟨M, h1, h2⟩, h3⟩ := h
  exact ⟨⟨M, h1.below hb, h2⟩, h3⟩
theorem Dl.once (h : Dl w d m v L) : Once L := by
  obtain ⟨M, _, h2⟩ := h.du
  exact h2.once
theorem Dl.ok (h : Dl w d m v L) : ∀ e ∈ L, e.1 < 18446744073709551616 ∧ e.2 < 18446744073709551616 := by
  obtain ⟨M, h1, _⟩ := h.du
  exact h1.ok
end
set_option maxHeartbeats 4000000 in
theorem remove_any {w : World} {d m : Nat} {v : Value} {L : List E} (h : Dl w d m v L) (i : Nat) (hi : i < L.length) (hlen : L.length ≤ 90000) :
    Calls Try.prog 23 #[ptr d, .int .i64 (i : Int)] w fun e w' => e = .returned (agg (g L i)) ∧
      ∃ v' L2, Dl w' d m v' L2 ∧ (L2 ++ [g L i]).Perm L ∧ Keep (Fp d m v) w w' ∧ v'.ownBlock = v.ownBlock := by
  obtain ⟨⟨M, h1, h2⟩, h3⟩ := h
  obtain ⟨n, hn⟩ : ∃ n, L.length = n + 1 := ⟨L.length - 1, by omega⟩
  have hb := below_alloc w (.cells #[.int .u64 0, .int .u64 0] 61)
  have C1 := Lib.hid (hremove_any (h1.below hb) h2 i n hn (by omega) h3 (by omega) (by omega))
  have HLT := Lib.hid h1.lt
  have HB := Lib.hid hb
  have HN := Lib.hid hn
  have KK := Lib.hid (h1.ok _ (g_mem L i hi)).1
  clear h1 h2 h3 hn hb
  generalize g L i = x at *
  obtain ⟨k, a⟩ := x
  have ta := asserted
  go_enter Try.func23, Try.ntmps23
  go_wp2_with fail
  refine C1.out.mono ?_
  rintro e w1 ⟨rfl, v', L3, M3, a1, a2, a3, a4, a5, a6⟩
  have hr : w1.heap[w.heap.size]? = some (.cells #[.int .u64 0, .int .u64 0] 61 (0, 0)) :=
    (a5.block w.heap.size (by simp) (fun e => by have := HLT.out _ e; omega)).trans (heap_alloc_new _ _)
  have hL3 : L3.length = n := by have := a3.length_eq; simp at this; have := HN.out; omega
  have hsz : w.heap.size < w1.heap.size := (Array.getElem?_eq_some_iff.1 hr).1
  obtain ⟨W2, hW2⟩ : ∃ W2, w1.alloc (.cells #[.int .u64 (k : Int), .int .u64 (a : Int)] 61) = W2 := ⟨_, rfl⟩
  have hb2 : Below w1.heap.size w1 W2 := by rw [← hW2]; exact below_alloc _ _
  have d2 := a1.below hb2
  have hm2 : Mp W2.drew m L.length M3 := d2.mp
  obtain ⟨W3, P3⟩ : ∃ W3, ∀ ty, (Builtin.delete_ #[49, 28] ty #[.map (some m), .int .u64 (k : Int)]).run Try.prog W2.drew = .ok (.tuple #[]) W3 ∧ Mp W3 m (L.length - 1) (upd M3 k none) ∧ W2.drew.mapTurned W3 m := by
    have := fun ty => hm2.del KK.out (by have := a2.at_ L3.length (by simp); rw [g_last] at this; rw [this]; rfl) ty
    obtain ⟨W3, q1, q2, q3⟩ := this 0
    refine ⟨W3, fun ty => ?_⟩
    obtain ⟨W3', r1, r2, r3⟩ := this ty
    have : (Builtin.delete_ #[49, 28] ty #[.map (some m), .int .u64 (k : Int)]) = (Builtin.delete_ #[49, 28] 0 #[.map (some m), .int .u64 (k : Int)]) := rfl
    exact ⟨by rw [this]; exact q1, q2, q3⟩
  have PR := fun ty => (P3 ty).1
  obtain ⟨q1, q2, q3⟩ := P3 0
  have hk3 : Keep (fun x => x = m) W2 W3 := (Keep.turned (F := fun k => k = m) q3 rfl).undrew
  have hmw : m < w.heap.size := HLT.out m (.inr (.inl rfl))
  have hr2 : W2.heap[w.heap.size]? = some (.cells #[.int .u64 0, .int .u64 0] 61 (0, 0)) := (hb2.block _ hsz).trans hr
  have hs2 : W2.heap.size = w1.heap.size + 1 := by rw [← hW2]; simp
  have hx2 : W2.heap[w1.heap.size]? = some (.cells #[.int .u64 (k : Int), .int .u64 (a : Int)] 61 (0, 0)) := by rw [← hW2]; exact heap_alloc_new _ _
  have hr3 : W3.heap[w.heap.size]? = some (.cells #[.int .u64 0, .int .u64 0] 61 (0, 0)) := (hk3.block _ (by omega) (by omega)).trans hr2
  have hx3 : W3.heap[w1.heap.size]? = some (.cells #[.int .u64 (k : Int), .int .u64 (a : Int)] 61 (0, 0)) := (hk3.block _ (by omega) (by omega)).trans hx2
  have y0 : W3.cell? ⟨w1.heap.size, 0, none⟩ = some (.int .u64 (k : Int)) := by simp [World.cell?, hx3]
  have y1 : W3.cell? ⟨w1.heap.size, 1, none⟩ = some (.int .u64 (a : Int)) := by simp [World.cell?, hx3]
  have z0 : W3.cell? ⟨w.heap.size, 0, none⟩ = some (.int .u64 0) := by simp [World.cell?, hr3]
  have z1 : W3.cell? ⟨w.heap.size, 1, none⟩ = some (.int .u64 0) := by simp [World.cell?, hr3]
  have fz0 : W3.frozen? ⟨w.heap.size, 0, none⟩ = false := by simp [World.frozen?, hr3]
  have fz1 : W3.frozen? ⟨w.heap.size, 1, none⟩ = false := by simp [World.frozen?, hr3]
  have Y := Lib.hid (And.intro y0 (And.intro y1 (And.intro z0 (And.intro z1 (And.intro fz0 fz1)))))
  have x0 : W2.cell? ⟨w1.heap.size, 0, none⟩ = some (.int .u64 (k : Int)) := by simp [World.cell?, hx2]
  have X := Lib.hid (And.intro x0 d2.c1)
  have hdw : d < w.heap.size := HLT.out d (.inl rfl)
  have d3 : Du W3 d m v' L3 L3.length (upd M3 k none) :=
    ⟨(hk3.block d (d2.lt d (.inl rfl)) d2.ne).trans d2.blk, d2.row.keep hk3 (fun x hx e => (d2.ned hx).2 e), by rw [show L3.length = L.length - 1 by have := HN.out; omega]; exact q2, d2.ok⟩
  have RES := Lib.hid (And.intro d3 (And.intro (Pos.pop a2) (And.intro a3 (And.intro a4 (And.intro a6 ((((Keep.of_below _ HB.out).tr a5).tr (Keep.of_below _ hb2)).trans hk3 (fun x _ e => .inr (.inl e))))))))
  have HW2 := Lib.hid hW2
  have HPR := Lib.hid PR
  clear a1 a2 a3 a4 a5 a6 d2 d3 hm2 P3 q2 q3 hk3 hr hr2 hx2 hr3 hx3 y0 y1 z0 z1 fz0 fz1 x0 hW2 hb2 hs2 PR C1 q1 hL3
  go_wp2_with fail
  rw [HW2.out]
  obtain ⟨x0, x1⟩ := X.out
  have PR := HPR.out
  go_region
  clear x0 x1 PR
  obtain ⟨y0, y1, z0, z1, fz0, fz1⟩ := Y.out
  go_wp2_with fail
  refine bodyPost_ret (v := agg (k, a)) ?_ rfl ?_
  · have t0 : ((W3.setCell ⟨w.heap.size, 0, none⟩ (.int .u64 (k : Int))).setCell ⟨w.heap.size, 1, none⟩ (.int .u64 (a : Int))).cell? ⟨w.heap.size, 0, none⟩ = some (.int .u64 (k : Int)) := by
      rw [World.cell?_setCell_other _ _ _ _ (by simp)]; exact World.cell?_setCell_same _ _ _ z0
    have t1 : ((W3.setCell ⟨w.heap.size, 0, none⟩ (.int .u64 (k : Int))).setCell ⟨w.heap.size, 1, none⟩ (.int .u64 (a : Int))).cell? ⟨w.heap.size, 1, none⟩ = some (.int .u64 (a : Int)) :=
      World.cell?_setCell_same _ _ _ (by rw [World.cell?_setCell_other _ _ _ _ (by simp)]; exact z1)
    generalize ((W3.setCell ⟨w.heap.size, 0, none⟩ (.int .u64 (k : Int))).setCell ⟨w.heap.size, 1, none⟩ (.int .u64 (a : Int))) = W4 at t0 t1 ⊢
    simp [results, Try.results23, go_sem, t0, t1]
  obtain ⟨r1, r2, r3, r4, r5, r6⟩ := RES.out
  have hk4 := (Keep.set (fun x => x = w.heap.size) W3 ⟨w.heap.size, 0, none⟩ (.int .u64 (k : Int)) rfl).tr (Keep.set (fun x => x = w.heap.size) _ ⟨w.heap.size, 1, none⟩ (.int .u64 (a : Int)) rfl)
  refine ⟨rfl, v', L3, ⟨⟨_, r1.keep hk4 (fun x hx e => ?_), r2⟩, r4⟩, r3, r6.trans hk4 (fun x hx e => ?_), r5⟩
  · have hx' : Fp d m v x := by
      rcases hx with h | h | h
      · exact .inl h
      · exact .inr (.inl h)
      · exact .inr (.inr (by rw [← r5]; exact h))
    have := HLT.out x hx'
    omega
  · omega
end Go.Proofs.Ytnomegopjdgbjaa
