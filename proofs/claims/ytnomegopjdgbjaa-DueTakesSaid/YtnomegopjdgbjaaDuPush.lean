/- The heap's Push and Pop. -/
import Derived.Test.YtnomegopjdgbjaaDuMem
import Derived.Handy
import Derived.BigRegion
import Derived.RegionTactic
import Derived.ChangeAlike
import Derived.BigQuiet
import Derived.Deep.QuietTactic
import Derived.Deep.RegionLaw
namespace Go.Proofs.Ytnomegopjdgbjaa
open Go Go.RowKit
set_option maxRecDepth 20000

theorem below_alloc (w : World) (o : Obj) : Below w.heap.size w (w.alloc o) := (Below.refl w.heap.size w).alloc (Nat.le_refl _) o
theorem step_appe {T S : TypeId} {z : Value} (ty : Typ T S z) {ops : Array Oper} {o : Oper} {a : Act} {K : Act → World → Prop} {Q : Exit → Act → World → Prop} {X : Prop} (w : World) (hgd : o.guard = none) (s x : Operand)
    (hop : o.op = .call { callee := .builtin .append, args := #[s, x], argTypes := #[S, S] })
    (B : Nat) (v : Value) (L : List E) (hs : a.eval s = v) (ho : OwnE T w B v L) (b off c : Nat) (e : E) (hx : a.eval x = .slice (some ⟨b, off, none⟩) 1 c)
    (hk : w.cell? ⟨b, off, none⟩ = some (.int .u64 (e.1 : Int))) (ha : w.cell? ⟨b, off + 1, none⟩ = some (.int .u64 (e.2 : Int))) (hlen : L.length ≤ 1000000) (hB : B ≤ w.heap.size) (k : Nat) (hkk : L.length + 1 = k)
    (h : ∀ A' c' w', OwnE T w' B (.slice A' k c') (L ++ [e]) → w.grownBy w' v.ownBlock → ((Value.slice A' k c').ownBlock = v.ownBlock ∨ (Value.slice A' k c').ownBlock = some w.heap.size) → K (a.put o.dst (.slice A' k c')) w') :
    if Region.wanted o (yielded ops a.tmps) = true then Oper.wp Try.prog o a w K Q else X := by
  have hw : Region.wanted o (yielded ops a.tmps) = true := by simp [Region.wanted, hgd]
  rw [if_pos hw]
  obtain ⟨v', w', hrun, h2, h3, h4⟩ := run_appe ty w B o.type v L ho b off c e hk ha hlen hB
  obtain ⟨A', c', rfl, _, _⟩ := h2.form
  rw [show (L ++ [e]).length = k by simp; omega] at h2 hrun h4
  unfold Oper.wp
  simp [execOp, hop, resolve, invoke, builtin, hs, hx, hrun, Result.andThen]
  exact h A' c' w' h2 h3 h4
section
variable {W WX w3 : World} {d m : Nat} {v v' : Value} {L L' : List E} {N : Nat} {M : Nat → Option Nat}
theorem Du.app (_h : Du W d m v L N M) (hx : Below W.heap.size W WX) (hg : WX.grownBy w3 v.ownBlock) : Keep (fun x => v.ownBlock = some x) W w3 :=
  (Keep.of_below _ hx).trans (Keep.grown (F := fun x => v.ownBlock = some x) hg (fun _ e => e)) (fun _ _ e => e)
theorem Du.app_d (h : Du W d m v L N M) (K : Keep (fun x => v.ownBlock = some x) W w3) : w3.heap[d]? = some (.cells #[v, .map (some m)] 54 (0, 0)) :=
  (K.block d (h.lt d (.inl rfl)) (fun e => (h.ned e).1 rfl)).trans h.blk
theorem Du.app_c (h : Du W d m v L N M) (K : Keep (fun x => v.ownBlock = some x) W w3) : w3.cell? ⟨d, 0, none⟩ = some v ∧ w3.frozen? ⟨d, 0, none⟩ = false := by
  have := h.app_d K
  exact ⟨by simp [World.cell?, this], by simp [World.frozen?, this]⟩
theorem Du.stored (h : Du W d m v L N M) (K : Keep (fun x => v.ownBlock = some x) W w3) (hO : OwnE 61 w3 0 v' L') (hl : ∀ x, v'.ownBlock = some x → v.ownBlock = some x ∨ W.heap.size ≤ x)
    (hok : ∀ e ∈ L', e.1 < 18446744073709551616 ∧ e.2 < 18446744073709551616) : Du (w3.setCell ⟨d, 0, none⟩ v') d m v' L' N M ∧ Keep (Fp d m v) W (w3.setCell ⟨d, 0, none⟩ v') := by
  have hd := h.lt d (.inl rfl)
  refine ⟨⟨?_, ?_, ?_, hok⟩, ?_⟩
  · have := block_set w3 d 0 v' _ _ _ (h.app_d K)
    rw [this]
    rfl
  · refine hO.same (fun k hk => Below.heap_setCell _ _ _ _ (fun e => ?_))
    simp only at e
    subst e
    rcases hl k hk with c | c
    · exact (h.ned c).1 rfl
    · omega
  · refine h.mp.same ((Below.heap_setCell _ _ _ _ (Ne.symm h.ne)).trans (K.block m h.mp.lt (fun e => (h.ned e).2 rfl)))
  · exact (K.wide (F' := Fp d m v) (fun k _ e => .inr (.inr e))).tr (Keep.set _ _ _ _ (.inl rfl))
end
theorem asserted (w : World) (x : Value) : (Instr.typeAssert (.iface 61 x) 20 61 false).run Try.prog w = .ok x w := by kernel_rfl
set_option maxHeartbeats 4000000 in
theorem push_any {w : World} {d m : Nat} {v : Value} {L : List E} {N : Nat} {M : Nat → Option Nat} (h : Du w d m v L N M) (k a : Nat) (hk : k < 18446744073709551616) (ha : a < 18446744073709551616) (hM : M k = none) (hlen : L.length ≤ 100000) (hN : N ≤ 100000) :
    Calls Try.prog 47 #[.pointer (some ⟨d, 0, none⟩), .iface 61 (.agg #[.int .u64 (k : Int), .int .u64 (a : Int)])] w fun e w' => e = .returned (.tuple #[]) ∧
      ∃ v', Du w' d m v' (L ++ [(k, a)]) (N + 1) (upd M k (some L.length)) ∧ Keep (Fp d m v) w w' ∧ (∀ x, v'.ownBlock = some x → v.ownBlock = some x ∨ w.heap.size ≤ x) := by
  obtain ⟨A, c, rfl, _, _⟩ := h.row.form
  obtain ⟨W1, hW1⟩ : ∃ W1, (w.alloc (.cells #[.int .u64 (k : Int), .int .u64 (a : Int)] 61)) = W1 := ⟨_, rfl⟩
  have hb1 : Below w.heap.size w W1 := by rw [← hW1]; exact below_alloc _ _
  have h1 := h.below hb1
  have hm1 : Mp W1.drew m N M := h1.mp
  obtain ⟨W2, P1, hm2, ht2⟩ := hm1.put (i := L.length) hk (by omega) (by omega)
  rw [hM] at hm2
  have hk2 : Keep (fun x => x = m) W1 W2 := (Keep.turned (F := fun k => k = m) ht2 rfl).undrew
  have hs1 : W1.heap.size = w.heap.size + 1 := by rw [← hW1]; simp
  have hs2 : W2.heap.size = w.heap.size + 1 := by
    obtain ⟨es, clock, es', clock', hb, rfl⟩ := ht2
    simpa [Go.ChangeMaps.setBlock] using hs1
  have hdm := h.ne
  have h2 : Du W2 d m (.slice A L.length c) L (N + 1) (upd M k (some L.length)) :=
    ⟨(hk2.block d (h1.lt d (.inl rfl)) hdm).trans h1.blk, h1.row.keep hk2 (fun x hx e => (h1.ned hx).2 e), by simpa using hm2, h1.ok⟩
  have hm : m < w.heap.size := h.mp.lt
  have hd : d < w.heap.size := h.lt d (.inl rfl)
  have q0 : W1.cell? ⟨w.heap.size, 0, none⟩ = some (.int .u64 (k : Int)) := by rw [← hW1]; simp [go_sem]
  have q1 : W1.cell? ⟨w.heap.size, 1, none⟩ = some (.int .u64 (a : Int)) := by rw [← hW1]; simp [go_sem]
  have HQ : Hid (W2.cell? ⟨w.heap.size, 0, none⟩ = some (.int .u64 (k : Int)) ∧ W2.cell? ⟨w.heap.size, 1, none⟩ = some (.int .u64 (a : Int))) := ⟨hk2.cell q0 (by show ¬ w.heap.size = m; omega), hk2.cell q1 (by show ¬ w.heap.size = m; omega)⟩
  have HQ1 : Hid (W1.cell? ⟨w.heap.size, 0, none⟩ = some (.int .u64 (k : Int)) ∧ W1.cell? ⟨d, 0, none⟩ = some (.slice A L.length c) ∧ W1.cell? ⟨d, 1, none⟩ = some (.map (some m))) := ⟨q0, h1.c0, h1.c1⟩
  have HS := Lib.hid hs2
  have H2 := Lib.hid h2
  have HK : Hid (Keep (Fp d m (.slice A L.length c)) w W2) := (Keep.of_below _ hb1).trans hk2 (fun x _ e => .inr (.inl e))
  have HP := Lib.hid P1
  have HW := Lib.hid hW1
  have c0 := h.c0
  have c1 := h.c1
  have hlen' := hlen
  generalize hn : L.length = n at *
  have HN := Lib.hid hn
  clear hn P1 hW1 h2 hk2 hm1 hm2 ht2 hs1 hs2 q0 q1 hb1 h1 h
  have ta := asserted
  go_enter Try.func47, Try.ntmps47
  go_wp2
  rw [HW.out]
  clear c0 c1
  obtain ⟨q0, c0, c1⟩ := HQ1.out
  have P1 := HP.out
  go_region
  go_wp2
  clear c0 c1 q0 P1
  obtain ⟨q0, q1⟩ := HQ.out
  have c0 := H2.out.c0
  have f0 := H2.out.f0
  have hdz : d < W2.heap.size := by have := HS.out; omega
  have hwz : w.heap.size < W2.heap.size := by have := HS.out; omega
  go_region_law (first
    | (refine step_appe typE _ (by rfl) (.tmp 22) (.tmp 24) (by rfl) 0 _ L (by rfl) (H2.out.row.below ((Below.refl _ _).drew.alloc (Nat.le_refl _) _)) _ 0 1 (k, a) (by rfl) (by simp [go_sem]) (by simp [go_sem]) (by have := HN.out; omega) (Nat.zero_le _) (n + 1) (by rw [HN.out]) ?_; intro A3 c3 w3 hO3 hg3 hl3; have K3 := Lib.hid (H2.out.app ((Below.refl _ _).drew.alloc (Nat.le_refl _) _) hg3); have c3' := (H2.out.app_c K3.out).1; have f3' := (H2.out.app_c K3.out).2; have HO := Lib.hid hO3; have HL := Lib.hid hl3; clear hO3 hg3 hl3))
  all_goals go_end0
  all_goals (
    obtain ⟨hd4, hk4⟩ := H2.out.stored K3.out HO.out (fun x hx => by
      have := HL.out
      rw [hx] at this
      rcases this with e | e
      · exact .inl e.symm
      · have := HS.out
        injection e with e
        simp at e
        exact .inr (by omega)) (fun e he => by
      rcases List.mem_append.1 he with he | he
      · exact H2.out.ok e he
      · simp at he
        subst he
        exact ⟨hk, ha⟩)
    refine ⟨rfl, _, hd4, HK.out.trans hk4 (fun _ _ e => e), fun x hx => ?_⟩
    have := HL.out
    rw [hx] at this
    rcases this with e | e
    · exact .inl e.symm
    · have := HS.out
      injection e with e
      simp at e
      exact .inr (by omega))
set_option maxHeartbeats 4000000 in
theorem pop_any {w : World} {d m : Nat} {v : Value} {L : List E} {N : Nat} {M : Nat → Option Nat} (h : Du w d m v L N M) (n : Nat) (hl : L.length = n + 1) (hlen : n ≤ 100000) :
    Calls Try.prog 46 #[.pointer (some ⟨d, 0, none⟩)] w fun e w' => e = .returned (.iface 61 (.agg #[.int .u64 ((g L n).1 : Int), .int .u64 ((g L n).2 : Int)])) ∧
      ∃ v', Du w' d m v' (L.take n) N M ∧ Keep (Fp d m v) w w' ∧ v'.ownBlock = v.ownBlock := by
  obtain ⟨b, c, cur, rfl, _, hh, hc⟩ := h.row.block (by omega)
  obtain ⟨A, c', e, hpr, _⟩ := h.row.form
  injection e with e ea eb
  subst e
  obtain ⟨b', off', e', ci, di⟩ := hpr n (by omega)
  injection e' with e'
  injection e' with e1 e2
  subst e1 e2
  simp only [Nat.zero_add] at ci di
  have c0 := h.c0
  have f0 := h.f0
  have hd := h.lt d (.inl rfl)
  have hb := (h.row.lt b rfl).2
  have HH := Lib.hid h
  generalize (g L n).1 = k at *
  generalize (g L n).2 = a at *
  rw [hl] at c0 hc
  have HL := Lib.hid hl
  have hc1 : (n : Int) ≤ (c : Int) := by omega
  have hz : ((n + 1 : Nat) : Int) = (n : Int) + 1 := by omega
  have hn0 : (0 : Int) ≤ (n : Int) := by omega
  clear hl ea eb hpr h hh
  go_enter Try.func46, Try.ntmps46
  go_wp2
  go_ret
  obtain ⟨hd4, hk4⟩ := HH.out.stored (v' := .slice (some ⟨b, 0, none⟩) n c) (L' := L.take n) (Keep.refl _ _) (HH.out.row.pop (by have := HL.out; omega) (by have := HL.out; omega)) (fun x hx => .inl hx) (fun e he => HH.out.ok e (List.mem_of_mem_take he))
  exact ⟨rfl, _, hd4.below (below_alloc _ _), hk4.tr (Keep.of_below _ (below_alloc _ _)), rfl⟩
end Go.Proofs.Ytnomegopjdgbjaa
