/- Rows of pairs of numbers in memory, frames, and a list of dues in memory. -/
import Derived.Test.YtnomegopjdgbjaaDuMap
import Derived.WalkKit
import Derived.WalkLawsBesides
import Derived.Lib.Hide
import Derived.Below
import Derived.Laws.AppendOwnNone
import Derived.Laws.OwnMore
import Derived.Laws.MakeOwn
import Derived.Maps.AppendAt
import Derived.OwnWalk
import Derived.Deep.Draws
namespace Go.Proofs.Ytnomegopjdgbjaa
open Go Go.RowKit
set_option maxRecDepth 20000

theorem add_plain (b off i : Nat) : (⟨b, off, none⟩ : Addr).add i = ⟨b, off + i, none⟩ := by unfold Addr.add; split <;> simp_all
def ecl (e : E) : List Value := [.int .u64 (e.1 : Int), .int .u64 (e.2 : Int)]
def ecls (L : List E) : List Value := L.flatMap ecl
theorem ecls_len (L : List E) : (ecls L).length = L.length * 2 := by
  induction L with
  | nil => rfl
  | cons v L ih => show (ecl v ++ ecls L).length = _; rw [List.length_append, ih, List.length_cons]; simp [ecl]; omega
theorem ecls_app (L M : List E) : ecls (L ++ M) = ecls L ++ ecls M := by unfold ecls; rw [List.flatMap_append]
theorem ecls_get (L : List E) (i : Nat) (hi : i < L.length) (j : Nat) (hj : j < 2) : (ecls L)[i * 2 + j]? = (ecl (g L i))[j]? := by
  induction L generalizing i with
  | nil => simp at hi
  | cons v L ih =>
    show (ecl v ++ ecls L)[i * 2 + j]? = _
    have h4 : (ecl v).length = 2 := rfl
    rcases i with _ | i
    · rw [List.getElem?_append_left (by omega)]; simp [g]
    · rw [List.getElem?_append_right (by omega), h4, show (i + 1) * 2 + j - 2 = i * 2 + j by omega, ih i (by simpa using hi)]; simp [g]
theorem ecls_set (L : List E) (i : Nat) (e : E) (hi : i < L.length) : ((ecls L).set (i * 2) (.int .u64 (e.1 : Int))).set (i * 2 + 1) (.int .u64 (e.2 : Int)) = ecls (L.set i e) := by
  induction L generalizing i with
  | nil => simp at hi
  | cons v L ih =>
    rcases i with _ | i
    · simp [ecls, ecl]
    · rw [show (i + 1) * 2 = i * 2 + 1 + 1 by omega, show ecls (v :: L) = .int .u64 (v.1 : Int) :: .int .u64 (v.2 : Int) :: ecls L from rfl]
      simp only [List.set_cons_succ]
      rw [ih i (by simpa using hi)]
      rfl
theorem ecls_one (L : List E) : ∀ u ∈ ecls L, u.oneCell' = true := by
  intro u hu
  obtain ⟨v, _, h⟩ := List.mem_flatMap.1 hu
  simp only [ecl, List.mem_cons, List.not_mem_nil, or_false] at h
  rcases h with rfl | rfl <;> rfl
theorem ecls_take (L : List E) (n : Nat) : (ecls L).take (n * 2) = ecls (L.take n) := by
  induction L generalizing n with
  | nil => simp [ecls]
  | cons v L ih =>
    rcases n with _ | n
    · simp [ecls]
    · rw [show (n + 1) * 2 = n * 2 + 1 + 1 by omega, show ecls (v :: L) = .int .u64 (v.1 : Int) :: .int .u64 (v.2 : Int) :: ecls L from rfl]
      simp only [List.take_succ_cons]
      rw [ih n]
      rfl
/- what stays -/
structure Keep (F : Nat → Prop) (w w' : World) : Prop where
  os : w'.os = w.os
  tape : w'.tape = w.tape
  output : w'.output = w.output
  size : w.heap.size ≤ w'.heap.size
  block : ∀ k, k < w.heap.size → ¬ F k → w'.heap[k]? = w.heap[k]?
theorem Keep.refl (F : Nat → Prop) (w : World) : Keep F w w := ⟨rfl, rfl, rfl, Nat.le_refl _, fun _ _ _ => rfl⟩
theorem Keep.trans {F F' : Nat → Prop} {a b c : World} (h : Keep F a b) (k : Keep F' b c) (hF : ∀ i, i < a.heap.size → F' i → F i) : Keep F a c :=
  ⟨k.os.trans h.os, k.tape.trans h.tape, k.output.trans h.output, Nat.le_trans h.size k.size, fun i hi hn => (k.block i (Nat.lt_of_lt_of_le hi h.size) (fun e => hn (hF i hi e))).trans (h.block i hi hn)⟩
theorem Keep.tr {F : Nat → Prop} {a b c : World} (h : Keep F a b) (k : Keep F b c) : Keep F a c := h.trans k (fun _ _ e => e)
theorem Keep.wide {F F' : Nat → Prop} {a b : World} (h : Keep F a b) (hF : ∀ i, i < a.heap.size → F i → F' i) : Keep F' a b := ⟨h.os, h.tape, h.output, h.size, fun i hi hn => h.block i hi (fun e => hn (hF i hi e))⟩
theorem Keep.of_below (F : Nat → Prop) {w w' : World} (h : Below w.heap.size w w') : Keep F w w' := ⟨h.os, h.tape, h.output, h.size, fun k hk _ => h.block k hk⟩
theorem Keep.below {F : Nat → Prop} {w w' : World} {B : Nat} (h : Keep F w w') (hF : ∀ k, F k → B ≤ k) (hB : B ≤ w.heap.size) : Below B w w' :=
  ⟨h.os, h.tape, h.output, h.size, fun k hk => h.block k (by omega) (fun e => by have := hF k e; omega)⟩
theorem Keep.cell {F : Nat → Prop} {w w' : World} (h : Keep F w w') {p : Addr} {v : Value} (hp : w.cell? p = some v) (hn : ¬ F p.block) : w'.cell? p = some v :=
  (World.cell?_of_block (w := w) (h.block p.block (World.block_lt_of_cell? _ _ hp) hn)).trans hp
theorem Keep.set (F : Nat → Prop) (w : World) (p : Addr) (v : Value) (h : F p.block) : Keep F w (w.setCell p v) :=
  ⟨rfl, rfl, rfl, by simp, fun k _ hn => Below.heap_setCell _ _ _ _ (fun e => hn (e ▸ h))⟩
theorem Keep.drew {F : Nat → Prop} {w w' : World} (h : Keep F w w') : Keep F w w'.drew := ⟨h.os, h.tape, h.output, h.size, h.block⟩
theorem Keep.undrew {F : Nat → Prop} {w w' : World} (h : Keep F w.drew w') : Keep F w w' := ⟨h.os, h.tape, h.output, h.size, h.block⟩
theorem Keep.turned {F : Nat → Prop} {w w' : World} {m : Nat} (h : w.mapTurned w' m) (hF : F m) : Keep F w w' :=
  ⟨h.grown.os, h.grown.tape, h.grown.output, h.grown.size, fun k hk hn => h.grown.block k hk (fun e => hn (by injection e with e; exact e ▸ hF))⟩
theorem Keep.grown {F : Nat → Prop} {w w' : World} {row : Option Nat} (h : w.grownBy w' row) (hF : ∀ k, row = some k → F k) : Keep F w w' :=
  ⟨h.os, h.tape, h.output, h.size, fun k hk hn => h.block k hk (fun e => hn (hF k e.symm))⟩
theorem block_set (w : World) (b o : Nat) (x : Value) (cur : Array Value) (t : TypeId) (fr : Nat × Nat) (h : w.heap[b]? = some (.cells cur t fr)) :
    (w.setCell ⟨b, o, none⟩ x).heap[b]? = some (.cells (cur.setIfInBounds o x) t fr) := by
  simp [World.setCell, Array.getElem?_modify, h]
/- rows of pairs -/
def OwnE (T : TypeId) (w : World) (B : Nat) (v : Value) (L : List E) : Prop := w.ownsRow B T 2 v L.length (ecls L)
theorem OwnE.nil (T : TypeId) (w : World) (B : Nat) : OwnE T w B (.slice none 0 0) [] := World.ownsRow_nil w B T 2
theorem OwnE.made (T : TypeId) (w : World) : OwnE T (w.alloc (.cells #[] T)) w.heap.size (.slice (some ⟨w.heap.size, 0, none⟩) 0 0) [] := World.ownsRow_made w #[] 0 (Nat.le_refl _) (by decide) rfl
/- the pairs in memory behind an address -/
def Prs (w : World) (A : Option Addr) (L : List E) : Prop := ∀ i, i < L.length → ∃ b off, A = some ⟨b, off, none⟩ ∧ w.cell? ⟨b, off + i * 2, none⟩ = some (.int .u64 ((g L i).1 : Int)) ∧ w.cell? ⟨b, off + i * 2 + 1, none⟩ = some (.int .u64 ((g L i).2 : Int))
theorem Prs.nil (w : World) (A : Option Addr) : Prs w A [] := fun i hi => absurd hi (by simp)
theorem OwnE.form {T : TypeId} {w : World} {B : Nat} {v : Value} {L : List E} (h : OwnE T w B v L) : ∃ A c, v = .slice A L.length c ∧ Prs w A L ∧ L.length ≤ c := by
  rcases h.2 with ⟨rfl, h0⟩ | ⟨g0, cap, cur, rfl, _, _, hc, _⟩
  · have : L = [] := List.eq_nil_of_length_eq_zero h0
    subst this
    exact ⟨none, 0, rfl, Prs.nil _ _, Nat.le_refl _⟩
  · refine ⟨_, _, rfl, fun i hi => ⟨g0, 0, rfl, ?_⟩, hc⟩
    have key : ∀ j u, j < 2 → (ecl (g L i))[j]? = some u → w.cell? ⟨g0, 0 + i * 2 + j, none⟩ = some u := fun j u hj hu => by
      have := World.ownsRow.cells h (g := g0) rfl (i * 2 + j) u (by rw [ecls_get L i hi j hj]; exact hu)
      rwa [add_plain, ← Nat.add_assoc] at this
    exact ⟨key 0 _ (by omega) rfl, key 1 _ (by omega) rfl⟩
/- the block of a row that has some -/
theorem OwnE.block {T : TypeId} {w : World} {B : Nat} {v : Value} {L : List E} (h : OwnE T w B v L) (hl : 0 < L.length) : ∃ b c cur, v = .slice (some ⟨b, 0, none⟩) L.length c ∧ B ≤ b ∧ w.heap[b]? = some (.cells cur T (0, 0)) ∧ L.length ≤ c := by
  rcases h.2 with ⟨_, h0⟩ | ⟨g0, cap, cur, hv, hb, hh, hc, _⟩
  · omega
  · exact ⟨g0, cap, cur, hv, hb, hh, hc⟩
theorem OwnE.free {T : TypeId} {w : World} {b o : Nat} {cur : Array Value} (h : w.heap[b]? = some (.cells cur T (0, 0))) : w.frozen? ⟨b, o, none⟩ = false := by simp [World.frozen?, h]
theorem OwnE.same {T : TypeId} {w w' : World} {B : Nat} {v : Value} {L : List E} (h : OwnE T w B v L) (hb : ∀ k, v.ownBlock = some k → w'.heap[k]? = w.heap[k]?) : OwnE T w' B v L := by
  refine ⟨h.1, ?_⟩
  rcases h.2 with h0 | ⟨g0, cap, cur, rfl, hg, hh, r⟩
  · exact .inl h0
  · exact .inr ⟨g0, cap, cur, rfl, hg, by rw [hb g0 rfl]; exact hh, r⟩
theorem OwnE.lt {T : TypeId} {w : World} {B : Nat} {v : Value} {L : List E} (h : OwnE T w B v L) : ∀ k, v.ownBlock = some k → B ≤ k ∧ k < w.heap.size := World.ownsRow.lt h
theorem OwnE.below {T : TypeId} {w w' : World} {B : Nat} {v : Value} {L : List E} (h : OwnE T w B v L) (hb : Below w.heap.size w w') : OwnE T w' B v L := h.same (fun k hk => hb.block k (h.lt k hk).2)
theorem OwnE.keep {T : TypeId} {w w' : World} {B : Nat} {v : Value} {L : List E} {F : Nat → Prop} (h : OwnE T w B v L) (hb : Keep F w w') (hF : ∀ k, v.ownBlock = some k → ¬ F k) : OwnE T w' B v L := h.same (fun k hk => hb.block k (h.lt k hk).2 (hF k hk))
theorem OwnE.base {T : TypeId} {w : World} {B B' : Nat} {v : Value} {L : List E} (h : OwnE T w B v L) (hB : ∀ k, v.ownBlock = some k → B' ≤ k) : OwnE T w B' v L := by
  refine ⟨h.1, ?_⟩
  rcases h.2 with h0 | ⟨g0, cap, cur, rfl, hg, r⟩
  · exact .inl h0
  · exact .inr ⟨g0, cap, cur, rfl, hB g0 rfl, r⟩
theorem OwnE.set {T : TypeId} {w : World} {B b n c : Nat} {L : List E} (h : OwnE T w B (.slice (some ⟨b, 0, none⟩) n c) L) {i : Nat} (hi : i < L.length) (e : E) :
    OwnE T ((w.setCell ⟨b, i * 2, none⟩ (.int .u64 (e.1 : Int))).setCell ⟨b, i * 2 + 1, none⟩ (.int .u64 (e.2 : Int))) B (.slice (some ⟨b, 0, none⟩) n c) (L.set i e) := by
  refine ⟨by rw [ecls_len], ?_⟩
  rcases h.2 with ⟨h0, _⟩ | ⟨g0, cap, cur, hv, hg, hh, h1, h2, h3, h4⟩
  · cases h0
  · injection hv with e1 e2 e3
    injection e1 with e1
    injection e1 with e1
    subst e1 e2 e3
    refine .inr ⟨b, c, _, by rw [List.length_set], hg, block_set _ _ _ _ _ _ _ (block_set _ _ _ _ _ _ _ hh), by rw [List.length_set]; exact h1, h2, by simpa using h3, ?_⟩
    rw [List.length_set]
    simp only [Array.toList_setIfInBounds, List.take_set, h4]
    exact ecls_set L i e hi
theorem OwnE.setAt {T : TypeId} {w : World} {B b n c : Nat} {L : List E} (h : OwnE T w B (.slice (some ⟨b, 0, none⟩) n c) L) {i : Nat} (hi : i < L.length) (a : Nat) :
    OwnE T (w.setCell ⟨b, i * 2 + 1, none⟩ (.int .u64 (a : Int))) B (.slice (some ⟨b, 0, none⟩) n c) (L.set i ((g L i).1, a)) := by
  refine ⟨by rw [ecls_len], ?_⟩
  rcases h.2 with ⟨h0, _⟩ | ⟨g0, cap, cur, hv, hg, hh, h1, h2, h3, h4⟩
  · cases h0
  · injection hv with e1 e2 e3
    injection e1 with e1
    injection e1 with e1
    subst e1 e2 e3
    refine .inr ⟨b, c, _, by rw [List.length_set], hg, block_set _ _ _ _ _ _ _ hh, by rw [List.length_set]; exact h1, h2, by simpa using h3, ?_⟩
    rw [List.length_set]
    simp only [Array.toList_setIfInBounds, List.take_set, h4]
    rw [← ecls_set L i _ hi]
    congr 1
    have := ecls_get L i hi 0 (by omega)
    rw [Nat.add_zero] at this
    exact (WideElems.set_self _ _ _ this).symm
theorem OwnE.pop {T : TypeId} {w : World} {B n k c : Nat} {A : Option Addr} {L : List E} (h : OwnE T w B (.slice A k c) L) (hn : n ≤ L.length) (h0 : 0 < L.length) : OwnE T w B (.slice A n c) (L.take n) := by
  have hl : (L.take n).length = n := by simp; omega
  refine ⟨by rw [ecls_len], ?_⟩
  rcases h.2 with ⟨_, h0'⟩ | ⟨g0, cap, cur, hv, hg, hh, h1, h2, h3, h4⟩
  · omega
  · injection hv with e1 e2 e3
    subst e1 e3
    refine .inr ⟨g0, c, cur, by rw [hl], hg, hh, by omega, h2, h3, ?_⟩
    rw [hl, ← ecls_take, ← h4, List.take_take, Nat.min_eq_left (by omega)]
/- a row that grows -/
structure Typ (T S : TypeId) (z : Value) : Prop where
  sl : Try.prog.underlying S = some (.slice T)
  info : ∃ i, Try.prog.info? T = some i ∧ i.zero = some z ∧ i.size = 2 ∧ i.bytes = 16
  cells : z.cells.size = 2
theorem typE : Typ 61 50 (.agg #[.int .u64 0, .int .u64 0]) := ⟨Try.underlying50, ⟨(Try.prog.info? 61).get (by kernel_rfl), by kernel_rfl, by kernel_rfl, by kernel_rfl, by kernel_rfl⟩, rfl⟩
theorem typR : Typ 37 26 (.agg #[.int .u64 0, .int .u64 0]) := ⟨Try.underlying26, ⟨(Try.prog.info? 37).get (by kernel_rfl), by kernel_rfl, by kernel_rfl, by kernel_rfl, by kernel_rfl⟩, rfl⟩
theorem run_appe {T S : TypeId} {z : Value} (ty : Typ T S z) (w : World) (B : Nat) (t : TypeId) (v : Value) (L : List E) (ho : OwnE T w B v L) (b off c : Nat) (e : E)
    (hk : w.cell? ⟨b, off, none⟩ = some (.int .u64 (e.1 : Int))) (ha : w.cell? ⟨b, off + 1, none⟩ = some (.int .u64 (e.2 : Int))) (hlen : L.length ≤ 1000000) (hB : B ≤ w.heap.size) :
    ∃ v' w', (Builtin.append_ #[S, S] t #[v, .slice (some ⟨b, off, none⟩) 1 c]).run Try.prog w = .ok v' w' ∧ OwnE T w' B v' (L ++ [e]) ∧ w.grownBy w' v.ownBlock ∧ (v'.ownBlock = v.ownBlock ∨ v'.ownBlock = some w.heap.size) := by
  obtain ⟨i, hi, hz, hs, hy⟩ := ty.info
  obtain ⟨v', w', h1, h2, h3, _, h5⟩ := run_append_own_at (P := Try.prog) w B S t T i z 2 16 ty.sl hi hz hs hy ty.cells (by omega) v L.length (ecls L) ho ⟨b, off, none⟩ 1 c (ecl e) rfl
    (fun j u hj => by
      rw [add_plain]
      rcases j with _ | _ | j
      · rw [Nat.add_zero, hk]; exact hj
      · rw [ha]; exact hj
      · simp [ecl] at hj)
    (fun u hu => ecls_one [e] u (by simpa [ecls] using hu))
    (by unfold maxLen; omega) (by omega) hB
  refine ⟨v', w', h1, ?_, h3, h5⟩
  unfold OwnE
  rw [List.length_append, ecls_app]
  simpa [ecls] using h2
/- a list of dues in memory: its struct, its row, its map -/
structure Du (w : World) (d m : Nat) (v : Value) (L : List E) (N : Nat) (M : Nat → Option Nat) : Prop where
  blk : w.heap[d]? = some (.cells #[v, .map (some m)] 54 (0, 0))
  row : OwnE 61 w 0 v L
  mp : Mp w m N M
  ok : ∀ e ∈ L, e.1 < 18446744073709551616 ∧ e.2 < 18446744073709551616
def Fp (d m : Nat) (v : Value) (k : Nat) : Prop := k = d ∨ k = m ∨ v.ownBlock = some k
section
variable {w w' : World} {d m : Nat} {v : Value} {L : List E} {N : Nat} {M : Nat → Option Nat}
theorem Du.same (h : Du w d m v L N M) (hb : ∀ k, Fp d m v k → w'.heap[k]? = w.heap[k]?) : Du w' d m v L N M :=
  ⟨(hb d (.inl rfl)).trans h.blk, h.row.same (fun k hk => hb k (.inr (.inr hk))), h.mp.same (hb m (.inr (.inl rfl))), h.ok⟩
theorem Du.lt (h : Du w d m v L N M) : ∀ k, Fp d m v k → k < w.heap.size := fun k hk => by
  rcases hk with rfl | rfl | hk
  · exact (Array.getElem?_eq_some_iff.1 h.blk).1
  · exact h.mp.lt
  · exact (h.row.lt k hk).2
theorem Du.below (h : Du w d m v L N M) (hb : Below w.heap.size w w') : Du w' d m v L N M := h.same (fun k hk => hb.block k (h.lt k hk))
theorem Du.keep (h : Du w d m v L N M) {F : Nat → Prop} (hb : Keep F w w') (hF : ∀ k, Fp d m v k → ¬ F k) : Du w' d m v L N M := h.same (fun k hk => hb.block k (h.lt k hk) (hF k hk))
theorem Du.c0 (h : Du w d m v L N M) : w.cell? ⟨d, 0, none⟩ = some v := by simp [World.cell?, h.blk]
theorem Du.c1 (h : Du w d m v L N M) : w.cell? ⟨d, 1, none⟩ = some (.map (some m)) := by simp [World.cell?, h.blk]
theorem Du.f0 (h : Du w d m v L N M) : w.frozen? ⟨d, 0, none⟩ = false := by simp [World.frozen?, h.blk]
theorem Du.ne (h : Du w d m v L N M) : d ≠ m := fun e => by
  obtain ⟨es, clock, hm⟩ := h.mp.is
  have := h.blk
  rw [e, hm] at this
  cases this
theorem Du.ned (h : Du w d m v L N M) {b : Nat} (hb : v.ownBlock = some b) : b ≠ d ∧ b ≠ m := by
  rcases h.row.2 with ⟨rfl, _⟩ | ⟨g0, cap, cur, rfl, _, hh, _⟩
  · cases hb
  · have e : g0 = b := by simpa [Value.ownBlock] using hb
    subst e
    refine ⟨fun e => ?_, fun e => ?_⟩
    · rw [e, h.blk] at hh
      injection hh with hh
      injection hh with _ hh
      exact absurd hh (by decide)
    · obtain ⟨es, clock, hm⟩ := h.mp.is
      rw [e, hm] at hh
      cases hh
end
end Go.Proofs.Ytnomegopjdgbjaa
