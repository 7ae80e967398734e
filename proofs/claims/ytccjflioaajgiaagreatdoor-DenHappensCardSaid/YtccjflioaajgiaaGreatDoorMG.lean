/- Contracts, joined: DnMap, DnM, DnC, DnU. -/
import Derived.Test.YtccjflioaajgiaaGreatDoorProg
import Derived.Maps.OwnSet
import Derived.WideKeyPair
import Derived.DeepKeys4
import Derived.KernelRfl
import Derived.Test.YtccjflioaajgiaaGreatDoorMB
import Derived.Maps.AppendAt
import Derived.Laws.AppendOwnNone
import Derived.Lib.AppendZeros
import Derived.Lib.MinMax
import Derived.LoopN
import Derived.Test.YtccjflioaajgiaaGreatDoorDnA
import Derived.Laws.MakeOwn
/- A map of slices by pairs of numbers in memory: looked up, stored into. -/
namespace Go.Proofs.YtccjflioaajgiaaGreatDoor
open Go Go.RowKit Go.Maps
open Go.ChangeMaps (setBlock modify_eq_set)
open Go.WideMaps (ArrKey KeyLaw keyOf_pair)
set_option maxRecDepth 20000

theorem kArr : ArrKey Tryz.prog 121 3 2 := ⟨Tryz.underlying121, by kernel_rfl, by kernel_rfl, by kernel_rfl⟩
theorem kLaid : laidOutB Tryz.prog = true := by kernel_rfl
theorem kLaw : KeyLaw Tryz.prog 121 := deep_law_laid kLaid (m := 2) (by omega) (of_decide_eq_true (by kernel_rfl)) (by kernel_rfl) (by rw [Tryz.underlying121])
theorem kKeyed : Keyed Tryz.prog 121 := Keyed.of_law kLaw
theorem kwf {n : Nat} (h : n < 9223372036854775807) : (Lit.int .i64 (n : Int)).wf = true := by
  have h0 : IntKind.i64.min = -9223372036854775808 := rfl
  have h1 : IntKind.i64.max = 9223372036854775807 := rfl
  simp [Lit.wf]; omega
abbrev kv (n i : Nat) : Value := .agg #[.int .i64 (n : Int), .int .i64 (i : Int)]
def kl (n i : Nat) : Lit := .string (keyBytes [.int .i64 (n : Int), .int .i64 (i : Int)])
theorem kKey {n i : Nat} (hn : n < 9223372036854775807) (hi : i < 9223372036854775807) : keyOf Tryz.prog 121 (kv n i) = some (kl n i) :=
  keyOf_pair kArr Tryz.underlying3 ⟨Tryz.prog.types.size - 1, by kernel_rfl⟩ (kwf hn) (kwf hi)
theorem kl_inj {n i n' i' : Nat} (hn : n < 9223372036854775807) (hi : i < 9223372036854775807) (hn' : n' < 9223372036854775807) (hi' : i' < 9223372036854775807) (e : kl n i = kl n' i') : n = n' ∧ i = i' := by
  have h := kKeyed.inj (kKey hn hi) (e ▸ kKey hn' hi')
  injection h with h
  have h := congrArg Array.toList h
  simp at h
  omega
theorem kIs (n i : Nat) : WideAt.IsKeyLit (kl n i) := trivial
/- an element reads as itself -/
abbrev RV : Value → Option (DataW Value × List MemPlace) := fun v => some (.held v, [])
abbrev nsl : Value := .slice none 0 0
theorem kzero (w : World) : (zeroValue 89).run Tryz.prog w = .ok nsl w := by kernel_rfl
abbrev MV := Nat → Nat → Option Value
def upd2 (M : MV) (n i : Nat) (v : Value) : MV := fun a b => if a = n ∧ b = i then some v else M a b
def prs (a b : Nat) : List (Nat × Nat) := (List.range a).flatMap fun n => (List.range b).map fun i => (n, i)
theorem prs_mem {a b n i : Nat} (hn : n < a) (hi : i < b) : (n, i) ∈ prs a b := List.mem_flatMap.2 ⟨n, List.mem_range.2 hn, List.mem_map.2 ⟨i, List.mem_range.2 hi, rfl⟩⟩
theorem prs_len (a b : Nat) : (prs a b).length = a * b := by
  unfold prs
  induction a with
  | zero => simp
  | succ a ih => rw [List.range_succ, List.flatMap_append, List.length_append, ih]; simp [Nat.succ_mul]
def cnt (a b : Nat) (M : MV) : Nat := (prs a b).countP fun p => (M p.1 p.2).isSome
theorem countP_more {α : Type} (p q : α → Bool) (l : List α) (h : ∀ y ∈ l, p y = true → q y = true) : l.countP p ≤ l.countP q := List.countP_mono_left h
theorem countP_one {α : Type} (p q : α → Bool) (l : List α) (x : α) (hx : x ∈ l) (h : ∀ y ∈ l, p y = true → q y = true) (h0 : p x = false) (h1 : q x = true) : l.countP p + 1 ≤ l.countP q := by
  induction l with
  | nil => cases hx
  | cons a l ih =>
    rw [List.countP_cons, List.countP_cons]
    rcases List.mem_cons.1 hx with rfl | hx
    · have := countP_more p q l (fun y hy => h y (by simp [hy]))
      rw [h0, h1]; simp; omega
    · have := ih hx (fun y hy => h y (by simp [hy]))
      have h2 := h a (by simp)
      cases ha : p a
      · simp; omega
      · rw [h2 ha]; simp; omega
theorem cnt_le (a b : Nat) (M : MV) : cnt a b M ≤ a * b := by rw [← prs_len a b]; exact List.countP_le_length
theorem cnt_upd (a b : Nat) (M : MV) (n i : Nat) (v : Value) (hn : n < a) (hi : i < b) (h : M n i = none) : cnt a b M + 1 ≤ cnt a b (upd2 M n i v) :=
  countP_one _ _ _ (n, i) (prs_mem hn hi) (fun y _ hy => by unfold upd2; split <;> simp_all) (by simp [h]) (by simp [upd2])
/- block m is a map, of each pair (below a and b) what M tells -/
def MpV (w : World) (m a b : Nat) (M : MV) : Prop :=
  ∃ D : DataW Value, w.ownsMap Tryz.prog 121 RV m (Maps.size D) D ∧ Maps.size D ≤ cnt a b M ∧ ∀ n i : Nat, n < a → i < b → Maps.has D (kl n i) = (M n i).isSome ∧ ∀ v, M n i = some v → D.atKey (kl n i) (.held nsl) = .held v
theorem tightV {w : World} {m n : Nat} {D : DataW Value} (h : w.ownsMap Tryz.prog 121 RV m n D) : w.ownsMap Tryz.prog 121 RV m (Maps.size D) D := by
  obtain ⟨es, clock, hb, F, _, rfl⟩ := h
  exact ⟨es, clock, hb, F, by simp [Maps.size, length_sorted], rfl⟩
theorem MpV.new (w : World) (a b : Nat) : MpV (w.alloc (.map #[] 0)) w.heap.size a b (fun _ _ => none) :=
  ⟨.map [], World.ownsMap_made w _ _ _, by simp [Maps.size], fun n i _ _ => ⟨by simp [Maps.has], fun v h => by cases h⟩⟩
theorem MpV.lt {w : World} {m a b : Nat} {M : MV} (h : MpV w m a b M) : m < w.heap.size := by
  obtain ⟨D, h, _⟩ := h
  exact h.lt
theorem MpV.is {w : World} {m a b : Nat} {M : MV} (h : MpV w m a b M) : ∃ es clock, w.heap[m]? = some (.map es clock) := by
  obtain ⟨D, ⟨es, clock, hb, _⟩, _⟩ := h
  exact ⟨es, clock, hb⟩
theorem MpV.same {w w' : World} {m a b : Nat} {M : MV} (h : MpV w m a b M) (hb : w'.heap[m]? = w.heap[m]?) : MpV w' m a b M := by
  obtain ⟨D, ⟨es, clock, hb', r⟩, r'⟩ := h
  exact ⟨D, ⟨es, clock, hb.trans hb', r⟩, r'⟩
theorem MpV.look {w : World} {m a b : Nat} {M : MV} (h : MpV w m a b M) (ha : a ≤ 1000) (hb : b ≤ 1000) {n i : Nat} (hn : n < a) (hi : i < b) :
    (Instr.lookup 118 (.map (some m)) (kv n i) true).run Tryz.prog w = .ok (.tuple #[(M n i).getD nsl, .bool (M n i).isSome]) w := by
  obtain ⟨D, hD, _, hM⟩ := h
  obtain ⟨v, ps, hrun, hv⟩ := hD.look_ok kKeyed Tryz.underlying118 (kzero w) (zd := .held nsl) (zp := []) rfl (kKey (n := n) (i := i) (by omega) (by omega))
  obtain ⟨h1, h2⟩ := hM n i hn hi
  rw [hrun, h1]
  have e : v = (M n i).getD nsl := by
    have hv : DataW.held v = D.atKey (kl n i) (.held nsl) := by
      have hv' : some (DataW.held v, ([] : List MemPlace)) = some (D.atKey (kl n i) (.held nsl), ps) := hv
      exact congrArg Prod.fst (Option.some.inj hv')
    cases hm : M n i with
    | none =>
      rw [hm] at h1
      have := atKey_of_not_has h1 (.held nsl)
      have e := hv.trans this
      injection e with e
    | some u =>
      have e := hv.trans (h2 u hm)
      injection e with e
  rw [e]
theorem MpV.put {w : World} {m a b : Nat} {M : MV} (h : MpV w m a b M) (ha : a ≤ 1000) (hb : b ≤ 1000) {n i : Nat} (hn : n < a) (hi : i < b) (v : Value) :
    ∃ w', (Instr.mapUpdate 118 (.map (some m)) (kv n i) v).run Tryz.prog w = .ok () w' ∧ MpV w' m a b (upd2 M n i v) ∧ w.mapTurned w' m := by
  obtain ⟨D, hD, hs, hM⟩ := h
  have hc := cnt_le a b M
  have hab : a * b ≤ 1000 * 1000 := Nat.mul_le_mul ha hb
  obtain ⟨w', h1, h2, h3⟩ := hD.store kKeyed Tryz.underlying118 (by unfold maxLen; omega) (kKey (n := n) (i := i) (by omega) (by omega)) (val := v) (d := .held v) (ps := []) rfl
  have hsz := size_put (k := kl n i) (hD.tidy kKeyed) (.held v)
  rw [(hM n i hn hi).1] at hsz
  refine ⟨w', h1, ⟨_, tightV h2, ?_, fun x y hx hy => ?_⟩, h3⟩
  · cases hm : M n i with
    | none =>
      have := cnt_upd a b M n i v hn hi hm
      rw [hm] at hsz
      simp at hsz
      omega
    | some u =>
      have : cnt a b M ≤ cnt a b (upd2 M n i v) := countP_more _ _ _ (fun y _ hy => by unfold upd2; split <;> simp_all)
      rw [hm] at hsz
      simp at hsz
      omega
  · by_cases c : x = n ∧ y = i
    · obtain ⟨rfl, rfl⟩ := c
      rw [has_put_same hD.isMap (kIs x y), atKey_put_same hD.isMap (kIs x y)]
      simp [upd2]
    · have hne : kl x y ≠ kl n i := fun e => c (kl_inj (by omega) (by omega) (by omega) (by omega) e)
      rw [has_put_other hne, atKey_put_other hne]
      simp only [upd2, c, if_false]
      exact hM x y hx hy
end Go.Proofs.YtccjflioaajgiaaGreatDoor

/- Lists of numbers in memory, rows of such lists, and of one's own; what stays. -/
namespace Go.Proofs.YtccjflioaajgiaaGreatDoor
open Go Go.RowKit Go.Maps
set_option maxRecDepth 20000

theorem bal (w : World) (o : Obj) : Below w.heap.size w (w.alloc o) := (Below.refl w.heap.size w).alloc (Nat.le_refl _) o
/- what stays -/
structure Keep (F : Nat → Prop) (w w' : World) : Prop where
  os : w'.os = w.os
  tape : w'.tape = w.tape
  output : w'.output = w.output
  size : w.heap.size ≤ w'.heap.size
  block : ∀ k, k < w.heap.size → ¬ F k → w'.heap[k]? = w.heap[k]?
theorem Keep.refl (F : Nat → Prop) (w : World) : Keep F w w := ⟨rfl, rfl, rfl, Nat.le_refl _, fun _ _ _ => rfl⟩
theorem Keep.tr {F : Nat → Prop} {a b c : World} (h : Keep F a b) (k : Keep F b c) : Keep F a c :=
  ⟨k.os.trans h.os, k.tape.trans h.tape, k.output.trans h.output, Nat.le_trans h.size k.size, fun i hi hn => (k.block i (Nat.lt_of_lt_of_le hi h.size) hn).trans (h.block i hi hn)⟩
theorem Keep.of_below (F : Nat → Prop) {w w' : World} (h : Below w.heap.size w w') : Keep F w w' := ⟨h.os, h.tape, h.output, h.size, fun k hk _ => h.block k hk⟩
theorem Keep.then_below {F : Nat → Prop} {w W W' : World} (k : Keep F w W) (h : Below w.heap.size W W') : Keep F w W' :=
  ⟨h.os.trans k.os, h.tape.trans k.tape, h.output.trans k.output, Nat.le_trans k.size h.size, fun i hi hn => (h.block i hi).trans (k.block i hi hn)⟩
theorem Keep.turned {F : Nat → Prop} {w w' : World} {m : Nat} (h : w.mapTurned w' m) (hF : F m) : Keep F w w' :=
  ⟨h.grown.os, h.grown.tape, h.grown.output, h.grown.size, fun k hk hn => h.grown.block k hk (fun e => hn (by injection e with e; exact e ▸ hF))⟩
theorem Keep.below {F : Nat → Prop} {w w' : World} {B : Nat} (h : Keep F w w') (hF : ∀ k, F k → B ≤ k) (hB : B ≤ w.heap.size) : Below B w w' :=
  ⟨h.os, h.tape, h.output, h.size, fun k hk => h.block k (by omega) (fun e => by have := hF k e; omega)⟩
/- all that is read, but for one map -/
def IsMp (w : World) (m : Nat) : Prop := ∃ es clock, w.heap[m]? = some (.map es clock)
def Ck (w w' : World) : Prop := ∀ b j v, w.cell? ⟨b, j, none⟩ = some v → w'.cell? ⟨b, j, none⟩ = some v
theorem Ck.of_below {w w' : World} (h : Below w.heap.size w w') : Ck w w' := fun b j _ hc => (h.cell (p := ⟨b, j, none⟩) (World.block_lt_of_cell? _ _ hc)).trans hc
theorem Ck.trans {a b c : World} (h : Ck a b) (k : Ck b c) : Ck a c := fun x j v hc => k x j v (h x j v hc)
theorem IsMp.cell {w : World} {m : Nat} (h : IsMp w m) (j : Nat) : w.cell? ⟨m, j, none⟩ = none := by
  obtain ⟨es, clock, h⟩ := h
  simp [World.cell?, h]
theorem Ck.keep {w w' : World} {m : Nat} (h : Keep (· = m) w w') (hm : IsMp w m) : Ck w w' := fun b j v hc => by
  have hne : b ≠ m := fun e => by rw [e, hm.cell] at hc; cases hc
  exact (World.cell?_of_block (w := w) (h.block b (World.block_lt_of_cell? _ _ hc) hne)).trans hc
/- all blocks of numbers stay -/
def Ci (w w' : World) : Prop := ∀ (b : Nat) (cur : Array Value) (fr : Nat × Nat), w.heap[b]? = some (Obj.cells cur 3 fr) → w'.heap[b]? = w.heap[b]?
theorem Ci.of_below {w w' : World} (h : Below w.heap.size w w') : Ci w w' := fun b _ _ hb => h.block b (Array.getElem?_eq_some_iff.1 hb).1
theorem Ci.keep {w w' : World} {m : Nat} (h : Keep (· = m) w w') (hm : IsMp w m) : Ci w w' := fun b _ _ hb => h.block b (Array.getElem?_eq_some_iff.1 hb).1 (fun e => by
  obtain ⟨es, clock, hm⟩ := hm
  rw [e, hm] at hb
  cases hb)
theorem Ci.grown {w w' : World} {g : Nat} {cur : Array Value} {T : TypeId} {fr : Nat × Nat} (h : w.grownBy w' (some g)) (hg : w.heap[g]? = some (Obj.cells cur T fr)) (hT : T ≠ 3) : Ci w w' := fun b c f hb => by
  refine h.block b (Array.getElem?_eq_some_iff.1 hb).1 (fun e => ?_)
  injection e with e
  subst e
  rw [hg] at hb
  injection hb with hb
  injection hb with _ e2
  exact hT e2
theorem Ci.grown0 {w w' : World} (h : w.grownBy w' none) : Ci w w' := fun b c f hb => h.block b (Array.getElem?_eq_some_iff.1 hb).1 (fun e => by cases e)
/- numbers in memory -/
def Its (w : World) (A : Option Addr) (L : List Nat) : Prop := ∀ i, i < L.length → ∃ b off, A = some ⟨b, off, none⟩ ∧ w.cell? ⟨b, off + i, none⟩ = some (.int .i64 ((L.getD i 0 : Nat) : Int)) ∧ ∃ cur fr, w.heap[b]? = some (Obj.cells cur 3 fr)
theorem Its.nil (w : World) (A : Option Addr) : Its w A [] := fun i hi => absurd hi (by simp)
theorem Its.ci {w w' : World} {A : Option Addr} {L : List Nat} (h : Its w A L) (k : Ci w w') : Its w' A L := fun i hi => by
  obtain ⟨b, off, e, hc, cur, fr, hb⟩ := h i hi
  exact ⟨b, off, e, (World.cell?_of_block (k b cur fr hb)).trans hc, cur, fr, (k b cur fr hb).trans hb⟩
def Sl (w : World) (v : Value) (L : List Nat) : Prop := ∃ A c, v = .slice A L.length c ∧ ((A = none → c = 0) ∧ L.length ≤ c) ∧ Its w A L
theorem Sl.ci {w w' : World} {v : Value} {L : List Nat} (h : Sl w v L) (k : Ci w w') : Sl w' v L := by
  obtain ⟨A, c, e, h0, h⟩ := h
  exact ⟨A, c, e, h0, h.ci k⟩
theorem Sl.below {w w' : World} {v : Value} {L : List Nat} (h : Sl w v L) (k : Below w.heap.size w w') : Sl w' v L := h.ci (Ci.of_below k)
theorem Sl.nil (w : World) : Sl w nsl [] := ⟨none, 0, rfl, ⟨fun _ => rfl, Nat.le_refl _⟩, Its.nil _ _⟩
/- rows of one's own whose elements take one cell -/
def OwnC (T : TypeId) (w : World) (B : Nat) (v : Value) (cs : List Value) : Prop := w.ownsRow B T 1 v cs.length cs
theorem OwnC.nil (T : TypeId) (w : World) (B : Nat) : OwnC T w B nsl [] := World.ownsRow_nil w B T 1
theorem OwnC.same {T : TypeId} {w w' : World} {B : Nat} {v : Value} {cs : List Value} (h : OwnC T w B v cs) (hb : ∀ k cur, B ≤ k → w.heap[k]? = some (Obj.cells cur T (0, 0)) → w'.heap[k]? = w.heap[k]?) : OwnC T w' B v cs := by
  refine ⟨h.1, ?_⟩
  rcases h.2 with h0 | ⟨g, cap, cur, hv, hg, hh, r⟩
  · exact .inl h0
  · exact .inr ⟨g, cap, cur, hv, hg, by rw [hb g cur hg hh]; exact hh, r⟩
theorem OwnC.below {T : TypeId} {w w' : World} {B : Nat} {v : Value} {cs : List Value} (h : OwnC T w B v cs) (hb : Below w.heap.size w w') : OwnC T w' B v cs :=
  h.same fun k _ _ hk => hb.block k (Array.getElem?_eq_some_iff.1 hk).1
theorem OwnC.keep {T : TypeId} {w w' : World} {B m : Nat} {v : Value} {cs : List Value} (h : OwnC T w B v cs) (hb : Keep (· = m) w w') (hm : IsMp w m) : OwnC T w' B v cs :=
  h.same fun k cur _ hk => hb.block k (Array.getElem?_eq_some_iff.1 hk).1 (fun e => by
    obtain ⟨es, clock, hm⟩ := hm
    rw [e, hm] at hk
    cases hk)
theorem OwnC.form {T : TypeId} {w : World} {B : Nat} {v : Value} {cs : List Value} (h : OwnC T w B v cs) : ∃ A c, v = .slice A cs.length c ∧ (A = none → c = 0) ∧ cs.length ≤ c ∧ ∀ i, i < cs.length → ∃ b, A = some ⟨b, 0, none⟩ ∧ B ≤ b ∧ w.cell? ⟨b, i, none⟩ = some (cs.getD i nsl) ∧ ∃ cur, w.heap[b]? = some (Obj.cells cur T (0, 0)) := by
  rcases h.2 with ⟨rfl, h0⟩ | ⟨g, cap, cur, rfl, hB, hh, hc, _⟩
  · have : cs = [] := List.eq_nil_of_length_eq_zero h0
    subst this
    exact ⟨none, 0, rfl, fun _ => rfl, Nat.le_refl _, fun i hi => absurd hi (by simp)⟩
  · refine ⟨_, _, rfl, (fun e => by cases e), hc, fun i hi => ⟨g, rfl, hB, ?_, cur, hh⟩⟩
    have := World.ownsRow.cells h (g := g) rfl i (cs.getD i nsl) (by rw [List.getD_eq_getElem?_getD, List.getElem?_eq_getElem hi]; rfl)
    rwa [add_plain, Nat.zero_add] at this
structure Ty1 (T S : TypeId) : Prop where
  sl : Tryz.prog.underlying S = some (.slice T)
  info : ∃ i z, Tryz.prog.info? T = some i ∧ i.zero = some z ∧ i.size = 1 ∧ i.bytes ≤ 24 ∧ z.cells.size = 1
theorem tyI : Ty1 3 89 := ⟨Tryz.underlying89, (Tryz.prog.info? 3).get (by kernel_rfl), .int .i64 0, by kernel_rfl, by kernel_rfl, by kernel_rfl, of_decide_eq_true (by kernel_rfl), rfl⟩
theorem tyL : Ty1 89 115 := ⟨Tryz.underlying115, (Tryz.prog.info? 89).get (by kernel_rfl), nsl, by kernel_rfl, by kernel_rfl, by kernel_rfl, of_decide_eq_true (by kernel_rfl), rfl⟩
/- append of some cells, which lie in one row -/
theorem run_appc {T S : TypeId} (ty : Ty1 T S) (w : World) (B : Nat) (t : TypeId) (v : Value) (cs : List Value) (ho : OwnC T w B v cs) (A : Option Addr) (m c : Nat) (us : List Value) (hm : us.length = m) (hc0 : A = none → c = 0)
    (hus : ∀ i, i < m → ∃ b off, A = some ⟨b, off, none⟩ ∧ w.cell? ⟨b, off + i, none⟩ = some (us.getD i nsl)) (h1 : ∀ u ∈ us, u.oneCell' = true) (hlen : cs.length + m ≤ 200000000) (hB : B ≤ w.heap.size) :
    ∃ v' w', (Builtin.append_ #[S, S] t #[v, .slice A m c]).run Tryz.prog w = .ok v' w' ∧ OwnC T w' B v' (cs ++ us) ∧ w.grownBy w' v.ownBlock := by
  obtain ⟨i, z, hi, hz, hs, hy, hzs⟩ := ty.info
  rcases A with _ | ad
  · have hm0 : m = 0 := by
      rcases Nat.eq_zero_or_pos m with h | h
      · exact h
      · obtain ⟨b, off, e, _⟩ := hus 0 h
        cases e
    have hu : us = [] := List.eq_nil_of_length_eq_zero (by omega)
    have hc := hc0 rfl
    subst hm0 hc hu
    refine ⟨v, w, run_append_owned_none (P := Tryz.prog) (w := w) B S t T i 1 ty.sl hi v _ cs ho, by rw [List.append_nil]; exact ho, ⟨rfl, rfl, rfl, Nat.le_refl _, fun _ _ _ => rfl⟩⟩
  · obtain ⟨v', w', h1', h2, h3, _, h5⟩ := run_append_own_at (P := Tryz.prog) w B S t T i z 1 i.bytes ty.sl hi hz hs rfl hzs (by omega) v cs.length cs ho ad m c us (by omega)
      (fun j u hj => by
        have hjl : j < us.length := (List.getElem?_eq_some_iff.1 hj).1
        obtain ⟨b, off, e, hc⟩ := hus j (by omega)
        injection e with e
        subst e
        rw [add_plain, hc, List.getD_eq_getElem?_getD, hj]; rfl)
      h1 (by unfold maxLen; omega) (by
        have : (cs.length + m) * i.bytes ≤ 200000000 * 24 := Nat.mul_le_mul hlen hy
        omega) hB
    refine ⟨v', w', h1', ?_, h3⟩
    unfold OwnC
    rw [List.length_append, hm]
    exact h2
theorem wp_appc {T S : TypeId} (ty : Ty1 T S) {ops : Array Oper} {rest : List Oper} {o : Oper} {a : Act} {Q : Exit → Act → World → Prop} (s x : Operand) (w : World) (hgd : o.guard = none)
    (hop : o.op = .call { callee := .builtin .append, args := #[s, x], argTypes := #[S, S] })
    (B : Nat) (v : Value) (cs : List Value) (hs : a.eval s = v) (ho : OwnC T w B v cs) (A : Option Addr) (m c : Nat) (us : List Value) (hx : a.eval x = .slice A m c) (hm : us.length = m) (hc0 : A = none → c = 0)
    (hus : ∀ i, i < m → ∃ b off, A = some ⟨b, off, none⟩ ∧ w.cell? ⟨b, off + i, none⟩ = some (us.getD i nsl)) (h1 : ∀ u ∈ us, u.oneCell' = true) (hlen : cs.length + m ≤ 200000000) (hB : B ≤ w.heap.size) (k : Nat) (hk : (cs ++ us).length = k)
    (h : ∀ A' c' w', OwnC T w' B (.slice A' k c') (cs ++ us) → w.grownBy w' v.ownBlock → Below B w w' → wpList Tryz.prog ops Q rest (a.put o.dst (.slice A' k c')) w') : wpList Tryz.prog ops Q (o :: rest) a w := by
  refine wpList_plain hgd fun K hK => ?_
  obtain ⟨v', w', hrun, h2, h3⟩ := run_appc ty w B o.type v cs ho A m c us hm hc0 hus h1 hlen hB
  obtain ⟨A', c', rfl, _⟩ := h2.form
  rw [hk] at h2 hrun
  unfold Oper.wp
  simp [execOp, hop, resolve, invoke, builtin, hs, hx, hrun, Result.andThen]
  exact hK _ _ (h A' c' w' h2 h3 ((Below.refl _ _).grown h3 hB (fun k hk => (World.ownsRow.lt ho k hk).1)))
/- numbers of one's own -/
abbrev ics (L : List Nat) : List Value := L.map fun (e : Nat) => Value.int .i64 (e : Int)
def OwnZ (w : World) (B : Nat) (v : Value) (L : List Nat) : Prop := OwnC 3 w B v (ics L)
theorem OwnZ.nil (w : World) (B : Nat) : OwnZ w B nsl [] := OwnC.nil _ _ _
theorem ics_getD (L : List Nat) (i : Nat) (hi : i < L.length) : (ics L).getD i nsl = .int .i64 ((L.getD i 0 : Nat) : Int) := by
  simp [List.getD_eq_getElem?_getD, List.getElem?_eq_getElem hi]
theorem OwnZ.sl {w : World} {B : Nat} {v : Value} {L : List Nat} (h : OwnZ w B v L) : Sl w v L := by
  obtain ⟨A, c, e, h0, hle, hc⟩ := OwnC.form h
  rw [List.length_map] at e hc hle
  refine ⟨A, c, e, ⟨h0, hle⟩, fun i hi => ?_⟩
  obtain ⟨b, e1, _, e2, cur, e3⟩ := hc i hi
  exact ⟨b, 0, e1, by rw [Nat.zero_add, e2, ics_getD L i hi], cur, _, e3⟩
theorem OwnZ.below {w w' : World} {B : Nat} {v : Value} {L : List Nat} (h : OwnZ w B v L) (hb : Below w.heap.size w w') : OwnZ w' B v L := OwnC.below h hb
theorem ics_one (L : List Nat) : ∀ u ∈ ics L, u.oneCell' = true := by
  intro u hu
  obtain ⟨e, _, rfl⟩ := List.mem_map.1 hu
  rfl
theorem ics_app (L M : List Nat) : ics L ++ ics M = ics (L ++ M) := (List.map_append ..).symm
/- append of one number that lies in a block of its own -/
theorem wp_appn1 {ops : Array Oper} {rest : List Oper} {o : Oper} {a : Act} {Q : Exit → Act → World → Prop} (s x : Operand) (w : World) (hgd : o.guard = none)
    (hop : o.op = .call { callee := .builtin .append, args := #[s, x], argTypes := #[89, 89] })
    (B : Nat) (v : Value) (L : List Nat) (hs : a.eval s = v) (ho : OwnZ w B v L) (b : Nat) (hx : a.eval x = .slice (some ⟨b, 0, none⟩) 1 1) (e : Nat) (hc : w.cell? ⟨b, 0, none⟩ = some (.int .i64 (e : Int)))
    (hlen : L.length ≤ 100000000) (hB : B ≤ w.heap.size) (k : Nat) (hk : L.length + 1 = k)
    (h : ∀ A' c' w', OwnZ w' B (.slice A' k c') (L ++ [e]) → Below B w w' → wpList Tryz.prog ops Q rest (a.put o.dst (.slice A' k c')) w') : wpList Tryz.prog ops Q (o :: rest) a w :=
  wp_appc tyI s x w hgd hop B v (ics L) hs ho (some ⟨b, 0, none⟩) 1 1 [.int .i64 (e : Int)] hx rfl (fun h => by cases h)
    (fun i hi => ⟨b, 0, rfl, by obtain rfl : i = 0 := by omega
                                exact hc⟩) (fun u hu => by simp at hu; subst hu; rfl) (by rw [List.length_map]; omega) hB k (by simp; omega)
    (fun A' c' w' h2 _ h3 => h A' c' w' (by have : ics (L ++ [e]) = ics L ++ [.int .i64 (e : Int)] := by simp
                                            unfold OwnZ; rw [this]; exact h2) h3)
/- rows of lists of numbers -/
def LLg (LL : List (List Nat)) (i : Nat) : List Nat := LL.getD i []
def Lls (w : World) (A : Option Addr) (LL : List (List Nat)) : Prop := ∀ i, i < LL.length → ∃ b off u, A = some ⟨b, off, none⟩ ∧ w.cell? ⟨b, off + i, none⟩ = some u ∧ Sl w u (LLg LL i)
theorem Lls.below {w w' : World} {A : Option Addr} {LL : List (List Nat)} (h : Lls w A LL) (hb : Below w.heap.size w w') : Lls w' A LL := fun i hi => by
  obtain ⟨b, off, u, e, hc, hs⟩ := h i hi
  exact ⟨b, off, u, e, Ck.of_below hb _ _ _ hc, hs.below hb⟩
theorem Lls.keep {w w' : World} {m : Nat} {A : Option Addr} {LL : List (List Nat)} (h : Lls w A LL) (hb : Keep (· = m) w w') (hm : IsMp w m) : Lls w' A LL := fun i hi => by
  obtain ⟨b, off, u, e, hc, hs⟩ := h i hi
  exact ⟨b, off, u, e, Ck.keep hb hm _ _ _ hc, hs.ci (Ci.keep hb hm)⟩
def OwnL (w : World) (B : Nat) (v : Value) (LL : List (List Nat)) : Prop := ∃ cs, OwnC 89 w B v cs ∧ cs.length = LL.length ∧ ∀ i, i < LL.length → Sl w (cs.getD i nsl) (LLg LL i)
theorem OwnL.nil (w : World) (B : Nat) : OwnL w B nsl [] := ⟨[], OwnC.nil _ _ _, rfl, fun i hi => absurd hi (by simp)⟩
theorem OwnL.below {w w' : World} {B : Nat} {v : Value} {LL : List (List Nat)} (h : OwnL w B v LL) (hb : Below w.heap.size w w') : OwnL w' B v LL := by
  obtain ⟨cs, h1, h2, h3⟩ := h
  exact ⟨cs, h1.below hb, h2, fun i hi => (h3 i hi).below hb⟩
theorem OwnL.keep {w w' : World} {B m : Nat} {v : Value} {LL : List (List Nat)} (h : OwnL w B v LL) (hb : Keep (· = m) w w') (hm : IsMp w m) : OwnL w' B v LL := by
  obtain ⟨cs, h1, h2, h3⟩ := h
  exact ⟨cs, h1.keep hb hm, h2, fun i hi => (h3 i hi).ci (Ci.keep hb hm)⟩
theorem OwnL.form {w : World} {B : Nat} {v : Value} {LL : List (List Nat)} (h : OwnL w B v LL) : ∃ A c, v = .slice A LL.length c ∧ (A = none → c = 0) ∧ Lls w A LL := by
  obtain ⟨cs, h1, h2, h3⟩ := h
  obtain ⟨A, c, e, h0, _, hc⟩ := h1.form
  rw [h2] at e hc
  refine ⟨A, c, e, h0, fun i hi => ?_⟩
  obtain ⟨b, e1, _, e2, _⟩ := hc i hi
  exact ⟨b, 0, _, e1, by rw [Nat.zero_add]; exact e2, h3 i hi⟩
theorem OwnL.lls {w : World} {B n c : Nat} {A : Option Addr} {LL : List (List Nat)} (h : OwnL w B (.slice A n c) LL) : n = LL.length ∧ (A = none → c = 0) ∧ Lls w A LL := by
  obtain ⟨A', c', e, h0, hl⟩ := h.form
  injection e with e1 e2 e3
  subst e1 e3
  exact ⟨e2, h0, hl⟩
theorem wp_appl1 {ops : Array Oper} {rest : List Oper} {o : Oper} {a : Act} {Q : Exit → Act → World → Prop} (s x : Operand) (w : World) (hgd : o.guard = none)
    (hop : o.op = .call { callee := .builtin .append, args := #[s, x], argTypes := #[115, 115] })
    (B : Nat) (v : Value) (LL : List (List Nat)) (hs : a.eval s = v) (ho : OwnL w B v LL) (b : Nat) (hx : a.eval x = .slice (some ⟨b, 0, none⟩) 1 1) (u : Value) (l : List Nat) (hc : w.cell? ⟨b, 0, none⟩ = some u) (hu : Sl w u l)
    (hlen : LL.length ≤ 100000000) (hB : B ≤ w.heap.size) (k : Nat) (hk : LL.length + 1 = k)
    (h : ∀ A' c' w', OwnL w' B (.slice A' k c') (LL ++ [l]) → Ci w w' → w.grownBy w' v.ownBlock → Below B w w' → wpList Tryz.prog ops Q rest (a.put o.dst (.slice A' k c')) w') : wpList Tryz.prog ops Q (o :: rest) a w := by
  obtain ⟨cs, h1, h2, h3⟩ := ho
  refine wp_appc tyL s x w hgd hop B v cs hs h1 (some ⟨b, 0, none⟩) 1 1 [u] hx rfl (fun h => by cases h)
    (fun i hi => ⟨b, 0, rfl, by obtain rfl : i = 0 := by omega
                                exact hc⟩) (fun u' hu' => by simp at hu'; subst hu'; obtain ⟨A, c, rfl, _⟩ := hu; rfl) (by omega) hB k (by rw [List.length_append, List.length_singleton]; omega)
    (fun A' c' w' h4 hg h5 => ?_)
  have hci : Ci w w' := by
    rcases h1.2 with ⟨rfl, _⟩ | ⟨g, cap, cur, rfl, _, hh, _⟩
    · exact Ci.grown0 hg
    · exact Ci.grown hg hh (by decide)
  refine h A' c' w' ⟨cs ++ [u], h4, by simp [h2], fun j hj => ?_⟩ hci hg h5
  rw [List.length_append, List.length_singleton] at hj
  by_cases hjl : j < LL.length
  · have e1 : (cs ++ [u]).getD j nsl = cs.getD j nsl := by simp [List.getD_eq_getElem?_getD, List.getElem?_append_left (show j < cs.length by omega)]
    have e2 : LLg (LL ++ [l]) j = LLg LL j := by simp [LLg, List.getD_eq_getElem?_getD, List.getElem?_append_left hjl]
    rw [e1, e2]
    exact (h3 j hjl).ci hci
  · obtain rfl : j = LL.length := by omega
    have e1 : (cs ++ [u]).getD LL.length nsl = u := by rw [← h2]; simp [List.getD_eq_getElem?_getD]
    have e2 : LLg (LL ++ [l]) LL.length = l := by simp [LLg, List.getD_eq_getElem?_getD]
    rw [e1, e2]
    exact hu.ci hci
end Go.Proofs.YtccjflioaajgiaaGreatDoor

/- The contracts of slices.Grow of no numbers, and of slices.Concat of lists of numbers. -/
namespace Go.Proofs.YtccjflioaajgiaaGreatDoor
open Go Go.RowKit
set_option maxRecDepth 20000

theorem OwnZ.zeros (w : World) (n : Nat) (hn : n ≤ 100000000) (B : Nat) (hB : B ≤ w.heap.size) :
    OwnZ (w.drew.alloc (.cells (Builtin.zeroCells (Value.int .i64 0).cells n ++ Builtin.zeroCells (Value.int .i64 0).cells (grownCap w n 0 3 - n)) 3)) B (.slice (some ⟨w.heap.size, 0, none⟩) 0 (grownCap w n 0 3)) [] := by
  have h1 := grownCap_ge w n 0 3
  have h2 := grownCap_le_maxLen w n 0 3 (by unfold maxLen; omega)
  refine ⟨by simp, .inr ⟨w.heap.size, grownCap w n 0 3, Builtin.zeroCells (Value.int .i64 0).cells n ++ Builtin.zeroCells (Value.int .i64 0).cells (grownCap w n 0 3 - n), rfl, hB, ?_, Nat.zero_le _, h2, ?_, by simp⟩⟩
  · show (w.drew.heap.push _)[w.drew.heap.size]? = _
    exact Array.getElem?_push_size
  · rw [Array.size_append, size_zeroCells, size_zeroCells]
    simp [Value.cells]
    omega
theorem infoZ : ∃ i, Tryz.prog.info? 3 = some i ∧ i.zero = some (.int .i64 0) ∧ i.size = 1 ∧ i.bytes = 8 :=
  ⟨(Tryz.prog.info? 3).get (by kernel_rfl), by kernel_rfl, by kernel_rfl, by kernel_rfl, by kernel_rfl⟩
set_option maxHeartbeats 1000000 in
theorem growN_any (N : Int) (n : Nat) (hN : N = (n : Int)) (hm : n ≤ 100000000) (w : World) :
    Calls Tryz.prog 125 #[.slice none 0 0, .int .i64 N] w fun e w' => (∃ A c, e = .returned (.slice A 0 c) ∧ OwnZ w' w.heap.size (.slice A 0 c) []) ∧ Below w.heap.size w w' := by
  subst hN
  by_cases hp : 0 < n
  · obtain ⟨i, hi, hz, hs, hy⟩ := infoZ
    have R := fun ty => Lib.run_append_nil_zeros (P := Tryz.prog) w 89 3 ty 3 i (.int .i64 0) .i64 .i64 Tryz.underlying89 Tryz.underlying3 hi hz n hp (by rw [hs]; omega) (by omega) (by rw [hy]; omega)
    have O := Lib.hid (OwnZ.zeros w n hm w.heap.size (Nat.le_refl _))
    have g1 := grownCap_ge w n 0 3
    have g2 := grownCap_le_maxLen w n 0 3 (by unfold maxLen; omega)
    unfold maxLen at g2
    generalize grownCap w n 0 3 = G at R O g1 g2
    have BB := Lib.hid (((Below.refl w.heap.size w).drew).alloc (Nat.le_refl _) (.cells (Builtin.zeroCells (Value.int .i64 0).cells n ++ Builtin.zeroCells (Value.int .i64 0).cells (G - n)) 3))
    generalize w.drew.alloc (.cells (Builtin.zeroCells (Value.int .i64 0).cells n ++ Builtin.zeroCells (Value.int .i64 0).cells (G - n)) 3) = W at R O BB
    have RR := Lib.hid R
    clear R hz hs hy hi
    go_enter Tryz.func125, Tryz.ntmps125
    go_wp2_with (at_builtin; refine Lib.wpList_append_run _ rfl _ _ _ _ rfl _ _ rfl rfl _ _ (RR.out _) ?_)
    go_ret
    exact ⟨⟨_, _, rfl, O.out⟩, BB.out⟩
  · obtain rfl : n = 0 := by omega
    clear hp hm
    go_enter Tryz.func125, Tryz.ntmps125
    go_wp2
    go_ret
    exact ⟨⟨none, 0, rfl, OwnZ.nil _ _⟩, Below.refl _ _⟩
/- the first ones joined -/
def fl (LL : List (List Nat)) (k : Nat) : List Nat := (LL.take k).flatten
theorem fl_next (LL : List (List Nat)) (k : Nat) (h : k < LL.length) : fl LL (k + 1) = fl LL k ++ LLg LL k := by
  unfold fl
  rw [List.take_succ_eq_append_getElem h, List.flatten_append, LLg, List.getD_eq_getElem?_getD, List.getElem?_eq_getElem h]; simp
theorem fl_all (LL : List (List Nat)) (k : Nat) (h : k = LL.length) : fl LL k = LL.flatten := by unfold fl; rw [List.take_of_length_le (by omega)]
theorem fl_le (LL : List (List Nat)) (k : Nat) : (fl LL k).length ≤ LL.flatten.length := by
  unfold fl
  conv => rhs; rw [← List.take_append_drop k LL, List.flatten_append, List.length_append]
  omega
set_option maxHeartbeats 2000000 in
theorem concatN_any (A : Option Addr) (n c : Nat) (LL : List (List Nat)) (w : World) (hn : LL.length = n) (hx : Lls w A LL) (hs : LL.flatten.length ≤ 100000000) (hm : n ≤ 1000000) :
    Calls Tryz.prog 112 #[.slice A n c] w fun e w' => (∃ v, e = .returned v ∧ Sl w' v LL.flatten) ∧ Below w.heap.size w w' := by
  have HN := Lib.hid hn
  have HX := Lib.hid hx
  have HS := Lib.hid hs
  have G := Lib.hid (fun N m hN hm => growN_any N m hN hm w)
  clear hn hx hs
  go_enter Tryz.func112, Tryz.ntmps112
  go_wp2
  go_loop [3, 11] (fun t i => ∃ k : Nat, k ≤ n ∧ i = .int .i64 k ∧ t = .int .i64 ((fl LL k).length : Int)) (fun _ i => n - (intOf i).toNat)
  case atStart => exact ⟨0, Nat.zero_le _, rfl, rfl⟩
  case round =>
    obtain ⟨k, hk, rfl, rfl⟩ := hrel
    have hb1 : (fl LL k).length ≤ 100000000 := Nat.le_trans (fl_le LL k) HS.out
    by_cases hlt : k < n
    · obtain ⟨b, off, u, rfl, hc, A', c', rfl, _⟩ := HX.out k (by rw [HN.out]; exact hlt)
      have S := Lib.hid (show (fl LL (k + 1)).length = (fl LL k).length + (LLg LL k).length by rw [fl_next LL k (by rw [HN.out]; exact hlt), List.length_append])
      have hb2 : (fl LL k).length + (LLg LL k).length ≤ 100000000 := by rw [← S.out]; exact Nat.le_trans (fl_le LL (k + 1)) HS.out
      generalize (fl LL k).length = x at hb1 S hb2
      generalize (LLg LL k).length = m at hc S hb2
      go_wp2_with fail
      exact ⟨⟨k + 1, by omega, by go_num, by rw [S.out]; first | go_num | rfl⟩, by simp [intOf]; omega⟩
    · have E := Lib.hid (fl_all LL k (by rw [HN.out]; omega))
      generalize (fl LL k).length = x at hb1
      go_wp2_with fail
      refine (G.out _ x (by first | rfl | go_num) (by omega)).mono ?_
      rintro e w1 ⟨⟨A1, c1, rfl, ho⟩, hb⟩
      have O1 := Lib.hid ho
      have B1 := Lib.hid hb
      clear ho hb G E
      go_wp2_with fail
      go_loopw [6, 27] (fun v i W => ∃ k : Nat, k ≤ n ∧ i = .int .i64 k ∧ Hid (OwnZ W w.heap.size v (fl LL k) ∧ Below w.heap.size w W)) (fun _ i _ => n - (intOf i).toNat)
      case atStart => exact ⟨0, Nat.zero_le _, rfl, Lib.hid ⟨O1.out, B1.out⟩⟩
      case round =>
        obtain ⟨q, hq, rfl, H⟩ := hrel
        by_cases hlt2 : q < n
        · have X := Lib.hid ((HX.out.below H.out.2) q (by rw [HN.out]; exact hlt2))
          obtain ⟨b, off, u, rfl, hc, A', c', rfl, h0, hi⟩ := X.out
          have hc0 := Lib.hid h0.1
          have hi := Lib.hid hi
          have hl1 : (fl LL q).length ≤ 100000000 := Nat.le_trans (fl_le LL q) HS.out
          have hl2 : (fl LL (q + 1)).length ≤ 100000000 := Nat.le_trans (fl_le LL (q + 1)) HS.out
          have S := Lib.hid (fl_next LL q (by rw [HN.out]; exact hlt2))
          have L1 := Lib.hid hl1
          have L2 := Lib.hid (show (fl LL q).length + (LLg LL q).length ≤ 100000000 by rw [← List.length_append, ← S.out]; exact hl2)
          clear hl1 hl2 X h0
          go_wp2_with (at_builtin; refine wp_appc tyI (.tmp 31) (.tmp 32) _ rfl rfl w.heap.size _ (ics (fl LL q)) rfl H.out.1 A' (LLg LL q).length c' (ics (LLg LL q)) rfl (by simp) hc0.out (fun j hj => (by obtain ⟨b, off, e1, e2, _⟩ := hi.out j hj; exact ⟨b, off, e1, by rw [ics_getD _ _ hj]; exact e2⟩)) (ics_one _) (by rw [List.length_map]; have := L2.out; omega) H.out.2.size ((fl LL q).length + (LLg LL q).length) (by simp) ?_; intro A2 c2 w2 hO2 _ hb2; have H2 := Lib.hid (show OwnZ w2 w.heap.size (.slice A2 ((fl LL q).length + (LLg LL q).length) c2) (fl LL (q + 1)) ∧ Below w.heap.size w w2 from ⟨by rw [S.out]; unfold OwnZ; rw [← ics_app]; exact hO2, H.out.2.trans hb2⟩); clear hO2 hb2)
          exact ⟨⟨q + 1, by omega, by go_num, H2⟩, by simp [intOf]; omega⟩
        · have E := Lib.hid (fl_all LL q (by rw [HN.out]; omega))
          go_wp2_with fail
          go_ret
          exact ⟨⟨_, rfl, by rw [← E.out]; exact H.out.1.sl⟩, H.out.2⟩
end Go.Proofs.YtccjflioaajgiaaGreatDoor

/- The search's union: all places of some lists that are below a bound, rising, each once. -/
namespace Go.Proofs.YtccjflioaajgiaaGreatDoor
open Go Go.RowKit
set_option maxRecDepth 20000

def prt (F : List Nat) (i k : Nat) : List Nat := ((List.range k).filter fun j => F.contains (i + j)).map (i + ·)
theorem prt_next (F : List Nat) (i k : Nat) : prt F i (k + 1) = if F.contains (i + k) then prt F i k ++ [i + k] else prt F i k := by
  unfold prt
  rw [List.range_succ, List.filter_append, List.map_append]
  cases h : F.contains (i + k)
  · simp only [List.filter_cons, List.filter_nil, h]; simp
  · simp only [List.filter_cons, List.filter_nil, h]; simp
theorem prt_len (F : List Nat) (i k : Nat) : (prt F i k).length ≤ k := by
  unfold prt
  rw [List.length_map]
  exact Nat.le_trans (List.length_filter_le _ _) (by rw [List.length_range]; exact Nat.le_refl _)
theorem prt_uni (F : List Nat) (i k : Nat) (h : ∀ x ∈ F, i ≤ x) : prt F i k = uni (i + k) F := by
  induction k with
  | zero =>
    show [] = _
    refine (List.eq_nil_iff_forall_not_mem.2 fun x hx => ?_).symm
    obtain ⟨h1, h2⟩ := mem_rng.1 hx
    have := h x (List.contains_iff_mem.1 h2)
    omega
  | succ k ih =>
    rw [prt_next, ih]
    unfold uni rng
    rw [← Nat.add_assoc, List.range_succ, List.filter_append]
    cases h : F.contains (i + k)
    · simp only [List.filter_cons, List.filter_nil, h]; simp
    · simp only [List.filter_cons, List.filter_nil, h]; simp
/- the row of what is there -/
def thr (F : List Nat) (i d k : Nat) : List Value := (List.range d).map fun j => Value.bool ((F.take k).contains (i + j))
def Thr (w : World) (g : Nat) (F : List Nat) (i d k : Nat) : Prop := w.heap[g]? = some (.cells (thr F i d k).toArray 4 (0, 0))
theorem thr_len (F : List Nat) (i d k : Nat) : (thr F i d k).length = d := by simp [thr]
theorem Thr.cell {w : World} {g : Nat} {F : List Nat} {i d k : Nat} (h : Thr w g F i d k) (j : Nat) (hj : j < d) : w.cell? ⟨g, j, none⟩ = some (.bool ((F.take k).contains (i + j))) := by
  rw [cell_of_row w g j _ _ _ h]
  simp [thr, hj]
theorem Thr.free {w : World} {g : Nat} {F : List Nat} {i d k : Nat} (h : Thr w g F i d k) (j : Nat) : w.frozen? ⟨g, j, none⟩ = false := by
  unfold Thr at h
  simp [World.frozen?, h]
theorem take_one (F : List Nat) (k : Nat) (h : k < F.length) : F.take (k + 1) = F.take k ++ [F.getD k 0] := by
  rw [List.take_succ_eq_append_getElem h, List.getD_eq_getElem?_getD, List.getElem?_eq_getElem h]; rfl
theorem thr_set (F : List Nat) (i d k : Nat) (h : k < F.length) (hi : i ≤ F.getD k 0) : (thr F i d k).set (F.getD k 0 - i) (.bool true) = thr F i d (k + 1) := by
  refine List.ext_getElem (by simp [thr]) fun j h1 h2 => ?_
  rw [List.getElem_set]
  simp only [thr, List.getElem_map, List.getElem_range]
  rw [take_one F k h]
  by_cases e : F.getD k 0 - i = j
  · rw [if_pos e]
    have : i + j = F.getD k 0 := by omega
    rw [this]; simp
  · rw [if_neg e]
    congr 1
    rw [Bool.eq_iff_iff]
    simp only [List.contains_iff_mem, List.mem_append, List.mem_singleton]
    constructor
    · exact .inl
    · rintro (h | h)
      · exact h
      · omega
theorem thr_skip (F : List Nat) (i d k : Nat) (h : k < F.length) (hi : i + d ≤ F.getD k 0) : thr F i d k = thr F i d (k + 1) := by
  refine List.map_congr_left fun j hj => ?_
  have hj := List.mem_range.1 hj
  rw [take_one F k h]
  congr 1
  rw [Bool.eq_iff_iff]
  simp only [List.contains_iff_mem, List.mem_append, List.mem_singleton]
  constructor
  · exact .inl
  · rintro (h | h)
    · exact h
    · omega
theorem Thr.set {w : World} {g : Nat} {F : List Nat} {i d k : Nat} (h : Thr w g F i d k) (hk : k < F.length) (hi : i ≤ F.getD k 0) : Thr (w.setCell ⟨g, F.getD k 0 - i, none⟩ (.bool true)) g F i d (k + 1) := by
  unfold Thr
  rw [heap_setCell_same w g _ _ _ _ h]
  simp only [List.setIfInBounds_toArray, thr_set F i d k hk hi]
theorem Thr.below {w w' : World} {B g : Nat} {F : List Nat} {i d k : Nat} (h : Thr w g F i d k) (hb : Below B w w') (hg : g < B) : Thr w' g F i d k := by
  unfold Thr
  rw [hb.block g hg]
  exact h
theorem Thr.start (w : World) (F : List Nat) (i d : Nat) : Thr (w.alloc (.cells (madeCells #[.bool false] d) 4)) w.heap.size F i d 0 := by
  unfold Thr
  rw [heap_alloc_new w _]
  congr 2
  refine Array.ext' ?_
  simp only [thr, madeCells, List.take_zero, List.contains_nil]
  refine List.ext_getElem (by simp) fun j h1 h2 => ?_
  simp [Nat.mod_one]
theorem infoB : ∃ i, Tryz.prog.info? 4 = some i ∧ i.zero = some (.bool false) ∧ i.size = 1 ∧ i.bytes = 1 :=
  ⟨(Tryz.prog.info? 4).get (by kernel_rfl), by kernel_rfl, by kernel_rfl, by kernel_rfl, by kernel_rfl⟩
theorem run_mkb (w : World) (d : Nat) (hd : d ≤ 1000000) (x : Int) (hx : x = (d : Int)) : (Instr.makeSlice 101 (.int .i64 x) (.int .i64 x)).run Tryz.prog w = .ok (.slice (some ⟨w.heap.size, 0, none⟩) d d) (w.alloc (.cells (madeCells #[.bool false] d) 4)) := by
  subst hx
  obtain ⟨i, hi, hz, hs, hy⟩ := infoB
  have := run_make (P := Tryz.prog) w 101 4 i (.bool false) Tryz.underlying101 hi hz .i64 .i64 d d (by omega) (by omega) (by rw [hy]; omega) (by omega)
  rw [hs] at this
  simpa [Value.cells] using this
set_option maxHeartbeats 4000000 in
theorem union_any (s i d : Nat) (ob of oN oC : Nat) (A : Option Addr) (n c : Nat) (LL : List (List Nat)) (w : World) (h3 : w.cell? ⟨s, 3, none⟩ = some (.slice (some ⟨ob, of, none⟩) oN oC)) (hi : i < oN) (ho : w.cell? ⟨ob, of + i, none⟩ = some (.int .i64 ((i + d : Nat) : Int)))
    (ho2 : i + d ≤ 100000) (hn : LL.length = n) (hx : Lls w A LL) (hs : LL.flatten.length ≤ 100000000) (hm : n ≤ 1000000) (hge : ∀ x ∈ LL.flatten, i ≤ x ∧ x ≤ 100000) :
    Calls Tryz.prog 99 #[.pointer (some ⟨s, 0, none⟩), .slice A n c, .int .i64 (i : Int)] w fun e w' => (∃ v, e = .returned v ∧ Sl w' v (uni (i + d) LL.flatten)) ∧ Below w.heap.size w w' := by
  have R := run_mkb w d (by omega) ((i : Int) + (d : Int) - (i : Int)) (by omega)
  have T0 := Lib.hid (Thr.start w LL.flatten i d)
  have B0 := Lib.hid ((Below.refl w.heap.size w).alloc (Nat.le_refl _) (.cells (madeCells #[.bool false] d) 4))
  have Z0 : Hid (w.heap.size < (w.alloc (.cells (madeCells #[.bool false] d) 4)).heap.size) := Lib.hid (by simp)
  have C := Lib.hid (concatN_any A n c LL (w.alloc (.cells (madeCells #[.bool false] d) 4)) hn (hx.below B0.out) hs hm)
  have GE := Lib.hid hge
  have FS := Lib.hid hs
  generalize w.alloc (.cells (madeCells #[.bool false] d) 4) = w1 at R T0 B0 C Z0
  have EU := Lib.hid (prt_uni LL.flatten i d (fun x hx => (hge x hx).1))
  generalize LL.flatten = F at T0 C GE EU FS ⊢
  have H3 := Lib.hid h3
  have HO := Lib.hid ho
  clear hn hx hs hm hge
  go_enter Tryz.func99, Tryz.ntmps99
  go_wp2_with fail
  refine C.out.mono ?_
  rintro e w2 ⟨⟨v, rfl, A2, c2, rfl, _, h2⟩, hb⟩
  have I2 := Lib.hid h2
  have T2 := Lib.hid (T0.out.below hb Z0.out)
  have B2 := Lib.hid (B0.out.trans (hb.mono (by have := B0.out.size; omega)))
  clear h2 hb C h3 ho
  go_wp2_with fail
  go_loopw [26] (fun t W => ∃ k : Nat, k ≤ F.length ∧ t = .int .i64 k ∧ Hid (Thr W w.heap.size F i d k ∧ Its W A2 F ∧ Below w.heap.size w W)) (fun t _ => F.length - (intOf t).toNat)
  case atStart => exact ⟨0, Nat.zero_le _, rfl, Lib.hid ⟨T2.out, I2.out, B2.out⟩⟩
  case round =>
    obtain ⟨k, hk, rfl, H⟩ := hrel
    have g3 := Ck.of_below H.out.2.2 _ _ _ H3.out
    have go := Ck.of_below H.out.2.2 _ _ _ HO.out
    have hkb : F.length ≤ 100000000 := FS.out
    by_cases hlt : k < F.length
    · obtain ⟨b, off, rfl, hc, _⟩ := H.out.2.1 k hlt
      obtain ⟨hx1, hx2⟩ := GE.out (F.getD k 0) (by rw [List.getD_eq_getElem?_getD, List.getElem?_eq_getElem hlt]; exact List.getElem_mem _)
      obtain ⟨y, hy⟩ : ∃ y, F.getD k 0 = i + y := ⟨F.getD k 0 - i, by omega⟩
      have HY := Lib.hid hy
      rw [hy] at hc hx2
      clear hx1 hy
      by_cases hyd : y < d
      · have hcell := H.out.1.cell y hyd
        have hfree := H.out.1.free y
        have HS : Hid (Thr (wr.setCell ⟨w.heap.size, y, none⟩ (.bool true)) w.heap.size F i d (k + 1)) := Lib.hid (by
          have := H.out.1.set hlt (by rw [HY.out]; omega)
          rwa [show F.getD k 0 - i = y by rw [HY.out]; omega] at this)
        generalize (F.take k).contains (i + y) = bb at hcell
        have IS : Hid (Its (wr.setCell ⟨w.heap.size, y, none⟩ (.bool true)) (some ⟨b, off, none⟩) F) := Lib.hid (H.out.2.1.ci (fun b' cur fr hb' => heap_setCell_other wr ⟨w.heap.size, y, none⟩ b' _ (fun e => by
          have e : b' = w.heap.size := e
          have := H.out.1
          unfold Thr at this
          rw [e, this] at hb'
          injection hb' with hb'
          injection hb' with _ e2
          exact absurd e2 (by decide))))
        have BS := Lib.hid (H.out.2.2.setCell (p := ⟨w.heap.size, y, none⟩) (Nat.le_refl _) (.bool true))
        go_wp2_with fail
        exact ⟨⟨k + 1, by omega, by go_num, Lib.hid ⟨HS.out, IS.out, BS.out⟩⟩, by simp [intOf]; omega⟩
      · have HS : Hid (Thr wr w.heap.size F i d (k + 1)) := Lib.hid (by
          have := H.out.1
          unfold Thr at this ⊢
          rwa [thr_skip F i d k hlt (by rw [HY.out]; omega)] at this)
        go_wp2_with fail
        exact ⟨⟨k + 1, by omega, by go_num, Lib.hid ⟨HS.out, H.out.2⟩⟩, by simp [intOf]; omega⟩
    · obtain rfl : k = F.length := by omega
      have ET : Hid (∀ j, j < d → wr.cell? ⟨w.heap.size, j, none⟩ = some (.bool (F.contains (i + j)))) := Lib.hid (fun j hj => by
        have := H.out.1.cell j hj
        rwa [List.take_of_length_le (Nat.le_refl _)] at this)
      have BE := Lib.hid H.out.2.2
      have ZE : Hid (w.heap.size < wr.heap.size) := Lib.hid (by
        have := H.out.1
        unfold Thr at this
        exact (Array.getElem?_eq_some_iff.1 this).1)
      rename World => we
      have PN := Lib.hid (prt_next F i)
      have PL := Lib.hid (prt_len F i)
      clear g3 go hkb hk H T2 I2 B2
      generalize F.contains = fc at ET PN
      go_wp2_with fail
      go_loopw [10, 47] (fun v t W => ∃ k : Nat, k ≤ d ∧ t = .int .i64 k ∧ Hid (OwnZ W we.heap.size v (prt F i k) ∧ Below we.heap.size we W)) (fun _ t _ => d - (intOf t).toNat)
      case atStart => exact ⟨0, Nat.zero_le _, rfl, Lib.hid ⟨OwnZ.nil _ _, Below.refl _ _⟩⟩
      case round =>
        obtain ⟨k, hk, rfl, H⟩ := hrel
        obtain ⟨A3, c3, rfl, _⟩ := H.out.1.sl
        by_cases hlt2 : k < d
        · have hc := Ck.of_below H.out.2 _ _ _ (ET.out k hlt2)
          have P1 := Lib.hid (PN.out k)
          cases hf : fc (i + k)
          · rw [hf] at hc
            have P2 : Hid (prt F i (k + 1) = prt F i k) := Lib.hid (by rw [P1.out, hf]; rfl)
            clear hf
            go_wp2_with fail
            exact ⟨⟨k + 1, by omega, by go_num, Lib.hid (by rw [P2.out]; exact H.out)⟩, by simp [intOf]; omega⟩
          · rw [hf] at hc
            have P2 : Hid (prt F i (k + 1) = prt F i k ++ [i + k]) := Lib.hid (by rw [P1.out, hf]; rfl)
            clear hf
            go_wp2_with ((with_reducible show wpList _ _ _ (Oper.mk (some 58) _ _ _ _ _ :: _) _ _); refine wp_appn1 (.tmp 53) (.tmp 57) _ rfl rfl we.heap.size _ (prt F i k) rfl (H.out.1.below (bal _ _)) _ rfl (i + k) (by simp [go_sem]) (by have := PL.out k; omega) (Nat.le_trans H.out.2.size (bal _ _).size) ((prt F i k).length + 1) rfl ?_; intro A4 c4 w3 hO hb; have H3 := Lib.hid (show OwnZ w3 we.heap.size (.slice A4 ((prt F i k).length + 1) c4) (prt F i (k + 1)) ∧ Below we.heap.size we w3 from ⟨by rw [P2.out]; exact hO, (H.out.2.trans ((bal _ _).mono H.out.2.size)).trans hb⟩); clear hO hb)
            exact ⟨⟨k + 1, by omega, by go_num, H3⟩, by simp [intOf]; omega⟩
        · obtain rfl : k = d := by omega
          go_wp2_with fail
          go_ret
          exact ⟨⟨_, rfl, by rw [← EU.out]; exact H.out.1.sl⟩, BE.out.trans (H.out.2.mono BE.out.size)⟩
end Go.Proofs.YtccjflioaajgiaaGreatDoor
