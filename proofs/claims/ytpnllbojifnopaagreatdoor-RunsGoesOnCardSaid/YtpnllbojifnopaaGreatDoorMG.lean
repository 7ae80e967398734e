/- Contracts, joined: DnMap, DnM, DnC, DnU. -/
import Derived.Test.YtpnllbojifnopaaGreatDoorProg
import Derived.Maps.OwnSet
import Derived.WideKeyPair
import Derived.DeepKeys4
import Derived.KernelRfl
import Derived.Test.YtpnllbojifnopaaGreatDoorMB
import Derived.Maps.AppendAt
import Derived.Laws.AppendOwnNone
import Derived.Lib.AppendZeros
import Derived.Lib.MinMax
import Derived.LoopN
import Derived.Test.YtpnllbojifnopaaGreatDoorDnA
import Derived.Laws.MakeOwn
/- A map of slices by pairs of numbers in memory: looked up, stored into. -/
namespace Go.Proofs.YtpnllbojifnopaaGreatDoor
open Go Go.RowKit Go.Maps
open Go.ChangeMaps (setBlock modify_eq_set)
open Go.WideMaps (ArrKey KeyLaw keyOf_pair)
set_option maxRecDepth 20000

theorem kLaid : laidOutB Tryz.prog = true := by kernel_rfl
theorem kwf {n : Nat} (h : n < 9223372036854775807) : (Lit.int .i64 (n : Int)).wf = true := by
  have h0 : IntKind.i64.min = -9223372036854775808 := rfl
  have h1 : IntKind.i64.max = 9223372036854775807 := rfl
  simp [Lit.wf]; omega
abbrev kv (n i : Nat) : Value := .agg #[.int .i64 (n : Int), .int .i64 (i : Int)]
def kl (n i : Nat) : Lit := .string (keyBytes [.int .i64 (n : Int), .int .i64 (i : Int)])
theorem kIs (n i : Nat) : WideAt.IsKeyLit (kl n i) := trivial
/- an element reads as itself -/
abbrev RV : Value → Option (DataW Value × List MemPlace) := fun v => some (.held v, [])
abbrev nsl : Value := .slice none 0 0
theorem kzero (w : World) : (zeroValue 219).run Tryz.prog w = .ok nsl w := by kernel_rfl
theorem countP_more {α : Type} (p q : α → Bool) (l : List α) (h : ∀ y ∈ l, p y = true → q y = true) : l.countP p ≤ l.countP q := List.countP_mono_left h
theorem countP_one {α : Type} (p q : α → Bool) (l : List α) (x : α) (hx : x ∈ l) (h : ∀ y ∈ l, p y = true → q y = true) (h0 : p x = false) (h1 : q x = true) : l.countP p + 1 ≤ l.countP q := by
  induction l with
  | nil => cases hx
  | cons a l ih =>
    rw [List.countP_cons, List.countP_cons]
    rcases List.mem_cons.1 hx with rfl | hx
    · have := countP_more p q l (fun y hy => h y (by simp [hy]))
      rw [h0, h1]; simp; omega
    · have := ih hx (fun y hy => h y (by simp [hy]))
      have h2 := h a (by simp)
      cases ha : p a
      · simp; omega
      · rw [h2 ha]; simp; omega
end Go.Proofs.YtpnllbojifnopaaGreatDoor

/- Lists of numbers in memory, rows of such lists, and of one's own; what stays. -/
namespace Go.Proofs.YtpnllbojifnopaaGreatDoor
open Go Go.RowKit Go.Maps
set_option maxRecDepth 20000

theorem bal (w : World) (o : Obj) : Below w.heap.size w (w.alloc o) := (Below.refl w.heap.size w).alloc (Nat.le_refl _) o
/- what stays -/
structure Keep (F : Nat → Prop) (w w' : World) : Prop where
  os : w'.os = w.os
  tape : w'.tape = w.tape
  output : w'.output = w.output
  size : w.heap.size ≤ w'.heap.size
  block : ∀ k, k < w.heap.size → ¬ F k → w'.heap[k]? = w.heap[k]?
theorem Keep.refl (F : Nat → Prop) (w : World) : Keep F w w := ⟨rfl, rfl, rfl, Nat.le_refl _, fun _ _ _ => rfl⟩
theorem Keep.tr {F : Nat → Prop} {a b c : World} (h : Keep F a b) (k : Keep F b c) : Keep F a c :=
  ⟨k.os.trans h.os, k.tape.trans h.tape, k.output.trans h.output, Nat.le_trans h.size k.size, fun i hi hn => (k.block i (Nat.lt_of_lt_of_le hi h.size) hn).trans (h.block i hi hn)⟩
theorem Keep.of_below (F : Nat → Prop) {w w' : World} (h : Below w.heap.size w w') : Keep F w w' := ⟨h.os, h.tape, h.output, h.size, fun k hk _ => h.block k hk⟩
theorem Keep.then_below {F : Nat → Prop} {w W W' : World} (k : Keep F w W) (h : Below w.heap.size W W') : Keep F w W' :=
  ⟨h.os.trans k.os, h.tape.trans k.tape, h.output.trans k.output, Nat.le_trans k.size h.size, fun i hi hn => (h.block i hi).trans (k.block i hi hn)⟩
theorem Keep.turned {F : Nat → Prop} {w w' : World} {m : Nat} (h : w.mapTurned w' m) (hF : F m) : Keep F w w' :=
  ⟨h.grown.os, h.grown.tape, h.grown.output, h.grown.size, fun k hk hn => h.grown.block k hk (fun e => hn (by injection e with e; exact e ▸ hF))⟩
theorem Keep.below {F : Nat → Prop} {w w' : World} {B : Nat} (h : Keep F w w') (hF : ∀ k, F k → B ≤ k) (hB : B ≤ w.heap.size) : Below B w w' :=
  ⟨h.os, h.tape, h.output, h.size, fun k hk => h.block k (by omega) (fun e => by have := hF k e; omega)⟩
/- all that is read, but for one map -/
def IsMp (w : World) (m : Nat) : Prop := ∃ es clock, w.heap[m]? = some (.map es clock)
def Ck (w w' : World) : Prop := ∀ b j v, w.cell? ⟨b, j, none⟩ = some v → w'.cell? ⟨b, j, none⟩ = some v
theorem Ck.of_below {w w' : World} (h : Below w.heap.size w w') : Ck w w' := fun b j _ hc => (h.cell (p := ⟨b, j, none⟩) (World.block_lt_of_cell? _ _ hc)).trans hc
theorem Ck.trans {a b c : World} (h : Ck a b) (k : Ck b c) : Ck a c := fun x j v hc => k x j v (h x j v hc)
theorem IsMp.cell {w : World} {m : Nat} (h : IsMp w m) (j : Nat) : w.cell? ⟨m, j, none⟩ = none := by
  obtain ⟨es, clock, h⟩ := h
  simp [World.cell?, h]
theorem Ck.keep {w w' : World} {m : Nat} (h : Keep (· = m) w w') (hm : IsMp w m) : Ck w w' := fun b j v hc => by
  have hne : b ≠ m := fun e => by rw [e, hm.cell] at hc; cases hc
  exact (World.cell?_of_block (w := w) (h.block b (World.block_lt_of_cell? _ _ hc) hne)).trans hc
/- all blocks of numbers stay -/
def Ci (w w' : World) : Prop := ∀ (b : Nat) (cur : Array Value) (fr : Nat × Nat), w.heap[b]? = some (Obj.cells cur 3 fr) → w'.heap[b]? = w.heap[b]?
theorem Ci.of_below {w w' : World} (h : Below w.heap.size w w') : Ci w w' := fun b _ _ hb => h.block b (Array.getElem?_eq_some_iff.1 hb).1
theorem Ci.keep {w w' : World} {m : Nat} (h : Keep (· = m) w w') (hm : IsMp w m) : Ci w w' := fun b _ _ hb => h.block b (Array.getElem?_eq_some_iff.1 hb).1 (fun e => by
  obtain ⟨es, clock, hm⟩ := hm
  rw [e, hm] at hb
  cases hb)
theorem Ci.grown {w w' : World} {g : Nat} {cur : Array Value} {T : TypeId} {fr : Nat × Nat} (h : w.grownBy w' (some g)) (hg : w.heap[g]? = some (Obj.cells cur T fr)) (hT : T ≠ 3) : Ci w w' := fun b c f hb => by
  refine h.block b (Array.getElem?_eq_some_iff.1 hb).1 (fun e => ?_)
  injection e with e
  subst e
  rw [hg] at hb
  injection hb with hb
  injection hb with _ e2
  exact hT e2
theorem Ci.grown0 {w w' : World} (h : w.grownBy w' none) : Ci w w' := fun b c f hb => h.block b (Array.getElem?_eq_some_iff.1 hb).1 (fun e => by cases e)
/- numbers in memory -/
def Its (w : World) (A : Option Addr) (L : List Nat) : Prop := ∀ i, i < L.length → ∃ b off, A = some ⟨b, off, none⟩ ∧ w.cell? ⟨b, off + i, none⟩ = some (.int .i64 ((L.getD i 0 : Nat) : Int)) ∧ ∃ cur fr, w.heap[b]? = some (Obj.cells cur 3 fr)
theorem Its.nil (w : World) (A : Option Addr) : Its w A [] := fun i hi => absurd hi (by simp)
theorem Its.ci {w w' : World} {A : Option Addr} {L : List Nat} (h : Its w A L) (k : Ci w w') : Its w' A L := fun i hi => by
  obtain ⟨b, off, e, hc, cur, fr, hb⟩ := h i hi
  exact ⟨b, off, e, (World.cell?_of_block (k b cur fr hb)).trans hc, cur, fr, (k b cur fr hb).trans hb⟩
def Sl (w : World) (v : Value) (L : List Nat) : Prop := ∃ A c, v = .slice A L.length c ∧ ((A = none → c = 0) ∧ L.length ≤ c) ∧ Its w A L
theorem Sl.ci {w w' : World} {v : Value} {L : List Nat} (h : Sl w v L) (k : Ci w w') : Sl w' v L := by
  obtain ⟨A, c, e, h0, h⟩ := h
  exact ⟨A, c, e, h0, h.ci k⟩
theorem Sl.below {w w' : World} {v : Value} {L : List Nat} (h : Sl w v L) (k : Below w.heap.size w w') : Sl w' v L := h.ci (Ci.of_below k)
theorem Sl.nil (w : World) : Sl w nsl [] := ⟨none, 0, rfl, ⟨fun _ => rfl, Nat.le_refl _⟩, Its.nil _ _⟩
/- rows of one's own whose elements take one cell -/
def OwnC (T : TypeId) (w : World) (B : Nat) (v : Value) (cs : List Value) : Prop := w.ownsRow B T 1 v cs.length cs
theorem OwnC.nil (T : TypeId) (w : World) (B : Nat) : OwnC T w B nsl [] := World.ownsRow_nil w B T 1
theorem OwnC.same {T : TypeId} {w w' : World} {B : Nat} {v : Value} {cs : List Value} (h : OwnC T w B v cs) (hb : ∀ k cur, B ≤ k → w.heap[k]? = some (Obj.cells cur T (0, 0)) → w'.heap[k]? = w.heap[k]?) : OwnC T w' B v cs := by
  refine ⟨h.1, ?_⟩
  rcases h.2 with h0 | ⟨g, cap, cur, hv, hg, hh, r⟩
  · exact .inl h0
  · exact .inr ⟨g, cap, cur, hv, hg, by rw [hb g cur hg hh]; exact hh, r⟩
theorem OwnC.below {T : TypeId} {w w' : World} {B : Nat} {v : Value} {cs : List Value} (h : OwnC T w B v cs) (hb : Below w.heap.size w w') : OwnC T w' B v cs :=
  h.same fun k _ _ hk => hb.block k (Array.getElem?_eq_some_iff.1 hk).1
theorem OwnC.keep {T : TypeId} {w w' : World} {B m : Nat} {v : Value} {cs : List Value} (h : OwnC T w B v cs) (hb : Keep (· = m) w w') (hm : IsMp w m) : OwnC T w' B v cs :=
  h.same fun k cur _ hk => hb.block k (Array.getElem?_eq_some_iff.1 hk).1 (fun e => by
    obtain ⟨es, clock, hm⟩ := hm
    rw [e, hm] at hk
    cases hk)
theorem OwnC.form {T : TypeId} {w : World} {B : Nat} {v : Value} {cs : List Value} (h : OwnC T w B v cs) : ∃ A c, v = .slice A cs.length c ∧ (A = none → c = 0) ∧ cs.length ≤ c ∧ ∀ i, i < cs.length → ∃ b, A = some ⟨b, 0, none⟩ ∧ B ≤ b ∧ w.cell? ⟨b, i, none⟩ = some (cs.getD i nsl) ∧ ∃ cur, w.heap[b]? = some (Obj.cells cur T (0, 0)) := by
  rcases h.2 with ⟨rfl, h0⟩ | ⟨g, cap, cur, rfl, hB, hh, hc, _⟩
  · have : cs = [] := List.eq_nil_of_length_eq_zero h0
    subst this
    exact ⟨none, 0, rfl, fun _ => rfl, Nat.le_refl _, fun i hi => absurd hi (by simp)⟩
  · refine ⟨_, _, rfl, (fun e => by cases e), hc, fun i hi => ⟨g, rfl, hB, ?_, cur, hh⟩⟩
    have := World.ownsRow.cells h (g := g) rfl i (cs.getD i nsl) (by rw [List.getD_eq_getElem?_getD, List.getElem?_eq_getElem hi]; rfl)
    rwa [add_plain, Nat.zero_add] at this
structure Ty1 (T S : TypeId) : Prop where
  sl : Tryz.prog.underlying S = some (.slice T)
  info : ∃ i z, Tryz.prog.info? T = some i ∧ i.zero = some z ∧ i.size = 1 ∧ i.bytes ≤ 24 ∧ z.cells.size = 1
theorem tyI : Ty1 3 219 := ⟨Tryz.underlying219, (Tryz.prog.info? 3).get (by kernel_rfl), .int .i64 0, by kernel_rfl, by kernel_rfl, by kernel_rfl, of_decide_eq_true (by kernel_rfl), rfl⟩
/- append of some cells, which lie in one row -/
theorem run_appc {T S : TypeId} (ty : Ty1 T S) (w : World) (B : Nat) (t : TypeId) (v : Value) (cs : List Value) (ho : OwnC T w B v cs) (A : Option Addr) (m c : Nat) (us : List Value) (hm : us.length = m) (hc0 : A = none → c = 0)
    (hus : ∀ i, i < m → ∃ b off, A = some ⟨b, off, none⟩ ∧ w.cell? ⟨b, off + i, none⟩ = some (us.getD i nsl)) (h1 : ∀ u ∈ us, u.oneCell' = true) (hlen : cs.length + m ≤ 200000000) (hB : B ≤ w.heap.size) :
    ∃ v' w', (Builtin.append_ #[S, S] t #[v, .slice A m c]).run Tryz.prog w = .ok v' w' ∧ OwnC T w' B v' (cs ++ us) ∧ w.grownBy w' v.ownBlock := by
  obtain ⟨i, z, hi, hz, hs, hy, hzs⟩ := ty.info
  rcases A with _ | ad
  · have hm0 : m = 0 := by
      rcases Nat.eq_zero_or_pos m with h | h
      · exact h
      · obtain ⟨b, off, e, _⟩ := hus 0 h
        cases e
    have hu : us = [] := List.eq_nil_of_length_eq_zero (by omega)
    have hc := hc0 rfl
    subst hm0 hc hu
    refine ⟨v, w, run_append_owned_none (P := Tryz.prog) (w := w) B S t T i 1 ty.sl hi v _ cs ho, by rw [List.append_nil]; exact ho, ⟨rfl, rfl, rfl, Nat.le_refl _, fun _ _ _ => rfl⟩⟩
  · obtain ⟨v', w', h1', h2, h3, _, h5⟩ := run_append_own_at (P := Tryz.prog) w B S t T i z 1 i.bytes ty.sl hi hz hs rfl hzs (by omega) v cs.length cs ho ad m c us (by omega)
      (fun j u hj => by
        have hjl : j < us.length := (List.getElem?_eq_some_iff.1 hj).1
        obtain ⟨b, off, e, hc⟩ := hus j (by omega)
        injection e with e
        subst e
        rw [add_plain, hc, List.getD_eq_getElem?_getD, hj]; rfl)
      h1 (by unfold maxLen; omega) (by
        have : (cs.length + m) * i.bytes ≤ 200000000 * 24 := Nat.mul_le_mul hlen hy
        omega) hB
    refine ⟨v', w', h1', ?_, h3⟩
    unfold OwnC
    rw [List.length_append, hm]
    exact h2
theorem wp_appc {T S : TypeId} (ty : Ty1 T S) {ops : Array Oper} {rest : List Oper} {o : Oper} {a : Act} {Q : Exit → Act → World → Prop} (s x : Operand) (w : World) (hgd : o.guard = none)
    (hop : o.op = .call { callee := .builtin .append, args := #[s, x], argTypes := #[S, S] })
    (B : Nat) (v : Value) (cs : List Value) (hs : a.eval s = v) (ho : OwnC T w B v cs) (A : Option Addr) (m c : Nat) (us : List Value) (hx : a.eval x = .slice A m c) (hm : us.length = m) (hc0 : A = none → c = 0)
    (hus : ∀ i, i < m → ∃ b off, A = some ⟨b, off, none⟩ ∧ w.cell? ⟨b, off + i, none⟩ = some (us.getD i nsl)) (h1 : ∀ u ∈ us, u.oneCell' = true) (hlen : cs.length + m ≤ 200000000) (hB : B ≤ w.heap.size) (k : Nat) (hk : (cs ++ us).length = k)
    (h : ∀ A' c' w', OwnC T w' B (.slice A' k c') (cs ++ us) → w.grownBy w' v.ownBlock → Below B w w' → wpList Tryz.prog ops Q rest (a.put o.dst (.slice A' k c')) w') : wpList Tryz.prog ops Q (o :: rest) a w := by
  refine wpList_plain hgd fun K hK => ?_
  obtain ⟨v', w', hrun, h2, h3⟩ := run_appc ty w B o.type v cs ho A m c us hm hc0 hus h1 hlen hB
  obtain ⟨A', c', rfl, _⟩ := h2.form
  rw [hk] at h2 hrun
  unfold Oper.wp
  simp [execOp, hop, resolve, invoke, builtin, hs, hx, hrun, Result.andThen]
  exact hK _ _ (h A' c' w' h2 h3 ((Below.refl _ _).grown h3 hB (fun k hk => (World.ownsRow.lt ho k hk).1)))
/- numbers of one's own -/
abbrev ics (L : List Nat) : List Value := L.map fun (e : Nat) => Value.int .i64 (e : Int)
def OwnZ (w : World) (B : Nat) (v : Value) (L : List Nat) : Prop := OwnC 3 w B v (ics L)
theorem OwnZ.nil (w : World) (B : Nat) : OwnZ w B nsl [] := OwnC.nil _ _ _
theorem ics_getD (L : List Nat) (i : Nat) (hi : i < L.length) : (ics L).getD i nsl = .int .i64 ((L.getD i 0 : Nat) : Int) := by
  simp [List.getD_eq_getElem?_getD, List.getElem?_eq_getElem hi]
theorem OwnZ.sl {w : World} {B : Nat} {v : Value} {L : List Nat} (h : OwnZ w B v L) : Sl w v L := by
  obtain ⟨A, c, e, h0, hle, hc⟩ := OwnC.form h
  rw [List.length_map] at e hc hle
  refine ⟨A, c, e, ⟨h0, hle⟩, fun i hi => ?_⟩
  obtain ⟨b, e1, _, e2, cur, e3⟩ := hc i hi
  exact ⟨b, 0, e1, by rw [Nat.zero_add, e2, ics_getD L i hi], cur, _, e3⟩
theorem OwnZ.below {w w' : World} {B : Nat} {v : Value} {L : List Nat} (h : OwnZ w B v L) (hb : Below w.heap.size w w') : OwnZ w' B v L := OwnC.below h hb
theorem ics_one (L : List Nat) : ∀ u ∈ ics L, u.oneCell' = true := by
  intro u hu
  obtain ⟨e, _, rfl⟩ := List.mem_map.1 hu
  rfl
theorem ics_app (L M : List Nat) : ics L ++ ics M = ics (L ++ M) := (List.map_append ..).symm
/- append of one number that lies in a block of its own -/
theorem wp_appn1 {ops : Array Oper} {rest : List Oper} {o : Oper} {a : Act} {Q : Exit → Act → World → Prop} (s x : Operand) (w : World) (hgd : o.guard = none)
    (hop : o.op = .call { callee := .builtin .append, args := #[s, x], argTypes := #[219, 219] })
    (B : Nat) (v : Value) (L : List Nat) (hs : a.eval s = v) (ho : OwnZ w B v L) (b : Nat) (hx : a.eval x = .slice (some ⟨b, 0, none⟩) 1 1) (e : Nat) (hc : w.cell? ⟨b, 0, none⟩ = some (.int .i64 (e : Int)))
    (hlen : L.length ≤ 100000000) (hB : B ≤ w.heap.size) (k : Nat) (hk : L.length + 1 = k)
    (h : ∀ A' c' w', OwnZ w' B (.slice A' k c') (L ++ [e]) → Below B w w' → wpList Tryz.prog ops Q rest (a.put o.dst (.slice A' k c')) w') : wpList Tryz.prog ops Q (o :: rest) a w :=
  wp_appc tyI s x w hgd hop B v (ics L) hs ho (some ⟨b, 0, none⟩) 1 1 [.int .i64 (e : Int)] hx rfl (fun h => by cases h)
    (fun i hi => ⟨b, 0, rfl, by obtain rfl : i = 0 := by omega
                                exact hc⟩) (fun u hu => by simp at hu; subst hu; rfl) (by rw [List.length_map]; omega) hB k (by simp; omega)
    (fun A' c' w' h2 _ h3 => h A' c' w' (by have : ics (L ++ [e]) = ics L ++ [.int .i64 (e : Int)] := by simp
                                            unfold OwnZ; rw [this]; exact h2) h3)
/- rows of lists of numbers -/
def LLg (LL : List (List Nat)) (i : Nat) : List Nat := LL.getD i []
def Lls (w : World) (A : Option Addr) (LL : List (List Nat)) : Prop := ∀ i, i < LL.length → ∃ b off u, A = some ⟨b, off, none⟩ ∧ w.cell? ⟨b, off + i, none⟩ = some u ∧ Sl w u (LLg LL i)
theorem Lls.below {w w' : World} {A : Option Addr} {LL : List (List Nat)} (h : Lls w A LL) (hb : Below w.heap.size w w') : Lls w' A LL := fun i hi => by
  obtain ⟨b, off, u, e, hc, hs⟩ := h i hi
  exact ⟨b, off, u, e, Ck.of_below hb _ _ _ hc, hs.below hb⟩
theorem Lls.keep {w w' : World} {m : Nat} {A : Option Addr} {LL : List (List Nat)} (h : Lls w A LL) (hb : Keep (· = m) w w') (hm : IsMp w m) : Lls w' A LL := fun i hi => by
  obtain ⟨b, off, u, e, hc, hs⟩ := h i hi
  exact ⟨b, off, u, e, Ck.keep hb hm _ _ _ hc, hs.ci (Ci.keep hb hm)⟩
def OwnL (w : World) (B : Nat) (v : Value) (LL : List (List Nat)) : Prop := ∃ cs, OwnC 219 w B v cs ∧ cs.length = LL.length ∧ ∀ i, i < LL.length → Sl w (cs.getD i nsl) (LLg LL i)
theorem OwnL.nil (w : World) (B : Nat) : OwnL w B nsl [] := ⟨[], OwnC.nil _ _ _, rfl, fun i hi => absurd hi (by simp)⟩
theorem OwnL.below {w w' : World} {B : Nat} {v : Value} {LL : List (List Nat)} (h : OwnL w B v LL) (hb : Below w.heap.size w w') : OwnL w' B v LL := by
  obtain ⟨cs, h1, h2, h3⟩ := h
  exact ⟨cs, h1.below hb, h2, fun i hi => (h3 i hi).below hb⟩
theorem OwnL.keep {w w' : World} {B m : Nat} {v : Value} {LL : List (List Nat)} (h : OwnL w B v LL) (hb : Keep (· = m) w w') (hm : IsMp w m) : OwnL w' B v LL := by
  obtain ⟨cs, h1, h2, h3⟩ := h
  exact ⟨cs, h1.keep hb hm, h2, fun i hi => (h3 i hi).ci (Ci.keep hb hm)⟩
theorem OwnL.form {w : World} {B : Nat} {v : Value} {LL : List (List Nat)} (h : OwnL w B v LL) : ∃ A c, v = .slice A LL.length c ∧ (A = none → c = 0) ∧ Lls w A LL := by
  obtain ⟨cs, h1, h2, h3⟩ := h
  obtain ⟨A, c, e, h0, _, hc⟩ := h1.form
  rw [h2] at e hc
  refine ⟨A, c, e, h0, fun i hi => ?_⟩
  obtain ⟨b, e1, _, e2, _⟩ := hc i hi
  exact ⟨b, 0, _, e1, by rw [Nat.zero_add]; exact e2, h3 i hi⟩
theorem OwnL.lls {w : World} {B n c : Nat} {A : Option Addr} {LL : List (List Nat)} (h : OwnL w B (.slice A n c) LL) : n = LL.length ∧ (A = none → c = 0) ∧ Lls w A LL := by
  obtain ⟨A', c', e, h0, hl⟩ := h.form
  injection e with e1 e2 e3
  subst e1 e3
  exact ⟨e2, h0, hl⟩
end Go.Proofs.YtpnllbojifnopaaGreatDoor

/- The contracts of slices.Grow of no numbers, and of slices.Concat of lists of numbers. -/
namespace Go.Proofs.YtpnllbojifnopaaGreatDoor
open Go Go.RowKit
set_option maxRecDepth 20000

theorem OwnZ.zeros (w : World) (n : Nat) (hn : n ≤ 100000000) (B : Nat) (hB : B ≤ w.heap.size) :
    OwnZ (w.drew.alloc (.cells (Builtin.zeroCells (Value.int .i64 0).cells n ++ Builtin.zeroCells (Value.int .i64 0).cells (grownCap w n 0 3 - n)) 3)) B (.slice (some ⟨w.heap.size, 0, none⟩) 0 (grownCap w n 0 3)) [] := by
  have h1 := grownCap_ge w n 0 3
  have h2 := grownCap_le_maxLen w n 0 3 (by unfold maxLen; omega)
  refine ⟨by simp, .inr ⟨w.heap.size, grownCap w n 0 3, Builtin.zeroCells (Value.int .i64 0).cells n ++ Builtin.zeroCells (Value.int .i64 0).cells (grownCap w n 0 3 - n), rfl, hB, ?_, Nat.zero_le _, h2, ?_, by simp⟩⟩
  · show (w.drew.heap.push _)[w.drew.heap.size]? = _
    exact Array.getElem?_push_size
  · rw [Array.size_append, size_zeroCells, size_zeroCells]
    simp [Value.cells]
    omega
theorem infoZ : ∃ i, Tryz.prog.info? 3 = some i ∧ i.zero = some (.int .i64 0) ∧ i.size = 1 ∧ i.bytes = 8 :=
  ⟨(Tryz.prog.info? 3).get (by kernel_rfl), by kernel_rfl, by kernel_rfl, by kernel_rfl, by kernel_rfl⟩
/- the first ones joined -/
def fl (LL : List (List Nat)) (k : Nat) : List Nat := (LL.take k).flatten
theorem fl_next (LL : List (List Nat)) (k : Nat) (h : k < LL.length) : fl LL (k + 1) = fl LL k ++ LLg LL k := by
  unfold fl
  rw [List.take_succ_eq_append_getElem h, List.flatten_append, LLg, List.getD_eq_getElem?_getD, List.getElem?_eq_getElem h]; simp
theorem fl_all (LL : List (List Nat)) (k : Nat) (h : k = LL.length) : fl LL k = LL.flatten := by unfold fl; rw [List.take_of_length_le (by omega)]
theorem fl_le (LL : List (List Nat)) (k : Nat) : (fl LL k).length ≤ LL.flatten.length := by
  unfold fl
  conv => rhs; rw [← List.take_append_drop k LL, List.flatten_append, List.length_append]
  omega
end Go.Proofs.YtpnllbojifnopaaGreatDoor

/- The search's union: all places of some lists that are below a bound, rising, each once. -/
namespace Go.Proofs.YtpnllbojifnopaaGreatDoor
open Go Go.RowKit
set_option maxRecDepth 20000

def prt (F : List Nat) (i k : Nat) : List Nat := ((List.range k).filter fun j => F.contains (i + j)).map (i + ·)
theorem prt_next (F : List Nat) (i k : Nat) : prt F i (k + 1) = if F.contains (i + k) then prt F i k ++ [i + k] else prt F i k := by
  unfold prt
  rw [List.range_succ, List.filter_append, List.map_append]
  cases h : F.contains (i + k)
  · simp only [List.filter_cons, List.filter_nil, h]; simp
  · simp only [List.filter_cons, List.filter_nil, h]; simp
theorem prt_len (F : List Nat) (i k : Nat) : (prt F i k).length ≤ k := by
  unfold prt
  rw [List.length_map]
  exact Nat.le_trans (List.length_filter_le _ _) (by rw [List.length_range]; exact Nat.le_refl _)
theorem prt_uni (F : List Nat) (i k : Nat) (h : ∀ x ∈ F, i ≤ x) : prt F i k = uni (i + k) F := by
  induction k with
  | zero =>
    show [] = _
    refine (List.eq_nil_iff_forall_not_mem.2 fun x hx => ?_).symm
    obtain ⟨h1, h2⟩ := mem_rng.1 hx
    have := h x (List.contains_iff_mem.1 h2)
    omega
  | succ k ih =>
    rw [prt_next, ih]
    unfold uni rng
    rw [← Nat.add_assoc, List.range_succ, List.filter_append]
    cases h : F.contains (i + k)
    · simp only [List.filter_cons, List.filter_nil, h]; simp
    · simp only [List.filter_cons, List.filter_nil, h]; simp
/- the row of what is there -/
def thr (F : List Nat) (i d k : Nat) : List Value := (List.range d).map fun j => Value.bool ((F.take k).contains (i + j))
def Thr (w : World) (g : Nat) (F : List Nat) (i d k : Nat) : Prop := w.heap[g]? = some (.cells (thr F i d k).toArray 4 (0, 0))
theorem thr_len (F : List Nat) (i d k : Nat) : (thr F i d k).length = d := by simp [thr]
theorem Thr.cell {w : World} {g : Nat} {F : List Nat} {i d k : Nat} (h : Thr w g F i d k) (j : Nat) (hj : j < d) : w.cell? ⟨g, j, none⟩ = some (.bool ((F.take k).contains (i + j))) := by
  rw [cell_of_row w g j _ _ _ h]
  simp [thr, hj]
theorem Thr.free {w : World} {g : Nat} {F : List Nat} {i d k : Nat} (h : Thr w g F i d k) (j : Nat) : w.frozen? ⟨g, j, none⟩ = false := by
  unfold Thr at h
  simp [World.frozen?, h]
theorem take_one (F : List Nat) (k : Nat) (h : k < F.length) : F.take (k + 1) = F.take k ++ [F.getD k 0] := by
  rw [List.take_succ_eq_append_getElem h, List.getD_eq_getElem?_getD, List.getElem?_eq_getElem h]; rfl
theorem thr_set (F : List Nat) (i d k : Nat) (h : k < F.length) (hi : i ≤ F.getD k 0) : (thr F i d k).set (F.getD k 0 - i) (.bool true) = thr F i d (k + 1) := by
  refine List.ext_getElem (by simp [thr]) fun j h1 h2 => ?_
  rw [List.getElem_set]
  simp only [thr, List.getElem_map, List.getElem_range]
  rw [take_one F k h]
  by_cases e : F.getD k 0 - i = j
  · rw [if_pos e]
    have : i + j = F.getD k 0 := by omega
    rw [this]; simp
  · rw [if_neg e]
    congr 1
    rw [Bool.eq_iff_iff]
    simp only [List.contains_iff_mem, List.mem_append, List.mem_singleton]
    constructor
    · exact .inl
    · rintro (h | h)
      · exact h
      · omega
theorem thr_skip (F : List Nat) (i d k : Nat) (h : k < F.length) (hi : i + d ≤ F.getD k 0) : thr F i d k = thr F i d (k + 1) := by
  refine List.map_congr_left fun j hj => ?_
  have hj := List.mem_range.1 hj
  rw [take_one F k h]
  congr 1
  rw [Bool.eq_iff_iff]
  simp only [List.contains_iff_mem, List.mem_append, List.mem_singleton]
  constructor
  · exact .inl
  · rintro (h | h)
    · exact h
    · omega
theorem Thr.set {w : World} {g : Nat} {F : List Nat} {i d k : Nat} (h : Thr w g F i d k) (hk : k < F.length) (hi : i ≤ F.getD k 0) : Thr (w.setCell ⟨g, F.getD k 0 - i, none⟩ (.bool true)) g F i d (k + 1) := by
  unfold Thr
  rw [heap_setCell_same w g _ _ _ _ h]
  simp only [List.setIfInBounds_toArray, thr_set F i d k hk hi]
theorem Thr.below {w w' : World} {B g : Nat} {F : List Nat} {i d k : Nat} (h : Thr w g F i d k) (hb : Below B w w') (hg : g < B) : Thr w' g F i d k := by
  unfold Thr
  rw [hb.block g hg]
  exact h
theorem Thr.start (w : World) (F : List Nat) (i d : Nat) : Thr (w.alloc (.cells (madeCells #[.bool false] d) 4)) w.heap.size F i d 0 := by
  unfold Thr
  rw [heap_alloc_new w _]
  congr 2
  refine Array.ext' ?_
  simp only [thr, madeCells, List.take_zero, List.contains_nil]
  refine List.ext_getElem (by simp) fun j h1 h2 => ?_
  simp [Nat.mod_one]
theorem infoB : ∃ i, Tryz.prog.info? 4 = some i ∧ i.zero = some (.bool false) ∧ i.size = 1 ∧ i.bytes = 1 :=
  ⟨(Tryz.prog.info? 4).get (by kernel_rfl), by kernel_rfl, by kernel_rfl, by kernel_rfl, by kernel_rfl⟩
theorem run_mkb (w : World) (d : Nat) (hd : d ≤ 1000000) (x : Int) (hx : x = (d : Int)) : (Instr.makeSlice 66 (.int .i64 x) (.int .i64 x)).run Tryz.prog w = .ok (.slice (some ⟨w.heap.size, 0, none⟩) d d) (w.alloc (.cells (madeCells #[.bool false] d) 4)) := by
  subst hx
  obtain ⟨i, hi, hz, hs, hy⟩ := infoB
  have := run_make (P := Tryz.prog) w 66 4 i (.bool false) Tryz.underlying66 hi hz .i64 .i64 d d (by omega) (by omega) (by rw [hy]; omega) (by omega)
  rw [hs] at this
  simpa [Value.cells] using this
end Go.Proofs.YtpnllbojifnopaaGreatDoor
