/- Contracts, joined: DnMap, DnM, DnC, DnU. -/
import Derived.Test.YtpnllbojifnopaaGreatDoorProg
import Derived.Maps.OwnSet
import Derived.WideKeyPair
import Derived.DeepKeys4
import Derived.KernelRfl
import Derived.Test.YtpnllbojifnopaaGreatDoorZMB
import Derived.Maps.AppendAt
import Derived.Laws.AppendOwnNone
import Derived.Lib.AppendZeros
import Derived.Lib.MinMax
import Derived.LoopN
import Derived.Test.YtpnllbojifnopaaGreatDoorZDnA
import Derived.Laws.MakeOwn
namespace Go.Proofs.YtpnllbojifnopaaGreatDoor
open Go Go.RowKit Go.Maps
open Go.ChangeMaps (setBlock modify_eq_set)
open Go.WideMaps (ArrKey KeyLaw keyOf_pair)
set_option maxRecDepth 20000
abbrev RV : Value → Option (DataW Value × List MemPlace) := fun v => some (.held v, [])
abbrev nsl : Value := .slice none 0 0
end Go.Proofs.YtpnllbojifnopaaGreatDoor
namespace Go.Proofs.YtpnllbojifnopaaGreatDoor
open Go Go.RowKit Go.Maps
set_option maxRecDepth 20000
theorem bal (w : World) (o : Obj) : Below w.heap.size w (w.alloc o) := (Below.refl w.heap.size w).alloc (Nat.le_refl _) o
def Ck (w w' : World) : Prop := ∀ b j v, w.cell? ⟨b, j, none⟩ = some v → w'.cell? ⟨b, j, none⟩ = some v
theorem Ck.of_below {w w' : World} (h : Below w.heap.size w w') : Ck w w' := fun b j _ hc => (h.cell (p := ⟨b, j, none⟩) (World.block_lt_of_cell? _ _ hc)).trans hc
theorem Ck.trans {a b c : World} (h : Ck a b) (k : Ck b c) : Ck a c := fun x j v hc => k x j v (h x j v hc)
def Ci (w w' : World) : Prop := ∀ (b : Nat) (cur : Array Value) (fr : Nat × Nat), w.heap[b]? = some (Obj.cells cur 3 fr) → w'.heap[b]? = w.heap[b]?
theorem Ci.of_below {w w' : World} (h : Below w.heap.size w w') : Ci w w' := fun b _ _ hb => h.block b (Array.getElem?_eq_some_iff.1 hb).1
theorem Ci.grown {w w' : World} {g : Nat} {cur : Array Value} {T : TypeId} {fr : Nat × Nat} (h : w.grownBy w' (some g)) (hg : w.heap[g]? = some (Obj.cells cur T fr)) (hT : T ≠ 3) : Ci w w' := fun b c f hb => by
  refine h.block b (Array.getElem?_eq_some_iff.1 hb).1 (fun e => ?_)
  injection e with e
  subst e
  rw [hg] at hb
  injection hb with hb
  injection hb with _ e2
  exact hT e2
def Its (w : World) (A : Option Addr) (L : List Nat) : Prop := ∀ i, i < L.length → ∃ b off, A = some ⟨b, off, none⟩ ∧ w.cell? ⟨b, off + i, none⟩ = some (.int .i64 ((L.getD i 0 : Nat) : Int)) ∧ ∃ cur fr, w.heap[b]? = some (Obj.cells cur 3 fr)
theorem Its.nil (w : World) (A : Option Addr) : Its w A [] := fun i hi => absurd hi (by simp)
theorem Its.ci {w w' : World} {A : Option Addr} {L : List Nat} (h : Its w A L) (k : Ci w w') : Its w' A L := fun i hi => by
  obtain ⟨b, off, e, hc, cur, fr, hb⟩ := h i hi
  exact ⟨b, off, e, (World.cell?_of_block (k b cur fr hb)).trans hc, cur, fr, (k b cur fr hb).trans hb⟩
def Sl (w : World) (v : Value) (L : List Nat) : Prop := ∃ A c, v = .slice A L.length c ∧ ((A = none → c = 0) ∧ L.length ≤ c) ∧ Its w A L
theorem Sl.ci {w w' : World} {v : Value} {L : List Nat} (h : Sl w v L) (k : Ci w w') : Sl w' v L := by
  obtain ⟨A, c, e, h0, h⟩ := h
  exact ⟨A, c, e, h0, h.ci k⟩
theorem Sl.below {w w' : World} {v : Value} {L : List Nat} (h : Sl w v L) (k : Below w.heap.size w w') : Sl w' v L := h.ci (Ci.of_below k)
theorem Sl.nil (w : World) : Sl w nsl [] := ⟨none, 0, rfl, ⟨fun _ => rfl, Nat.le_refl _⟩, Its.nil _ _⟩
def LLg (LL : List (List Nat)) (i : Nat) : List Nat := LL.getD i []
def Lls (w : World) (A : Option Addr) (LL : List (List Nat)) : Prop := ∀ i, i < LL.length → ∃ b off u, A = some ⟨b, off, none⟩ ∧ w.cell? ⟨b, off + i, none⟩ = some u ∧ Sl w u (LLg LL i)
theorem Lls.below {w w' : World} {A : Option Addr} {LL : List (List Nat)} (h : Lls w A LL) (hb : Below w.heap.size w w') : Lls w' A LL := fun i hi => by
  obtain ⟨b, off, u, e, hc, hs⟩ := h i hi
  exact ⟨b, off, u, e, Ck.of_below hb _ _ _ hc, hs.below hb⟩
end Go.Proofs.YtpnllbojifnopaaGreatDoor
namespace Go.Proofs.YtpnllbojifnopaaGreatDoor
open Go Go.RowKit
set_option maxRecDepth 20000
end Go.Proofs.YtpnllbojifnopaaGreatDoor
namespace Go.Proofs.YtpnllbojifnopaaGreatDoor
open Go Go.RowKit
set_option maxRecDepth 20000
theorem infoB : ∃ i, Tryz.prog.info? 4 = some i ∧ i.zero = some (.bool false) ∧ i.size = 1 ∧ i.bytes = 1 :=
  ⟨(Tryz.prog.info? 4).get (by kernel_rfl), by kernel_rfl, by kernel_rfl, by kernel_rfl, by kernel_rfl⟩
theorem run_mkb (w : World) (d : Nat) (hd : d ≤ 1000000) (x : Int) (hx : x = (d : Int)) : (Instr.makeSlice 66 (.int .i64 x) (.int .i64 x)).run Tryz.prog w = .ok (.slice (some ⟨w.heap.size, 0, none⟩) d d) (w.alloc (.cells (madeCells #[.bool false] d) 4)) := by
  subst hx
  obtain ⟨i, hi, hz, hs, hy⟩ := infoB
  have := run_make (P := Tryz.prog) w 66 4 i (.bool false) Tryz.underlying66 hi hz .i64 .i64 d d (by omega) (by omega) (by rw [hy]; omega) (by omega)
  rw [hs] at this
  simpa [Value.cells] using this
end Go.Proofs.YtpnllbojifnopaaGreatDoor
