/- A map of places by keys in memory: looked up, stored into, an entry's store, deleted from. -/
import Derived.Test.YtnomegopjdgbjaaDuMath
import Derived.Test.YtnomegopjdgbjaaProg
import Derived.Maps.OwnSet
import Derived.WideKeyEntry
import Derived.KernelRfl
namespace Go.Proofs.Ytnomegopjdgbjaa
open Go Go.RowKit Go.Maps
open Go.ChangeMaps (setBlock modify_eq_set)
open Go.WideElems (Fit)
set_option maxRecDepth 20000

theorem mlaw : Keyed Try.prog 28 := int_keyed Try.underlying28
theorem mzero (w : World) : (zeroValue 3).run Try.prog w = .ok (.int .i64 0) w := by kernel_rfl
theorem wfu {k : Nat} (h : k < 18446744073709551616) : (Lit.int .u64 (k : Int)).wf = true := by
  have h0 : IntKind.u64.min = 0 := rfl
  have h1 : IntKind.u64.max = 18446744073709551615 := rfl
  simp [Lit.wf]; omega
theorem wfi {k : Nat} (h : k ≤ 1000000) : (Lit.int .i64 (k : Int)).wf = true := by
  have h0 : IntKind.i64.min = -9223372036854775808 := rfl
  have h1 : IntKind.i64.max = 9223372036854775807 := rfl
  simp [Lit.wf]; omega
theorem mkey {k : Nat} (h : k < 18446744073709551616) : keyOf Try.prog 28 (.int .u64 (k : Int)) = some (.int .u64 (k : Int)) := keyOf_int_mk Try.underlying28 (wfu h)
abbrev kl (k : Nat) : Lit := .int .u64 (k : Int)
abbrev pl (i : Nat) : DataW Unit := .lit (.int .i64 (i : Int))
/- block m is a map of N entries, of each key below 2^64 what M tells -/
def Mp (w : World) (m N : Nat) (M : Nat → Option Nat) : Prop :=
  ∃ D : DataW Unit, w.ownsMap Try.prog 28 (plainElem (H := Unit) Try.prog 3) m N D ∧ Maps.size D = N ∧ ∀ k : Nat, k < 18446744073709551616 → Maps.has D (kl k) = (M k).isSome ∧ ∀ i, M k = some i → D.atKey (kl k) (pl 0) = pl i
theorem isKey (k : Nat) : WideAt.IsKeyLit (kl k) := trivial
theorem kl_ne {k k' : Nat} (h : k' ≠ k) : kl k' ≠ kl k := fun e => h (by injection e with _ e; omega)
theorem tight {w : World} {m n : Nat} {D : DataW Unit} (h : w.ownsMap Try.prog 28 (plainElem (H := Unit) Try.prog 3) m n D) : w.ownsMap Try.prog 28 (plainElem (H := Unit) Try.prog 3) m (Maps.size D) D := by
  obtain ⟨es, clock, hb, F, _, rfl⟩ := h
  exact ⟨es, clock, hb, F, by simp [Maps.size, length_sorted], rfl⟩
theorem Mp.new (w : World) : Mp (w.alloc (.map #[] 0)) w.heap.size 0 (fun _ => none) :=
  ⟨.map [], World.ownsMap_made w _ _ _, rfl, fun k _ => ⟨by simp [Maps.has], fun i h => by cases h⟩⟩
theorem Mp.lt {w : World} {m N : Nat} {M : Nat → Option Nat} (h : Mp w m N M) : m < w.heap.size := by
  obtain ⟨D, h, _⟩ := h
  exact h.lt
theorem Mp.is {w : World} {m N : Nat} {M : Nat → Option Nat} (h : Mp w m N M) : ∃ es clock, w.heap[m]? = some (.map es clock) := by
  obtain ⟨D, ⟨es, clock, hb, _⟩, _⟩ := h
  exact ⟨es, clock, hb⟩
theorem Mp.same {w w' : World} {m N : Nat} {M : Nat → Option Nat} (h : Mp w m N M) (hb : w'.heap[m]? = w.heap[m]?) : Mp w' m N M := by
  obtain ⟨D, ⟨es, clock, hb', r⟩, r'⟩ := h
  exact ⟨D, ⟨es, clock, hb.trans hb', r⟩, r'⟩
theorem Mp.look {w : World} {m N : Nat} {M : Nat → Option Nat} (h : Mp w m N M) {k : Nat} (hk : k < 18446744073709551616) :
    (Instr.lookup 49 (.map (some m)) (.int .u64 (k : Int)) true).run Try.prog w = .ok (.tuple #[.int .i64 (((M k).getD 0 : Nat) : Int), .bool (M k).isSome]) w := by
  obtain ⟨D, hD, _, hM⟩ := h
  obtain ⟨v, ps, hrun, hv⟩ := hD.look_ok mlaw Try.underlying49 (mzero w) (plainElem_int Try.underlying3 (wfi (k := 0) (by omega))) (mkey hk)
  obtain ⟨c, rfl, hc, _⟩ := plainElem_int_inv Try.underlying3 hv
  obtain ⟨h1, h2⟩ := hM k hk
  rw [hrun, h1]
  have hc := congrArg Prod.fst hc
  have e : c = (((M k).getD 0 : Nat) : Int) := by
    cases hm : M k with
    | none =>
      rw [hm] at h1
      have := atKey_of_not_has h1 (pl 0)
      have e := this.symm.trans hc
      injection e with e
      injection e with _ e
      exact e.symm
    | some i =>
      have e := (h2 i hm).symm.trans hc
      injection e with e
      injection e with _ e
      exact e.symm
  rw [e]
theorem Mp.put {w : World} {m N : Nat} {M : Nat → Option Nat} (h : Mp w m N M) {k i : Nat} (hk : k < 18446744073709551616) (hi : i ≤ 1000000) (hN : N ≤ 1000000) :
    ∃ w', (Instr.mapUpdate 49 (.map (some m)) (.int .u64 (k : Int)) (.int .i64 (i : Int))).run Try.prog w = .ok () w' ∧ Mp w' m (if (M k).isSome then N else N + 1) (upd M k (some i)) ∧ w.mapTurned w' m := by
  obtain ⟨D, hD, hs, hM⟩ := h
  obtain ⟨w', h1, h2, h3⟩ := hD.store mlaw Try.underlying49 (by unfold maxLen; omega) (mkey hk) (plainElem_int Try.underlying3 (wfi hi))
  have hsz := size_put (k := kl k) (hD.tidy mlaw) (pl i)
  rw [(hM k hk).1, hs] at hsz
  have h4 := tight h2
  rw [hsz] at h4
  refine ⟨w', h1, ⟨_, h4, hsz, fun x hx => ?_⟩, h3⟩
  by_cases c : x = k
  · subst c
    rw [has_put_same hD.isMap (isKey x), atKey_put_same hD.isMap (isKey x)]
    simp [upd]
  · rw [has_put_other (kl_ne c), atKey_put_other (kl_ne c)]
    simp only [upd, c, if_false]
    exact hM x hx
theorem Mp.del {w : World} {m N : Nat} {M : Nat → Option Nat} (h : Mp w m N M) {k : Nat} (hk : k < 18446744073709551616) (hs' : (M k).isSome = true) (ty : TypeId) :
    ∃ w', (Builtin.delete_ #[49, 28] ty #[.map (some m), .int .u64 (k : Int)]).run Try.prog w = .ok (.tuple #[]) w' ∧ Mp w' m (N - 1) (upd M k none) ∧ w.mapTurned w' m := by
  obtain ⟨D, hD, hs, hM⟩ := h
  obtain ⟨w', h1, h2, h3⟩ := hD.drop mlaw Try.underlying49 (mkey hk) ty
  have hsz := size_del (k := kl k) (hD.tidy mlaw)
  rw [(hM k hk).1, hs, hs', if_pos rfl] at hsz
  have h4 := tight h2
  have hsz' : Maps.size (D.del (kl k)) = N - 1 := by omega
  rw [hsz'] at h4
  refine ⟨w', h1, ⟨_, h4, hsz', fun x hx => ?_⟩, h3⟩
  by_cases c : x = k
  · subst c
    rw [has_del_same]
    simp [upd]
  · rw [has_del_other (kl_ne c), atKey_del_other (kl_ne c)]
    simp only [upd, c, if_false]
    exact hM x hx
/- an entry that is there: found, and stored into, as if the key were stored -/
theorem Mp.entry {w : World} {m N : Nat} {M : Nat → Option Nat} (h : Mp w m N M) {k : Nat} (hk : k < 18446744073709551616) (hs : (M k).isSome = true) :
    ∃ (u : Value) (st : Int), (Instr.mapEntry 49 (.map (some m)) (.int .u64 (k : Int))).run Try.prog w = .ok (.tuple #[u, .int .i64 st]) w ∧
      ∀ v, (Instr.entryStore 49 (.map (some m)) (.int .i64 st) v).run Try.prog w = (Instr.mapUpdate 49 (.map (some m)) (.int .u64 (k : Int)) v).run Try.prog w := by
  have hl := h.look hk
  rw [hs] at hl
  obtain ⟨D, ⟨es, clock, hb, F, _, _⟩, _⟩ := h
  have ht := Try.underlying49
  rcases mlaw.find w (mkey hk) es.toList F.keys with ⟨h1, _⟩ | ⟨j, e0, h1, h2, h3⟩
  · simp [Instr.lookup, run_underlying ht, MapKept.run_getObj_map hb, mlaw.check w _ (mkey hk), h1, mzero w, Result.andThen] at hl
  · have hj : es[j]? = some e0 := by simpa using h2
    have hsame : es.modify j (fun e => { e with key := .int .u64 (k : Int) }) = es := by
      apply Array.ext'
      rw [Array.toList_modify, modify_eq_set _ _ _ _ h2]
      have : ({ e0 with key := .int .u64 (k : Int) } : MapEntry) = e0 := by rw [← h3]
      rw [this]
      exact WideElems.set_self _ _ _ h2
    have hw : setBlock w m (.map es clock) = w := by
      have e : w.heap.setIfInBounds m (.map es clock) = w.heap := by
        apply Array.ext_getElem?
        intro i
        rw [Array.getElem?_setIfInBounds]
        by_cases c : m = i
        · subst c
          rw [if_pos rfl, if_pos (Array.getElem?_eq_some_iff.1 hb).1, hb]
        · rw [if_neg c]
      unfold setBlock
      rw [e]
    refine ⟨e0.val, (e0.born : Int), ?_, fun v => ?_⟩
    · have e1 : (Instr.mapEntry 49 (.map (some m)) (.int .u64 (k : Int))).run Try.prog w = .ok (.tuple #[e0.val, .int .i64 (e0.born : Int)]) (setBlock w m (.map es clock)) := by
        simp [Instr.mapEntry, run_underlying ht, MapKept.run_getObj_map hb, mlaw.check w _ (mkey hk), h1, hj, h3, mlaw.stays w (mkey hk), hsame, MapKept.run_setObj_map _ hb, Result.andThen, setBlock, goInt]
      rw [e1, hw]
    · obtain ⟨_, s2, _⟩ := F.stamped
      have hidx : es.findIdx? (fun e => ((e.born : Nat) : Int) == ((e0.born : Nat) : Int)) = some j := by
        rw [WideElems.findIdx_arr]
        exact WideElems.findIdx_born s2 h2
      have hmod : es.modify j (fun e => { e with val := v }) = es.modify j (fun e' => { e' with key := .int .u64 (k : Int), val := v }) := by
        apply Array.ext'
        rw [Array.toList_modify, Array.toList_modify, modify_eq_set _ _ _ _ h2, modify_eq_set _ _ _ _ h2, ← h3]
      simp [Instr.entryStore, Instr.mapUpdate, run_underlying ht, MapKept.run_getObj_map hb, mlaw.check w _ (mkey hk), h1, hj, h3, mlaw.stays w (mkey hk), asInt, asIntOf, hidx, hmod, MapKept.run_setObj_map _ hb, Result.andThen]
end Go.Proofs.Ytnomegopjdgbjaa
