/- A map of files by names in memory: looked up, stored into, deleted from, its size, its names. -/
import Derived.Test.YtcodihgjfhoepaaGreatDoorDkMath
import Derived.Test.YtcodihgjfhoepaaGreatDoorProg
import Derived.Maps.OwnSet
import Derived.Maps.RangeWalk
import Derived.Sort.KeysCollected
import Derived.KernelRfl
import Derived.StringKeys
namespace Go.Proofs.YtcodihgjfhoepaaGreatDoor
open Go Go.RowKit Go.Maps Go.Sort
open Go.WideElems (Fit)
set_option maxRecDepth 20000

theorem mlaw : Keyed Tryz.prog 9 := string_keyed Tryz.underlying9
def zf : Value := .agg #[.slice none 0 0, .int .i64 0]
theorem mzero (w : World) : (zeroValue 87).run Tryz.prog w = .ok zf w := by unfold zf; kernel_rfl
/- an element is read as it is -/
def rdv (v : Value) : Option (DataW Value × List MemPlace) := some (.held v, [])
abbrev kl (k : ByteArray) : Lit := .string k.data.toList
theorem mkey {k : ByteArray} (h : k.size ≤ maxLen) : keyOf Tryz.prog 9 (.string k) = some (kl k) := Go.WideMaps.keyOf_string_mk Tryz.underlying9 h
theorem isKey (k : ByteArray) : WideAt.IsKeyLit (kl k) := trivial
theorem kl_inj {k k' : ByteArray} (h : kl k = kl k') : k = k' := nl_inj (by injection h)
theorem kl_ne {k k' : ByteArray} (h : k' ≠ k) : kl k' ≠ kl k := fun e => h (kl_inj e)
def upd (M : ByteArray → Option Value) (k : ByteArray) (v : Option Value) : ByteArray → Option Value := fun j => if j = k then v else M j
/- block m is a map of N entries, M tells them -/
structure MpD (w : World) (m N : Nat) (M : ByteArray → Option Value) (D : DataW Value) : Prop where
  own : w.ownsMap Tryz.prog 9 rdv m N D
  size : Maps.size D = N
  tell : ∀ k : ByteArray, k.size ≤ maxLen → Maps.has D (kl k) = (M k).isSome ∧ ∀ v, M k = some v → D.atKey (kl k) (.held zf) = .held v
def Mp (w : World) (m N : Nat) (M : ByteArray → Option Value) : Prop := ∃ D : DataW Value, MpD w m N M D
theorem tight {w : World} {m n : Nat} {D : DataW Value} (h : w.ownsMap Tryz.prog 9 rdv m n D) : w.ownsMap Tryz.prog 9 rdv m (Maps.size D) D := by
  obtain ⟨es, clock, hb, F, _, rfl⟩ := h
  exact ⟨es, clock, hb, F, by simp [Maps.size, length_sorted], rfl⟩
theorem Mp.new (w : World) : Mp (w.alloc (.map #[] 0)) w.heap.size 0 (fun _ => none) :=
  ⟨.map [], World.ownsMap_made w _ _ _, rfl, fun k _ => ⟨by simp [Maps.has], fun i h => by cases h⟩⟩
theorem Mp.lt {w : World} {m N : Nat} {M : ByteArray → Option Value} (h : Mp w m N M) : m < w.heap.size := by
  obtain ⟨D, h⟩ := h
  exact h.own.lt
theorem Mp.is {w : World} {m N : Nat} {M : ByteArray → Option Value} (h : Mp w m N M) : ∃ es clock, w.heap[m]? = some (.map es clock) := by
  obtain ⟨D, ⟨es, clock, hb, _⟩, _⟩ := h
  exact ⟨es, clock, hb⟩
theorem Mp.same {w w' : World} {m N : Nat} {M : ByteArray → Option Value} (h : Mp w m N M) (hb : w'.heap[m]? = w.heap[m]?) : Mp w' m N M := by
  obtain ⟨D, ⟨es, clock, hb', r⟩, r1, r2⟩ := h
  exact ⟨D, ⟨es, clock, hb.trans hb', r⟩, r1, r2⟩
theorem Mp.as {w : World} {m N N' : Nat} {M M' : ByteArray → Option Value} (h : Mp w m N M) (hn : N = N') (hM : ∀ k : ByteArray, k.size ≤ maxLen → M k = M' k) : Mp w m N' M' := by
  subst hn
  obtain ⟨D, h1, h2, h3⟩ := h
  exact ⟨D, h1, h2, fun k hk => by rw [← hM k hk]; exact h3 k hk⟩
theorem Mp.look {w : World} {m N : Nat} {M : ByteArray → Option Value} (h : Mp w m N M) {k : ByteArray} (hk : k.size ≤ maxLen) :
    (Instr.lookup 79 (.map (some m)) (.string k) true).run Tryz.prog w = .ok (.tuple #[(M k).getD zf, .bool (M k).isSome]) w := by
  obtain ⟨D, hD, _, hM⟩ := h
  obtain ⟨v, ps, hrun, hv⟩ := hD.look_ok mlaw Tryz.underlying79 (mzero w) (zd := .held zf) (zp := []) rfl (mkey hk)
  obtain ⟨h1, h2⟩ := hM k hk
  rw [hrun, h1]
  have hv' : DataW.held v = D.atKey (kl k) (.held zf) := by
    unfold rdv at hv
    injection hv with hv
    exact congrArg Prod.fst hv
  have e : v = (M k).getD zf := by
    cases hm : M k with
    | none =>
      rw [hm] at h1
      rw [atKey_of_not_has h1] at hv'
      injection hv'
    | some i =>
      rw [h2 i hm] at hv'
      injection hv'
  rw [e]
theorem Mp.look1 {w : World} {m N : Nat} {M : ByteArray → Option Value} (h : Mp w m N M) {k : ByteArray} (hk : k.size ≤ maxLen) :
    (Instr.lookup 79 (.map (some m)) (.string k) false).run Tryz.prog w = .ok ((M k).getD zf) w := by
  obtain ⟨D, hD, _, hM⟩ := h
  obtain ⟨v, ps, hrun, hv⟩ := hD.lookup mlaw Tryz.underlying79 (mzero w) (zd := .held zf) (zp := []) rfl (mkey hk)
  obtain ⟨h1, h2⟩ := hM k hk
  rw [hrun]
  have hv' : DataW.held v = D.atKey (kl k) (.held zf) := by
    unfold rdv at hv
    injection hv with hv
    exact congrArg Prod.fst hv
  have e : v = (M k).getD zf := by
    cases hm : M k with
    | none =>
      rw [hm] at h1
      rw [atKey_of_not_has h1] at hv'
      injection hv'
    | some i =>
      rw [h2 i hm] at hv'
      injection hv'
  rw [e]
theorem Mp.len {w : World} {m N : Nat} {M : ByteArray → Option Value} (h : Mp w m N M) (ty : TypeId) : (Builtin.len_ #[79] ty #[.map (some m)]).run Tryz.prog w = .ok (.int .i64 (N : Int)) w := by
  obtain ⟨D, hD, hs, _⟩ := h
  rw [← hs]
  exact hD.len Tryz.underlying79 ty
theorem Mp.put {w : World} {m N : Nat} {M : ByteArray → Option Value} (h : Mp w m N M) {k : ByteArray} (v : Value) (hk : k.size ≤ maxLen) (hN : N ≤ 1000000) :
    ∃ w', (Instr.mapUpdate 79 (.map (some m)) (.string k) v).run Tryz.prog w = .ok () w' ∧ Mp w' m (if (M k).isSome then N else N + 1) (upd M k (some v)) ∧ w.mapTurned w' m := by
  obtain ⟨D, hD, hs, hM⟩ := h
  obtain ⟨w', h1, h2, h3⟩ := hD.store mlaw Tryz.underlying79 (by unfold maxLen; omega) (mkey hk) (val := v) (d := .held v) (ps := []) rfl
  have hsz := size_put (k := kl k) (hD.tidy mlaw) (.held v)
  rw [(hM k hk).1, hs] at hsz
  have h4 := tight h2
  rw [hsz] at h4
  refine ⟨w', h1, ⟨_, h4, hsz, fun x hx => ?_⟩, h3⟩
  by_cases c : x = k
  · subst c
    rw [has_put_same hD.isMap (isKey x), atKey_put_same hD.isMap (isKey x)]
    simp [upd]
  · rw [has_put_other (kl_ne c), atKey_put_other (kl_ne c)]
    simp only [upd, c, if_false]
    exact hM x hx
theorem Mp.del {w : World} {m N : Nat} {M : ByteArray → Option Value} (h : Mp w m N M) {k : ByteArray} (hk : k.size ≤ maxLen) (hs' : (M k).isSome = true) (ty : TypeId) :
    ∃ w', (Builtin.delete_ #[79, 9] ty #[.map (some m), .string k]).run Tryz.prog w = .ok (.tuple #[]) w' ∧ Mp w' m (N - 1) (upd M k none) ∧ w.mapTurned w' m := by
  obtain ⟨D, hD, hs, hM⟩ := h
  obtain ⟨w', h1, h2, h3⟩ := hD.drop mlaw Tryz.underlying79 (mkey hk) ty
  have hsz := size_del (k := kl k) (hD.tidy mlaw)
  rw [(hM k hk).1, hs, hs', if_pos rfl] at hsz
  have h4 := tight h2
  have hsz' : Maps.size (D.del (kl k)) = N - 1 := by omega
  rw [hsz'] at h4
  refine ⟨w', h1, ⟨_, h4, hsz', fun x hx => ?_⟩, h3⟩
  by_cases c : x = k
  · subst c
    rw [has_del_same]
    simp [upd]
  · rw [has_del_other (kl_ne c), atKey_del_other (kl_ne c)]
    simp only [upd, c, if_false]
    exact hM x hx
theorem nm_size (s : ByteArray) : (nl s).length = s.size := by show s.data.toList.length = s.data.size; simp
/- the names of a map that tells a list of files -/
theorem MpD.names {w : World} {m N : Nat} {M : ByteArray → Option Value} {D : DataW Value} (h : MpD w m N M D) {l : List Fl} (hl : Rise l) (hM : ∀ k, (M k).isSome = (fnd l k).isSome) (hn : ∀ f ∈ l, f.nm.size ≤ 32) : (l.map (fun f => nl f.nm)).Perm (strKeys D) := by
  obtain ⟨es, rfl, hp, _⟩ := h.own.entries mlaw
  obtain ⟨es', e', hk⟩ := h.own.keysOf
  injection e' with e'
  subst e'
  have hstr : ∀ p ∈ es, ∃ x, p.1 = .string x ∧ x.length ≤ maxLen := fun p hp => by
    obtain ⟨v, hv⟩ := hk p hp
    obtain ⟨x, _, h2, h3⟩ := Maps.keyOf_str Tryz.underlying9 hv
    exact ⟨x, h2, h3⟩
  refine perm_strKeys hp (fun p hp => (hstr p hp).imp fun x hx => hx.1) ?_ (fun x => ?_)
  · refine List.pairwise_map.2 (List.Pairwise.imp (R := fun a b : Fl => nl a.nm < nl b.nm) (S := fun a b : Fl => nl a.nm ≠ nl b.nm) (fun {a b} hab e => ?_) hl)
    rw [e] at hab
    exact nlt_irrefl _ hab
  · constructor
    · intro hx
      obtain ⟨f, hf, rfl⟩ := List.mem_map.1 hx
      rw [(h.tell f.nm (by have := hn f hf; unfold maxLen; omega)).1, hM, hl.fnd hf]
      rfl
    · intro hx
      have hx' : x.length ≤ maxLen := by
        rw [Maps.has_eq] at hx
        obtain ⟨p, hp1, hp2⟩ := List.any_eq_true.1 hx
        obtain ⟨y, hy, hy2⟩ := hstr p hp1
        have : y = x := by
          by_cases c : p.1 = .string x
          · rw [hy] at c; injection c
          · rw [sameKey_ne c] at hp2; cases hp2
        exact this ▸ hy2
      have hs : (⟨x.toArray⟩ : ByteArray).size ≤ maxLen := hx'
      have h2 := (h.tell ⟨x.toArray⟩ hs).1
      have e : kl ⟨x.toArray⟩ = .string x := rfl
      rw [e, hx, hM] at h2
      obtain ⟨f, hf⟩ := Option.isSome_iff_exists.1 h2.symm
      have h3 := fnd_mem hf
      exact List.mem_map.2 ⟨f, h3.1, by rw [h3.2]⟩
/- names that rise are sorted -/
theorem rise_sorted {l : List Fl} (hl : Rise l) {ss : List (List UInt8)} (hp : ss.Perm (l.map fun f => nl f.nm)) : ss.mergeSort (fun x y => decide (x ≤ y)) = l.map fun f => nl f.nm := by
  have e : ss.mergeSort (fun x y => decide (x ≤ y)) = (l.map fun f => nl f.nm).mergeSort (fun x y => decide (x ≤ y)) := mergeSort_of_perm hp
  rw [e]
  refine List.mergeSort_of_pairwise ?_
  refine List.pairwise_map.2 (List.Pairwise.imp (R := fun a b : Fl => nl a.nm < nl b.nm) (S := fun a b : Fl => decide (nl a.nm ≤ nl b.nm) = true) (fun {a b} hab => ?_) hl)
  simp only [decide_eq_true_eq]
  exact List.not_lt.1 (fun c => nlt_irrefl _ (nlt_trans hab c))
end Go.Proofs.YtcodihgjfhoepaaGreatDoor
