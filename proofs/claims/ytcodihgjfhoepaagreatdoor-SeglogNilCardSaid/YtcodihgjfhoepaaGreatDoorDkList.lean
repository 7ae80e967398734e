/- All names, rising. -/
import Derived.Test.YtcodihgjfhoepaaGreatDoorDkApp
import Derived.Test.YtcodihgjfhoepaaGreatDoorDkLay
namespace Go.Proofs.YtcodihgjfhoepaaGreatDoor
open Go Go.RowKit Go.Maps Go.Sort Go.Shelf
set_option maxRecDepth 20000

/- names in memory behind an address -/
def Nms (w : World) (A : Option Addr) (l : List Fl) : Prop := ∀ i, i < l.length → ∃ b off, A = some ⟨b, off, none⟩ ∧ w.cell? ⟨b, off + i, none⟩ = some (.string (l.getD i fz).nm)
theorem Nms.below {w w' : World} {A : Option Addr} {l : List Fl} (h : Nms w A l) (hb : Below w.heap.size w w') : Nms w' A l := fun i hi => by
  obtain ⟨b, off, e, hc⟩ := h i hi
  exact ⟨b, off, e, (hb.cell (World.block_lt_of_cell? _ _ hc)).trans hc⟩
theorem Nms.keep {w w' : World} {A : Option Addr} {l : List Fl} {F : Nat → Prop} (h : Nms w A l) (hk : Keep F w w') (hF : ∀ x, A = some x → ¬ F x.block) : Nms w' A l := fun i hi => by
  obtain ⟨b, off, e, hc⟩ := h i hi
  exact ⟨b, off, e, hk.cell hc (hF ⟨b, off, none⟩ e)⟩
theorem nms_of {w : World} {B : Nat} {v : Value} {l : List Fl} (h : w.ownsRow B 9 1 v l.length ((l.map fun f => nl f.nm).map encStr)) : ∃ A c, v = .slice A l.length c ∧ Nms w A l ∧ ∀ x, A = some x → B ≤ x.block ∧ x.block < w.heap.size := by
  have hlt := World.ownsRow.lt h
  rcases h.2 with ⟨rfl, h0⟩ | ⟨g, cap, cur, rfl, hg, hh, _⟩
  · have : l = [] := List.eq_nil_of_length_eq_zero h0
    subst this
    exact ⟨none, 0, rfl, fun i hi => absurd hi (by simp), fun x e => by cases e⟩
  · refine ⟨_, _, rfl, fun i hi => ⟨g, 0, rfl, ?_⟩, fun x e => ?_⟩
    · have := World.ownsRow.cells h (g := g) rfl i (.string (l.getD i fz).nm) (by
        simp only [List.getElem?_map, List.getElem?_eq_getElem hi, Option.map_some, List.getD_eq_getElem?_getD, Option.getD_some])
      rwa [add_plain] at this
    · injection e with e
      subst e
      exact ⟨hg, (hlt g rfl).2⟩
theorem list_nil (w : World) : Calls Tryz.prog 38 #[.pointer none] w fun e w' => e = .returned (.slice none 0 0) ∧ w = w' := by
  go_enter Tryz.func38, Tryz.ntmps38
  go_wp2
  go_ret
  exact ⟨rfl, rfl⟩
def Listed (w : World) (l : List Fl) (e : Ending) (w' : World) : Prop :=
  ∃ A c, e = .returned (.slice A l.length c) ∧ Nms w' A l ∧ (∀ x, A = some x → w.heap.size ≤ x.block ∧ x.block < w'.heap.size) ∧ Below w.heap.size w w'
set_option maxHeartbeats 2000000 in
theorem list_any {w : World} {d m : Nat} {V : ByteArray → Value} {S : St} (h : Dk w d m V S) :
    Calls Tryz.prog 38 #[ptr d] w (Listed w S.fs) := by
  have c1 := h.c1
  obtain ⟨D, hD⟩ := h.mp
  have hN := hD.names h.ok.rise (fun k => tell_is) (fun f hf => (h.ok.file f hf).n2)
  have hmany := h.ok.many
  have hown := hD.own
  have hmax : Maps.size D ≤ maxLen := by rw [hD.size]; unfold maxLen; omega
  have hbytes : Maps.size D * 16 ≤ 140737488355328 := by rw [hD.size]; omega
  have FIN : ∀ (v : Value) (ss : List (List UInt8)) (w' : World), ss.Perm (strKeys D) → w'.ownsRow (w.alloc (.cells #[.map (some m)] 79)).heap.size 9 1 v ss.length ((ss.mergeSort (fun x y => decide (x ≤ y))).map encStr) →
      Below (w.alloc (.cells #[.map (some m)] 79)).heap.size (w.alloc (.cells #[.map (some m)] 79)) w' → Listed w S.fs (.returned v) w' := fun v ss w' hS hrow hb => by
    have hp : ss.Perm (S.fs.map fun f => nl f.nm) := hS.trans hN.symm
    have hlen : ss.length = S.fs.length := by rw [hp.length_eq, List.length_map]
    rw [rise_sorted h.ok.rise hp, hlen] at hrow
    obtain ⟨A, c, rfl, h1, h2⟩ := nms_of hrow
    refine ⟨A, c, rfl, h1, fun x e => ⟨?_, (h2 x e).2⟩, (below_alloc w _).trans (hb.mono (by simp))⟩
    have := (h2 x e).1
    simp at this
    omega
  have HFIN := Lib.hid FIN
  have HO := Lib.hid hown
  clear h hD hN FIN hown
  refine (callsIn_wide (n := 6)).1 ?_
  have hfK : Fence.wide.fn 61 := trivial
  have hfS : Fence.wide.fn 60 := trivial
  refine callsIn_of_wp Tryz.func38 rfl trivial ?_ rfl
  simp only [Tryz.ntmps38, List.size_toArray, List.length_cons, List.length_nil, Nat.reduceAdd, Nat.reduceSub, Array.replicate_succ, Array.replicate_zero, List.push_toArray, List.append_toArray, List.nil_append, List.cons_append]
  gi_wp2_with (first
    | (gi_at_call 61; refine (Tryz.maps_Keys_61 _ _).mono ?_; rintro e w' ⟨rfl, rfl⟩)
    | (gi_at_call 60; refine (Tryz.slices_Sorted_keys_60_61 m S.fs.length D rdv w HO.out hmax hbytes).mono ?_; rintro e w' ⟨v, ss, rfl, hS, hrow, hnil, hb⟩))
  go_ret
  exact HFIN.out v ss w' hS hrow hb
end Go.Proofs.YtcodihgjfhoepaaGreatDoor
