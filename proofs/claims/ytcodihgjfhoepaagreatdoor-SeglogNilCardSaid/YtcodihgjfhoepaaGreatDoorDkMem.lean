/- Frames, rows of bytes, and a disk in memory. -/
import Derived.Test.YtcodihgjfhoepaaGreatDoorDkMap
import Derived.Test.YtcodihgjfhoepaaGreatDoorLbOwn
import Derived.Maps.AppendAt
namespace Go.Proofs.YtcodihgjfhoepaaGreatDoor
open Go Go.RowKit
set_option maxRecDepth 20000

theorem below_alloc (w : World) (o : Obj) : Below w.heap.size w (w.alloc o) := (Below.refl _ _).alloc (Nat.le_refl _) _
/- what stays -/
structure Keep (F : Nat → Prop) (w w' : World) : Prop where
  os : w'.os = w.os
  tape : w'.tape = w.tape
  output : w'.output = w.output
  size : w.heap.size ≤ w'.heap.size
  block : ∀ k, k < w.heap.size → ¬ F k → w'.heap[k]? = w.heap[k]?
theorem Keep.refl (F : Nat → Prop) (w : World) : Keep F w w := ⟨rfl, rfl, rfl, Nat.le_refl _, fun _ _ _ => rfl⟩
theorem Keep.trans {F F' : Nat → Prop} {a b c : World} (h : Keep F a b) (k : Keep F' b c) (hF : ∀ i, i < a.heap.size → F' i → F i) : Keep F a c :=
  ⟨k.os.trans h.os, k.tape.trans h.tape, k.output.trans h.output, Nat.le_trans h.size k.size, fun i hi hn => (k.block i (Nat.lt_of_lt_of_le hi h.size) (fun e => hn (hF i hi e))).trans (h.block i hi hn)⟩
theorem Keep.tr {F : Nat → Prop} {a b c : World} (h : Keep F a b) (k : Keep F b c) : Keep F a c := h.trans k (fun _ _ e => e)
theorem Keep.wide {F F' : Nat → Prop} {a b : World} (h : Keep F a b) (hF : ∀ i, i < a.heap.size → F i → F' i) : Keep F' a b := ⟨h.os, h.tape, h.output, h.size, fun i hi hn => h.block i hi (fun e => hn (hF i hi e))⟩
theorem Keep.of_below (F : Nat → Prop) {w w' : World} (h : Below w.heap.size w w') : Keep F w w' := ⟨h.os, h.tape, h.output, h.size, fun k hk _ => h.block k hk⟩
theorem Keep.below {F : Nat → Prop} {w w' : World} {B : Nat} (h : Keep F w w') (hF : ∀ k, F k → B ≤ k) (hB : B ≤ w.heap.size) : Below B w w' :=
  ⟨h.os, h.tape, h.output, h.size, fun k hk => h.block k (by omega) (fun e => by have := hF k e; omega)⟩
theorem Keep.cell {F : Nat → Prop} {w w' : World} (h : Keep F w w') {p : Addr} {v : Value} (hp : w.cell? p = some v) (hn : ¬ F p.block) : w'.cell? p = some v :=
  (World.cell?_of_block (w := w) (h.block p.block (World.block_lt_of_cell? _ _ hp) hn)).trans hp
theorem Keep.set (F : Nat → Prop) (w : World) (p : Addr) (v : Value) (h : F p.block) : Keep F w (w.setCell p v) :=
  ⟨rfl, rfl, rfl, by simp, fun k _ hn => Below.heap_setCell _ _ _ _ (fun e => hn (e ▸ h))⟩
theorem Keep.alloc {F : Nat → Prop} {w w' : World} (h : Keep F w w') (o : Obj) : Keep F w (w'.alloc o) := h.tr (Keep.of_below F (below_alloc w' o))
theorem Keep.drew {F : Nat → Prop} {w w' : World} (h : Keep F w w') : Keep F w w'.drew := ⟨h.os, h.tape, h.output, h.size, h.block⟩
theorem Keep.drewN {F : Nat → Prop} {w w' : World} (h : Keep F w w') (n : Nat) : Keep F w (w'.drewN n) := ⟨h.os, h.tape, h.output, h.size, h.block⟩
theorem Keep.turned {F : Nat → Prop} {w w' : World} {m : Nat} (h : w.mapTurned w' m) (hF : F m) : Keep F w w' :=
  ⟨h.grown.os, h.grown.tape, h.grown.output, h.grown.size, fun k hk hn => h.grown.block k hk (fun e => hn (by injection e with e; exact e ▸ hF))⟩
theorem Keep.grown {F : Nat → Prop} {w w' : World} {row : Option Nat} (h : w.grownBy w' row) (hF : ∀ k, row = some k → F k) : Keep F w w' :=
  ⟨h.os, h.tape, h.output, h.size, fun k hk hn => h.block k hk (fun e => hn (hF k e.symm))⟩
theorem block_set (w : World) (b o : Nat) (x : Value) (cur : Array Value) (t : TypeId) (fr : Nat × Nat) (h : w.heap[b]? = some (.cells cur t fr)) :
    (w.setCell ⟨b, o, none⟩ x).heap[b]? = some (.cells (cur.setIfInBounds o x) t fr) := by
  simp [World.setCell, Array.getElem?_modify, h]
/- rows of bytes -/
theorem Own.same {w w' : World} {B : Nat} {v : Value} {l : List Int} (h : Own w B v l) (hb : ∀ k, v.ownBlock = some k → w'.heap[k]? = w.heap[k]?) : Own w' B v l := by
  refine ⟨h.1, ?_⟩
  rcases h.2 with h0 | ⟨g0, cap, cur, rfl, hg, hh, r⟩
  · exact .inl h0
  · exact .inr ⟨g0, cap, cur, rfl, hg, by rw [hb g0 rfl]; exact hh, r⟩
theorem Own.lt {w : World} {B : Nat} {v : Value} {l : List Int} (h : Own w B v l) : ∀ k, v.ownBlock = some k → B ≤ k ∧ k < w.heap.size := World.ownsRow.lt h
theorem Own.base {w : World} {B B' : Nat} {v : Value} {l : List Int} (h : Own w B v l) (hB : ∀ k, v.ownBlock = some k → B' ≤ k) : Own w B' v l := by
  refine ⟨h.1, ?_⟩
  rcases h.2 with h0 | ⟨g0, cap, cur, rfl, hg, r⟩
  · exact .inl h0
  · exact .inr ⟨g0, cap, cur, rfl, hB g0 rfl, r⟩
theorem Own.zero {w : World} {B : Nat} {v : Value} {l : List Int} (h : Own w B v l) : Own w 0 v l := h.base (fun _ _ => Nat.zero_le _)
theorem Own.nil (w : World) (B : Nat) : Own w B (.slice none 0 0) [] := World.ownsRow_nil w B 5 1
theorem Own.is {w : World} {B : Nat} {v : Value} {l : List Int} (h : Own w B v l) {k : Nat} (hk : v.ownBlock = some k) : ∃ cur, w.heap[k]? = some (.cells cur 5 (0, 0)) := by
  rcases h.2 with ⟨rfl, _⟩ | ⟨g0, cap, cur, rfl, _, hh, _⟩
  · cases hk
  · have e : g0 = k := by simpa [Value.ownBlock] using hk
    subst e
    exact ⟨cur, hh⟩
theorem run_appb (w : World) (B : Nat) (ty : TypeId) (v : Value) (xs : List Int) (ho : Own w B v xs) (A : Option Addr) (m c : Nat) (l : List Int) (hm : l.length = m) (hb : Byt w A l) (hc : A = none → c = 0)
    (hlen : xs.length + m ≤ 100000000) (hB : B ≤ w.heap.size) :
    ∃ v' w', (Builtin.append_ #[29, 29] ty #[v, .slice A m c]).run Tryz.prog w = .ok v' w' ∧ Own w' B v' (xs ++ l) ∧ w.grownBy w' v.ownBlock ∧ (v'.ownBlock = v.ownBlock ∨ v'.ownBlock = some w.heap.size) := by
  obtain ⟨i, hi, hz, hs, hy⟩ := info5
  rcases A with _ | ad
  · obtain rfl := hc rfl
    have hl : l = [] := by
      rcases l with _ | ⟨x, l⟩
      · rfl
      · obtain ⟨b, off, h, _⟩ := hb.1 0 (by simp)
        cases h
    subst hl
    subst hm
    exact ⟨v, w, run_append_owned_none (P := Tryz.prog) (w := w) B 29 ty 5 i 1 Tryz.underlying29 hi v _ _ ho, by rw [List.append_nil]; exact ho, ⟨rfl, rfl, rfl, Nat.le_refl _, fun _ _ _ => rfl⟩, .inl rfl⟩
  · obtain ⟨v', w', h1, h2, h3, _, h5⟩ := run_append_own_at (P := Tryz.prog) w B 29 ty 5 i (.int .u8 0) 1 1 Tryz.underlying29 hi hz hs hy rfl (by omega) v xs.length (xs.map (Value.int .u8)) ho ad m c (l.map (Value.int .u8))
      (by simp [hm])
      (fun j u hj => by
        have hjl : j < l.length := by
          rcases Nat.lt_or_ge j l.length with h | h
          · exact h
          · rw [List.getElem?_eq_none (by simpa using h)] at hj; cases hj
        obtain ⟨b, off, h, hcell⟩ := hb.1 j hjl
        injection h with h
        subst h
        rw [add_plain, hcell]
        simp [List.getElem?_eq_getElem hjl] at hj
        rw [← hj]
        simp [List.getElem?_eq_getElem hjl])
      (fun u hu => by
        obtain ⟨x, _, rfl⟩ := List.mem_map.1 hu
        rfl)
      (by unfold maxLen; omega) (by omega) hB
    refine ⟨v', w', h1, ?_, h3, h5⟩
    have : (xs ++ l).length = xs.length + m := by rw [List.length_append, hm]
    unfold Own
    rw [this, List.map_append]
    exact h2
/- a disk in memory: its struct, its map, the rows of its files -/
def tell (V : ByteArray → Value) (l : List Fl) (k : ByteArray) : Option Value := (fnd l k).map fun f => .agg #[V k, .int .i64 (f.sf : Int)]
abbrev dcells (m : Nat) (S : St) : Array Value := #[.int .i64 (S.room : Int), .map (some m), .bool S.up, .int .i64 S.falls, .bool S.lit, .int .i64 (S.acts : Int), .int .i64 (S.part : Int)]
structure Dk (w : World) (d m : Nat) (V : ByteArray → Value) (S : St) : Prop where
  blk : w.heap[d]? = some (.cells (dcells m S) 83 (0, 0))
  mp : Mp w m S.fs.length (tell V S.fs)
  row : ∀ f ∈ S.fs, Own w 0 (V f.nm) f.bs
  apart : ∀ f ∈ S.fs, ∀ g ∈ S.fs, ∀ x, (V f.nm).ownBlock = some x → (V g.nm).ownBlock = some x → f.nm = g.nm
  ok : Ok S
def Fp (d m : Nat) (V : ByteArray → Value) (l : List Fl) (k : Nat) : Prop := k = d ∨ k = m ∨ ∃ f ∈ l, (V f.nm).ownBlock = some k
section
variable {w w' : World} {d m : Nat} {V : ByteArray → Value} {S : St}
theorem Dk.same (h : Dk w d m V S) (hb : ∀ k, Fp d m V S.fs k → w'.heap[k]? = w.heap[k]?) : Dk w' d m V S :=
  ⟨(hb d (.inl rfl)).trans h.blk, h.mp.same (hb m (.inr (.inl rfl))), fun f hf => (h.row f hf).same (fun k hk => hb k (.inr (.inr ⟨f, hf, hk⟩))), h.apart, h.ok⟩
theorem Dk.lt (h : Dk w d m V S) : ∀ k, Fp d m V S.fs k → k < w.heap.size := fun k hk => by
  rcases hk with rfl | rfl | ⟨f, hf, hk⟩
  · exact (Array.getElem?_eq_some_iff.1 h.blk).1
  · exact h.mp.lt
  · exact ((h.row f hf).lt k hk).2
theorem Dk.below (h : Dk w d m V S) (hb : Below w.heap.size w w') : Dk w' d m V S := h.same (fun k hk => hb.block k (h.lt k hk))
theorem Dk.keep (h : Dk w d m V S) {F : Nat → Prop} (hb : Keep F w w') (hF : ∀ k, Fp d m V S.fs k → ¬ F k) : Dk w' d m V S := h.same (fun k hk => hb.block k (h.lt k hk) (hF k hk))
theorem Dk.c0 (h : Dk w d m V S) : w.cell? ⟨d, 0, none⟩ = some (.int .i64 (S.room : Int)) := by simp [World.cell?, h.blk]
theorem Dk.c1 (h : Dk w d m V S) : w.cell? ⟨d, 1, none⟩ = some (.map (some m)) := by simp [World.cell?, h.blk]
theorem Dk.c2 (h : Dk w d m V S) : w.cell? ⟨d, 2, none⟩ = some (.bool S.up) := by simp [World.cell?, h.blk]
theorem Dk.c3 (h : Dk w d m V S) : w.cell? ⟨d, 3, none⟩ = some (.int .i64 S.falls) := by simp [World.cell?, h.blk]
theorem Dk.c4 (h : Dk w d m V S) : w.cell? ⟨d, 4, none⟩ = some (.bool S.lit) := by simp [World.cell?, h.blk]
theorem Dk.c5 (h : Dk w d m V S) : w.cell? ⟨d, 5, none⟩ = some (.int .i64 (S.acts : Int)) := by simp [World.cell?, h.blk]
theorem Dk.c6 (h : Dk w d m V S) : w.cell? ⟨d, 6, none⟩ = some (.int .i64 (S.part : Int)) := by simp [World.cell?, h.blk]
theorem Dk.free (h : Dk w d m V S) (o : Nat) : w.frozen? ⟨d, o, none⟩ = false := by simp [World.frozen?, h.blk]
theorem Dk.ne (h : Dk w d m V S) : d ≠ m := fun e => by
  obtain ⟨es, clock, hm⟩ := h.mp.is
  have := h.blk
  rw [e, hm] at this
  cases this
theorem Dk.off (h : Dk w d m V S) {v : Value} {l : List Int} {B b : Nat} (hv : Own w B v l) (hb : v.ownBlock = some b) : b ≠ d ∧ b ≠ m := by
  obtain ⟨cur, hh⟩ := hv.is hb
  refine ⟨fun e => ?_, fun e => ?_⟩
  · rw [e, h.blk] at hh
    injection hh with hh
    injection hh with _ hh
    exact absurd hh (by decide)
  · obtain ⟨es, clock, hm⟩ := h.mp.is
    rw [e, hm] at hh
    cases hh
/- other numbers in the struct -/
theorem Dk.turn (h : Dk w d m V S) {T : St} (hk : Keep (fun x => x = d) w w') (hb : w'.heap[d]? = some (.cells (dcells m T) 83 (0, 0))) (hT : Ok T) (hf : T.fs = S.fs) : Dk w' d m V T := by
  refine ⟨hb, ?_, ?_, ?_, hT⟩
  · rw [hf]
    exact h.mp.same (hk.block m h.mp.lt (fun e => h.ne e.symm))
  · rw [hf]
    intro f hf
    exact (h.row f hf).same (fun k hk' => hk.block k ((h.row f hf).lt k hk').2 (h.off (h.row f hf) hk').1)
  · rw [hf]
    exact h.apart
def updV (V : ByteArray → Value) (k : ByteArray) (v : Value) : ByteArray → Value := fun j => if j = k then v else V j
theorem tell_upd {l l' : List Fl} {g : Fl} {v : Value} (hf : ∀ k, fnd l' k = if k = g.nm then some g else fnd l k) (k : ByteArray) : upd (tell V l) g.nm (some (.agg #[v, .int .i64 (g.sf : Int)])) k = tell (updV V g.nm v) l' k := by
  unfold upd tell updV
  rw [hf k]
  split <;> simp_all
theorem mem_of_fnd {l l' : List Fl} {g : Fl} (hr : Rise l') (hf : ∀ k, fnd l' k = if k = g.nm then some g else fnd l k) {f : Fl} (h : f ∈ l') : f = g ∨ (f ∈ l ∧ f.nm ≠ g.nm) := by
  have h1 := hr.fnd h
  rw [hf] at h1
  split at h1
  · injection h1 with h1
    exact .inl h1.symm
  · rename_i c
    exact .inr ⟨(fnd_mem h1).1, c⟩
/- a file is put: its row is there, and lies apart -/
theorem Dk.put {w1 w2 : World} (h : Dk w d m V S) (g : Fl) (v' : Value) (l' : List Fl) (n : Nat) (hn : n = l'.length)
    (hk : Keep (fun x => (V g.nm).ownBlock = some x ∧ ∃ f ∈ S.fs, f.nm = g.nm) w w1)
    (hm : Mp w2 m n (upd (tell V S.fs) g.nm (some (.agg #[v', .int .i64 (g.sf : Int)])))) (ht : w1.mapTurned w2 m) (hr : Own w1 0 v' g.bs)
    (ha : ∀ x, v'.ownBlock = some x → ∀ f ∈ S.fs, f.nm ≠ g.nm → (V f.nm).ownBlock ≠ some x)
    (hl : Ok (withFs S l')) (hf : ∀ k, fnd l' k = if k = g.nm then some g else fnd S.fs k) : Dk w2 d m (updV V g.nm v') (withFs S l') := by
  have K2 : Keep (fun x => x = m) w1 w2 := Keep.turned ht rfl
  obtain ⟨es1, clock1, hm1⟩ : ∃ es clock, w1.heap[m]? = some (.map es clock) := by
    obtain ⟨es, clock, _, _, h1, _⟩ := ht
    exact ⟨es, clock, h1⟩
  have other : ∀ f ∈ S.fs, f.nm ≠ g.nm → Own w2 0 (V f.nm) f.bs := fun f hf hne => by
    have h1 := h.row f hf
    refine (h1.same (w' := w1) (fun k hk' => hk.block k (h1.lt k hk').2 (fun ⟨e1, f', hf', e2⟩ => hne ?_))).same (fun k hk' => K2.block k (by have := (h1.lt k hk').2; have := hk.size; omega) (h.off h1 hk').2)
    exact (h.apart f hf f' hf' k hk' (by rw [e2]; exact e1)).trans e2
  refine ⟨?_, ?_, ?_, ?_, hl⟩
  · have h1 : d < w.heap.size := h.lt d (.inl rfl)
    rw [K2.block d (by have := hk.size; omega) h.ne, hk.block d h1 (fun ⟨e1, f', hf', e2⟩ => (h.off (h.row f' hf') (by rw [e2]; exact e1)).1 rfl)]
    exact h.blk
  · exact hm.as hn (fun k _ => tell_upd hf k)
  · intro f hf'
    rcases mem_of_fnd hl.rise hf hf' with rfl | ⟨h1, h2⟩
    · have e : updV V f.nm v' f.nm = v' := by simp [updV]
      rw [e]
      refine hr.same (fun k hk' => K2.block k (hr.lt k hk').2 (fun e => ?_))
      obtain ⟨cur, hh⟩ := hr.is hk'
      rw [e, hm1] at hh
      cases hh
    · have e : updV V g.nm v' f.nm = V f.nm := by simp [updV, h2]
      rw [e]
      exact other f h1 h2
  · intro f hf' f2 hf2 x e1 e2
    rcases mem_of_fnd hl.rise hf hf' with rfl | ⟨h1, h2⟩
    · rcases mem_of_fnd hl.rise hf hf2 with rfl | ⟨h3, h4⟩
      · rfl
      · simp only [updV, if_true, h4, if_false] at e1 e2
        exact absurd e2 (ha x e1 f2 h3 h4)
    · rcases mem_of_fnd hl.rise hf hf2 with rfl | ⟨h3, h4⟩
      · simp only [updV, if_true, h2, if_false] at e1 e2
        exact absurd e1 (ha x e2 f h1 h2)
      · simp only [updV, h2, h4, if_false] at e1 e2
        exact h.apart f h1 f2 h3 x e1 e2
theorem fp_put {g : Fl} {v' : Value} {l l' : List Fl} (hr : Rise l') (hf : ∀ k, fnd l' k = if k = g.nm then some g else fnd l k) {x : Nat} (h : Fp d m (updV V g.nm v') l' x) : Fp d m V l x ∨ v'.ownBlock = some x := by
  rcases h with h | h | ⟨f, hf', e⟩
  · exact .inl (.inl h)
  · exact .inl (.inr (.inl h))
  · rcases mem_of_fnd hr hf hf' with rfl | ⟨h1, h2⟩
    · exact .inr (by simpa [updV] using e)
    · exact .inl (.inr (.inr ⟨f, h1, by simpa [updV, h2] using e⟩))
theorem fp_wo {l : List Fl} {k : ByteArray} {x : Nat} (h : Fp d m V (wo l k) x) : Fp d m V l x := by
  rcases h with h | h | ⟨f, hf', e⟩
  · exact .inl h
  · exact .inr (.inl h)
  · exact .inr (.inr ⟨f, (mem_wo.1 hf').1, e⟩)
/- a file is deleted -/
theorem Dk.drop {w2 : World} (h : Dk w d m V S) (k : ByteArray) (n : Nat) (hn : n = (wo S.fs k).length) (hm : Mp w2 m n (upd (tell V S.fs) k none)) (ht : w.mapTurned w2 m) : Dk w2 d m V (withFs S (wo S.fs k)) := by
  have K2 : Keep (fun x => x = m) w w2 := Keep.turned ht rfl
  refine ⟨?_, ?_, ?_, ?_, h.ok.wo k h.ok rfl⟩
  · rw [K2.block d (h.lt d (.inl rfl)) h.ne]
    exact h.blk
  · refine hm.as hn (fun j _ => ?_)
    show _ = tell V (wo S.fs k) j
    unfold upd tell
    rw [fnd_wo h.ok.rise]
    split <;> rfl
  · intro f hf
    have h1 := h.row f (mem_wo.1 hf).1
    exact h1.same (fun x hx => K2.block x (h1.lt x hx).2 (h.off h1 hx).2)
  · intro f hf f2 hf2
    exact h.apart f (mem_wo.1 hf).1 f2 (mem_wo.1 hf2).1
theorem tell_some {l : List Fl} {k : ByteArray} {f : Fl} (h : fnd l k = some f) : tell V l k = some (.agg #[V k, .int .i64 (f.sf : Int)]) := by unfold tell; rw [h]; rfl
theorem tell_none {l : List Fl} {k : ByteArray} (h : fnd l k = none) : tell V l k = none := by unfold tell; rw [h]; rfl
theorem tell_is {l : List Fl} {k : ByteArray} : (tell V l k).isSome = (fnd l k).isSome := by unfold tell; cases fnd l k <;> rfl
end
abbrev ptr (d : Nat) : Value := .pointer (some ⟨d, 0, none⟩)
end Go.Proofs.YtcodihgjfhoepaaGreatDoor
