/- Bytes of the call's own: making, copying and appending to them, and what they are as a string. -/
import Derived.Test.YtnjndlbhnkhlhaaDoorProg
import Derived.WalkKit
import Derived.WalkLawsBesides
import Derived.Lib.Hide
import Derived.Deep.LoopGhost
import Derived.Below
import Derived.KernelRfl
import Derived.Laws.AppendOwnNone
import Derived.Laws.BytesArg
import Derived.Laws.CopyOwn
import Derived.Laws.OwnMore
import Derived.Laws.MakeOwn
import Derived.Lib.AppendStr
import Derived.OwnWalk
import Derived.Deep.Draws
namespace Go.Proofs.YtnjndlbhnkhlhaaDoor
open Go Go.RowKit
set_option maxRecDepth 20000


/- bytes in memory -/
def Byt (w : World) (a : Option Addr) (l : List Int) : Prop :=
  (∀ i, i < l.length → ∃ b off, a = some ⟨b, off, none⟩ ∧ w.cell? ⟨b, off + i, none⟩ = some (.int .u8 (l.getD i 0))) ∧ ∀ c ∈ l, 0 ≤ c ∧ c < 256

theorem Byt.below {w w' : World} {a : Option Addr} {l : List Int} (hb : Byt w a l) (h : Below w.heap.size w w') : Byt w' a l :=
  ⟨fun i hi => by
    obtain ⟨b, off, ha, hc⟩ := hb.1 i hi
    exact ⟨b, off, ha, (h.cell (p := ⟨b, off + i, none⟩) (World.block_lt_of_cell? _ _ hc)).trans hc⟩, hb.2⟩

/- a slice value that owns just these bytes, in a block from B on -/
def Own (w : World) (B : Nat) (v : Value) (l : List Int) : Prop := w.ownsRow B 5 1 v l.length (l.map (Value.int .u8))
theorem add_plain (b off i : Nat) : (⟨b, off, none⟩ : Addr).add i = ⟨b, off + i, none⟩ := by unfold Addr.add; split <;> simp_all
theorem Own.form {w : World} {B : Nat} {v : Value} {l : List Int} (h : Own w B v l) (hr : ∀ c ∈ l, 0 ≤ c ∧ c < 256) : ∃ A c, v = .slice A l.length c ∧ Byt w A l := by
  rcases h.2 with ⟨rfl, h0⟩ | ⟨g, cap, cur, rfl, _⟩
  · have : l = [] := List.eq_nil_of_length_eq_zero h0
    subst this
    exact ⟨none, 0, rfl, fun i hi => absurd hi (by simp), hr⟩
  · refine ⟨_, _, rfl, fun i hi => ⟨g, 0, rfl, ?_⟩, hr⟩
    have := World.ownsRow.cells h (g := g) rfl i (.int .u8 (l.getD i 0)) (by simp [List.getElem?_eq_getElem hi])
    rwa [add_plain] at this

theorem Own.empty (w : World) : Own (w.alloc (.cells #[] 5)) w.heap.size (.slice (some ⟨w.heap.size, 0, none⟩) 0 0) [] :=
  World.ownsRow_made w #[] 0 (Nat.le_refl _) (by decide) rfl
theorem Own.below {w w' : World} {B : Nat} {v : Value} {l : List Int} (h : Own w B v l) (hb : Below w.heap.size w w') : Own w' B v l := by
  refine ⟨h.1, ?_⟩
  rcases h.2 with h0 | ⟨g, cap, cur, hv, hg, hh, r⟩
  · exact .inl h0
  · refine .inr ⟨g, cap, cur, hv, hg, ?_, r⟩
    rw [hb.block g ?_]
    · exact hh
    · rcases Nat.lt_or_ge g w.heap.size with h1 | h1
      · exact h1
      · rw [Array.getElem?_eq_none h1] at hh; cases hh

theorem Own.byt {w : World} {B : Nat} {A : Option Addr} {k c : Nat} {l : List Int} (h : Own w B (.slice A k c) l) (hr : ∀ c ∈ l, 0 ≤ c ∧ c < 256) : Byt w A l := by
  obtain ⟨A', c', e, hb⟩ := h.form hr
  injection e with e1 e2 e3
  subst e1
  exact hb

theorem Own.le {w : World} {B : Nat} {A : Option Addr} {k c : Nat} {l : List Int} (h : Own w B (.slice A k c) l) (hk : l.length = k) : k ≤ c := by
  rcases h.2 with ⟨h', h0⟩ | ⟨g, cap, cur, h', _, _, hn, _⟩
  · omega
  · injection h' with e1 e2 e3
    omega

theorem info5 : ∃ i, Tryd.prog.info? 5 = some i ∧ i.zero = some (.int .u8 0) ∧ i.size = 1 ∧ i.bytes = 1 :=
  ⟨(Tryd.prog.info? 5).get (by kernel_rfl), by kernel_rfl, by kernel_rfl, by kernel_rfl, by kernel_rfl⟩
theorem Byt.nil (w : World) : Byt w none [] := ⟨fun i hi => absurd hi (by simp), by simp⟩
/- a string's bytes -/
def txt (s : ByteArray) : List Int := s.data.toList.map fun b => (b.toNat : Int)
theorem txt_length (s : ByteArray) : (txt s).length = s.size := by rw [txt, List.length_map, Array.length_toList]; rfl
theorem txt_range (s : ByteArray) : ∀ c ∈ txt s, 0 ≤ c ∧ c < 256 := by
  intro c hc
  obtain ⟨b, _, rfl⟩ := List.mem_map.1 hc
  have := b.toNat_lt
  omega

theorem strCells_txt (s : ByteArray) : Lib.strCells s = (txt s).map (Value.int .u8) := by
  unfold Lib.strCells txt
  rw [List.map_map]; rfl
theorem str_txt (s : ByteArray) : strOfNums (txt s) = s := by
  rcases s with ⟨d⟩
  unfold strOfNums txt
  rw [List.map_map]
  congr 1
  rw [show ((fun n : Int => UInt8.ofNat n.toNat) ∘ fun b : UInt8 => (b.toNat : Int)) = id by funext b; simp]
  simp

theorem txt_str (l : List Int) (h : ∀ c ∈ l, 0 ≤ c ∧ c < 256) : txt (strOfNums l) = l := by
  unfold strOfNums txt
  simp only [List.map_map]
  conv => rhs; rw [← List.map_id l]
  refine List.map_congr_left fun c hc => ?_
  have := h c hc
  simp
  omega

/- a row of its own, of which so many cells are zeros, then a copy of other bytes -/
theorem Own.made (w' : World) (g n c : Nat) (B : Nat) (hB : B ≤ g) (l : List Int) (hl : l.length = n) (hc : n ≤ c) (hm : c ≤ 1000000)
    (h : w'.heap[g]? = some (.cells (splice (List.replicate c (Value.int .u8 0)) 0 (l.map (Value.int .u8))).toArray 5 (0, 0))) : Own w' B (.slice (some ⟨g, 0, none⟩) n c) l := by
  refine ⟨by simp, .inr ⟨g, c, _, by rw [hl], hB, h, by omega, by unfold maxLen; omega, ?_, ?_⟩⟩
  · have := length_splice (List.replicate c (Value.int .u8 0)) 0 (l.map (Value.int .u8)) (by simp; omega)
    simp only [List.length_replicate] at this
    simp only [List.size_toArray, this]; omega
  · simp [splice]


theorem made_zeros (n : Nat) : (List.replicate n (Value.int .u8 0)).toArray = madeCells #[.int .u8 0] n := by
  apply Array.ext'; rw [toList_madeCells_one]
theorem size5 : (Tryd.prog.info? 5).map (·.size) = some 1 := by kernel_rfl
theorem src_of {w : World} {a : Option Addr} {l : List Int} (hb : Byt w a l) (hp : 0 < l.length) : ∃ ad, a = some ad ∧ ∀ j v, (l.map (Value.int .u8))[j]? = some v → w.cell? (ad.add j) = some v := by
  obtain ⟨b, off, rfl, _⟩ := hb.1 0 hp
  refine ⟨_, rfl, fun j v hj => ?_⟩
  have hjl : j < l.length := by
    rcases Nat.lt_or_ge j l.length with h | h
    · exact h
    · rw [List.getElem?_eq_none (by simpa using h)] at hj; cases hj
  obtain ⟨b', off', h, hc⟩ := hb.1 j hjl
  injection h with h
  injection h with h1 h2 _
  subst h1
  subst h2
  rw [add_plain, hc]
  simp [List.getElem?_eq_getElem hjl] at hj
  rw [← hj]
  simp [List.getElem?_eq_getElem hjl]

theorem cells_one {l : List Int} : ∀ v ∈ l.map (Value.int .u8), v.oneCell' = true := by
  intro u hu
  obtain ⟨x, _, rfl⟩ := List.mem_map.1 hu
  rfl

theorem Byt.one (w : World) (x : Int) (h : 0 ≤ x ∧ x < 256) : Byt (w.alloc (.cells #[.int .u8 x] 5)) (some ⟨w.heap.size, 0, none⟩) [x] := by
  refine ⟨fun i hi => ⟨w.heap.size, 0, rfl, ?_⟩, fun c hc => ?_⟩
  · have : i = 0 := by simpa using hi
    subst this
    simp [go_sem]
  · rw [List.mem_singleton] at hc; subst hc; exact h

theorem range_snoc {l : List Int} {x : Int} (h : ∀ c ∈ l, 0 ≤ c ∧ c < 256) (hx : 0 ≤ x ∧ x < 256) : ∀ c ∈ l ++ [x], 0 ≤ c ∧ c < 256 := by
  intro c hc
  rcases List.mem_append.1 hc with hc | hc
  · exact h c hc
  · rw [List.mem_singleton] at hc; subst hc; exact hx

theorem range_app {l r : List Int} (h : ∀ c ∈ l, 0 ≤ c ∧ c < 256) (hx : ∀ c ∈ r, 0 ≤ c ∧ c < 256) : ∀ c ∈ l ++ r, 0 ≤ c ∧ c < 256 := by
  intro c hc
  rcases List.mem_append.1 hc with hc | hc
  · exact h c hc
  · exact hx c hc


theorem Own.cell {w : World} {B g n cap : Nat} {l : List Int} (h : Own w B (.slice (some ⟨g, 0, none⟩) n cap) l) (hl : l.length = n) (j : Nat) (hj : j < n) : w.cell? ⟨g, j, none⟩ = some (.int .u8 (l.getD j 0)) := by
  subst hl
  rw [World.ownsRow.cellAt h j (by omega)]
  simp [List.getElem?_eq_getElem hj]

theorem Own.frozen {w : World} {B g n cap : Nat} {l : List Int} (h : Own w B (.slice (some ⟨g, 0, none⟩) n cap) l) (hl : l.length = n) (j : Nat) : w.frozen? ⟨g, j, none⟩ = false := by
  subst hl
  exact World.ownsRow.frozenAt h j
theorem Own.stored {w : World} {B g n cap : Nat} {l : List Int} (h : Own w B (.slice (some ⟨g, 0, none⟩) n cap) l) (hl : l.length = n) (j : Nat) (x : Int) : Own (w.setCell ⟨g, j, none⟩ (.int .u8 x)) B (.slice (some ⟨g, 0, none⟩) n cap) (l.set j x) := by
  subst hl
  have := (World.ownsRow.stored h j (.int .u8 x)).1
  unfold Own
  rw [List.length_set, List.map_set]
  exact this

theorem drop_cons (l : List Int) (k : Nat) (h : k < l.length) : l.drop k = l.getD k 0 :: l.drop (k + 1) := by
  rw [List.drop_eq_getElem_cons h, List.getD_eq_getElem?_getD, List.getElem?_eq_getElem h]; rfl
theorem cut_len (l : List Int) (k n : Nat) (h : k + n ≤ l.length) : ((l.drop k).take n).length = n := by
  rw [List.length_take, List.length_drop]; omega
theorem byt_cut {w : World} {b off : Nat} {l : List Int} (hb : Byt w (some ⟨b, off, none⟩) l) (k n : Nat) (h : k + n ≤ l.length) : Byt w (some ⟨b, off + k, none⟩) ((l.drop k).take n) := by
  refine ⟨fun i hi => ⟨b, off + k, rfl, ?_⟩, fun c hc => hb.2 c (List.mem_of_mem_drop (List.mem_of_mem_take hc))⟩
  rw [cut_len l k n h] at hi
  obtain ⟨b', off', e, hc⟩ := hb.1 (k + i) (by omega)
  injection e with e
  injection e with e1 e2 _
  subst e1
  subst e2
  rw [Nat.add_assoc, hc]
  congr 2
  simp [List.getD_eq_getElem?_getD, hi]

theorem take_step (l : List Int) (q k : Nat) (h : q + k < l.length) : (l.drop q).take (k + 1) = (l.drop q).take k ++ [l.getD (q + k) 0] := by
  rw [List.take_succ_eq_append_getElem (by rw [List.length_drop]; omega), List.getElem_drop, List.getD_eq_getElem?_getD, List.getElem?_eq_getElem h]; rfl

/- a row of c zeros over whose front bytes were laid -/
def Row (w : World) (g c : Nat) (l : List Int) : Prop := w.heap[g]? = some (.cells (splice (List.replicate c (Value.int .u8 0)) 0 (l.map (Value.int .u8))).toArray 5 (0, 0))
theorem Row.zero {w : World} {g c : Nat} {l : List Int} (h : Row w g c l) (j : Nat) (hj : l.length ≤ j) (hc : j < c) : w.cell? ⟨g, j, none⟩ = some (.int .u8 0) := by
  rw [cell_of_row w g j _ 5 (0, 0) h]
  have e : (splice (List.replicate c (Value.int .u8 0)) 0 (l.map (Value.int .u8)))[j]? = some (.int .u8 0) := by
    unfold splice
    rw [List.take_zero, List.nil_append, List.getElem?_append_right (by simpa using hj)]
    simp only [List.length_map, Nat.zero_add, List.drop_replicate, List.getElem?_replicate]
    rw [if_pos (by omega)]
  simpa using e

theorem Row.below {B : Nat} {w w' : World} {g c : Nat} {l : List Int} (h : Row w g c l) (hb : Below B w w') (hg : g < B) : Row w' g c l := by
  unfold Row
  rw [hb.block g hg]
  exact h

theorem below_go {w5 W W' : World} (h : Below w5.heap.size w5 W) (k : Below W.heap.size W W') : Below w5.heap.size w5 W' := h.trans (k.mono h.size)
theorem below_drewN (B : Nat) (w : World) (n : Nat) : Below B w (w.drewN n) := ⟨rfl, rfl, rfl, Nat.le_refl _, fun _ _ => rfl⟩
end Go.Proofs.YtnjndlbhnkhlhaaDoor
