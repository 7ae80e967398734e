/- Bytes of the call's own: making, copying and appending to them, and what they are as a string. -/
import Derived.Test.YtmooblbnkjaenaaProg
import Derived.WalkKit
import Derived.WalkLawsBesides
import Derived.Lib.Hide
import Derived.Deep.LoopGhost
import Derived.Below
import Derived.KernelRfl
import Derived.Laws.AppendOwnNone
import Derived.Laws.BytesArg
import Derived.Laws.CopyOwn
import Derived.Laws.OwnMore
import Derived.Laws.MakeOwn
import Derived.Lib.AppendStr
import Derived.OwnWalk
import Derived.Deep.Draws
namespace Go.Proofs.Ytmooblbnkjaenaa
open Go Go.RowKit
set_option maxRecDepth 20000


/- bytes in memory -/
def Byt (w : World) (a : Option Addr) (l : List Int) : Prop :=
  (∀ i, i < l.length → ∃ b off, a = some ⟨b, off, none⟩ ∧ w.cell? ⟨b, off + i, none⟩ = some (.int .u8 (l.getD i 0))) ∧ ∀ c ∈ l, 0 ≤ c ∧ c < 256

theorem Byt.below {w w' : World} {a : Option Addr} {l : List Int} (hb : Byt w a l) (h : Below w.heap.size w w') : Byt w' a l :=
  ⟨fun i hi => by
    obtain ⟨b, off, ha, hc⟩ := hb.1 i hi
    exact ⟨b, off, ha, (h.cell (p := ⟨b, off + i, none⟩) (World.block_lt_of_cell? _ _ hc)).trans hc⟩, hb.2⟩

/- a slice value that owns just these bytes, in a block from B on -/
def Own (w : World) (B : Nat) (v : Value) (l : List Int) : Prop := w.ownsRow B 5 1 v l.length (l.map (Value.int .u8))
theorem add_plain (b off i : Nat) : (⟨b, off, none⟩ : Addr).add i = ⟨b, off + i, none⟩ := by unfold Addr.add; split <;> simp_all
theorem Own.form {w : World} {B : Nat} {v : Value} {l : List Int} (h : Own w B v l) (hr : ∀ c ∈ l, 0 ≤ c ∧ c < 256) : ∃ A c, v = .slice A l.length c ∧ Byt w A l := by
  rcases h.2 with ⟨rfl, h0⟩ | ⟨g, cap, cur, rfl, _⟩
  · have : l = [] := List.eq_nil_of_length_eq_zero h0
    subst this
    exact ⟨none, 0, rfl, fun i hi => absurd hi (by simp), hr⟩
  · refine ⟨_, _, rfl, fun i hi => ⟨g, 0, rfl, ?_⟩, hr⟩
    have := World.ownsRow.cells h (g := g) rfl i (.int .u8 (l.getD i 0)) (by simp [List.getElem?_eq_getElem hi])
    rwa [add_plain] at this

theorem Own.empty (w : World) : Own (w.alloc (.cells #[] 5)) w.heap.size (.slice (some ⟨w.heap.size, 0, none⟩) 0 0) [] :=
  World.ownsRow_made w #[] 0 (Nat.le_refl _) (by decide) rfl
theorem Own.below {w w' : World} {B : Nat} {v : Value} {l : List Int} (h : Own w B v l) (hb : Below w.heap.size w w') : Own w' B v l := by
  refine ⟨h.1, ?_⟩
  rcases h.2 with h0 | ⟨g, cap, cur, hv, hg, hh, r⟩
  · exact .inl h0
  · refine .inr ⟨g, cap, cur, hv, hg, ?_, r⟩
    rw [hb.block g ?_]
    · exact hh
    · rcases Nat.lt_or_ge g w.heap.size with h1 | h1
      · exact h1
      · rw [Array.getElem?_eq_none h1] at hh; cases hh

theorem Own.byt {w : World} {B : Nat} {A : Option Addr} {k c : Nat} {l : List Int} (h : Own w B (.slice A k c) l) (hr : ∀ c ∈ l, 0 ≤ c ∧ c < 256) : Byt w A l := by
  obtain ⟨A', c', e, hb⟩ := h.form hr
  injection e with e1 e2 e3
  subst e1
  exact hb

theorem Own.le {w : World} {B : Nat} {A : Option Addr} {k c : Nat} {l : List Int} (h : Own w B (.slice A k c) l) (hk : l.length = k) : k ≤ c := by
  rcases h.2 with ⟨h', h0⟩ | ⟨g, cap, cur, h', _, _, hn, _⟩
  · omega
  · injection h' with e1 e2 e3
    omega

theorem info5 : ∃ i, Try.prog.info? 5 = some i ∧ i.zero = some (.int .u8 0) ∧ i.size = 1 ∧ i.bytes = 1 :=
  ⟨(Try.prog.info? 5).get (by kernel_rfl), by kernel_rfl, by kernel_rfl, by kernel_rfl, by kernel_rfl⟩
theorem run_app (w : World) (B : Nat) (ty : TypeId) (v : Value) (xs : List Int) (ho : Own w B v xs) (A : Option Addr) (m c : Nat) (l : List Int) (hm : l.length = m) (hb : Byt w A l) (hc : A = none → c = 0)
    (hlen : xs.length + m ≤ 1000000) (hB : B ≤ w.heap.size) :
    ∃ v' w', (Builtin.append_ #[27, 27] ty #[v, .slice A m c]).run Try.prog w = .ok v' w' ∧ Own w' B v' (xs ++ l) ∧ Below B w w' := by
  obtain ⟨i, hi, hz, hs, hy⟩ := info5
  rcases A with _ | ad
  · obtain rfl := hc rfl
    have hl : l = [] := by
      rcases l with _ | ⟨x, l⟩
      · rfl
      · obtain ⟨b, off, h, _⟩ := hb.1 0 (by simp)
        cases h
    subst hl
    subst hm
    exact ⟨v, w, run_append_owned_none (P := Try.prog) (w := w) B 27 ty 5 i 1 Try.underlying27 hi v _ _ ho, by rw [List.append_nil]; exact ho, Below.refl _ _⟩
  · obtain ⟨v', w', h1, h2, h3, _⟩ := run_append_own (P := Try.prog) w B 27 ty 5 i (.int .u8 0) 1 1 Try.underlying27 hi hz hs hy rfl (by omega) v xs.length (xs.map (Value.int .u8)) ho ad m c (l.map (Value.int .u8))
      (by simp [hm])
      (fun j u hj => by
        have hjl : j < l.length := by
          rcases Nat.lt_or_ge j l.length with h | h
          · exact h
          · rw [List.getElem?_eq_none (by simpa using h)] at hj; cases hj
        obtain ⟨b, off, h, hcell⟩ := hb.1 j hjl
        injection h with h
        subst h
        rw [add_plain, hcell]
        simp [List.getElem?_eq_getElem hjl] at hj
        rw [← hj]
        simp [List.getElem?_eq_getElem hjl])
      (fun u hu => by
        obtain ⟨x, _, rfl⟩ := List.mem_map.1 hu
        rfl)
      (by unfold maxLen; omega) (by omega) hB
    refine ⟨v', w', h1, ?_, (Below.refl _ _).grown h3 hB (fun k hk => (World.ownsRow.lt ho k hk).1)⟩
    have : (xs ++ l).length = xs.length + m := by rw [List.length_append, hm]
    unfold Own
    rw [this, List.map_append]
    exact h2

theorem wp_app {ops : Array Oper} {rest : List Oper} {o : Oper} {a : Act} {Q : Exit → Act → World → Prop} (s x : Operand) (w : World) (hgd : o.guard = none)
    (hop : o.op = .call { callee := .builtin .append, args := #[s, x], argTypes := #[27, 27] })
    (B : Nat) (v : Value) (xs : List Int) (hs : a.eval s = v) (ho : Own w B v xs) (A : Option Addr) (m c : Nat) (l : List Int) (hx : a.eval x = .slice A m c) (hm : l.length = m) (hb : Byt w A l) (hc : A = none → c = 0)
    (hr : ∀ c ∈ xs, 0 ≤ c ∧ c < 256) (k : Nat) (hk : (xs ++ l).length = k) (hlen : k ≤ 1000000) (hB : B ≤ w.heap.size)
    (h : ∀ A' c' w', Own w' B (.slice A' k c') (xs ++ l) → Byt w' A' (xs ++ l) → Below B w w' → wpList Try.prog ops Q rest (a.put o.dst (.slice A' k c')) w') : wpList Try.prog ops Q (o :: rest) a w := by
  refine wpList_plain hgd fun K hK => ?_
  have hlen2 : xs.length + m ≤ 1000000 := by rw [List.length_append] at hk; omega
  obtain ⟨v', w', hrun, h2, h3⟩ := run_app w B o.type v xs ho A m c l hm hb hc hlen2 hB
  obtain ⟨A', c', rfl, hby⟩ := h2.form (fun c hc => by
    rcases List.mem_append.1 hc with h | h
    · exact hr c h
    · exact hb.2 c h)
  rw [hk] at h2 hrun
  unfold Oper.wp
  simp [execOp, hop, resolve, invoke, builtin, hs, hx, hrun, Result.andThen]
  exact hK _ _ (h A' c' w' h2 hby h3)

/- bytes as a string -/
theorem run_str (w : World) (A : Option Addr) (m c : Nat) (l : List Int) (hm : l.length = m) (hb : Byt w A l) : (convert 27 9 (.slice A m c)).run Try.prog w = .ok (.string (strOfNums l)) w := by
  rcases A with _ | ad
  · have hl : l = [] := by
      rcases l with _ | ⟨x, l⟩
      · rfl
      · obtain ⟨b, off, h, _⟩ := hb.1 0 (by simp)
        cases h
    subst hl
    exact run_convert_bytes_nil w 27 5 Try.underlying27 Try.underlying5 m c 9 Try.underlying9
  · rcases l with _ | ⟨x, l⟩
    · subst hm
      rw [run_convert_bytes_string w 27 9 5 _ _ c Try.underlying27 Try.underlying5 Try.underlying9]
      exact run_bytesToString w ad 0 c [] (by simp [loadCells, loadCellsFrom])
    · obtain ⟨b, off, h, _⟩ := hb.1 0 (by simp)
      injection h with h
      subst h
      exact run_convert_bytes_arg w 27 5 Try.underlying27 Try.underlying5 b off m c (x :: l) hm (fun i hi => by
        obtain ⟨b', off', h, hc⟩ := hb.1 i (by omega)
        cases h
        exact hc) 9 Try.underlying9

theorem Byt.nil (w : World) : Byt w none [] := ⟨fun i hi => absurd hi (by simp), by simp⟩
/- what a row of one's own is as a string -/
theorem Own.str {w : World} {B : Nat} {A : Option Addr} {k c : Nat} {l : List Int} (h : Own w B (.slice A k c) l) (hr : ∀ c ∈ l, 0 ≤ c ∧ c < 256) (hk : l.length = k) : (convert 27 9 (.slice A k c)).run Try.prog w = .ok (.string (strOfNums l)) w := by
  obtain ⟨A', c', e, hb⟩ := h.form hr
  injection e with e1 e2 e3
  subst e1
  exact run_str w A k c l hk hb

/- a string's bytes -/
def txt (s : ByteArray) : List Int := s.data.toList.map fun b => (b.toNat : Int)
theorem txt_length (s : ByteArray) : (txt s).length = s.size := by rw [txt, List.length_map, Array.length_toList]; rfl
theorem txt_range (s : ByteArray) : ∀ c ∈ txt s, 0 ≤ c ∧ c < 256 := by
  intro c hc
  obtain ⟨b, _, rfl⟩ := List.mem_map.1 hc
  have := b.toNat_lt
  omega

theorem strCells_txt (s : ByteArray) : Lib.strCells s = (txt s).map (Value.int .u8) := by
  unfold Lib.strCells txt
  rw [List.map_map]; rfl
theorem str_txt (s : ByteArray) : strOfNums (txt s) = s := by
  rcases s with ⟨d⟩
  unfold strOfNums txt
  rw [List.map_map]
  congr 1
  rw [show ((fun n : Int => UInt8.ofNat n.toNat) ∘ fun b : UInt8 => (b.toNat : Int)) = id by funext b; simp]
  simp

theorem txt_str (l : List Int) (h : ∀ c ∈ l, 0 ≤ c ∧ c < 256) : txt (strOfNums l) = l := by
  unfold strOfNums txt
  simp only [List.map_map]
  conv => rhs; rw [← List.map_id l]
  refine List.map_congr_left fun c hc => ?_
  have := h c hc
  simp
  omega

theorem wp_appstr {ops : Array Oper} {rest : List Oper} {o : Oper} {a : Act} {Q : Exit → Act → World → Prop} (s x : Operand) (w : World) (hgd : o.guard = none)
    (hop : o.op = .call { callee := .builtin .append, args := #[s, x], argTypes := #[27, 9] })
    (B : Nat) (v : Value) (xs : List Int) (hs : a.eval s = v) (ho : Own w B v xs) (t : ByteArray) (hx : a.eval x = .string t)
    (hr : ∀ c ∈ xs, 0 ≤ c ∧ c < 256) (k : Nat) (hk : (xs ++ txt t).length = k) (hlen : k ≤ 1000000) (hB : B ≤ w.heap.size)
    (h : ∀ A' c' w', Own w' B (.slice A' k c') (xs ++ txt t) → Byt w' A' (xs ++ txt t) → Below B w w' → wpList Try.prog ops Q rest (a.put o.dst (.slice A' k c')) w') : wpList Try.prog ops Q (o :: rest) a w := by
  obtain ⟨i, hi, hz, hsz, hy⟩ := info5
  have hl : xs.length + t.size = k := by rw [← hk, List.length_append, txt_length]
  refine Lib.wpList_append_own_string w hgd s x 27 9 hop B 5 i Try.underlying27 Try.underlying9 hi hz hsz hy v xs.length (xs.map (Value.int .u8)) hs ho t hx (by unfold maxLen; omega) (by omega) hB ?_
  intro v' w' h2 h3 _
  have h2' : Own w' B v' (xs ++ txt t) := by
    unfold Own
    rw [List.length_append, txt_length, List.map_append, ← strCells_txt]
    exact h2
  obtain ⟨A', c', rfl, hby⟩ := h2'.form (fun c hc => by
    rcases List.mem_append.1 hc with h | h
    · exact hr c h
    · exact txt_range t c h)
  rw [hk] at h2' ⊢
  exact h A' c' w' h2' hby ((Below.refl _ _).grown h3 hB (fun k hk => (World.ownsRow.lt ho k hk).1))

/- a row of its own, of which so many cells are zeros, then a copy of other bytes -/
theorem Own.made (w' : World) (g n c : Nat) (B : Nat) (hB : B ≤ g) (l : List Int) (hl : l.length = n) (hc : n ≤ c) (hm : c ≤ 1000000)
    (h : w'.heap[g]? = some (.cells (splice (List.replicate c (Value.int .u8 0)) 0 (l.map (Value.int .u8))).toArray 5 (0, 0))) : Own w' B (.slice (some ⟨g, 0, none⟩) n c) l := by
  refine ⟨by simp, .inr ⟨g, c, _, by rw [hl], hB, h, by omega, by unfold maxLen; omega, ?_, ?_⟩⟩
  · have := length_splice (List.replicate c (Value.int .u8 0)) 0 (l.map (Value.int .u8)) (by simp; omega)
    simp only [List.length_replicate] at this
    simp only [List.size_toArray, this]; omega
  · simp [splice]


theorem made_zeros (n : Nat) : (List.replicate n (Value.int .u8 0)).toArray = madeCells #[.int .u8 0] n := by
  apply Array.ext'; rw [toList_madeCells_one]
theorem size5 : (Try.prog.info? 5).map (·.size) = some 1 := by kernel_rfl
theorem run_mk (w : World) (l c : Nat) (hlc : l ≤ c) (hc : c ≤ 1000000) (C : Int) (hC : C = (c : Int)) :
    (Instr.makeSlice 27 (.int .i64 (l : Int)) (.int .i64 C)).run Try.prog w = .ok (.slice (some ⟨w.heap.size, 0, none⟩) l c) (w.alloc (.cells (madeCells #[.int .u8 0] c) 5)) := by
  obtain ⟨i, hi, hz, hs, hy⟩ := info5
  subst hC
  have := run_make (P := Try.prog) w 27 5 i (.int .u8 0) Try.underlying27 hi hz .i64 .i64 (l : Int) (c : Int) (by omega) (by omega) (by rw [hy]; omega) (by omega)
  rw [hs] at this
  simpa [Value.cells] using this

theorem src_of {w : World} {a : Option Addr} {l : List Int} (hb : Byt w a l) (hp : 0 < l.length) : ∃ ad, a = some ad ∧ ∀ j v, (l.map (Value.int .u8))[j]? = some v → w.cell? (ad.add j) = some v := by
  obtain ⟨b, off, rfl, _⟩ := hb.1 0 hp
  refine ⟨_, rfl, fun j v hj => ?_⟩
  have hjl : j < l.length := by
    rcases Nat.lt_or_ge j l.length with h | h
    · exact h
    · rw [List.getElem?_eq_none (by simpa using h)] at hj; cases hj
  obtain ⟨b', off', h, hc⟩ := hb.1 j hjl
  injection h with h
  injection h with h1 h2 _
  subst h1
  subst h2
  rw [add_plain, hc]
  simp [List.getElem?_eq_getElem hjl] at hj
  rw [← hj]
  simp [List.getElem?_eq_getElem hjl]

theorem cells_one {l : List Int} : ∀ v ∈ l.map (Value.int .u8), v.oneCell' = true := by
  intro u hu
  obtain ⟨x, _, rfl⟩ := List.mem_map.1 hu
  rfl

theorem wp_copy {ops : Array Oper} {rest : List Oper} {o : Oper} {a : Act} {Q : Exit → Act → World → Prop} (d s : Operand) (w : World) (hgd : o.guard = none)
    (hop : o.op = .call { callee := .builtin .copy, args := #[d, s], argTypes := #[27, 27] })
    (g n c : Nat) (A : Option Addr) (cap : Nat) (l : List Int) (hd : a.eval d = .slice (some ⟨g, 0, none⟩) n c) (hs : a.eval s = .slice A n cap) (hl : l.length = n)
    (hg : w.heap[g]? = some (.cells (madeCells #[.int .u8 0] c) 5)) (hb : Byt w A l) (hc : n ≤ c) (hm : c ≤ 1000000) (B : Nat) (w0 : World) (hb0 : Below B w0 w) (hBg : B ≤ g)
    (h : ∀ w', Own w' B (.slice (some ⟨g, 0, none⟩) n c) l → Below B w0 w' → wpList Try.prog ops Q rest (a.put o.dst (goInt n)) w') : wpList Try.prog ops Q (o :: rest) a w := by
  refine wpList_copy_splice hgd d s 27 27 hop 5 Try.underlying27 size5 _ _ n c n cap hd hs g 0 (List.replicate c (Value.int .u8 0)) 5 (by rw [made_zeros]; exact hg) (l.map (Value.int .u8)) (by simp [hl])
    (fun hp => ⟨rfl, src_of hb (by simpa using hp)⟩) (by simp [hl]; omega) cells_one B w0 hb0 hBg ?_
  intro w1 hg1 hb1
  rw [List.length_map, hl]
  exact h w1 (Own.made w1 g n c B hBg l hl hc hm hg1) hb1

theorem Byt.one (w : World) (x : Int) (h : 0 ≤ x ∧ x < 256) : Byt (w.alloc (.cells #[.int .u8 x] 5)) (some ⟨w.heap.size, 0, none⟩) [x] := by
  refine ⟨fun i hi => ⟨w.heap.size, 0, rfl, ?_⟩, fun c hc => ?_⟩
  · have : i = 0 := by simpa using hi
    subst this
    simp [go_sem]
  · rw [List.mem_singleton] at hc; subst hc; exact h

theorem range_snoc {l : List Int} {x : Int} (h : ∀ c ∈ l, 0 ≤ c ∧ c < 256) (hx : 0 ≤ x ∧ x < 256) : ∀ c ∈ l ++ [x], 0 ≤ c ∧ c < 256 := by
  intro c hc
  rcases List.mem_append.1 hc with hc | hc
  · exact h c hc
  · rw [List.mem_singleton] at hc; subst hc; exact hx

theorem range_app {l r : List Int} (h : ∀ c ∈ l, 0 ≤ c ∧ c < 256) (hx : ∀ c ∈ r, 0 ≤ c ∧ c < 256) : ∀ c ∈ l ++ r, 0 ≤ c ∧ c < 256 := by
  intro c hc
  rcases List.mem_append.1 hc with hc | hc
  · exact h c hc
  · exact hx c hc


theorem Own.cell {w : World} {B g n cap : Nat} {l : List Int} (h : Own w B (.slice (some ⟨g, 0, none⟩) n cap) l) (hl : l.length = n) (j : Nat) (hj : j < n) : w.cell? ⟨g, j, none⟩ = some (.int .u8 (l.getD j 0)) := by
  subst hl
  rw [World.ownsRow.cellAt h j (by omega)]
  simp [List.getElem?_eq_getElem hj]

theorem Own.frozen {w : World} {B g n cap : Nat} {l : List Int} (h : Own w B (.slice (some ⟨g, 0, none⟩) n cap) l) (hl : l.length = n) (j : Nat) : w.frozen? ⟨g, j, none⟩ = false := by
  subst hl
  exact World.ownsRow.frozenAt h j
theorem Own.stored {w : World} {B g n cap : Nat} {l : List Int} (h : Own w B (.slice (some ⟨g, 0, none⟩) n cap) l) (hl : l.length = n) (j : Nat) (x : Int) : Own (w.setCell ⟨g, j, none⟩ (.int .u8 x)) B (.slice (some ⟨g, 0, none⟩) n cap) (l.set j x) := by
  subst hl
  have := (World.ownsRow.stored h j (.int .u8 x)).1
  unfold Own
  rw [List.length_set, List.map_set]
  exact this

theorem drop_cons (l : List Int) (k : Nat) (h : k < l.length) : l.drop k = l.getD k 0 :: l.drop (k + 1) := by
  rw [List.drop_eq_getElem_cons h, List.getD_eq_getElem?_getD, List.getElem?_eq_getElem h]; rfl
theorem cut_len (l : List Int) (k n : Nat) (h : k + n ≤ l.length) : ((l.drop k).take n).length = n := by
  rw [List.length_take, List.length_drop]; omega
theorem byt_cut {w : World} {b off : Nat} {l : List Int} (hb : Byt w (some ⟨b, off, none⟩) l) (k n : Nat) (h : k + n ≤ l.length) : Byt w (some ⟨b, off + k, none⟩) ((l.drop k).take n) := by
  refine ⟨fun i hi => ⟨b, off + k, rfl, ?_⟩, fun c hc => hb.2 c (List.mem_of_mem_drop (List.mem_of_mem_take hc))⟩
  rw [cut_len l k n h] at hi
  obtain ⟨b', off', e, hc⟩ := hb.1 (k + i) (by omega)
  injection e with e
  injection e with e1 e2 _
  subst e1
  subst e2
  rw [Nat.add_assoc, hc]
  congr 2
  simp [List.getD_eq_getElem?_getD, hi]

theorem take_step (l : List Int) (q k : Nat) (h : q + k < l.length) : (l.drop q).take (k + 1) = (l.drop q).take k ++ [l.getD (q + k) 0] := by
  rw [List.take_succ_eq_append_getElem (by rw [List.length_drop]; omega), List.getElem_drop, List.getD_eq_getElem?_getD, List.getElem?_eq_getElem h]; rfl

/- a row of c zeros over whose front bytes were laid -/
def Row (w : World) (g c : Nat) (l : List Int) : Prop := w.heap[g]? = some (.cells (splice (List.replicate c (Value.int .u8 0)) 0 (l.map (Value.int .u8))).toArray 5 (0, 0))
theorem Row.zero {w : World} {g c : Nat} {l : List Int} (h : Row w g c l) (j : Nat) (hj : l.length ≤ j) (hc : j < c) : w.cell? ⟨g, j, none⟩ = some (.int .u8 0) := by
  rw [cell_of_row w g j _ 5 (0, 0) h]
  have e : (splice (List.replicate c (Value.int .u8 0)) 0 (l.map (Value.int .u8)))[j]? = some (.int .u8 0) := by
    unfold splice
    rw [List.take_zero, List.nil_append, List.getElem?_append_right (by simpa using hj)]
    simp only [List.length_map, Nat.zero_add, List.drop_replicate, List.getElem?_replicate]
    rw [if_pos (by omega)]
  simpa using e

theorem Row.below {B : Nat} {w w' : World} {g c : Nat} {l : List Int} (h : Row w g c l) (hb : Below B w w') (hg : g < B) : Row w' g c l := by
  unfold Row
  rw [hb.block g hg]
  exact h

theorem wp_fit {ops : Array Oper} {rest : List Oper} {o : Oper} {a : Act} {Q : Exit → Act → World → Prop} (s x : Operand) (w : World) (hgd : o.guard = none)
    (hop : o.op = .call { callee := .builtin .append, args := #[s, x], argTypes := #[27, 27] })
    (g c : Nat) (A : Option Addr) (m cap : Nat) (l : List Int) (hs : a.eval s = .slice (some ⟨g, 0, none⟩) 0 c) (hx : a.eval x = .slice A m cap) (hl : l.length = m)
    (hg : w.heap[g]? = some (.cells (madeCells #[.int .u8 0] c) 5)) (hb : Byt w A l) (hcap : A = none → cap = 0) (hc : m ≤ c) (hm : c ≤ 1000000) (B : Nat) (w0 : World) (hb0 : Below B w0 w) (hBg : B ≤ g)
    (h : ∀ w', Row w' g c l → Below B w0 w' → wpList Try.prog ops Q rest (a.put o.dst (.slice (some ⟨g, 0, none⟩) m c)) w') : wpList Try.prog ops Q (o :: rest) a w := by
  refine wpList_plain hgd fun K hK => ?_
  obtain ⟨i, hi, hz, hsz, hy⟩ := info5
  rw [← made_zeros] at hg
  rcases A with _ | ad
  · obtain rfl := hcap rfl
    have hln : l = [] := by
      rcases l with _ | ⟨y, l⟩
      · rfl
      · obtain ⟨b, off, h, _⟩ := hb.1 0 (by simp)
        cases h
    subst hln
    subst hl
    have own : w.ownsRow B 5 1 (.slice (some ⟨g, 0, none⟩) 0 c) 0 [] := ⟨rfl, .inr ⟨g, c, _, rfl, hBg, hg, by omega, by unfold maxLen; omega, by simp, by simp⟩⟩
    have hrun := run_append_owned_none (P := Try.prog) (w := w) B 27 o.type 5 i 1 Try.underlying27 hi _ _ _ own
    unfold Oper.wp
    simp [execOp, hop, resolve, invoke, builtin, hs, hx, hrun, Result.andThen]
    exact hK _ _ (h w (by unfold Row; rw [hg]; simp [splice]) hb0)
  · have hrun := run_append_room (P := Try.prog) w 27 o.type 5 i Try.underlying27 hi g 0 c _ hg ad m cap (l.map (Value.int .u8)) (by simp [hl, hsz])
      (fun j u hj => by
        obtain ⟨ad', e, H⟩ := src_of hb (by
          rcases l with _ | ⟨y, l⟩
          · simp at hj
          · simp)
        injection e with e
        subst e
        exact H j u hj) cells_one (by omega) (by simp [hl]; omega)
    unfold Oper.wp
    simp only [Nat.zero_add, Nat.zero_mul] at hrun
    simp [execOp, hop, resolve, invoke, builtin, hs, hx, hrun, Result.andThen]
    refine hK _ _ (h _ ?_ (below_setRow hb0 hBg _))
    unfold Row
    rw [setRow_heap w g _ _ 5 _ hg]
    simp [splice]


theorem below_go {w5 W W' : World} (h : Below w5.heap.size w5 W) (k : Below W.heap.size W W') : Below w5.heap.size w5 W' := h.trans (k.mono h.size)
theorem below_drewN (B : Nat) (w : World) (n : Nat) : Below B w (w.drewN n) := ⟨rfl, rfl, rfl, Nat.le_refl _, fun _ _ => rfl⟩
end Go.Proofs.Ytmooblbnkjaenaa
