/- Bytes of the call's own: making, copying and appending to them, and what they are as a string. -/
import Derived.Test.YtclbhnmgpljboaaProg
import Derived.WalkKit
import Derived.WalkLawsBesides
import Derived.Lib.Hide
import Derived.Deep.LoopGhost
import Derived.Below
import Derived.KernelRfl
import Derived.Laws.AppendOwnNone
import Derived.Laws.BytesArg
import Derived.Laws.CopyOwn
import Derived.Laws.OwnMore
import Derived.Lib.AppendStr
import Derived.OwnWalk
namespace Go.Proofs.Ytclbhnmgpljboaa
open Go Go.RowKit

/- bytes in memory -/
def Byt (w : World) (a : Option Addr) (l : List Int) : Prop :=
  (∀ i, i < l.length → ∃ b off, a = some ⟨b, off, none⟩ ∧ w.cell? ⟨b, off + i, none⟩ = some (.int .u8 (l.getD i 0))) ∧ ∀ c ∈ l, 0 ≤ c ∧ c < 256
theorem Byt.below {w w' : World} {a : Option Addr} {l : List Int} (hb : Byt w a l) (h : Below w.heap.size w w') : Byt w' a l :=
  ⟨fun i hi => by
    obtain ⟨b, off, ha, hc⟩ := hb.1 i hi
    exact ⟨b, off, ha, (h.cell (p := ⟨b, off + i, none⟩) (World.block_lt_of_cell? _ _ hc)).trans hc⟩, hb.2⟩

/- a slice value that owns just these bytes, in a block from B on -/
def Own (w : World) (B : Nat) (v : Value) (l : List Int) : Prop := w.ownsRow B 5 1 v l.length (l.map (Value.int .u8))
theorem add_plain (b off i : Nat) : (⟨b, off, none⟩ : Addr).add i = ⟨b, off + i, none⟩ := by unfold Addr.add; split <;> simp_all
theorem Own.form {w : World} {B : Nat} {v : Value} {l : List Int} (h : Own w B v l) (hr : ∀ c ∈ l, 0 ≤ c ∧ c < 256) : ∃ A c, v = .slice A l.length c ∧ Byt w A l := by
  rcases h.2 with ⟨rfl, h0⟩ | ⟨g, cap, cur, rfl, _⟩
  · have : l = [] := List.eq_nil_of_length_eq_zero h0
    subst this
    exact ⟨none, 0, rfl, fun i hi => absurd hi (by simp), hr⟩
  · refine ⟨_, _, rfl, fun i hi => ⟨g, 0, rfl, ?_⟩, hr⟩
    have := World.ownsRow.cells h (g := g) rfl i (.int .u8 (l.getD i 0)) (by simp [List.getElem?_eq_getElem hi])
    rwa [add_plain] at this
theorem Own.empty (w : World) : Own (w.alloc (.cells #[] 5)) w.heap.size (.slice (some ⟨w.heap.size, 0, none⟩) 0 0) [] :=
  World.ownsRow_made w #[] 0 (Nat.le_refl _) (by decide) rfl
theorem Own.below {w w' : World} {B : Nat} {v : Value} {l : List Int} (h : Own w B v l) (hb : Below w.heap.size w w') : Own w' B v l := by
  refine ⟨h.1, ?_⟩
  rcases h.2 with h0 | ⟨g, cap, cur, hv, hg, hh, r⟩
  · exact .inl h0
  · refine .inr ⟨g, cap, cur, hv, hg, ?_, r⟩
    rw [hb.block g ?_]
    · exact hh
    · rcases Nat.lt_or_ge g w.heap.size with h1 | h1
      · exact h1
      · rw [Array.getElem?_eq_none h1] at hh; cases hh

theorem info5 : ∃ i, Try.prog.info? 5 = some i ∧ i.zero = some (.int .u8 0) ∧ i.size = 1 ∧ i.bytes = 1 :=
  ⟨(Try.prog.info? 5).get (by kernel_rfl), by kernel_rfl, by kernel_rfl, by kernel_rfl, by kernel_rfl⟩
theorem run_app (w : World) (B : Nat) (ty : TypeId) (v : Value) (xs : List Int) (ho : Own w B v xs) (A : Option Addr) (m c : Nat) (l : List Int) (hm : l.length = m) (hb : Byt w A l) (hc : A = none → c = 0)
    (hlen : xs.length + m ≤ 1000000) (hB : B ≤ w.heap.size) :
    ∃ v' w', (Builtin.append_ #[22, 22] ty #[v, .slice A m c]).run Try.prog w = .ok v' w' ∧ Own w' B v' (xs ++ l) ∧ Below B w w' := by
  obtain ⟨i, hi, hz, hs, hy⟩ := info5
  rcases A with _ | ad
  · obtain rfl := hc rfl
    have hl : l = [] := by
      rcases l with _ | ⟨x, l⟩
      · rfl
      · obtain ⟨b, off, h, _⟩ := hb.1 0 (by simp)
        cases h
    subst hl
    subst hm
    exact ⟨v, w, run_append_owned_none (P := Try.prog) (w := w) B 22 ty 5 i 1 Try.underlying22 hi v _ _ ho, by rw [List.append_nil]; exact ho, Below.refl _ _⟩
  · obtain ⟨v', w', h1, h2, h3, _⟩ := run_append_own (P := Try.prog) w B 22 ty 5 i (.int .u8 0) 1 1 Try.underlying22 hi hz hs hy rfl (by omega) v xs.length (xs.map (Value.int .u8)) ho ad m c (l.map (Value.int .u8))
      (by simp [hm])
      (fun j u hj => by
        have hjl : j < l.length := by
          rcases Nat.lt_or_ge j l.length with h | h
          · exact h
          · rw [List.getElem?_eq_none (by simpa using h)] at hj; cases hj
        obtain ⟨b, off, h, hcell⟩ := hb.1 j hjl
        injection h with h
        subst h
        rw [add_plain, hcell]
        simp [List.getElem?_eq_getElem hjl] at hj
        rw [← hj]
        simp [List.getElem?_eq_getElem hjl])
      (fun u hu => by
        obtain ⟨x, _, rfl⟩ := List.mem_map.1 hu
        rfl)
      (by unfold maxLen; omega) (by omega) hB
    refine ⟨v', w', h1, ?_, (Below.refl _ _).grown h3 hB (fun k hk => (World.ownsRow.lt ho k hk).1)⟩
    have : (xs ++ l).length = xs.length + m := by rw [List.length_append, hm]
    unfold Own
    rw [this, List.map_append]
    exact h2

theorem wp_app {ops : Array Oper} {rest : List Oper} {o : Oper} {a : Act} {Q : Exit → Act → World → Prop} (s x : Operand) (w : World) (hgd : o.guard = none)
    (hop : o.op = .call { callee := .builtin .append, args := #[s, x], argTypes := #[22, 22] })
    (B : Nat) (v : Value) (xs : List Int) (hs : a.eval s = v) (ho : Own w B v xs) (A : Option Addr) (m c : Nat) (l : List Int) (hx : a.eval x = .slice A m c) (hm : l.length = m) (hb : Byt w A l) (hc : A = none → c = 0)
    (hr : ∀ c ∈ xs, 0 ≤ c ∧ c < 256) (k : Nat) (hk : (xs ++ l).length = k) (hlen : k ≤ 1000000) (hB : B ≤ w.heap.size)
    (h : ∀ A' c' w', Own w' B (.slice A' k c') (xs ++ l) → Byt w' A' (xs ++ l) → Below B w w' → wpList Try.prog ops Q rest (a.put o.dst (.slice A' k c')) w') : wpList Try.prog ops Q (o :: rest) a w := by
  refine wpList_plain hgd fun K hK => ?_
  have hlen2 : xs.length + m ≤ 1000000 := by rw [List.length_append] at hk; omega
  obtain ⟨v', w', hrun, h2, h3⟩ := run_app w B o.type v xs ho A m c l hm hb hc hlen2 hB
  obtain ⟨A', c', rfl, hby⟩ := h2.form (fun c hc => by
    rcases List.mem_append.1 hc with h | h
    · exact hr c h
    · exact hb.2 c h)
  rw [hk] at h2 hrun
  unfold Oper.wp
  simp [execOp, hop, resolve, invoke, builtin, hs, hx, hrun, Result.andThen]
  exact hK _ _ (h A' c' w' h2 hby h3)

/- bytes as a string -/
theorem run_str (w : World) (A : Option Addr) (m c : Nat) (l : List Int) (hm : l.length = m) (hb : Byt w A l) : (convert 22 9 (.slice A m c)).run Try.prog w = .ok (.string (strOfNums l)) w := by
  rcases A with _ | ad
  · have hl : l = [] := by
      rcases l with _ | ⟨x, l⟩
      · rfl
      · obtain ⟨b, off, h, _⟩ := hb.1 0 (by simp)
        cases h
    subst hl
    exact run_convert_bytes_nil w 22 5 Try.underlying22 Try.underlying5 m c 9 Try.underlying9
  · rcases l with _ | ⟨x, l⟩
    · subst hm
      rw [run_convert_bytes_string w 22 9 5 _ _ c Try.underlying22 Try.underlying5 Try.underlying9]
      exact run_bytesToString w ad 0 c [] (by simp [loadCells, loadCellsFrom])
    · obtain ⟨b, off, h, _⟩ := hb.1 0 (by simp)
      injection h with h
      subst h
      exact run_convert_bytes_arg w 22 5 Try.underlying22 Try.underlying5 b off m c (x :: l) hm (fun i hi => by
        obtain ⟨b', off', h, hc⟩ := hb.1 i (by omega)
        cases h
        exact hc) 9 Try.underlying9

/- a string's bytes -/
def txt (s : ByteArray) : List Int := s.data.toList.map fun b => (b.toNat : Int)
theorem txt_length (s : ByteArray) : (txt s).length = s.size := by rw [txt, List.length_map, Array.length_toList]; rfl
theorem txt_range (s : ByteArray) : ∀ c ∈ txt s, 0 ≤ c ∧ c < 256 := by
  intro c hc
  obtain ⟨b, _, rfl⟩ := List.mem_map.1 hc
  have := b.toNat_lt
  omega
theorem strCells_txt (s : ByteArray) : Lib.strCells s = (txt s).map (Value.int .u8) := by
  unfold Lib.strCells txt
  rw [List.map_map]; rfl
theorem str_txt (s : ByteArray) : strOfNums (txt s) = s := by
  rcases s with ⟨d⟩
  unfold strOfNums txt
  rw [List.map_map]
  congr 1
  rw [show ((fun n : Int => UInt8.ofNat n.toNat) ∘ fun b : UInt8 => (b.toNat : Int)) = id by funext b; simp]
  simp
theorem txt_str (l : List Int) (h : ∀ c ∈ l, 0 ≤ c ∧ c < 256) : txt (strOfNums l) = l := by
  unfold strOfNums txt
  simp only [List.map_map]
  conv => rhs; rw [← List.map_id l]
  refine List.map_congr_left fun c hc => ?_
  have := h c hc
  simp
  omega
theorem wp_appstr {ops : Array Oper} {rest : List Oper} {o : Oper} {a : Act} {Q : Exit → Act → World → Prop} (s x : Operand) (w : World) (hgd : o.guard = none)
    (hop : o.op = .call { callee := .builtin .append, args := #[s, x], argTypes := #[22, 9] })
    (B : Nat) (v : Value) (xs : List Int) (hs : a.eval s = v) (ho : Own w B v xs) (t : ByteArray) (hx : a.eval x = .string t)
    (hr : ∀ c ∈ xs, 0 ≤ c ∧ c < 256) (k : Nat) (hk : (xs ++ txt t).length = k) (hlen : k ≤ 1000000) (hB : B ≤ w.heap.size)
    (h : ∀ A' c' w', Own w' B (.slice A' k c') (xs ++ txt t) → Byt w' A' (xs ++ txt t) → Below B w w' → wpList Try.prog ops Q rest (a.put o.dst (.slice A' k c')) w') : wpList Try.prog ops Q (o :: rest) a w := by
  obtain ⟨i, hi, hz, hsz, hy⟩ := info5
  have hl : xs.length + t.size = k := by rw [← hk, List.length_append, txt_length]
  refine Lib.wpList_append_own_string w hgd s x 22 9 hop B 5 i Try.underlying22 Try.underlying9 hi hz hsz hy v xs.length (xs.map (Value.int .u8)) hs ho t hx (by unfold maxLen; omega) (by omega) hB ?_
  intro v' w' h2 h3 _
  have h2' : Own w' B v' (xs ++ txt t) := by
    unfold Own
    rw [List.length_append, txt_length, List.map_append, ← strCells_txt]
    exact h2
  obtain ⟨A', c', rfl, hby⟩ := h2'.form (fun c hc => by
    rcases List.mem_append.1 hc with h | h
    · exact hr c h
    · exact txt_range t c h)
  rw [hk] at h2' ⊢
  exact h A' c' w' h2' hby ((Below.refl _ _).grown h3 hB (fun k hk => (World.ownsRow.lt ho k hk).1))

/- a row of its own, of which so many cells are zeros, then a copy of other bytes -/
theorem Own.made (w' : World) (g n c : Nat) (B : Nat) (hB : B ≤ g) (l : List Int) (hl : l.length = n) (hc : n ≤ c) (hm : c ≤ 1000000)
    (h : w'.heap[g]? = some (.cells (splice (List.replicate c (Value.int .u8 0)) 0 (l.map (Value.int .u8))).toArray 5 (0, 0))) : Own w' B (.slice (some ⟨g, 0, none⟩) n c) l := by
  refine ⟨by simp, .inr ⟨g, c, _, by rw [hl], hB, h, by omega, by unfold maxLen; omega, ?_, ?_⟩⟩
  · have := length_splice (List.replicate c (Value.int .u8 0)) 0 (l.map (Value.int .u8)) (by simp; omega)
    simp only [List.length_replicate] at this
    simp only [List.size_toArray, this]; omega
  · simp [splice]
end Go.Proofs.Ytclbhnmgpljboaa
