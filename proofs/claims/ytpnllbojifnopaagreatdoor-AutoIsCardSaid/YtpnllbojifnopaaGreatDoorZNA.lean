/- Contracts, joined: DmA, DmB, DmC, DmD, DmG. -/
import Derived.Test.YtpnllbojifnopaaGreatDoorZDnA
import Derived.Test.YtpnllbojifnopaaGreatDoorZMB
import Derived.Laws.MakeOwn
import Derived.Laws.AppendOwnNone
import Derived.Maps.AppendAt
import Derived.Test.YtpnllbojifnopaaGreatDoorZMG
import Derived.BigRegion
import Derived.Deep.DeepCutAuto
import Derived.Test.YtpnllbojifnopaaGreatDoorZMLV
import Derived.Test.YtpnllbojifnopaaGreatDoorZPdRHo
namespace Go.Proofs.YtpnllbojifnopaaGreatDoor
open Go Go.RowKit Go.Maps Pk Rl
set_option maxRecDepth 20000
def rowV (N : Nat) (x : Nat × Nat) : Value := .slice (some ⟨x.1, 0, none⟩) N x.2
def rowVs (N : Nat) (r : List (Nat × Nat)) : List Value := r.map (rowV N)
structure Brow (w : World) (B N : Nat) (x : Nat × Nat) (f : Nat → Bool) : Prop where
  big : B ≤ x.1
  cap : N ≤ x.2
  ex : ∃ cur, w.heap[x.1]? = some (.cells cur 4 (0, 0)) ∧ cur.size = x.2 ∧ ∀ j, j < N → cur[j]? = some (.bool (f j))
theorem Brow.same {w w' : World} {B N : Nat} {x : Nat × Nat} {f : Nat → Bool} (h : Brow w B N x f) (e : w'.heap[x.1]? = w.heap[x.1]?) : Brow w' B N x f := by
  obtain ⟨cur, h1, h2, h3⟩ := h.ex
  exact ⟨h.big, h.cap, cur, by rw [e]; exact h1, h2, h3⟩
theorem Brow.lt {w : World} {B N : Nat} {x : Nat × Nat} {f : Nat → Bool} (h : Brow w B N x f) : x.1 < w.heap.size := by
  obtain ⟨cur, h1, _⟩ := h.ex
  exact (Array.getElem?_eq_some_iff.1 h1).1
theorem Brow.congr {w : World} {B N : Nat} {x : Nat × Nat} {f g : Nat → Bool} (h : Brow w B N x f) (e : ∀ j, j < N → f j = g j) : Brow w B N x g := by
  obtain ⟨cur, h1, h2, h3⟩ := h.ex
  exact ⟨h.big, h.cap, cur, h1, h2, fun j hj => by rw [h3 j hj, e j hj]⟩
theorem Brow.cell {w : World} {B N : Nat} {x : Nat × Nat} {f : Nat → Bool} (h : Brow w B N x f) (j : Nat) (hj : j < N) : w.cell? ⟨x.1, j, none⟩ = some (.bool (f j)) := by
  obtain ⟨cur, h1, _, h3⟩ := h.ex
  rw [cell_of_row w x.1 j _ _ _ h1]
  exact h3 j hj
theorem Brow.free {w : World} {B N : Nat} {x : Nat × Nat} {f : Nat → Bool} (h : Brow w B N x f) (j : Nat) : w.frozen? ⟨x.1, j, none⟩ = false := by
  obtain ⟨cur, h1, _⟩ := h.ex
  simp [World.frozen?, h1]
theorem Brow.set {w : World} {B N : Nat} {x : Nat × Nat} {f : Nat → Bool} (h : Brow w B N x f) (j : Nat) (hj : j < N) (b : Bool) : Brow (w.setCell ⟨x.1, j, none⟩ (.bool b)) B N x (fun k => if k = j then b else f k) := by
  obtain ⟨cur, h1, h2, h3⟩ := h.ex
  refine ⟨h.big, h.cap, cur.set! j (.bool b), heap_setCell_same w x.1 j _ _ _ h1, by rw [Array.size_set!]; exact h2, fun k hk => ?_⟩
  have hc := h.cap
  by_cases e : k = j
  · subst e
    rw [if_pos rfl]
    simp [Array.set!_eq_setIfInBounds, Array.getElem?_setIfInBounds]
    rw [h2]
    omega
  · rw [if_neg e, ← h3 k hk]
    simp [Array.set!_eq_setIfInBounds, Array.getElem?_setIfInBounds]
    intro e2
    exact absurd e2.symm e
def MtP (w : World) (B : Nat) (v : Value) (n N : Nat) (f : Rl2) : Prop :=
  ∃ r : List (Nat × Nat), r.length = n ∧ w.ownsRow B 66 1 v n (rowVs N r) ∧ (∀ i, i < n → Brow w B N (r.getD i (0, 0)) (f i)) ∧ ∀ i j, i < n → j < n → (r.getD i (0, 0)).1 = (r.getD j (0, 0)).1 → i = j
abbrev Mt2 (w : World) (B : Nat) (v : Value) (N : Nat) (f : Rl2) : Prop := MtP w B v N N f
theorem MtP.congr {w : World} {B : Nat} {v : Value} {n N : Nat} {f g : Rl2} (h : MtP w B v n N f) (e : ∀ i j, i < n → j < N → f i j = g i j) : MtP w B v n N g := by
  obtain ⟨r, h1, h2, h3, h4⟩ := h
  exact ⟨r, h1, h2, fun i hi => (h3 i hi).congr fun j hj => e i j hi hj, h4⟩
theorem rowB_below {w w' : World} {B n : Nat} {v : Value} {cs : List Value} (h : w.ownsRow B 66 1 v n cs) (hb : Below w.heap.size w w') : w'.ownsRow B 66 1 v n cs := by
  refine ⟨h.1, ?_⟩
  rcases h.2 with h0 | ⟨g, cap, cur, hv, hg, hh, r⟩
  · exact .inl h0
  · exact .inr ⟨g, cap, cur, hv, hg, by rw [hb.block g (Array.getElem?_eq_some_iff.1 hh).1]; exact hh, r⟩
theorem MtP.below {w w' : World} {B : Nat} {v : Value} {n N : Nat} {f : Rl2} (h : MtP w B v n N f) (hb : Below w.heap.size w w') : MtP w' B v n N f := by
  obtain ⟨r, h1, h2, h3, h4⟩ := h
  exact ⟨r, h1, rowB_below h2 hb, fun i hi => (h3 i hi).same (hb.block _ (h3 i hi).lt), h4⟩
theorem MtP.base {w : World} {B B' : Nat} {v : Value} {n N : Nat} {f : Rl2} (h : MtP w B v n N f) (hB : B' ≤ B) : MtP w B' v n N f := by
  obtain ⟨r, h1, h2, h3, h4⟩ := h
  refine ⟨r, h1, ⟨h2.1, ?_⟩, fun i hi => ?_, h4⟩
  · rcases h2.2 with h0 | ⟨g, cap, cur, hv, hg, hh, t⟩
    · exact .inl h0
    · exact .inr ⟨g, cap, cur, hv, Nat.le_trans hB hg, hh, t⟩
  · obtain ⟨b1, b2, b3⟩ := h3 i hi
    exact ⟨Nat.le_trans hB b1, b2, b3⟩
theorem MtP.nil (w : World) (B N : Nat) (f : Rl2) (h : B ≤ w.heap.size) : MtP (w.alloc (.cells #[] 66 (0, 0))) B (.slice (some ⟨w.heap.size, 0, none⟩) 0 0) 0 N f :=
  ⟨[], rfl, ⟨rfl, .inr ⟨w.heap.size, 0, #[], rfl, h, heap_alloc_new w _, by omega, by unfold maxLen; omega, rfl, rfl⟩⟩, fun i hi => absurd hi (by omega), fun i _ hi => absurd hi (by omega)⟩
theorem rowVs_get (N : Nat) (r : List (Nat × Nat)) (i : Nat) (h : i < r.length) : (rowVs N r)[i]? = some (rowV N (r.getD i (0, 0))) := by
  unfold rowVs
  rw [List.getElem?_map, List.getD_eq_getElem?_getD, List.getElem?_eq_getElem h]; rfl
structure Mtx (w : World) (A : Option Addr) (n N : Nat) (f : Rl2) : Prop where
  row : ∀ i, i < n → ∃ b rb cap, A = some ⟨b, 0, none⟩ ∧ w.cell? ⟨b, i, none⟩ = some (.slice (some ⟨rb, 0, none⟩) N cap) ∧ ∀ j, j < N → w.cell? ⟨rb, j, none⟩ = some (.bool (f i j))
theorem Mtx.below {w w' : World} {A : Option Addr} {n N : Nat} {f : Rl2} (h : Mtx w A n N f) (hb : Below w.heap.size w w') : Mtx w' A n N f := ⟨fun i hi => by
  obtain ⟨b, rb, cap, e, h1, h2⟩ := h.row i hi
  exact ⟨b, rb, cap, e, by rw [hb.cell (World.block_lt_of_cell? _ _ h1)]; exact h1, fun j hj => by rw [hb.cell (World.block_lt_of_cell? _ _ (h2 j hj))]; exact h2 j hj⟩⟩
theorem MtP.form {w : World} {B : Nat} {v : Value} {n N : Nat} {f : Rl2} (h : MtP w B v n N f) : ∃ A c, v = .slice A n c ∧ Mtx w A n N f := by
  obtain ⟨r, h1, h2, h3, h4⟩ := h
  rcases h2.2 with ⟨rfl, h0⟩ | ⟨g, cap, cur, rfl, hg, hh, _⟩
  · subst h0
    exact ⟨none, 0, rfl, ⟨fun i hi => absurd hi (by omega)⟩⟩
  · refine ⟨_, _, rfl, ⟨fun i hi => ?_⟩⟩
    have := World.ownsRow.cells h2 (g := g) rfl i _ (rowVs_get N r i (by omega))
    rw [add_plain, Nat.zero_add] at this
    exact ⟨g, _, _, rfl, this, fun j hj => (h3 i hi).cell j hj⟩
theorem MtP.at {w : World} {B : Nat} {A : Option Addr} {c n N : Nat} {f : Rl2} (h : MtP w B (.slice A n c) n N f) (i : Nat) (hi : i < n) : ∃ b rb cap, A = some ⟨b, 0, none⟩ ∧ w.cell? ⟨b, i, none⟩ = some (.slice (some ⟨rb, 0, none⟩) N cap) ∧ b < w.heap.size ∧ rb < w.heap.size ∧ B ≤ rb ∧ (∀ j, w.frozen? ⟨rb, j, none⟩ = false) ∧ (∀ j, j < N → w.cell? ⟨rb, j, none⟩ = some (.bool (f i j))) ∧
    ∀ j x, j < N → MtP (w.setCell ⟨rb, j, none⟩ (.bool x)) B (.slice A n c) n N (fun a b => if a = i ∧ b = j then x else f a b) := by
  obtain ⟨r, h1, h2, h3, h4⟩ := h
  have hr := h3 i hi
  rcases h2.2 with ⟨e, h0⟩ | ⟨g, cap, cur, e, hg, hh, t⟩
  · injection e with _ e _; omega
  · injection e with e1 e2 e3
    subst e1
    have hc := World.ownsRow.cells h2 (g := g) rfl i _ (rowVs_get N r i (by omega))
    rw [add_plain, Nat.zero_add] at hc
    have hne : g ≠ (r.getD i (0, 0)).1 := fun e => by
      obtain ⟨cur', k1, _⟩ := hr.ex
      rw [← e, hh] at k1
      injection k1 with k1
      injection k1 with _ k1 _
      exact absurd k1 (by decide)
    refine ⟨g, (r.getD i (0, 0)).1, (r.getD i (0, 0)).2, rfl, hc, (Array.getElem?_eq_some_iff.1 hh).1, hr.lt, hr.big, hr.free, fun j hj => hr.cell j hj, fun j x hj => ⟨r, h1, ⟨h2.1, .inr ⟨g, cap, cur, by rw [← e2, ← e3], hg, ?_, t⟩⟩, fun k hk => ?_, h4⟩⟩
    · rw [heap_setCell_other w ⟨_, j, none⟩ g _ hne]; exact hh
    · by_cases e : k = i
      · subst e
        exact (hr.set j hj x).congr fun m hm => by simp
      · refine ((h3 k hk).same (heap_setCell_other w ⟨_, j, none⟩ _ _ fun e2 => e (h4 k i hk hi e2))).congr fun m hm => ?_
        show f k m = if k = i ∧ m = j then x else f k m
        rw [if_neg (fun c => e c.1)]
theorem infoBr : ∃ i z, Tryz.prog.info? 66 = some i ∧ i.zero = some z ∧ i.size = 1 ∧ i.bytes = 24 ∧ z.cells.size = 1 :=
  ⟨(Tryz.prog.info? 66).get (by kernel_rfl), .slice none 0 0, by kernel_rfl, by kernel_rfl, by kernel_rfl, by kernel_rfl, rfl⟩
theorem rowVs_app (N : Nat) (r q : List (Nat × Nat)) : rowVs N (r ++ q) = rowVs N r ++ rowVs N q := by unfold rowVs; rw [List.map_append]
theorem prD_app (r : List (Nat × Nat)) (x : Nat × Nat) (i : Nat) (h : i < r.length) : (r ++ [x]).getD i (0, 0) = r.getD i (0, 0) := by
  simp [List.getD_eq_getElem?_getD, List.getElem?_append_left h]
theorem prD_last (r : List (Nat × Nat)) (x : Nat × Nat) : (r ++ [x]).getD r.length (0, 0) = x := by simp [List.getD_eq_getElem?_getD]
theorem wp_appBr {ops : Array Oper} {rest : List Oper} {o : Oper} {a : Act} {Q : Exit → Act → World → Prop} (s x : Operand) (w : World) (hgd : o.guard = none)
    (hop : o.op = .call { callee := .builtin .append, args := #[s, x], argTypes := #[64, 64] })
    (B : Nat) (v : Value) (n N : Nat) (f : Rl2) (hs : a.eval s = v) (w0 : World) (ho : MtP w0 B v n N f) (hb0 : Below w0.heap.size w0 w) (b : Nat) (hx : a.eval x = .slice (some ⟨b, 0, none⟩) 1 1) (rb cap : Nat) (hc : w.cell? ⟨b, 0, none⟩ = some (.slice (some ⟨rb, 0, none⟩) N cap)) (hr : Brow w B N (rb, cap) (f n)) (hrb : w0.heap.size ≤ rb)
    (hlen : n ≤ 100000) (hB : B ≤ w.heap.size) (k : Nat) (hk : n + 1 = k)
    (h : ∀ A' c' w', MtP w' B (.slice A' k c') k N f → Below B w w' → wpList Tryz.prog ops Q rest (a.put o.dst (.slice A' k c')) w') : wpList Tryz.prog ops Q (o :: rest) a w := by
  refine wpList_plain hgd fun K hK => ?_
  have hrl : ∀ r : List (Nat × Nat), (∀ i, i < n → Brow w0 B N (r.getD i (0, 0)) (f i)) → ∀ i, i < n → (r.getD i (0, 0)).1 < rb := fun r h3 i hi => Nat.lt_of_lt_of_le (h3 i hi).lt hrb
  obtain ⟨r, h1, h2', h3', h4⟩ := ho
  have h2 := rowB_below h2' hb0
  have h3 : ∀ i, i < n → Brow w B N (r.getD i (0, 0)) (f i) := fun i hi => (h3' i hi).same (hb0.block _ (h3' i hi).lt)
  have h5 := hrl r h3'
  obtain ⟨i, z, hi, hz, hsz, hy, hzs⟩ := infoBr
  obtain ⟨v', w', hrun, r2, r3, _, _⟩ := run_append_own_at (P := Tryz.prog) w B 64 o.type 66 i z 1 24 Tryz.underlying64 hi hz hsz hy hzs (by omega) v n (rowVs N r) h2 ⟨b, 0, none⟩ 1 1 [rowV N (rb, cap)] rfl
    (fun j u hj => by
      rw [add_plain, Nat.zero_add]
      rcases j with _ | j
      · rw [hc]; simpa [rowV] using hj
      · simp at hj)
    (fun u hu => by rw [List.mem_singleton] at hu; subst hu; rfl) (by unfold maxLen; omega) (by omega) hB
  have hblk : ∀ y g, Brow w B N y g → Brow w' B N y g := fun y g hy => hy.same (r3.block y.1 hy.lt (fun e => by
    obtain ⟨cur', k1, _⟩ := hy.ex
    rcases h2.2 with ⟨rfl, _⟩ | ⟨g', cap', cur, rfl, _, hh, _⟩
    · cases e
    · injection e with e
      have e : y.1 = g' := e
      rw [e, hh] at k1
      injection k1 with k1
      injection k1 with _ k1 _
      exact absurd k1 (by decide)))
  have hO : MtP w' B v' k N f := by
    subst hk
    refine ⟨r ++ [(rb, cap)], by rw [List.length_append, h1]; rfl, by rw [rowVs_app]; exact r2, fun i hi => ?_, fun i j hi hj e => ?_⟩
    · by_cases c : i < n
      · rw [prD_app r _ i (by omega)]; exact hblk _ _ (h3 i c)
      · obtain rfl : i = n := by omega
        rw [← h1, prD_last, h1]; exact hblk _ _ hr
    · by_cases c : i < n
      · rw [prD_app r _ i (by omega)] at e
        by_cases d : j < n
        · rw [prD_app r _ j (by omega)] at e; exact h4 i j c d e
        · obtain rfl : j = n := by omega
          have hl := prD_last r (rb, cap)
          rw [h1] at hl
          rw [hl] at e
          have := h5 i c
          simp only at e; omega
      · obtain rfl : i = n := by omega
        have hl := prD_last r (rb, cap)
        rw [h1] at hl
        rw [hl] at e
        by_cases d : j < i
        · rw [prD_app r _ j (by omega)] at e
          have := h5 j d
          simp only at e; omega
        · omega
  obtain ⟨A', c', rfl, _⟩ := hO.form
  unfold Oper.wp
  simp [execOp, hop, resolve, invoke, builtin, hs, hx, hrun, Result.andThen]
  exact hK _ _ (h A' c' w' hO ((Below.refl _ _).grown r3 hB (fun k hk => (World.ownsRow.lt h2 k hk).1)))
end Go.Proofs.YtpnllbojifnopaaGreatDoor
namespace Go.Proofs.YtpnllbojifnopaaGreatDoor
open Go Go.RowKit Go.Maps Pk Rl
set_option maxRecDepth 20000
theorem Brow.made (w : World) (B N : Nat) (h : B ≤ w.heap.size) : Brow (w.alloc (.cells (madeCells #[.bool false] N) 4)) B N (w.heap.size, N) (fun _ => false) :=
  ⟨h, Nat.le_refl _, _, heap_alloc_new w _, by simp [madeCells], fun j hj => by simp [madeCells, Nat.mod_one, hj]⟩
set_option maxHeartbeats 1000000 in
theorem rnoneR_any (N : Nat) (w : World) (hN : N ≤ 1000) : Calls Tryz.prog 62 #[.int .i64 (N : Int)] w fun e w' => (∃ A c, e = .returned (.slice A N c) ∧ Mt2 w' w.heap.size (.slice A N c) N (fun _ _ => false)) ∧ Below w.heap.size w w' := by
  have MK := Lib.hid (fun W => run_mkb W N (by omega) (N : Int) rfl)
  have L0 := Lib.hid (MtP.nil w w.heap.size N (fun _ _ => false) (Nat.le_refl _))
  have B0 := Lib.hid (bal w (.cells #[] 66 (0, 0)))
  go_enter Tryz.func62, Tryz.ntmps62
  go_wp2_with fail
  go_loopw [3, 4] (fun v i W => ∃ (k : Nat) (A : Option Addr) (c : Nat), k ≤ N ∧ i = .int .i64 (k : Int) ∧ v = .slice A k c ∧ Hid (MtP W w.heap.size (.slice A k c) k N (fun _ _ => false) ∧ Below w.heap.size w W)) (fun _ i _ => N - (intOf i).toNat)
  case atStart => exact ⟨0, _, _, Nat.zero_le _, rfl, rfl, Lib.hid ⟨L0.out, B0.out⟩⟩
  case round =>
    obtain ⟨k, A, c, hk, rfl, rfl, I⟩ := hrel
    by_cases hlt : k < N
    · have hlt2 : (k : Int) < (N : Int) := by omega
      have mk := MK.out wr
      have b1 := bal wr (.cells (madeCells #[.bool false] N) 4)
      have R1 := Lib.hid (Brow.made wr w.heap.size N I.out.2.size)
      have b2 := bal (wr.alloc (.cells (madeCells #[.bool false] N) 4)) (.cells #[.slice (some ⟨wr.heap.size, 0, none⟩) N N] 66 (0, 0))
      have B2 := Lib.hid (below_go b1 b2)
      have B3 := Lib.hid (below_go I.out.2 B2.out)
      have R2 := Lib.hid (R1.out.same (b2.block _ (by rw [World.size_alloc]; exact Nat.lt_succ_self _)))
      clear b1 b2 R1
      go_wp2_with (at_builtin; refine wp_appBr (.tmp 11) (.tmp 14) _ rfl rfl w.heap.size _ k N (fun _ _ => false) rfl wr I.out.1 B2.out _ rfl wr.heap.size N (by simp [go_sem]) R2.out (Nat.le_refl _) (by omega) B3.out.size (k + 1) rfl ?_; intro A8 c8 w8 hO hb8; have M8 : Hid (MtP w8 w.heap.size (.slice A8 (k + 1) c8) (k + 1) N (fun _ _ => false) ∧ Below w.heap.size w w8) := Lib.hid ⟨hO, B3.out.trans hb8⟩; clear hO hb8)
      exact ⟨⟨k + 1, A8, c8, by omega, by go_num, rfl, M8⟩, by simp [intOf]; omega⟩
    · obtain rfl : k = N := by omega
      go_wp2_with fail
      go_ret
      exact ⟨⟨A, c, rfl, I.out.1⟩, I.out.2⟩
end Go.Proofs.YtpnllbojifnopaaGreatDoor
namespace Go.Proofs.YtpnllbojifnopaaGreatDoor
open Go Go.RowKit Go.Maps Pk Rl
set_option maxRecDepth 20000
def tk (a b : Rl2) (k i j : Nat) : Bool := (List.range k).any fun m => a i m && b m j
theorem tk_zero (a b : Rl2) (i j : Nat) : tk a b 0 i j = false := rfl
theorem tk_succ (a b : Rl2) (k i j : Nat) : tk a b (k + 1) i j = (tk a b k i j || (a i k && b k j)) := by
  unfold tk; rw [List.range_succ, List.any_append]; simp
def st1 (a b : Rl2) (N i : Nat) : Rl2 := fun x y => decide (x < i) && tk a b N x y
def st2 (a b : Rl2) (N i k : Nat) : Rl2 := fun x y => if x = i then tk a b k x y else st1 a b N i x y
def st3 (a b : Rl2) (N i k j : Nat) : Rl2 := fun x y => if x = i ∧ y < j then tk a b (k + 1) x y else st2 a b N i k x y
theorem st_a (a b : Rl2) (N i : Nat) : st2 a b N i 0 = st1 a b N i := by
  funext x y
  unfold st2
  by_cases h : x = i
  · rw [if_pos h, tk_zero]; unfold st1; rw [decide_eq_false (by omega)]; rfl
  · rw [if_neg h]
theorem st_b (a b : Rl2) (N i : Nat) : st2 a b N i N = st1 a b N (i + 1) := by
  funext x y
  unfold st2 st1
  by_cases h : x = i
  · rw [if_pos h, decide_eq_true (by omega)]; rfl
  · rw [if_neg h]
    congr 1
    rw [decide_eq_decide]; omega
theorem st_c (a b : Rl2) (N i k : Nat) : st3 a b N i k 0 = st2 a b N i k := by
  funext x y
  unfold st3
  rw [if_neg (by omega)]
theorem st_d (a b : Rl2) (N i k : Nat) : ∀ x y, x < N → y < N → st3 a b N i k N x y = st2 a b N i (k + 1) x y := by
  intro x y _ hy
  unfold st3 st2
  by_cases h : x = i
  · rw [if_pos ⟨h, hy⟩, if_pos h]
  · rw [if_neg (fun c => h c.1), if_neg h, if_neg h]
theorem st_skip (a b : Rl2) (N i k : Nat) (h : a i k = false) : st2 a b N i (k + 1) = st2 a b N i k := by
  funext x y
  unfold st2
  by_cases c : x = i
  · rw [if_pos c, if_pos c, tk_succ, c, h]; simp
  · rw [if_neg c, if_neg c]
theorem st_set (a b : Rl2) (N i k j : Nat) (h : a i k = true) (hb : b k j = true) : ∀ x y, (if x = i ∧ y = j then true else st3 a b N i k j x y) = st3 a b N i k (j + 1) x y := by
  intro x y
  by_cases c : x = i ∧ y = j
  · rw [if_pos c]
    unfold st3
    rw [if_pos ⟨c.1, by omega⟩, tk_succ, c.1, c.2, h, hb]; simp
  · rw [if_neg c]
    unfold st3
    by_cases d : x = i ∧ y < j
    · rw [if_pos d, if_pos ⟨d.1, by omega⟩]
    · rw [if_neg d, if_neg (by omega)]
theorem st_keep (a b : Rl2) (N i k j : Nat) (hb : b k j = false) : st3 a b N i k j = st3 a b N i k (j + 1) := by
  funext x y
  unfold st3
  by_cases d : x = i ∧ y < j
  · rw [if_pos d, if_pos ⟨d.1, by omega⟩]
  · rw [if_neg d]
    by_cases e : x = i ∧ y < j + 1
    · rw [if_pos e]
      have : y = j := by omega
      rw [tk_succ, this, hb]
      unfold st2
      rw [if_pos e.1]; simp
    · rw [if_neg e]
theorem st_end (a b : Rl2) (N : Nat) : ∀ x y, x < N → y < N → st1 a b N N x y = thn N a b x y := by
  intro x y hx _
  unfold st1
  rw [decide_eq_true hx]; rfl
theorem st_start (a b : Rl2) (N : Nat) : st1 a b N 0 = fun _ _ => false := by
  funext x y
  unfold st1
  rw [decide_eq_false (by omega)]; rfl
set_option maxHeartbeats 4000000 in
theorem rthen_any (aA : Option Addr) (aC : Nat) (a : Rl2) (bA : Option Addr) (bC : Nat) (b : Rl2) (N : Nat) (w : World) (ha : Mtx w aA N N a) (hb : Mtx w bA N N b) (hN : N ≤ 1000) :
    Calls Tryz.prog 65 #[.slice aA N aC, .slice bA N bC] w fun e w' => (∃ A c, e = .returned (.slice A N c) ∧ Mt2 w' w.heap.size (.slice A N c) N (thn N a b)) ∧ Below w.heap.size w w' := by
  have HA := Lib.hid ha
  have HB := Lib.hid hb
  have C0 := Lib.hid (rnoneR_any N w hN)
  have SA := Lib.hid (st_a a b N)
  have SB := Lib.hid (st_b a b N)
  have SC := Lib.hid (st_c a b N)
  have SD := Lib.hid (st_d a b N)
  have SK := Lib.hid (st_skip a b N)
  have SS := Lib.hid (st_set a b N)
  have SP := Lib.hid (st_keep a b N)
  have SE := Lib.hid (st_end a b N)
  have S0 := Lib.hid (st_start a b N)
  clear ha hb
  go_enter Tryz.func65, Tryz.ntmps65
  go_wp2_with fail
  refine C0.out.mono ?_
  rintro e w1 ⟨⟨A, c, rfl, hM⟩, hb⟩
  rw [← S0.out] at hM
  have M1 := Lib.hid hM
  have B1 := Lib.hid hb
  clear hM hb C0
  go_wp2_with fail
  go_loopw [14] (fun t W => ∃ i : Nat, i ≤ N ∧ t = .int .i64 (i : Int) ∧ Hid (Mt2 W w.heap.size (.slice A N c) N (st1 a b N i) ∧ Below w.heap.size w W)) (fun t _ => N - (intOf t).toNat)
  case atStart => exact ⟨0, Nat.zero_le _, rfl, Lib.hid ⟨M1.out, B1.out⟩⟩
  case round =>
    obtain ⟨i, hi, rfl, I⟩ := hrel
    by_cases hlt : i < N
    · have hlt2 : (i : Int) < (N : Int) := by omega
      rw [← SA.out] at I
      go_wp2_with fail
      go_loopw [19] (fun t W => ∃ k : Nat, k ≤ N ∧ t = .int .i64 (k : Int) ∧ Hid (Mt2 W w.heap.size (.slice A N c) N (st2 a b N i k) ∧ Below w.heap.size w W)) (fun t _ => N - (intOf t).toNat)
      case atStart => exact ⟨0, Nat.zero_le _, rfl, I⟩
      case round =>
        rename World => we
        obtain ⟨k, hk, rfl, J⟩ := hrel
        by_cases hlk : k < N
        · have hlk2 : (k : Int) < (N : Int) := by omega
          obtain ⟨ab, arb, acap, rfl, q1, q2⟩ := (HA.out.below J.out.2).row i hlt
          have q3 := q2 k hlk
          clear q2
          cases haik : a i k
          · rw [haik] at q3
            have J2 := Lib.hid (show Mt2 we w.heap.size (.slice A N c) N (st2 a b N i (k + 1)) ∧ Below w.heap.size w we from ⟨by rw [SK.out i k haik]; exact J.out.1, J.out.2⟩)
            go_wp2_with fail
            exact ⟨⟨k + 1, by omega, by go_num, J2⟩, by simp [intOf]; omega⟩
          · rw [haik] at q3
            have HAT := Lib.hid haik
            rw [← SC.out] at J
            clear haik
            go_wp2_with fail
            clear q1 q3
            go_loopw [32] (fun t W => ∃ j : Nat, j ≤ N ∧ t = .int .i64 (j : Int) ∧ Hid (Mt2 W w.heap.size (.slice A N c) N (st3 a b N i k j) ∧ Below w.heap.size w W)) (fun t _ => N - (intOf t).toNat)
            case atStart => exact ⟨0, Nat.zero_le _, rfl, J⟩
            case round =>
              rename World => wf
              obtain ⟨j, hj, rfl, L⟩ := hrel
              by_cases hlj : j < N
              · have hlj2 : (j : Int) < (N : Int) := by omega
                obtain ⟨bb, brb, bcap, rfl, q1, q2⟩ := (HB.out.below L.out.2).row k hlk
                have q3 := q2 j hlj
                clear q2
                cases hbkj : b k j
                · rw [hbkj] at q3
                  have L2 := Lib.hid (show Mt2 wf w.heap.size (.slice A N c) N (st3 a b N i k (j + 1)) ∧ Below w.heap.size w wf from ⟨by rw [← SP.out i k j hbkj]; exact L.out.1, L.out.2⟩)
                  go_wp2_with fail
                  exact ⟨⟨j + 1, by omega, by go_num, L2⟩, by simp [intOf]; omega⟩
                · rw [hbkj] at q3
                  obtain ⟨g, rb, cap, rfl, p1, p2, p3, p4, p5, p6, p7⟩ := L.out.1.at i hlt
                  have p8 := p5 j
                  have p9 := p6 j hlj
                  have L2 := Lib.hid (show Mt2 (wf.setCell ⟨rb, j, none⟩ (.bool true)) w.heap.size (.slice (some ⟨g, 0, none⟩) N c) N (st3 a b N i k (j + 1)) ∧ Below w.heap.size w (wf.setCell ⟨rb, j, none⟩ (.bool true)) from ⟨(p7 j true hlj).congr (fun x y _ _ => SS.out i k j HAT.out hbkj x y), L.out.2.setCell (p := ⟨rb, j, none⟩) p4 _⟩)
                  clear p5 p6 p7 hbkj
                  go_wp2_with fail
                  exact ⟨⟨j + 1, by omega, by go_num, L2⟩, by simp [intOf]; omega⟩
              · obtain rfl : j = N := by omega
                have L2 := Lib.hid (show Mt2 wf w.heap.size (.slice A j c) j (st2 a b j i (k + 1)) ∧ Below w.heap.size w wf from ⟨L.out.1.congr (fun x y hx hy => SD.out i k x y hx hy), L.out.2⟩)
                go_wp2_with fail
                exact ⟨⟨k + 1, by omega, by go_num, L2⟩, by simp [intOf]; omega⟩
        · obtain rfl : k = N := by omega
          have J2 := Lib.hid (show Mt2 we w.heap.size (.slice A k c) k (st1 a b k (i + 1)) ∧ Below w.heap.size w we from ⟨by rw [← SB.out]; exact J.out.1, J.out.2⟩)
          go_wp2_with fail
          exact ⟨⟨i + 1, by omega, by go_num, J2⟩, by simp [intOf]; omega⟩
    · obtain rfl : i = N := by omega
      go_wp2_with fail
      go_ret
      exact ⟨⟨A, c, rfl, I.out.1.congr (fun x y hx hy => SE.out x y hx hy)⟩, I.out.2⟩
end Go.Proofs.YtpnllbojifnopaaGreatDoor
namespace Go.Proofs.YtpnllbojifnopaaGreatDoor
open Go Go.RowKit Go.Maps Pk Rl
set_option maxRecDepth 20000
abbrev orr (a b : Rl2) : Rl2 := fun i j => a i j || b i j
def so1 (r : Rl2) (i j : Nat) : Rl2 := fun x y => decide (x < i ∨ (x = i ∧ y < j)) && r x y
theorem so_start (r : Rl2) : so1 r 0 0 = fun _ _ => false := by
  funext x y
  unfold so1
  rw [decide_eq_false (by omega)]; rfl
theorem so_set (r : Rl2) (i j : Nat) : ∀ x y, (if x = i ∧ y = j then r i j else so1 r i j x y) = so1 r i (j + 1) x y := by
  intro x y
  unfold so1
  by_cases c : x = i ∧ y = j
  · rw [if_pos c, decide_eq_true (by omega), c.1, c.2]; rfl
  · rw [if_neg c]
    congr 1
    rw [decide_eq_decide]; omega
theorem so_row (r : Rl2) (N i : Nat) : ∀ x y, x < N → y < N → so1 r i N x y = so1 r (i + 1) 0 x y := by
  intro x y _ hy
  unfold so1
  congr 1
  rw [decide_eq_decide]; omega
theorem so_end (r : Rl2) (N : Nat) : ∀ x y, x < N → y < N → so1 r N 0 x y = r x y := by
  intro x y hx _
  unfold so1
  rw [decide_eq_true (by omega)]; rfl
theorem MtP.drew {w : World} {B : Nat} {v : Value} {n N : Nat} {f : Rl2} (h : MtP w B v n N f) : MtP w.drew B v n N f := h.below (Below.refl _ _).drew
set_option maxHeartbeats 4000000 in
theorem ror_any (aA : Option Addr) (aC : Nat) (a : Rl2) (bA : Option Addr) (bC : Nat) (b : Rl2) (N : Nat) (w : World) (ha : Mtx w aA N N a) (hb : Mtx w bA N N b) (hN : N ≤ 1000) :
    Calls Tryz.prog 66 #[.slice aA N aC, .slice bA N bC] w fun e w' => (∃ A c, e = .returned (.slice A N c) ∧ Mt2 w' w.heap.size (.slice A N c) N (orr a b)) ∧ Below w.heap.size w w' := by
  have HA := Lib.hid ha
  have HB := Lib.hid hb
  have C0 := Lib.hid (rnoneR_any N w hN)
  have S0 := Lib.hid (so_start (orr a b))
  have SS := Lib.hid (so_set (orr a b))
  have SR := Lib.hid (so_row (orr a b) N)
  have SE := Lib.hid (so_end (orr a b) N)
  clear ha hb
  go_enter Tryz.func66, Tryz.ntmps66
  go_wp2_with fail
  refine C0.out.mono ?_
  rintro e w1 ⟨⟨A, c, rfl, hM⟩, hb⟩
  rw [← S0.out] at hM
  have M1 := Lib.hid hM
  have B1 := Lib.hid hb
  clear hM hb C0
  go_wp2_with fail
  go_loopw [13] (fun t W => ∃ i : Nat, i ≤ N ∧ t = .int .i64 (i : Int) ∧ Hid (Mt2 W w.heap.size (.slice A N c) N (so1 (orr a b) i 0) ∧ Below w.heap.size w W)) (fun t _ => N - (intOf t).toNat)
  case atStart => exact ⟨0, Nat.zero_le _, rfl, Lib.hid ⟨M1.out, B1.out⟩⟩
  case round =>
    obtain ⟨i, hi, rfl, I⟩ := hrel
    by_cases hlt : i < N
    · have hlt2 : (i : Int) < (N : Int) := by omega
      go_wp2_with fail
      go_loopw [18] (fun t W => ∃ j : Nat, j ≤ N ∧ t = .int .i64 (j : Int) ∧ Hid (Mt2 W w.heap.size (.slice A N c) N (so1 (orr a b) i j) ∧ Below w.heap.size w W)) (fun t _ => N - (intOf t).toNat)
      case atStart => exact ⟨0, Nat.zero_le _, rfl, I⟩
      case round =>
        rename World => we
        obtain ⟨j, hj, rfl, J⟩ := hrel
        by_cases hlj : j < N
        · have hlj2 : (j : Int) < (N : Int) := by omega
          obtain ⟨ab, arb, acap, rfl, q1, q2'⟩ := (HA.out.below J.out.2).row i hlt
          obtain ⟨bb, brb, bcap, rfl, q3, q4'⟩ := (HB.out.below J.out.2).row i hlt
          have q2 := q2' j hlj
          have q4 := q4' j hlj
          obtain ⟨g, rb, cap, rfl, p1, p2, p3, p4, p5, p6, p7⟩ := J.out.1.at i hlt
          have p8 := p5 j
          have p9 := p6 j hlj
          obtain ⟨z, hz⟩ : ∃ z, orr a b i j = z := ⟨_, rfl⟩
          have J2 : Hid (∀ W, W = we.drew → Mt2 (W.setCell ⟨rb, j, none⟩ (.bool z)) w.heap.size (.slice (some ⟨g, 0, none⟩) N c) N (so1 (orr a b) i (j + 1)) ∧ Below w.heap.size w (W.setCell ⟨rb, j, none⟩ (.bool z))) := Lib.hid (fun W hW => by
            obtain ⟨g', rb', cap', e1, r1, _, _, r4, _, _, r7⟩ := J.out.1.drew.at i hlt
            injection e1 with e1
            injection e1 with e1 _ _
            subst e1
            have r1 : we.cell? ⟨g, i, none⟩ = some (.slice (some ⟨rb', 0, none⟩) N cap') := r1
            rw [p1] at r1
            injection r1 with r1
            injection r1 with r1 _ _
            injection r1 with r1
            injection r1 with r1 _ _
            subst r1 hW
            have ss := SS.out i j
            rw [hz] at ss
            exact ⟨(r7 j z hlj).congr (fun x y _ _ => ss x y), J.out.2.drew.setCell (p := ⟨rb, j, none⟩) p4 _⟩)
          clear p5 p6 p7 q2' q4'
          cases haij : a i j
          · rw [haij] at q2
            have hz2 : b i j = z := by rw [← hz]; show _ = (a i j || b i j); rw [haij]; rfl
            rw [hz2] at q4
            clear hz hz2 haij
            go_upto_region 8 with fail
            go_region
            all_goals (go_wp2_with fail; exact ⟨⟨j + 1, by omega, by go_num, Lib.hid (J2.out _ rfl)⟩, by simp [intOf]; omega⟩)
          · rw [haij] at q2
            have hz2 : z = true := by rw [← hz]; show (a i j || b i j) = _; rw [haij]; rfl
            subst hz2
            clear hz haij
            go_upto_region 8 with fail
            go_region
            all_goals (go_wp2_with fail; exact ⟨⟨j + 1, by omega, by go_num, Lib.hid (J2.out _ rfl)⟩, by simp [intOf]; omega⟩)
        · obtain rfl : j = N := by omega
          have J2 := Lib.hid (show Mt2 we w.heap.size (.slice A j c) j (so1 (orr a b) (i + 1) 0) ∧ Below w.heap.size w we from ⟨J.out.1.congr (fun x y hx hy => SR.out i x y hx hy), J.out.2⟩)
          go_wp2_with fail
          exact ⟨⟨i + 1, by omega, by go_num, J2⟩, by simp [intOf]; omega⟩
    · obtain rfl : i = N := by omega
      go_wp2_with fail
      go_ret
      exact ⟨⟨A, c, rfl, I.out.1.congr (fun x y hx hy => SE.out x y hx hy)⟩, I.out.2⟩
end Go.Proofs.YtpnllbojifnopaaGreatDoor
namespace Go.Proofs.YtpnllbojifnopaaGreatDoor
open Go Go.RowKit Go.Maps Pk Rl
set_option maxRecDepth 20000
def ak (g : Nat → Bool) (i k : Nat) : Bool := (List.range k).all fun m => !(decide (i < m) && g m)
theorem ak_start (g : Nat → Bool) (i : Nat) : ak g i (i + 1) = true := by
  unfold ak
  rw [List.all_eq_true]
  intro m hm
  have := List.mem_range.1 hm
  rw [decide_eq_false (by omega)]; rfl
theorem ak_next (g : Nat → Bool) (i k : Nat) (h : i < k) : ak g i (k + 1) = (ak g i k && !g k) := by
  unfold ak
  rw [List.range_succ, List.all_append]
  simp [h]
theorem ak_end (g : Nat → Bool) (i j : Nat) (h : i < j) : gp g i j = ak g i j := by
  unfold gp ak
  rw [decide_eq_true h]; rfl
theorem so_skip (g : Nat → Bool) (i : Nat) : so1 (gp g) i 0 = so1 (gp g) i (i + 1) := by
  funext x y
  unfold so1
  by_cases h : x < i
  · rw [decide_eq_true (.inl h), decide_eq_true (.inl h)]
  · rw [decide_eq_false (by omega)]
    by_cases c : x < i ∨ x = i ∧ y < i + 1
    · have : gp g x y = false := by unfold gp; rw [decide_eq_false (by omega)]; rfl
      rw [this]; simp
    · rw [decide_eq_false c]
abbrev Kg (wr W : World) (h rb ro a : Nat) (y x2 : Bool) (t2 : Int) (a2 : Option Addr) (n2 c2 : Nat) (et : Int) (ea : Option Addr) (en ec : Nat) : Prop :=
  W.cell? ⟨h, 4, none⟩ = some (.bool y) ∧ W.cell? ⟨h, 5, none⟩ = some (.bool x2) ∧ W.cell? ⟨h, 6, none⟩ = some (.int .u8 t2) ∧ W.cell? ⟨h, 7, none⟩ = some (.slice a2 n2 c2) ∧
  W.cell? ⟨rb, ro + a * 5 + 3, none⟩ = some (.int .u8 et) ∧ W.cell? ⟨rb, ro + a * 5 + 4, none⟩ = some (.slice ea en ec) ∧ Hid (Below wr.heap.size wr W)
theorem kg_next {wr W W' : World} {h rb ro a : Nat} {y x2 : Bool} {t2 : Int} {a2 : Option Addr} {n2 c2 : Nat} {et : Int} {ea : Option Addr} {en ec : Nat} (hb : Below W.heap.size W W') (K : Kg wr W h rb ro a y x2 t2 a2 n2 c2 et ea en ec) : Kg wr W' h rb ro a y x2 t2 a2 n2 c2 et ea en ec := by
  have k := Ck.of_below hb
  obtain ⟨h1, h2, h3, h4, h6, h7, h8⟩ := K
  exact ⟨k _ _ _ h1, k _ _ _ h2, k _ _ _ h3, k _ _ _ h4, k _ _ _ h6, k _ _ _ h7, Lib.hid (h8.out.trans (hb.mono h8.out.size))⟩
theorem rholds_at {w : World} {rA : Option Addr} {R : List Lg} (hR : Lr w rA R) (q : Qu) (hq' : Qok w q) (i : Nat) (hi : i < R.length) (hT : Tab w) :
    Calls Tryz.prog 63 #[pv q.x q.t q.a q.n q.c, ev (R.getD i lz).t (R.getD i lz).a (R.getD i lz).n (R.getD i lz).c] w fun e w' => e = .returned (.bool (hq R q i)) ∧ Below w.heap.size w w' := by
  have hl := hR.ok _ (lgetD_mem R i hi)
  exact rphold_any _ _ _ _ _ _ _ _ _ _ _ w hq'.len (by have := hq'.few; omega) hl.len hl.few hq'.row hq'.ok hl.row hl.ok hT
set_option maxHeartbeats 8000000 in
theorem rgap_any (nd : Nd) (rA : Option Addr) (N rC : Nat) (R : List Lg) (w : World) (hN : Nok w nd) (hR : Lr w rA R) (hn : R.length = N) (hm : N ≤ 900) (hT : Tab w) :
    Calls Tryz.prog 64 #[nOf nd, .slice rA N rC] w fun e w' => (∃ A c, e = .returned (.slice A N c) ∧ Mt2 w' w.heap.size (.slice A N c) N (gp (gd (hq R) nd))) ∧ Below w.heap.size w w' := by
  obtain ⟨w1, hw1⟩ : ∃ X, w.alloc (nobj nd) = X := ⟨_, rfl⟩
  have b1 : Below w.heap.size w w1 := hw1 ▸ bal w _
  have B1 := Lib.hid b1
  have at1 : Atn w1 w.heap.size 0 nd := hw1 ▸ Atn.alloc w _
  have AT1 := Lib.hid at1
  have SZ : Hid (w1.heap.size = w.heap.size + 1) := Lib.hid (by rw [← hw1]; simp)
  have R1 := Lib.hid (hR.ck (Ck.of_below b1))
  have C0 := Lib.hid (rnoneR_any N w1 (by omega))
  obtain ⟨r, hr⟩ : ∃ r, gp (gd (hq R) nd) = r := ⟨_, rfl⟩
  have S0 := Lib.hid (so_start r)
  have SS := Lib.hid (so_set r)
  have SR := Lib.hid (so_row r N)
  have SE := Lib.hid (so_end r N)
  have SK : Hid (∀ i, so1 r i 0 = so1 r i (i + 1)) := Lib.hid (by rw [← hr]; exact so_skip _)
  have AE : Hid (∀ i j, i < j → r i j = ak (gd (hq R) nd) i j) := Lib.hid (by rw [← hr]; exact ak_end _)
  have AN := Lib.hid (ak_next (gd (hq R) nd))
  have AS := Lib.hid (ak_start (gd (hq R) nd))
  have GD : Hid (∀ k, gd (hq R) nd k = (nd.y && hq R nd.g k)) := Lib.hid (fun _ => rfl)
  have CH := Lib.hid (fun k (hk : k < N) W (hW : Below w1.heap.size w1 W) => rholds_at (R1.out.ck (Ck.of_below hW)) nd.g ((hN.g.ck (Ck.of_below b1)).ck (Ck.of_below hW)) k (by omega) ((hT.ck (Ck.of_below b1)).ck (Ck.of_below hW)))
  have HN := Lib.hid hn
  rw [hr]
  clear hr b1 at1 hN hR hn hT
  generalize gd (hq R) nd = gg at AE AN AS GD
  obtain ⟨k0, ⟨px, pt, pa, pn, pc, pL⟩, y, ⟨x2, t2, a2, n2, c2, L2⟩, lo, hi, s⟩ := nd
  have RW : Hid (∀ k, k < N → ∃ rb ro, rA = some ⟨rb, ro, none⟩ ∧ Atl w1 rb (ro + k * 5) (R.getD k lz)) := Lib.hid (fun k hk => by
    obtain ⟨b, off, e, h⟩ := R1.out.row k (by rw [HN.out]; exact hk)
    exact ⟨b, off, e, h⟩)
  clear R1
  go_enter Tryz.func64, Tryz.ntmps64
  go_wp2_with fail
  refine C0.out.mono ?_
  rintro e w2 ⟨⟨A, c, rfl, hM⟩, hb⟩
  rw [← S0.out] at hM
  have M2 := Lib.hid hM
  have B2 := Lib.hid hb
  clear hM hb C0 hw1
  go_wp2_with fail
  go_loopw [15] (fun t W => ∃ i : Nat, i ≤ N ∧ t = .int .i64 (i : Int) ∧ Hid (Mt2 W w1.heap.size (.slice A N c) N (so1 r i 0) ∧ Below w1.heap.size w1 W)) (fun t _ => N - (intOf t).toNat)
  case atStart => exact ⟨0, Nat.zero_le _, rfl, Lib.hid ⟨M2.out, B2.out⟩⟩
  case round =>
    obtain ⟨i, hi, rfl, I⟩ := hrel
    by_cases hlt : i < N
    · have hlt2 : (i : Int) < (N : Int) := by omega
      rw [SK.out] at I
      go_wp2_with fail
      go_loopw [7] (fun t W => ∃ j : Nat, i + 1 ≤ j ∧ j ≤ N ∧ t = .int .i64 (j : Int) ∧ Hid (Mt2 W w1.heap.size (.slice A N c) N (so1 r i j) ∧ Below w1.heap.size w1 W)) (fun t _ => N - (intOf t).toNat)
      case atStart => exact ⟨i + 1, Nat.le_refl _, by omega, by go_num, I⟩
      case round =>
        rename World => we
        obtain ⟨j, hij, hj, rfl, J⟩ := hrel
        by_cases hlj : j < N
        · have hlj2 : (j : Int) < (N : Int) := by omega
          go_wp2_with fail
          go_loopw [8, 9] (fun f t W => ∃ (k : Nat) (ok : Bool), i + 1 ≤ k ∧ k ≤ j ∧ t = .int .i64 (k : Int) ∧ f = .bool ok ∧ Hid (ok = ak gg i k ∧ Mt2 W w1.heap.size (.slice A N c) N (so1 r i j) ∧ Below w1.heap.size w1 W)) (fun _ t _ => j - (intOf t).toNat)
          case atStart => exact ⟨i + 1, true, Nat.le_refl _, by omega, by go_num, rfl, Lib.hid ⟨(AS.out i).symm, J.out.1, J.out.2⟩⟩
          case round =>
            rename World => wf
            obtain ⟨k, ok, hik, hk, rfl, rfl, L⟩ := hrel
            have LB := Lib.hid L.out.2.2
            have ck := Ck.of_below LB.out
            obtain ⟨v0, v1, v2, v3, v4, v5, v6, v7, v8, v9, v10⟩ := AT1.out.ck ck
            simp only [Nat.zero_add] at v4 v5 v6 v7
            clear v0 v1 v2 v3 v8 v9 v10
            by_cases hlk : k < j
            · have hlk2 : (k : Int) < (j : Int) := by omega
              have hkN : k < N := by omega
              have hkN2 : (k : Int) < (N : Int) := by omega
              obtain ⟨rb, ro, rfl, hat⟩ := RW.out k hkN
              obtain ⟨_, _, _, e3, e4⟩ := hat.ck ck
              have CA := Lib.hid (CH.out k hkN)
              have PN := Lib.hid (AN.out i k (by omega))
              have GK := Lib.hid (GD.out k)
              have OK := Lib.hid L.out.1
              have LM := Lib.hid L.out.2.1
              generalize gg k = gk at PN GK
              generalize R.getD k lz = ev at e3 e4 CA
              generalize hq R ⟨x2, t2, a2, n2, c2, L2⟩ k = bq at CA GK
              have zh : w.heap.size < wf.heap.size := World.block_lt_of_cell? _ _ v4
              have zb : rb < wf.heap.size := World.block_lt_of_cell? _ _ e3
              cases y
              · have N8 : Hid (∀ m, ok = ak gg i (k + 1) ∧ Mt2 (wf.drewN m) w1.heap.size (.slice A N c) N (so1 r i j) ∧ Below w1.heap.size w1 (wf.drewN m)) := Lib.hid (fun m => ⟨by rw [PN.out, GK.out, ← OK.out]; simp, LM.out.below (below_drewN _ wf m), below_go LB.out (below_drewN _ wf m)⟩)
                clear L hat ck
                go_upto_region 12 with fail
                go_quiet (fail)
                go_wp2_with fail
                exact ⟨⟨k + 1, ok, by omega, by omega, by go_num, rfl, Lib.hid (by first | exact N8.out 1 | exact N8.out 0 | exact N8.out _)⟩, by simp [intOf]; omega⟩
              · have K3 : Kg wf wf w.heap.size rb ro k true x2 t2 a2 n2 c2 ev.t ev.a ev.n ev.c := ⟨v4, v5, v6, v7, e3, e4, Lib.hid (Below.refl _ _)⟩
                have KD := Lib.hid (kg_next (Below.refl _ _).drew K3)
                have CB := Lib.hid (fun W (K : Kg wf W w.heap.size rb ro k true x2 t2 a2 n2 c2 ev.t ev.a ev.n ev.c) => CA.out W (below_go LB.out K.2.2.2.2.2.2.out))
                clear L hat ck K3
                go_upto_region 12 with fail
                go_region_held3 (fun W => W.cell? ⟨w.heap.size, 4, none⟩ = some (.bool true) ∧ W.cell? ⟨w.heap.size, 5, none⟩ = some (.bool x2) ∧ W.cell? ⟨w.heap.size, 6, none⟩ = some (.int .u8 t2) ∧ W.cell? ⟨w.heap.size, 7, none⟩ = some (.slice a2 n2 c2) ∧ W.cell? ⟨rb, ro + k * 5 + 3, none⟩ = some (.int .u8 ev.t) ∧ W.cell? ⟨rb, ro + k * 5 + 4, none⟩ = some (.slice ev.a ev.n ev.c) ∧ Hid (Below wf.heap.size wf W))
                  (first | (with_reducible assumption) | (with_reducible exact KD.out) | (with_reducible exact kg_next b1 (by assumption)))
                  (first | (go_at_call 63; (with_reducible refine Calls.mono (CB.out _ ?_) ?_); (with_reducible assumption); rintro e w' ⟨rfl, b1⟩))
                rename_i hHeld
                have W4 := Lib.hid hHeld.2.2.2.2.2.2.out
                clear hHeld
                rename World => w4
                have LM4 := Lib.hid (LM.out.below W4.out)
                have LB4 := Lib.hid (below_go LB.out W4.out)
                cases bq
                · have N8 : Hid (ok = ak gg i (k + 1)) := Lib.hid (by rw [PN.out, GK.out, ← OK.out]; simp)
                  go_wp2_with fail
                  exact ⟨⟨k + 1, ok, by omega, by omega, by go_num, rfl, Lib.hid ⟨N8.out, LM4.out, LB4.out⟩⟩, by simp [intOf]; omega⟩
                · have N8 : Hid (false = ak gg i (k + 1)) := Lib.hid (by rw [PN.out, GK.out, ← OK.out]; simp)
                  go_wp2_with fail
                  exact ⟨⟨k + 1, false, by omega, by omega, by go_num, rfl, Lib.hid ⟨N8.out, LM4.out, LB4.out⟩⟩, by simp [intOf]; omega⟩
            · obtain rfl : k = j := by omega
              have OK : Hid (r i k = ok) := Lib.hid (by rw [AE.out i k (by omega), L.out.1])
              obtain ⟨g, rb, cap, rfl, p1, p2, p3, p4, p5, p6, p7⟩ := L.out.2.1.at i hlt
              have p8 := p5 k
              have p9 := p6 k hlj
              have L2 := Lib.hid (show Mt2 (wf.setCell ⟨rb, k, none⟩ (.bool ok)) w1.heap.size (.slice (some ⟨g, 0, none⟩) N c) N (so1 r i (k + 1)) ∧ Below w1.heap.size w1 (wf.setCell ⟨rb, k, none⟩ (.bool ok)) from ⟨(p7 k ok hlj).congr (fun x y _ _ => by have := SS.out i k x y; rw [OK.out] at this; exact this), LB.out.setCell (p := ⟨rb, k, none⟩) p4 _⟩)
              clear p5 p6 p7 L ck v4 v5 v6 v7
              go_wp2_with fail
              exact ⟨⟨k + 1, by omega, by omega, by go_num, L2⟩, by simp [intOf]; omega⟩
        · obtain rfl : j = N := by omega
          have J2 := Lib.hid (show Mt2 we w1.heap.size (.slice A j c) j (so1 r (i + 1) 0) ∧ Below w1.heap.size w1 we from ⟨J.out.1.congr (fun x y hx hy => SR.out i x y hx hy), J.out.2⟩)
          go_wp2_with fail
          exact ⟨⟨i + 1, by omega, by go_num, J2⟩, by simp [intOf]; omega⟩
    · obtain rfl : i = N := by omega
      go_wp2_with fail
      go_ret
      exact ⟨⟨A, c, rfl, (I.out.1.congr (fun x y hx hy => SE.out x y hx hy)).base (by have := SZ.out; omega)⟩, below_go B1.out I.out.2⟩
end Go.Proofs.YtpnllbojifnopaaGreatDoor
