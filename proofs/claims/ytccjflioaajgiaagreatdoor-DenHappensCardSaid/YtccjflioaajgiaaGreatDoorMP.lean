/- Contracts, joined: TrF, DnN, DnK, DnP. -/
import Derived.Test.YtccjflioaajgiaaGreatDoorMO
import Derived.Maps.AppendAt
import Derived.Lib.MinMax
import Derived.Test.YtccjflioaajgiaaGreatDoorMN
import Derived.Test.YtccjflioaajgiaaGreatDoorDnJ
import Derived.Deep.RegionHeld3
/- Parts, depth and places of a pattern's nodes: the program's. -/
namespace Go.Proofs.YtccjflioaajgiaaGreatDoor
open Go Go.RowKit Pk Rl
set_option maxRecDepth 20000

theorem pgetD_mem (L : List (List Nd)) (k : Nat) (h : k < L.length) : L.getD k [] ∈ L := by
  rw [List.getD_eq_getElem?_getD, List.getElem?_eq_getElem h]; exact List.getElem_mem _
theorem ptake_snoc (L : List (List Nd)) (j : Nat) (h : j < L.length) : L.take (j + 1) = L.take j ++ [L.getD j []] := by
  rw [List.take_succ_eq_append_getElem h, List.getD_eq_getElem?_getD, List.getElem?_eq_getElem h]; rfl
theorem pgetD_app (L : List (List Nd)) (l : List Nd) (i : Nat) (h : i < L.length) : (L ++ [l]).getD i [] = L.getD i [] := by
  simp [List.getD_eq_getElem?_getD, List.getElem?_append_left h]
theorem pgetD_last (L : List (List Nd)) (l : List Nd) : (L ++ [l]).getD L.length [] = l := by simp [List.getD_eq_getElem?_getD]
/- a slice in a box of its own -/
def SBox (w : World) (g : Nat) (v : Value) : Prop := w.heap[g]? = some (.cells #[v] 143 (0, 0))
theorem SBox.cell {w : World} {g : Nat} {v : Value} (h : SBox w g v) : w.cell? ⟨g, 0, none⟩ = some v := by rw [cell_of_row w g 0 _ _ _ h]; rfl
theorem SBox.free {w : World} {g : Nat} {v : Value} (h : SBox w g v) (j : Nat) : w.frozen? ⟨g, j, none⟩ = false := by
  simp [World.frozen?, SBox] at h ⊢
  simp [h]
theorem SBox.lt {w : World} {g : Nat} {v : Value} (h : SBox w g v) : g < w.heap.size := World.block_lt_of_cell? _ _ h.cell
theorem SBox.below {B : Nat} {w w' : World} {g : Nat} {v : Value} (h : SBox w g v) (hb : Below B w w') (hB : g < B) : SBox w' g v := by unfold SBox; rw [hb.block g hB]; exact h
theorem SBox.set {w : World} {g : Nat} {v : Value} (h : SBox w g v) (v' : Value) : SBox (w.setCell ⟨g, 0, none⟩ v') g v' := by
  unfold SBox
  rw [heap_setCell_same w g 0 _ _ _ h]
  rfl
theorem SBox.start (w : World) (v : Value) : SBox (w.alloc (.cells #[v] 143)) w.heap.size v := heap_alloc_new w _
/- rows of parts: each is a slice of the pattern's own nodes -/
def PS (w0 : World) (L : List (List Nd)) (cs : List Value) : Prop := cs.length = L.length ∧ ∀ i, i < L.length → ∃ A C, cs[i]? = some (.slice A (L.getD i []).length C) ∧ Pt w0 A (L.getD i []).length C (L.getD i [])
def OwnP (w0 w : World) (B : Nat) (v : Value) (L : List (List Nd)) : Prop := ∃ cs, w.ownsRow B 28 1 v L.length cs ∧ PS w0 L cs
theorem rowP_below {w w' : World} {B n : Nat} {v : Value} {cs : List Value} (h : w.ownsRow B 28 1 v n cs) (hb : Below w.heap.size w w') : w'.ownsRow B 28 1 v n cs := by
  refine ⟨h.1, ?_⟩
  rcases h.2 with h0 | ⟨g, cap, cur, hv, hg, hh, r⟩
  · exact .inl h0
  · refine .inr ⟨g, cap, cur, hv, hg, ?_, r⟩
    rw [hb.block g ?_]
    · exact hh
    · rcases Nat.lt_or_ge g w.heap.size with h1 | h1
      · exact h1
      · rw [Array.getElem?_eq_none h1] at hh; cases hh
theorem rowP_set {w : World} {B n : Nat} {v : Value} {cs : List Value} (h : w.ownsRow B 28 1 v n cs) (g : Nat) (hg : g < B) (x : Value) : (w.setCell ⟨g, 0, none⟩ x).ownsRow B 28 1 v n cs := by
  refine ⟨h.1, ?_⟩
  rcases h.2 with h0 | ⟨r, cap, cur, hv, hr, hh, t⟩
  · exact .inl h0
  · refine .inr ⟨r, cap, cur, hv, hr, ?_, t⟩
    rw [heap_setCell_other w ⟨g, 0, none⟩ r x (by show r ≠ g; omega)]
    exact hh
theorem OwnP.below {w0 w w' : World} {B : Nat} {v : Value} {L : List (List Nd)} (h : OwnP w0 w B v L) (hb : Below w.heap.size w w') : OwnP w0 w' B v L := by
  obtain ⟨cs, h1, h2⟩ := h
  exact ⟨cs, rowP_below h1 hb, h2⟩
theorem OwnP.set {w0 w : World} {B : Nat} {v : Value} {L : List (List Nd)} (h : OwnP w0 w B v L) (g : Nat) (hg : g < B) (x : Value) : OwnP w0 (w.setCell ⟨g, 0, none⟩ x) B v L := by
  obtain ⟨cs, h1, h2⟩ := h
  exact ⟨cs, rowP_set h1 g hg x, h2⟩
theorem OwnP.nil (w0 w : World) (B : Nat) : OwnP w0 w B (.slice none 0 0) [] := ⟨[], World.ownsRow_nil w B 28 1, rfl, fun i hi => absurd hi (by simp)⟩
theorem infoP : ∃ i, Tryz.prog.info? 28 = some i ∧ i.zero = some (.slice none 0 0) ∧ i.size = 1 ∧ i.bytes = 24 :=
  ⟨(Tryz.prog.info? 28).get (by kernel_rfl), by kernel_rfl, by kernel_rfl, by kernel_rfl, by kernel_rfl⟩
/- rows of parts, wherever they lie -/
def Prow (w0 w : World) (A : Option Addr) (L : List (List Nd)) : Prop := ∀ i, i < L.length → ∃ b off A' C, A = some ⟨b, off, none⟩ ∧ w.cell? ⟨b, off + i, none⟩ = some (.slice A' (L.getD i []).length C) ∧ Pt w0 A' (L.getD i []).length C (L.getD i [])
theorem Prow.below {w0 w w' : World} {A : Option Addr} {L : List (List Nd)} (h : Prow w0 w A L) (hb : Below w.heap.size w w') : Prow w0 w' A L := fun i hi => by
  obtain ⟨b, off, A', C, e, hc, hy⟩ := h i hi
  exact ⟨b, off, A', C, e, (hb.cell (p := ⟨b, off + i, none⟩) (World.block_lt_of_cell? _ _ hc)).trans hc, hy⟩
theorem OwnP.form {w0 w : World} {B : Nat} {v : Value} {L : List (List Nd)} (h : OwnP w0 w B v L) : ∃ A c, v = .slice A L.length c ∧ Prow w0 w A L := by
  obtain ⟨cs, h1, h2, h3⟩ := h
  rcases h1.2 with ⟨rfl, h0⟩ | ⟨g, cap, cur, rfl, _⟩
  · have : L = [] := List.eq_nil_of_length_eq_zero h0
    subst this
    exact ⟨none, 0, rfl, fun i hi => absurd hi (by simp)⟩
  · refine ⟨_, _, rfl, fun i hi => ?_⟩
    obtain ⟨A, C, e, o⟩ := h3 i hi
    have := World.ownsRow.cells h1 (g := g) rfl i _ e
    rw [add_plain] at this
    exact ⟨g, 0, A, C, rfl, this, o⟩
theorem wp_appp {ops : Array Oper} {rest : List Oper} {o : Oper} {a : Act} {Q : Exit → Act → World → Prop} (s x : Operand) (w0 w : World) (hgd : o.guard = none)
    (hop : o.op = .call { callee := .builtin .append, args := #[s, x], argTypes := #[143, 143] })
    (B : Nat) (v : Value) (L : List (List Nd)) (hs : a.eval s = v) (ho : OwnP w0 w B v L) (ad : Addr) (hx : a.eval x = .slice (some ad) 1 1) (A : Option Addr) (n C : Nat) (l : List Nd) (hc : w.cell? ad = some (.slice A n C)) (hl : Pt w0 A n C l)
    (hlen : L.length ≤ 100000) (hB : B ≤ w.heap.size)
    (k : Nat) (hk : L.length + 1 = k)
    (h : ∀ A' c' w', OwnP w0 w' B (.slice A' k c') (L ++ [l]) → Below B w w' → wpList Tryz.prog ops Q rest (a.put o.dst (.slice A' k c')) w') : wpList Tryz.prog ops Q (o :: rest) a w := by
  refine wpList_plain hgd fun K hK => ?_
  obtain ⟨i, hi, hz, hsz, hy⟩ := infoP
  obtain ⟨cs, h1, h2, h3⟩ := ho
  obtain ⟨v', w', hrun, r2, r3, _, _⟩ := run_append_own_at (P := Tryz.prog) w B 143 o.type 28 i (.slice none 0 0) 1 24 Tryz.underlying143 hi hz hsz hy rfl (by omega) v L.length cs h1 ad 1 1 [.slice A n C] rfl
    (fun j u hj => by
      rcases j with _ | j
      · simp at hj; subst hj
        have : ad.add 0 = ad := by obtain ⟨b, off, sp⟩ := ad; cases sp <;> simp [Addr.add]
        rw [this]; exact hc
      · simp at hj)
    (fun u hu => by simp at hu; subst hu; rfl) (by unfold maxLen; omega) (by omega) hB
  have hO : OwnP w0 w' B v' (L ++ [l]) := by
    refine ⟨cs ++ [.slice A n C], by rw [List.length_append]; exact r2, by simp [h2], fun j hj => ?_⟩
    rw [List.length_append, List.length_singleton] at hj
    by_cases hjl : j < L.length
    · obtain ⟨A', C', e, o'⟩ := h3 j hjl
      rw [pgetD_app L l j hjl]
      exact ⟨A', C', by rw [List.getElem?_append_left (by omega)]; exact e, o'⟩
    · obtain rfl : j = L.length := by omega
      rw [pgetD_last, hl.len]
      exact ⟨A, C, by rw [← h2]; simp, hl⟩
  obtain ⟨A', c', rfl, _⟩ := hO.form
  have ek : (L ++ [l]).length = k := by rw [List.length_append, List.length_singleton, hk]
  rw [ek] at hO hrun
  unfold Oper.wp
  simp [execOp, hop, resolve, invoke, builtin, hs, hx, hrun, Result.andThen]
  exact hK _ _ (h A' c' w' hO ((Below.refl _ _).grown r3 hB (fun k hk => (World.ownsRow.lt h1 k hk).1)))
set_option maxHeartbeats 2000000 in
theorem parts1_any (w0 w1 : World) (g : Nat) (D : List (List Nd)) (hd : D.length ≤ 1000) (p : List Nd) (A : Option Addr) (n c : Nat) (v : Value) (w : World) (hbox : SBox w g v) (hO : OwnP w0 w (g + 1) v D) (hP : Pt w0 A n c p) (hB : Below w1.heap.size w1 w) (hg : w1.heap.size ≤ g) :
    Calls Tryz.prog 98 #[.slice A n c, .pointer (some ⟨g, 0, none⟩)] w fun e w' => e = .returned (.bool true) ∧ (∃ v', SBox w' g v' ∧ OwnP w0 w' (g + 1) v' (D ++ [p])) ∧ Below w1.heap.size w1 w' := by
  have hc := hbox.cell
  have hlt := hbox.lt
  have HX := Lib.hid (hbox.below (below_alloc w (.cells #[.slice A n c] 28)) hlt)
  have HO := Lib.hid (hO.below (below_alloc w (.cells #[.slice A n c] 28)))
  have HB := Lib.hid (show Below w1.heap.size w1 (w.alloc (.cells #[.slice A n c] 28)) from hB.alloc hB.size _)
  have HP := Lib.hid hP
  have hcell : (w.alloc (.cells #[.slice A n c] 28)).cell? ⟨w.heap.size, 0, none⟩ = some (.slice A n c) := by simp [go_sem]
  have HC := Lib.hid hcell
  clear hbox hO hP hB hcell
  go_enter Tryz.func98, Tryz.ntmps98
  go_wp2_with (at_builtin; refine wp_appp (.tmp 4) (.tmp 6) w0 _ (by rfl) (by rfl) (g + 1) v D (by rfl) HO.out _ (by rfl) A n c p HC.out HP.out (by omega) (by rw [World.size_alloc]; omega) (D.length + 1) rfl ?_; intro A1 c1 w' hO' hb'; have X2 := Lib.hid (HX.out.below hb' (by omega)); have O2 := Lib.hid (hO'.set g (by omega) (.slice A1 (D.length + 1) c1)); have B2 := Lib.hid ((HB.out.trans (hb'.mono (by omega))).setCell (p := ⟨g, 0, none⟩) (by exact hg) (.slice A1 (D.length + 1) c1)); have fr := X2.out.free 0; have lt2 := X2.out.lt; have c2 := X2.out.cell; clear hO' hb')
  go_ret
  exact ⟨rfl, ⟨_, X2.out.set _, O2.out⟩, B2.out⟩
set_option maxHeartbeats 2000000 in
theorem parts_any (w0 : World) (a : Option Addr) (n c : Nat) (L : List Nd) (w : World) (hP : Pt w0 a n c L) (h01 : Below w0.heap.size w0 w) :
    Calls Tryz.prog 75 #[.slice a n c] w fun e w' => (∃ A C, e = .returned (.slice A (pts L).length C) ∧ Prow w0 w' A (pts L)) ∧ Below w.heap.size w w' := by
  have B0 := Lib.hid (below_alloc w (.cells #[.slice none 0 0] 143))
  have O := Lib.hid (ofp_parts (fun _ => true) (fun W D => ∃ v, SBox W w.heap.size v ∧ OwnP w0 W (w.heap.size + 1) v D) w0 w h01 w.heap.size n
    (Lib.hid fun D p A n' c' W hJ hPp _ hnn hD hB => by
      obtain ⟨v, h1, h2⟩ := hJ
      refine (parts1_any w0 w w.heap.size D hD p A n' c' v W h1 h2 hPp hB (Nat.le_refl _)).mono ?_
      rintro e w' ⟨rfl, h2, h3⟩
      exact ⟨rfl, fun _ => h2, h3⟩)
    a n c L _ hP (Nat.le_refl _) ⟨_, SBox.start w _, OwnP.nil _ _ _⟩ B0.out)
  have HE := Lib.hid (show ofp (fun _ => true) L = false → pts L = [] from fun h => by
    by_cases h0 : frn L = []
    · unfold pts; rw [h0, List.tail_nil, spl_nil]; rfl
    · rw [ofp_cons h0] at h
      unfold pts
      rcases hs : spl (frn L).tail with _ | ps
      · rfl
      · rw [hs] at h; simp at h)
  generalize ofp (fun _ => true) L = b at O HE
  clear hP
  generalize pts L = R at O HE
  go_enter Tryz.func75, Tryz.ntmps75
  go_wp2_with fail
  refine O.out.mono ?_
  rintro e w2 ⟨rfl, hJ, hB⟩
  have HJ := Lib.hid hJ
  have B2 := Lib.hid hB
  clear hJ hB O
  cases b
  · have e0 : R = [] := HE.out (by first | rfl | trivial)
    subst e0
    go_wp2_with fail
    go_ret
    exact ⟨⟨none, 0, rfl, fun i hi => absurd hi (by simp)⟩, B2.out⟩
  · obtain ⟨v, h1, h2⟩ := HJ.out (by first | rfl | trivial)
    obtain ⟨A, C, rfl, h3⟩ := h2.form
    have c1 := h1.cell
    have H3 := Lib.hid h3
    clear h1 h2 h3 HE HJ
    go_wp2_with fail
    go_ret
    exact ⟨⟨A, C, rfl, H3.out⟩, B2.out⟩
set_option maxHeartbeats 2000000 in
theorem depth_any (k : Nat) (hk : k ≤ 2000) : ∀ (a : Option Addr) (n c : Nat) (L : List Nd) (w : World), n < k → Pt w a n c L →
    Calls Tryz.prog 47 #[.slice a n c] w fun e w' => e = .returned (.int .i64 (dpt k L)) ∧ Below w.heap.size w w' := by
  induction k with
  | zero => intro a n c L w h; exact absurd h (by omega)
  | succ k ih =>
    intro a n c L w hn hP
    have IH := Lib.hid (ih (by omega))
    clear ih
    have PA := Lib.hid (parts_any w a n c L w hP (Below.refl _ _))
    have MEM := Lib.hid (show ∀ p ∈ pts L, p.length < k from fun p hp => by have := (pts_mem p hp).2.2.1; have := hP.len; omega)
    have PL := Lib.hid (show (pts L).length ≤ 1000 by have := pts_len L; have := hP.len; have := hP.few; omega)
    have HB := Lib.hid (fun p => dpt_pos k p)
    have E : dpt (k + 1) L = (pts L).foldl (fun m p => max m (1 + dpt k p)) 0 := rfl
    rw [E]
    clear E hP hn
    generalize pts L = R at PA MEM PL
    obtain ⟨q, hq⟩ : ∃ q, R.length = q := ⟨_, rfl⟩
    obtain ⟨r, hr⟩ : ∃ r, R.foldl (fun m p => max m (1 + dpt k p)) 0 = r := ⟨_, rfl⟩
    rw [hr]
    rw [hq] at PA PL
    have HQ := Lib.hid hq
    have HR := Lib.hid hr
    clear hq hr
    go_enter Tryz.func47, Tryz.ntmps47
    go_wp2_with fail
    refine PA.out.mono ?_
    rintro e w2 ⟨⟨A, C, rfl, hr⟩, hb⟩
    have HW := Lib.hid hr
    have B2 := Lib.hid hb
    have hql := PL.out
    clear hr hb PA
    go_wp2_with fail
    go_loopw [3, 9] (fun v3 v9 W => ∃ (m : Int) (i : Nat), v3 = .int .i64 m ∧ v9 = .int .i64 (i : Int) ∧ i ≤ q ∧ Hid (m = (R.take i).foldl (fun m p => max m (1 + dpt k p)) 0 ∧ Prow w W A R ∧ Below w.heap.size w W)) (fun _ v9 _ => q - (intOf v9).toNat)
    case atStart => exact ⟨0, 0, rfl, rfl, by omega, Lib.hid ⟨rfl, HW.out, B2.out⟩⟩
    case round =>
      obtain ⟨m, i, rfl, rfl, hi, H⟩ := hrel
      have HM := Lib.hid H.out.1
      have HW1 := Lib.hid H.out.2.1
      have B1 := Lib.hid H.out.2.2
      clear H HW B2
      by_cases ci : i < q
      · obtain ⟨b, off, A', C', rfl, hcell, hpt⟩ := HW1.out i (by have := HQ.out; omega)
        have HG := Lib.hid (show (R.getD i []).length < k from MEM.out _ (pgetD_mem R i (by have := HQ.out; omega)))
        have TS := Lib.hid (ptake_snoc R i (by have := HQ.out; omega))
        obtain ⟨p, hp⟩ : ∃ p, R.getD i [] = p := ⟨_, rfl⟩
        rw [hp] at hcell hpt HG TS
        clear hp
        obtain ⟨pl, hpl⟩ : ∃ pl, p.length = pl := ⟨_, rfl⟩
        rw [hpl] at hcell hpt HG
        have I := Lib.hid (IH.out A' pl C' p wr HG.out (hpt.below B1.out))
        obtain ⟨x, hx⟩ : ∃ x, dpt k p = x := ⟨_, rfl⟩
        have HX := Lib.hid (HB.out p)
        have TX := Lib.hid (show (R.take (i + 1)).foldl (fun m p => max m (1 + dpt k p)) 0 = max m (1 + x) by rw [TS.out, List.foldl_append, List.foldl_cons, List.foldl_nil, ← HM.out, hx])
        rw [hx] at I HX
        clear hx hpt hpl TS HM
        have x0 : 0 ≤ x := HX.out.1
        have x1 : x ≤ 2000 := by have := HX.out.2; omega
        go_wp2_with fail
        refine I.out.mono ?_
        rintro e w3 ⟨rfl, hb⟩
        have B3 := Lib.hid (below_go B1.out hb)
        have HW3 := Lib.hid (HW1.out.below hb)
        clear hb I HW1 B1 hcell
        go_wp2_with fail
        go_roundw
        case rel => exact ⟨_, i + 1, rfl, by go_num, by omega, Lib.hid ⟨TX.out.symm, HW3.out, B3.out⟩⟩
        case measure => simp [intOf]; omega
      · obtain rfl : i = q := by omega
        have EM := Lib.hid (show m = r by rw [HM.out, ← HR.out, List.take_of_length_le (by have := HQ.out; omega)])
        have em := EM.out
        subst em
        go_wp2_with fail
        go_ret
        exact ⟨rfl, B1.out⟩
end Go.Proofs.YtccjflioaajgiaaGreatDoor

/- Of each node at which nodes its parts begin. -/
namespace Go.Proofs.YtccjflioaajgiaaGreatDoor
open Go Go.RowKit Go.Maps Pk Rl
set_option maxRecDepth 20000

theorem Ci.keepc {w w' : World} {g : Nat} {cur : Array Value} (h : Keep (· = g) w w') (hg : w.heap[g]? = some (.cells cur 89 (0, 0))) : Ci w w' := fun b _ _ hb => h.block b (Array.getElem?_eq_some_iff.1 hb).1 (fun e => by
  rw [e, hg] at hb
  injection hb with hb
  injection hb with _ e2
  exact absurd e2 (by decide))
/- the row of rows: of the first k nodes all is there -/
structure Pro (L : List Nd) (w : World) (g k : Nat) (cs : List Value) : Prop where
  len : cs.length = L.length
  row : w.heap[g]? = some (.cells cs.toArray 89 (0, 0))
  done : ∀ j, j < k → j < L.length → Sl w (cs.getD j nsl) (pos L j)
  rest : ∀ j, k ≤ j → j < L.length → cs.getD j nsl = nsl
theorem Pro.cell {L : List Nd} {w : World} {g k : Nat} {cs : List Value} (h : Pro L w g k cs) (j : Nat) (hj : j < L.length) : w.cell? ⟨g, j, none⟩ = some (cs.getD j nsl) := by
  rw [cell_of_row w g j _ _ _ h.row, List.getElem?_toArray, List.getD_eq_getElem?_getD, List.getElem?_eq_getElem (by rw [h.len]; exact hj)]; rfl
theorem Pro.free {L : List Nd} {w : World} {g k : Nat} {cs : List Value} (h : Pro L w g k cs) (j : Nat) : w.frozen? ⟨g, j, none⟩ = false := by
  have := h.row
  simp [World.frozen?, this]
theorem Pro.lt {L : List Nd} {w : World} {g k : Nat} {cs : List Value} (h : Pro L w g k cs) : g < w.heap.size := (Array.getElem?_eq_some_iff.1 h.row).1
theorem Pro.below {L : List Nd} {w w' : World} {g k : Nat} {cs : List Value} (h : Pro L w g k cs) (hb : Below w.heap.size w w') : Pro L w' g k cs :=
  ⟨h.len, (hb.block g h.lt).trans h.row, fun j hj hl => (h.done j hj hl).below hb, h.rest⟩
theorem Pro.start (w : World) (L : List Nd) : Pro L (w.alloc (.cells (madeCells #[nsl] L.length) 89)) w.heap.size 0 (List.replicate L.length nsl) := by
  refine ⟨by simp, ?_, fun j hj => absurd hj (by omega), fun j _ hj => by simp [List.getD_eq_getElem?_getD, hj]⟩
  rw [heap_alloc_new w _]
  congr 2
  refine Array.ext' ?_
  simp only [madeCells]
  refine List.ext_getElem (by simp) fun j h1 h2 => ?_
  simp [Nat.mod_one]
/- while a node's parts are gone through: its row is w0's but for the cell k, which holds v -/
structure Pri (L : List Nd) (w0 w : World) (g k : Nat) (cs : List Value) (v : Value) (l : List Nat) : Prop where
  row : w.heap[g]? = some (.cells (cs.set k v).toArray 89 (0, 0))
  own : OwnZ w w0.heap.size v l
  keep : Keep (· = g) w0 w
theorem Pri.cell {L : List Nd} {w0 w : World} {g k : Nat} {cs : List Value} {v : Value} {l : List Nat} (h : Pri L w0 w g k cs v l) (hk : k < cs.length) : w.cell? ⟨g, k, none⟩ = some v := by
  rw [cell_of_row w g k _ _ _ h.row, List.getElem?_toArray, List.getElem?_set_self hk]
theorem Pri.free {L : List Nd} {w0 w : World} {g k : Nat} {cs : List Value} {v : Value} {l : List Nat} (h : Pri L w0 w g k cs v l) : w.frozen? ⟨g, k, none⟩ = false := by
  have := h.row
  simp [World.frozen?, this]
theorem Pri.store {L : List Nd} {w0 w w' : World} {g k : Nat} {cs : List Value} {v v' : Value} {l l' : List Nat} (h : Pri L w0 w g k cs v l) (hg : g < w0.heap.size) (hb : Below w0.heap.size w w') (ho : OwnZ w' w0.heap.size v' l') :
    Pri L w0 (w'.setCell ⟨g, k, none⟩ v') g k cs v' l' := by
  have hr : w'.heap[g]? = some (.cells (cs.set k v).toArray 89 (0, 0)) := (hb.block g hg).trans h.row
  have hk : Keep (· = g) w0 w' := h.keep.then_below hb
  refine ⟨?_, OwnC.same ho (fun q cur hq _ => heap_setCell_other w' ⟨g, k, none⟩ q _ (by show q ≠ g; omega)), ⟨hk.os, hk.tape, hk.output, by simpa using hk.size, fun q hq hn => (heap_setCell_other w' ⟨g, k, none⟩ q _ hn).trans (hk.block q hq hn)⟩⟩
  rw [heap_setCell_same w' g k _ _ _ hr]
  simp only [List.setIfInBounds_toArray, List.set_set]
theorem Pri.fin {L : List Nd} {w0 w : World} {g k : Nat} {cs : List Value} {v : Value} (h0 : Pro L w0 g k cs) (hk : k < L.length) (h : Pri L w0 w g k cs v (pos L k)) : Pro L w g (k + 1) (cs.set k v) := by
  refine ⟨by rw [List.length_set]; exact h0.len, h.row, fun j hj hl => ?_, fun j hj hl => ?_⟩
  · by_cases e : j = k
    · subst e
      have : (cs.set j v).getD j nsl = v := by rw [List.getD_eq_getElem?_getD, List.getElem?_set_self (by rw [h0.len]; exact hl)]; rfl
      rw [this]
      exact OwnZ.sl h.own
    · have : (cs.set k v).getD j nsl = cs.getD j nsl := by rw [List.getD_eq_getElem?_getD, List.getElem?_set_ne (fun h => e h.symm), List.getD_eq_getElem?_getD]
      rw [this]
      exact (h0.done j (by omega) hl).ci (Ci.keepc h.keep h0.row)
  · have : (cs.set k v).getD j nsl = cs.getD j nsl := by rw [List.getD_eq_getElem?_getD, List.getElem?_set_ne (by omega), List.getD_eq_getElem?_getD]
    rw [this]
    exact h0.rest j (by omega) hl
/- where the next part begins -/
def nxt (o : Nat) (ps : List (List Nd)) (q : Nat) : Nat := o + ((ps.take q).map List.length).sum
theorem ptake_next (ps : List (List Nd)) (q : Nat) (h : q < ps.length) : ps.take (q + 1) = ps.take q ++ [ps.getD q []] := by
  rw [List.take_succ_eq_append_getElem h, List.getD_eq_getElem?_getD, List.getElem?_eq_getElem h]; rfl
theorem nxt_next (o : Nat) (ps : List (List Nd)) (q : Nat) (h : q < ps.length) : nxt o ps (q + 1) = nxt o ps q + (ps.getD q []).length := by
  unfold nxt
  rw [ptake_next ps q h, List.map_append, List.sum_append]; simp; omega
theorem nxt_le (o : Nat) (ps : List (List Nd)) (h : ∀ p ∈ ps, p.length ≤ 1000) (q : Nat) : nxt o ps q ≤ o + 1000 * q := by
  induction q with
  | zero => simp [nxt]
  | succ q ih =>
    by_cases hq : q < ps.length
    · rw [nxt_next o ps q hq]
      have := h _ (by rw [List.getD_eq_getElem?_getD, List.getElem?_eq_getElem hq]; exact List.getElem_mem _ : ps.getD q [] ∈ ps)
      omega
    · have : nxt o ps (q + 1) = nxt o ps q := by unfold nxt; rw [List.take_of_length_le (by omega), List.take_of_length_le (by omega)]
      omega
theorem stp_next (o : Nat) (ps : List (List Nd)) (q : Nat) (h : q < ps.length) : stp o (ps.take (q + 1)) = stp o (ps.take q) ++ [nxt o ps q] := by
  rw [ptake_next ps q h, stp_snoc]; rfl
theorem infoL : ∃ i, Tryz.prog.info? 89 = some i ∧ i.zero = some nsl ∧ i.size = 1 ∧ i.bytes = 24 :=
  ⟨(Tryz.prog.info? 89).get (by kernel_rfl), by kernel_rfl, by kernel_rfl, by kernel_rfl, by kernel_rfl⟩
theorem run_mkl (w : World) (d : Nat) (hd : d ≤ 1000000) : (Instr.makeSlice 115 (.int .i64 (d : Int)) (.int .i64 (d : Int))).run Tryz.prog w = .ok (.slice (some ⟨w.heap.size, 0, none⟩) d d) (w.alloc (.cells (madeCells #[nsl] d) 89)) := by
  obtain ⟨i, hi, hz, hs, hy⟩ := infoL
  have := run_make (P := Tryz.prog) w 115 89 i nsl Tryz.underlying115 hi hz .i64 .i64 d d (by omega) (by omega) (by rw [hy]; omega) (by omega)
  rw [hs] at this
  simpa [Value.cells] using this
theorem Pro.lls {L : List Nd} {w : World} {g : Nat} {cs : List Value} (h : Pro L w g L.length cs) : Lls w (some ⟨g, 0, none⟩) ((List.range L.length).map (pos L)) := fun i hi => by
  have hi : i < L.length := by simpa using hi
  refine ⟨g, 0, _, rfl, by rw [Nat.zero_add]; exact h.cell i hi, ?_⟩
  have : LLg ((List.range L.length).map (pos L)) i = pos L i := by simp [LLg, List.getD_eq_getElem?_getD, hi]
  rw [this]
  exact h.done i hi hi
def PrT (w : World) (A : Option Addr) (L : List (List Nd)) : Prop := ∀ i, i < L.length → ∃ b off, A = some ⟨b, off, none⟩ ∧ ∃ cur, w.heap[b]? = some (Obj.cells cur 28 (0, 0))
theorem OwnP.typ {w0 w : World} {B n c : Nat} {A : Option Addr} {L : List (List Nd)} (h : OwnP w0 w B (.slice A n c) L) : PrT w A L := fun i hi => by
  obtain ⟨cs, h1, h2, _⟩ := h
  rcases h1.2 with ⟨_, h0⟩ | ⟨g, cap, cur, e, _, hh, _⟩
  · omega
  · injection e with e1 _ _
    subst e1
    exact ⟨g, 0, rfl, cur, hh⟩
set_option maxHeartbeats 2000000 in
theorem partsT_any (w0 : World) (a : Option Addr) (n c : Nat) (L : List Nd) (w : World) (hP : Pt w0 a n c L) (h01 : Below w0.heap.size w0 w) :
    Calls Tryz.prog 75 #[.slice a n c] w fun e w' => (∃ A C, e = .returned (.slice A (pts L).length C) ∧ Prow w0 w' A (pts L) ∧ PrT w' A (pts L)) ∧ Below w.heap.size w w' := by
  have B0 := Lib.hid (below_alloc w (.cells #[.slice none 0 0] 143))
  have O := Lib.hid (ofp_parts (fun _ => true) (fun W D => ∃ v, SBox W w.heap.size v ∧ OwnP w0 W (w.heap.size + 1) v D) w0 w h01 w.heap.size n
    (Lib.hid fun D p A n' c' W hJ hPp _ hnn hD hB => by
      obtain ⟨v, h1, h2⟩ := hJ
      refine (parts1_any w0 w w.heap.size D hD p A n' c' v W h1 h2 hPp hB (Nat.le_refl _)).mono ?_
      rintro e w' ⟨rfl, h2, h3⟩
      exact ⟨rfl, fun _ => h2, h3⟩)
    a n c L _ hP (Nat.le_refl _) ⟨_, SBox.start w _, OwnP.nil _ _ _⟩ B0.out)
  have HE := Lib.hid (show ofp (fun _ => true) L = false → pts L = [] from fun h => by
    by_cases h0 : frn L = []
    · unfold pts; rw [h0, List.tail_nil, spl_nil]; rfl
    · rw [ofp_cons h0] at h
      unfold pts
      rcases hs : spl (frn L).tail with _ | ps
      · rfl
      · rw [hs] at h; simp at h)
  generalize ofp (fun _ => true) L = b at O HE
  clear hP
  generalize pts L = R at O HE
  go_enter Tryz.func75, Tryz.ntmps75
  go_wp2_with fail
  refine O.out.mono ?_
  rintro e w2 ⟨rfl, hJ, hB⟩
  have HJ := Lib.hid hJ
  have B2 := Lib.hid hB
  clear hJ hB O
  cases b
  · have e0 : R = [] := HE.out (by first | rfl | trivial)
    subst e0
    go_wp2_with fail
    go_ret
    exact ⟨⟨none, 0, rfl, fun i hi => absurd hi (by simp), fun i hi => absurd hi (by simp)⟩, B2.out⟩
  · obtain ⟨v, h1, h2⟩ := HJ.out (by first | rfl | trivial)
    obtain ⟨A, C, rfl, h3⟩ := h2.form
    have c1 := h1.cell
    have H3 := Lib.hid h3
    have H4 := Lib.hid h2.typ
    clear h1 h2 h3 HE HJ
    go_wp2_with fail
    go_ret
    exact ⟨⟨A, C, rfl, H3.out, H4.out⟩, B2.out⟩
set_option maxHeartbeats 4000000 in
theorem partsOf_any (nA : Option Addr) (nN nC : Nat) (L : List Nd) (w : World) (hP : Pt w nA nN nC L) (hm : nN ≤ 50) :
    Calls Tryz.prog 49 #[.slice nA nN nC] w fun e w' => e = .returned (.slice (some ⟨w.heap.size, 0, none⟩) nN nN) ∧ Lls w' (some ⟨w.heap.size, 0, none⟩) ((List.range nN).map (pos L)) ∧ Below w.heap.size w w' := by
  have hn := hP.len
  subst hn
  have RM := run_mkl w L.length (by omega)
  have T0 := Lib.hid (Pro.start w L)
  have B0 := Lib.hid (bal w (.cells (madeCells #[nsl] L.length) 89))
  have HP := Lib.hid hP
  have hcap := hP.cap
  generalize w.alloc (.cells (madeCells #[nsl] L.length) 89) = w1 at RM T0 B0
  clear hP
  go_enter Tryz.func49, Tryz.ntmps49
  go_wp2_with fail
  go_loopw [13] (fun t W => ∃ (k : Nat) (cs : List Value), k ≤ L.length ∧ t = .int .i64 (k : Int) ∧ Hid (Pro L W w.heap.size k cs ∧ Below w.heap.size w W)) (fun t _ => L.length - (intOf t).toNat)
  case atStart => exact ⟨0, _, Nat.zero_le _, rfl, Lib.hid ⟨T0.out, B0.out⟩⟩
  case round =>
    obtain ⟨k, cs, hk, rfl, H⟩ := hrel
    by_cases hlt : k < L.length
    · obtain ⟨A9, RS, RP⟩ := HP.out.from k hk
      have PC := Lib.hid (partsT_any w A9 _ _ (L.drop k) wr (RP w HP.out) H.out.2)
      have PL := Lib.hid (pts_count (L.drop k))
      have PM := Lib.hid (fun p (hp : p ∈ pts (L.drop k)) => (show p.length ≤ 1000 by have := (pts_mem p hp).2.2.1; rw [List.length_drop] at this; omega))
      have PE : Hid (stp (k + 1) ((pts (L.drop k)).take (pts (L.drop k)).length) = pos L k) := Lib.hid (by rw [List.take_of_length_le (Nat.le_refl _)]; rfl)
      rw [List.length_drop] at PL
      generalize pts (L.drop k) = P at PC PL PM PE
      clear RP
      go_wp2_with fail
      refine PC.out.mono ?_
      rintro e w2 ⟨⟨PA, PCc, rfl, hprow, hprt⟩, hb⟩
      have P0 := Lib.hid (H.out.1.below hb)
      have B2 := Lib.hid (below_go H.out.2 hb)
      have HPr := Lib.hid hprow
      have HPt := Lib.hid hprt
      have PI : Hid (Pri L w2 w2 w.heap.size k cs nsl (stp (k + 1) (P.take 0))) := Lib.hid ⟨by
        have e : cs.set k nsl = cs := by
          refine List.ext_getElem (by simp) fun j h1 h2 => ?_
          rw [List.getElem_set]
          split
          · rename_i e
            subst e
            have := P0.out.rest k (Nat.le_refl _) hlt
            rw [List.getD_eq_getElem?_getD, List.getElem?_eq_getElem h2] at this
            exact this.symm
          · rfl
        rw [e]
        exact P0.out.row, OwnZ.nil _ _, Keep.refl _ _⟩
      have hpl : P.length ≤ 50 := by have := PL.out; omega
      clear hprow hprt hb PC H
      go_wp2_with fail
      go_loopw [5, 23] (fun av t W => ∃ (q : Nat), q ≤ P.length ∧ av = .int .i64 ((nxt (k + 1) P q : Nat) : Int) ∧ t = .int .i64 (q : Int) ∧ Hid (Below w.heap.size w W ∧ ∃ v, Pri L w2 W w.heap.size k cs v (stp (k + 1) (P.take q)))) (fun _ t _ => P.length - (intOf t).toNat)
      case atStart => exact ⟨0, Nat.zero_le _, by simp [nxt], rfl, Lib.hid ⟨B2.out, nsl, PI.out⟩⟩
      case round =>
        obtain ⟨q, hq, rfl, rfl, H⟩ := hrel
        obtain ⟨v, hp⟩ := H.out.2
        have HQ := Lib.hid hp
        have BW := Lib.hid H.out.1
        clear hp H
        by_cases hlt2 : q < P.length
        · obtain ⟨pb, po, A', C', rfl, hc0, _⟩ := HPr.out q hlt2
          obtain ⟨pb', po', ee, cur, hcur⟩ := HPt.out q hlt2
          injection ee with ee
          injection ee with e1 e2
          subst e1 e2
          have hne : pb ≠ w.heap.size := fun e => by
            rw [e, P0.out.row] at hcur
            injection hcur with hcur
            injection hcur with _ e9
            exact absurd e9 (by decide)
          have hc := (World.cell?_of_block (a := ⟨pb, po + q, none⟩) (HQ.out.keep.block pb (World.block_lt_of_cell? _ _ hc0) hne)).trans hc0
          obtain ⟨A1, c1, rfl, _, _⟩ := HQ.out.own.sl
          have hk1 := HQ.out.cell (by rw [P0.out.len]; exact hlt)
          have hf1 := HQ.out.free
          have NX := Lib.hid (nxt_next (k + 1) P q hlt2)
          have NL := nxt_le (k + 1) P PM.out q
          have SN := Lib.hid (stp_next (k + 1) P q hlt2)
          have HL : Hid ((P.getD q []).length ≤ 1000) := Lib.hid (PM.out _ (by rw [List.getD_eq_getElem?_getD, List.getElem?_eq_getElem hlt2]; exact List.getElem_mem _))
          have hpl2 := HL.out
          have SL : Hid ((stp (k + 1) (P.take q)).length = q) := Lib.hid (by rw [stp_len, List.length_take]; omega)
          generalize nxt (k + 1) P q = at_ at NX NL SN
          generalize (P.getD q []).length = pl at hc NX hpl2 HL
          generalize stp (k + 1) (P.take q) = sq at HQ SN SL hk1
          have ZG := Lib.hid P0.out.lt
          have ZQ := Lib.hid HQ.out.keep.size
          have BB := Lib.hid ((bal wr (.cells #[.int .i64 (at_ : Int)] 3)).mono ZQ.out)
          go_wp2_with ((with_reducible show wpList _ _ _ (Oper.mk (some 35) _ _ _ _ _ :: _) _ _); refine wp_appn1 (.tmp 32) (.tmp 34) _ rfl rfl w2.heap.size _ sq rfl (HQ.out.own.below (bal _ _)) _ rfl at_ (by simp [go_sem]) (by rw [SL.out]; omega) (Nat.le_trans ZQ.out (bal _ _).size) (sq.length + 1) rfl ?_; intro A4 c4 w5 hO hb5; have B5 := Lib.hid (BB.out.trans hb5); have PS := Lib.hid (HQ.out.store ZG.out B5.out hO); have X5 := Lib.hid (BW.out.trans (B5.out.mono B2.out.size)); have kk1 := (B5.out.cell (p := ⟨w.heap.size, k, none⟩) ZG.out).trans hk1; have kk2 := (B5.out.frozen (p := ⟨w.heap.size, k, none⟩) ZG.out).trans hf1; clear hO hb5)
          exact ⟨⟨q + 1, by omega, by rw [NX.out]; first | rfl | go_num, by go_num, Lib.hid ⟨X5.out.setCell (Nat.le_refl _) _, _, by rw [SN.out]; exact PS.out⟩⟩, by simp [intOf]; omega⟩
        · obtain rfl : q = P.length := by omega
          rw [PE.out] at HQ
          have PF := Lib.hid (Pri.fin P0.out hlt HQ.out)
          go_wp2_with fail
          exact ⟨⟨k + 1, _, by omega, by go_num, Lib.hid ⟨PF.out, BW.out⟩⟩, by simp [intOf]; omega⟩
    · obtain rfl : k = L.length := by omega
      go_wp2_with fail
      go_ret
      exact ⟨rfl, H.out.1.lls, H.out.2⟩
end Go.Proofs.YtccjflioaajgiaaGreatDoor

/- The search's endsFrom: the ends of each node and place are looked for once. -/
namespace Go.Proofs.YtccjflioaajgiaaGreatDoor
open Go Go.RowKit Go.Maps Pk Rl
set_option maxRecDepth 20000

set_option maxHeartbeats 4000000 in
theorem ends_step (S : Sea) (n i : Nat) (hn : n < S.L.length) (hi : i < S.R.length) (IH : Hid (∀ p, n < p → p < S.L.length → ∀ b, b < S.R.length → Ih S p b)) : Ih S n i := by
  intro w hS
  obtain ⟨M, hM, hMs⟩ := hS.mp
  have hL := hS.st.few
  have hR := hS.st.fewR
  obtain ⟨w1, hw1⟩ : ∃ W, w.alloc (.cells #[.int .i64 (n : Int), .int .i64 (i : Int)] 121) = W := ⟨_, rfl⟩
  have B1 : Below w.heap.size w w1 := hw1 ▸ bal w _
  have k0 : w1.cell? ⟨w.heap.size, 0, none⟩ = some (.int .i64 (n : Int)) := by rw [← hw1]; simp [go_sem]
  have k1 : w1.cell? ⟨w.heap.size, 1, none⟩ = some (.int .i64 (i : Int)) := by rw [← hw1]; simp [go_sem]
  have HB := Lib.hid B1
  have K0 := Lib.hid k0
  have K1 := Lib.hid k1
  have S1 := Lib.hid (hS.below B1)
  have c4 := S1.out.st.c4
  have hM1 := hM.same (B1.block S.m hM.lt)
  have RL : ∀ j, (Instr.lookup 118 (.map (some S.m)) (kv n i) true).run Tryz.prog (w1.drewN j) = .ok (.tuple #[(M n i).getD nsl, .bool (M n i).isSome]) (w1.drewN j) := fun j =>
    (hM1.same (w' := w1.drewN j) ((below_drewN w1.heap.size w1 j).block S.m hM1.lt)).look (by omega) (by omega) hn hi
  have HM := Lib.hid hMs
  have HS := Lib.hid hS
  have PIH : Hid (∀ p ∈ pos S.L n, ∀ b, b < S.R.length → Ih S p b) := Lib.hid (fun p hp b hb => by
    obtain ⟨q, hq, e⟩ := List.getElem_of_mem hp
    have hql : q < (pts (S.L.drop n)).length := by have : (pos S.L n).length = (pts (S.L.drop n)).length := stp_len _ _; omega
    obtain ⟨_, _, h3, h4⟩ := pos_spec S.L n q hql
    have e2 : (pos S.L n).getD q 0 = p := by rw [List.getD_eq_getElem?_getD, List.getElem?_eq_getElem hq]; exact e
    rw [e2] at h3 h4
    exact IH.out p h3 h4 b hb)
  clear hM hMs hS hM1 B1
  have d0 : ∀ j, (w1.drewN j).cell? ⟨w.heap.size, 0, none⟩ = some (.int .i64 (n : Int)) := fun j => Ck.of_below (below_drewN w1.heap.size w1 j) _ _ _ k0
  have d1 : ∀ j, (w1.drewN j).cell? ⟨w.heap.size, 1, none⟩ = some (.int .i64 (i : Int)) := fun j => Ck.of_below (below_drewN w1.heap.size w1 j) _ _ _ k1
  have d4 : ∀ j, (w1.drewN j).cell? ⟨S.s, 4, none⟩ = some (.map (some S.m)) := fun j => Ck.of_below (below_drewN w1.heap.size w1 j) _ _ _ c4
  cases hm : M n i with
  | some v =>
    rw [hm] at RL
    have HV := Lib.hid (HM.out n i v hn hi hm)
    clear hm
    go_enter Tryz.func30, Tryz.ntmps30
    go_wp2_with fail
    go_quiet (fail)
    go_wp2_with fail
    go_ret
    exact ⟨⟨_, rfl, (HV.out.below HB.out).below (below_drewN _ w1 _)⟩, ((Sgo.refl HS.out).below HB.out).below (below_drewN _ w1 _)⟩
  | none =>
    rw [hm] at RL
    clear hm
    have LK := Lib.hid (fun j => look_any S n i (w1.drewN j) (S1.out.below (below_drewN w1.heap.size w1 j)) hn hi PIH)
    have G1 := Lib.hid (fun j => (((Sgo.refl HS.out).below HB.out).below (below_drewN w1.heap.size w1 j) : Sgo S w (w1.drewN j)))
    have D0 := Lib.hid d0
    have D1 := Lib.hid d1
    go_enter Tryz.func30, Tryz.ntmps30
    go_wp2_with fail
    go_quiet (fail)
    go_wp2_with fail
    refine (LK.out _).mono ?_
    rintro e w3 ⟨⟨v, rfl, hs⟩, hg⟩
    have ck3 := hg.ck (G1.out _).sch.is
    have e0 := ck3 _ _ _ (D0.out _)
    have e1 := ck3 _ _ _ (D1.out _)
    have e4 := hg.sch.st.c4
    obtain ⟨M3, hM3, hMs3⟩ := hg.sch.mp
    obtain ⟨w4, hrun, hM4, ht⟩ := (hM3.same (w' := w3.drew) rfl).put (by omega) (by omega) hn hi v
    have K4 : Keep (· = S.m) w3 w4 := ⟨(Keep.turned ht rfl : Keep (· = S.m) w3.drew w4).os, (Keep.turned ht rfl : Keep (· = S.m) w3.drew w4).tape, (Keep.turned ht rfl : Keep (· = S.m) w3.drew w4).output, (Keep.turned ht rfl : Keep (· = S.m) w3.drew w4).size, (Keep.turned ht rfl : Keep (· = S.m) w3.drew w4).block⟩
    have ci4 := Ci.keep K4 hg.sch.is
    have R4 := Lib.hid (show (∃ u, Ending.returned v = .returned u ∧ Sl w4 u (S.en n i)) ∧ Sgo S w w4 from ⟨⟨v, rfl, hs.ci ci4⟩,
      ⟨⟨hg.sch.st.ck (Ck.keep K4 hg.sch.is) ci4, _, hM4, fun a b u ha hb hu => by
        unfold upd2 at hu
        by_cases c : a = n ∧ b = i
        · obtain ⟨rfl, rfl⟩ := c
          rw [if_pos ⟨rfl, rfl⟩] at hu
          injection hu with hu
          subst hu
          exact hs.ci ci4
        · rw [if_neg c] at hu
          exact (hMs3 a b u ha hb hu).ci ci4⟩, ((G1.out _).keep.tr hg.keep).tr K4⟩⟩)
    have f0 : w3.drew.cell? ⟨w.heap.size, 0, none⟩ = some (.int .i64 (n : Int)) := e0
    have f1 : w3.drew.cell? ⟨w.heap.size, 1, none⟩ = some (.int .i64 (i : Int)) := e1
    have f4 : w3.drew.cell? ⟨S.s, 4, none⟩ = some (.map (some S.m)) := e4
    clear hM3 hMs3 hM4 ht K4 ci4 hs hg ck3 RL d0 d1 d4 c4 k0 k1
    go_wp2_with fail
    go_region
    go_wp2_with fail
    go_ret
    exact R4.out
theorem ends_any (S : Sea) (n i : Nat) (hn : n < S.L.length) (hi : i < S.R.length) : Ih S n i := by
  generalize hk : S.L.length - n = k
  induction k using Nat.strongRecOn generalizing n i with
  | _ k ih => exact ends_step S n i hn hi (Lib.hid fun p hp hpl b hb => ih _ (by omega) p b hpl hb rfl)
end Go.Proofs.YtccjflioaajgiaaGreatDoor

/- A search for a pattern that may be, in a row that may be. -/
namespace Go.Proofs.YtccjflioaajgiaaGreatDoor
open Go Go.RowKit Go.Maps Pk Rl
set_option maxRecDepth 20000

/- what the search's making loads -/
abbrev Kz (w1 W : World) (h : Nat) (nA : Option Addr) (nN nC WW : Nat) : Prop := W.cell? ⟨h, 0, none⟩ = some (.slice nA nN nC) ∧ W.cell? ⟨h, 1, none⟩ = some (.int .u64 (WW : Int)) ∧ Hid (Below w1.heap.size w1 W)
theorem kz_next {w1 W W' : World} {h : Nat} {nA : Option Addr} {nN nC WW : Nat} (hb : Below W.heap.size W W') (K : Kz w1 W h nA nN nC WW) : Kz w1 W' h nA nN nC WW :=
  ⟨Ck.of_below hb _ _ _ K.1, Ck.of_below hb _ _ _ K.2.1, Lib.hid (below_go K.2.2.out hb)⟩
theorem Sch.made {X : World} {m : Nat} {nA pA rA oA : Option Addr} {nC pC rC oC W : Nat} {L : List Nd} {R : List Lg} (hP : Pt X nA L.length nC L) (hl : Lls X pA ((List.range L.length).map (pos L))) (hR : Lr X rA R)
    (ho : Its X oA ((List.range R.length).map (ovr R.length (lat R) W))) (hT : Tab X) (hm : MpV X m L.length R.length (fun _ _ => none)) (h1 : L.length ≤ 50) (h2 : R.length ≤ 900) (h3 : Rise R) :
    Sch ⟨X.heap.size, m, nA, nC, L, pA, pC, rA, rC, R, oA, oC, W⟩ (X.alloc (.cells #[.slice nA L.length nC, .slice pA L.length pC, .slice rA R.length rC, .slice oA R.length oC, .map (some m)] 120)) := by
  have hb := bal X (.cells #[.slice nA L.length nC, .slice pA L.length pC, .slice rA R.length rC, .slice oA R.length oC, .map (some m)] 120)
  have ck := Ck.of_below hb
  refine ⟨⟨by simp [go_sem], by simp [go_sem], by simp [go_sem], by simp [go_sem], by simp [go_sem], hP.ck ck, hl.ck ck (Ci.of_below hb), hR.ck ck, ho.ci (Ci.of_below hb), hT.ck ck, h1, h2, h3⟩, ⟨_, hm.same (hb.block m hm.lt), fun n i v _ _ hv => by cases hv⟩⟩
set_option maxHeartbeats 8000000 in
theorem searchOf_any (nA : Option Addr) (nN nC : Nat) (L : List Nd) (W : Nat) (rA : Option Addr) (rN rC : Nat) (R : List Lg) (w : World) (hP : Pt w nA nN nC L) (hm : nN ≤ 50) (hR : Lr w rA R) (hn : R.length = rN) (hm2 : rN ≤ 900) (hr : Rise R) (hW : W < 18446744073709551616) (hT : Tab w) :
    Calls Tryz.prog 29 #[.agg #[.slice nA nN nC, .int .u64 (W : Int)], .slice rA rN rC] w fun e w' => (∃ s, e = .returned (.pointer (some ⟨s, 0, none⟩)) ∧ ∃ m pA pC oA oC, Sch ⟨s, m, nA, nC, L, pA, pC, rA, rC, R, oA, oC, W⟩ w' ∧ w.heap.size ≤ m) ∧ Below w.heap.size w w' := by
  have hn0 := hP.len
  subst hn0 hn
  obtain ⟨w1, hw1⟩ : ∃ X, w.alloc (.cells #[.slice nA L.length nC, .int .u64 (W : Int)] 30) = X := ⟨_, rfl⟩
  have b1 : Below w.heap.size w w1 := hw1 ▸ bal w _
  have k0 : w1.cell? ⟨w.heap.size, 0, none⟩ = some (.slice nA L.length nC) := by rw [← hw1]; simp [go_sem]
  have k1 : w1.cell? ⟨w.heap.size, 1, none⟩ = some (.int .u64 (W : Int)) := by rw [← hw1]; simp [go_sem]
  have K0 := Lib.hid k0
  have K1 := Lib.hid k1
  have B1 := Lib.hid b1
  have PP := Lib.hid (fun X (hX : Kz w1 X w.heap.size nA L.length nC W) => partsOf_any nA _ nC L X ((hP.ck (Ck.of_below b1)).ck (Ck.of_below hX.2.2.out)) hm)
  have OO := Lib.hid (fun X (hX : Kz w1 X w.heap.size nA L.length nC W) => overs_any rA _ rC R W X ((hR.ck (Ck.of_below b1)).ck (Ck.of_below hX.2.2.out)) rfl (by omega) hr hW)
  have KD : Hid (Kz w1 w1.drew w.heap.size nA L.length nC W) := Lib.hid ⟨k0, k1, Lib.hid (Below.refl _ _).drew⟩
  have KD2 : Hid (Kz w1 (w1.alloc (.map #[] 0)).drew w.heap.size nA L.length nC W) := Lib.hid (kz_next (bal w1 (.map #[] 0)).drew ⟨k0, k1, Lib.hid (Below.refl _ _)⟩)
  have HP := Lib.hid hP
  have HR := Lib.hid hR
  have HI := Lib.hid hr
  have HT := Lib.hid hT
  have hmm := @run_makeMap Tryz.prog
  clear hP hR hr hT b1
  go_enter Tryz.func29, Tryz.ntmps29
  go_wp2_with fail
  go_region_held3 (fun X => X.cell? ⟨w.heap.size, 0, none⟩ = some (.slice nA L.length nC) ∧ X.cell? ⟨w.heap.size, 1, none⟩ = some (.int .u64 (W : Int)) ∧ Hid (Below w1.heap.size w1 X))
    (first | (with_reducible assumption) | (with_reducible exact KD.out) | (with_reducible exact KD2.out) | (with_reducible apply kz_next (bal _ _); with_reducible assumption))
    (first
      | (go_at_call 49; (with_reducible refine Calls.mono (PP.out _ ?_) ?_); (with_reducible assumption); rintro e w3 ⟨rfl, hl, hb⟩; have L3 := Lib.hid hl; have Y3 := Lib.hid hb; have KK : Kz w1 w3 w.heap.size nA L.length nC W := (by refine kz_next hb ?_; with_reducible assumption))
      | (go_at_call 50; (with_reducible refine Calls.mono (OO.out _ ?_) ?_); (with_reducible assumption); rintro e w4 ⟨rfl, hl, hb⟩; have L4 := Lib.hid hl; have Y4 := Lib.hid hb; have KK : Kz w1 w4 w.heap.size nA L.length nC W := (by refine kz_next hb ?_; with_reducible assumption)))
  · have B4 := Lib.hid (below_go KK.2.2.out (bal w4 (.map #[] 0)))
    have L4' := Lib.hid (L4.out.ci (Ci.of_below (bal w4 (.map #[] 0))))
    have L3' := Lib.hid ((L3.out.below Y4.out).below (bal w4 (.map #[] 0)))
    have M4 := Lib.hid (MpV.new w4 L.length R.length)
    have KKK := Lib.hid B1.out.size
    have K5 := Lib.hid B4.out.size
    have K6 : Hid (w1.heap.size ≤ w4.heap.size) := Lib.hid KK.2.2.out.size
    have ZX : Hid ((w4.alloc (.map #[] 0)).heap.size = w4.heap.size + 1) := Lib.hid (by simp)
    have CKK := Lib.hid (Ck.of_below (B1.out.trans (B4.out.mono B1.out.size)))
    have SC := Lib.hid (Sch.made (pC := L.length) (oC := R.length) (rC := rC) (HP.out.ck CKK.out) L3'.out (HR.out.ck CKK.out) L4'.out (HT.out.ck CKK.out) M4.out hm hm2 HI.out)
    rw [ZX.out] at SC
    have BF := Lib.hid ((B1.out.trans (B4.out.mono B1.out.size)).trans ((bal (w4.alloc (.map #[] 0)) (.cells #[.slice nA L.length nC, .slice (some ⟨w1.heap.size, 0, none⟩) L.length L.length, .slice rA R.length rC, .slice (some ⟨w3.heap.size, 0, none⟩) R.length R.length, .map (some w4.heap.size)] 120)).mono (by rw [ZX.out]; have := K6.out; have := KKK.out; omega)))
    clear KK
    go_wp2_with fail
    go_ret
    exact ⟨⟨_, rfl, _, _, _, _, _, SC.out, by have := K6.out; have := KKK.out; omega⟩, BF.out⟩
  · have ZX : Hid ((w3.alloc (.map #[] 0)).heap.size = w3.heap.size + 1) := Lib.hid (by simp)
    have ZM : Hid (w1.heap.size ≤ w3.heap.size) := Lib.hid Y3.out.size
    have L4' := Lib.hid ((by have := L4.out; rwa [ZX.out] at this : Its w4 (some ⟨w3.heap.size + 1, 0, none⟩) ((List.range R.length).map (ovr R.length (lat R) W))))
    have L3' := Lib.hid ((L3.out.below (bal w3 (.map #[] 0))).below Y4.out)
    have M4 : Hid (MpV w4 w3.heap.size L.length R.length (fun _ _ => none)) := Lib.hid ((MpV.new w3 L.length R.length).same (Y4.out.block w3.heap.size (by rw [ZX.out]; omega)))
    have KKK := Lib.hid B1.out.size
    have K6 : Hid (w1.heap.size ≤ w4.heap.size) := Lib.hid KK.2.2.out.size
    have K7 : Hid (w.heap.size ≤ w3.heap.size) := Lib.hid (by have := KKK.out; have := ZM.out; omega)
    have CKK := Lib.hid (Ck.of_below (B1.out.trans (KK.2.2.out.mono B1.out.size)))
    have SC := Lib.hid (Sch.made (pC := L.length) (oC := R.length) (rC := rC) (HP.out.ck CKK.out) L3'.out (HR.out.ck CKK.out) L4'.out (HT.out.ck CKK.out) M4.out hm hm2 HI.out)
    have BF := Lib.hid ((B1.out.trans (KK.2.2.out.mono B1.out.size)).trans ((bal w4 (.cells #[.slice nA L.length nC, .slice (some ⟨w1.heap.size, 0, none⟩) L.length L.length, .slice rA R.length rC, .slice (some ⟨w3.heap.size + 1, 0, none⟩) R.length R.length, .map (some w3.heap.size)] 120)).mono (by have := K6.out; have := KKK.out; omega)))
    clear KK
    go_wp2_with fail
    go_ret
    exact ⟨⟨_, rfl, _, _, _, _, _, SC.out, K7.out⟩, BF.out⟩
  · have ZX : Hid ((w1.alloc (.map #[] 0)).drew.heap.size = w1.heap.size + 1) := Lib.hid (by simp)
    have ZM : Hid (w1.heap.size ≤ w1.heap.size) := Lib.hid (Nat.le_refl _)
    have L4' := Lib.hid (L4.out)
    have L3' := Lib.hid ((by have := L3.out.below Y4.out; rwa [ZX.out] at this : Lls w4 (some ⟨w1.heap.size + 1, 0, none⟩) ((List.range L.length).map (pos L))))
    have M4 : Hid (MpV w4 w1.heap.size L.length R.length (fun _ _ => none)) := Lib.hid (((MpV.new w1 L.length R.length).same (w' := w3) (Y3.out.block w1.heap.size (by rw [ZX.out]; omega))).same (Y4.out.block w1.heap.size (by have := Y3.out.size; rw [ZX.out] at this; omega)))
    have KKK := Lib.hid B1.out.size
    have K6 : Hid (w1.heap.size ≤ w4.heap.size) := Lib.hid KK.2.2.out.size
    have K7 : Hid (w.heap.size ≤ w1.heap.size) := Lib.hid (by have := KKK.out; have := ZM.out; omega)
    have CKK := Lib.hid (Ck.of_below (B1.out.trans (KK.2.2.out.mono B1.out.size)))
    have SC := Lib.hid (Sch.made (pC := L.length) (oC := R.length) (rC := rC) (HP.out.ck CKK.out) L3'.out (HR.out.ck CKK.out) L4'.out (HT.out.ck CKK.out) M4.out hm hm2 HI.out)
    have BF := Lib.hid ((B1.out.trans (KK.2.2.out.mono B1.out.size)).trans ((bal w4 (.cells #[.slice nA L.length nC, .slice (some ⟨w1.heap.size + 1, 0, none⟩) L.length L.length, .slice rA R.length rC, .slice (some ⟨w3.heap.size, 0, none⟩) R.length R.length, .map (some w1.heap.size)] 120)).mono (by have := K6.out; have := KKK.out; omega)))
    clear KK
    go_wp2_with fail
    go_ret
    exact ⟨⟨_, rfl, _, _, _, _, _, SC.out, K7.out⟩, BF.out⟩
end Go.Proofs.YtccjflioaajgiaaGreatDoor
