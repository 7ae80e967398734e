/- Parts, depth and places of a pattern's nodes: the program's. -/
import Derived.Test.YtpnllbojifnopaaGreatDoorMO
import Derived.Maps.AppendAt
import Derived.Lib.MinMax
namespace Go.Proofs.YtpnllbojifnopaaGreatDoor
open Go Go.RowKit Pk Rl
set_option maxRecDepth 20000

theorem pgetD_mem (L : List (List Nd)) (k : Nat) (h : k < L.length) : L.getD k [] ∈ L := by
  rw [List.getD_eq_getElem?_getD, List.getElem?_eq_getElem h]; exact List.getElem_mem _
theorem ptake_snoc (L : List (List Nd)) (j : Nat) (h : j < L.length) : L.take (j + 1) = L.take j ++ [L.getD j []] := by
  rw [List.take_succ_eq_append_getElem h, List.getD_eq_getElem?_getD, List.getElem?_eq_getElem h]; rfl
theorem pgetD_app (L : List (List Nd)) (l : List Nd) (i : Nat) (h : i < L.length) : (L ++ [l]).getD i [] = L.getD i [] := by
  simp [List.getD_eq_getElem?_getD, List.getElem?_append_left h]
theorem pgetD_last (L : List (List Nd)) (l : List Nd) : (L ++ [l]).getD L.length [] = l := by simp [List.getD_eq_getElem?_getD]
/- a slice in a box of its own -/
def SBox (w : World) (g : Nat) (v : Value) : Prop := w.heap[g]? = some (.cells #[v] 178 (0, 0))
theorem SBox.cell {w : World} {g : Nat} {v : Value} (h : SBox w g v) : w.cell? ⟨g, 0, none⟩ = some v := by rw [cell_of_row w g 0 _ _ _ h]; rfl
theorem SBox.free {w : World} {g : Nat} {v : Value} (h : SBox w g v) (j : Nat) : w.frozen? ⟨g, j, none⟩ = false := by
  simp [World.frozen?, SBox] at h ⊢
  simp [h]
theorem SBox.lt {w : World} {g : Nat} {v : Value} (h : SBox w g v) : g < w.heap.size := World.block_lt_of_cell? _ _ h.cell
theorem SBox.below {B : Nat} {w w' : World} {g : Nat} {v : Value} (h : SBox w g v) (hb : Below B w w') (hB : g < B) : SBox w' g v := by unfold SBox; rw [hb.block g hB]; exact h
theorem SBox.set {w : World} {g : Nat} {v : Value} (h : SBox w g v) (v' : Value) : SBox (w.setCell ⟨g, 0, none⟩ v') g v' := by
  unfold SBox
  rw [heap_setCell_same w g 0 _ _ _ h]
  rfl
theorem SBox.start (w : World) (v : Value) : SBox (w.alloc (.cells #[v] 178)) w.heap.size v := heap_alloc_new w _
/- rows of parts: each is a slice of the pattern's own nodes -/
def PS (w0 : World) (L : List (List Nd)) (cs : List Value) : Prop := cs.length = L.length ∧ ∀ i, i < L.length → ∃ A C, cs[i]? = some (.slice A (L.getD i []).length C) ∧ Pt w0 A (L.getD i []).length C (L.getD i [])
def OwnP (w0 w : World) (B : Nat) (v : Value) (L : List (List Nd)) : Prop := ∃ cs, w.ownsRow B 26 1 v L.length cs ∧ PS w0 L cs
theorem rowP_below {w w' : World} {B n : Nat} {v : Value} {cs : List Value} (h : w.ownsRow B 26 1 v n cs) (hb : Below w.heap.size w w') : w'.ownsRow B 26 1 v n cs := by
  refine ⟨h.1, ?_⟩
  rcases h.2 with h0 | ⟨g, cap, cur, hv, hg, hh, r⟩
  · exact .inl h0
  · refine .inr ⟨g, cap, cur, hv, hg, ?_, r⟩
    rw [hb.block g ?_]
    · exact hh
    · rcases Nat.lt_or_ge g w.heap.size with h1 | h1
      · exact h1
      · rw [Array.getElem?_eq_none h1] at hh; cases hh
theorem rowP_set {w : World} {B n : Nat} {v : Value} {cs : List Value} (h : w.ownsRow B 26 1 v n cs) (g : Nat) (hg : g < B) (x : Value) : (w.setCell ⟨g, 0, none⟩ x).ownsRow B 26 1 v n cs := by
  refine ⟨h.1, ?_⟩
  rcases h.2 with h0 | ⟨r, cap, cur, hv, hr, hh, t⟩
  · exact .inl h0
  · refine .inr ⟨r, cap, cur, hv, hr, ?_, t⟩
    rw [heap_setCell_other w ⟨g, 0, none⟩ r x (by show r ≠ g; omega)]
    exact hh
theorem OwnP.below {w0 w w' : World} {B : Nat} {v : Value} {L : List (List Nd)} (h : OwnP w0 w B v L) (hb : Below w.heap.size w w') : OwnP w0 w' B v L := by
  obtain ⟨cs, h1, h2⟩ := h
  exact ⟨cs, rowP_below h1 hb, h2⟩
theorem OwnP.set {w0 w : World} {B : Nat} {v : Value} {L : List (List Nd)} (h : OwnP w0 w B v L) (g : Nat) (hg : g < B) (x : Value) : OwnP w0 (w.setCell ⟨g, 0, none⟩ x) B v L := by
  obtain ⟨cs, h1, h2⟩ := h
  exact ⟨cs, rowP_set h1 g hg x, h2⟩
theorem OwnP.nil (w0 w : World) (B : Nat) : OwnP w0 w B (.slice none 0 0) [] := ⟨[], World.ownsRow_nil w B 26 1, rfl, fun i hi => absurd hi (by simp)⟩
theorem infoP : ∃ i, Tryz.prog.info? 26 = some i ∧ i.zero = some (.slice none 0 0) ∧ i.size = 1 ∧ i.bytes = 24 :=
  ⟨(Tryz.prog.info? 26).get (by kernel_rfl), by kernel_rfl, by kernel_rfl, by kernel_rfl, by kernel_rfl⟩
/- rows of parts, wherever they lie -/
def Prow (w0 w : World) (A : Option Addr) (L : List (List Nd)) : Prop := ∀ i, i < L.length → ∃ b off A' C, A = some ⟨b, off, none⟩ ∧ w.cell? ⟨b, off + i, none⟩ = some (.slice A' (L.getD i []).length C) ∧ Pt w0 A' (L.getD i []).length C (L.getD i [])
theorem Prow.below {w0 w w' : World} {A : Option Addr} {L : List (List Nd)} (h : Prow w0 w A L) (hb : Below w.heap.size w w') : Prow w0 w' A L := fun i hi => by
  obtain ⟨b, off, A', C, e, hc, hy⟩ := h i hi
  exact ⟨b, off, A', C, e, (hb.cell (p := ⟨b, off + i, none⟩) (World.block_lt_of_cell? _ _ hc)).trans hc, hy⟩
theorem OwnP.form {w0 w : World} {B : Nat} {v : Value} {L : List (List Nd)} (h : OwnP w0 w B v L) : ∃ A c, v = .slice A L.length c ∧ Prow w0 w A L := by
  obtain ⟨cs, h1, h2, h3⟩ := h
  rcases h1.2 with ⟨rfl, h0⟩ | ⟨g, cap, cur, rfl, _⟩
  · have : L = [] := List.eq_nil_of_length_eq_zero h0
    subst this
    exact ⟨none, 0, rfl, fun i hi => absurd hi (by simp)⟩
  · refine ⟨_, _, rfl, fun i hi => ?_⟩
    obtain ⟨A, C, e, o⟩ := h3 i hi
    have := World.ownsRow.cells h1 (g := g) rfl i _ e
    rw [add_plain] at this
    exact ⟨g, 0, A, C, rfl, this, o⟩
theorem wp_appp {ops : Array Oper} {rest : List Oper} {o : Oper} {a : Act} {Q : Exit → Act → World → Prop} (s x : Operand) (w0 w : World) (hgd : o.guard = none)
    (hop : o.op = .call { callee := .builtin .append, args := #[s, x], argTypes := #[178, 178] })
    (B : Nat) (v : Value) (L : List (List Nd)) (hs : a.eval s = v) (ho : OwnP w0 w B v L) (ad : Addr) (hx : a.eval x = .slice (some ad) 1 1) (A : Option Addr) (n C : Nat) (l : List Nd) (hc : w.cell? ad = some (.slice A n C)) (hl : Pt w0 A n C l)
    (hlen : L.length ≤ 100000) (hB : B ≤ w.heap.size)
    (k : Nat) (hk : L.length + 1 = k)
    (h : ∀ A' c' w', OwnP w0 w' B (.slice A' k c') (L ++ [l]) → Below B w w' → wpList Tryz.prog ops Q rest (a.put o.dst (.slice A' k c')) w') : wpList Tryz.prog ops Q (o :: rest) a w := by
  refine wpList_plain hgd fun K hK => ?_
  obtain ⟨i, hi, hz, hsz, hy⟩ := infoP
  obtain ⟨cs, h1, h2, h3⟩ := ho
  obtain ⟨v', w', hrun, r2, r3, _, _⟩ := run_append_own_at (P := Tryz.prog) w B 178 o.type 26 i (.slice none 0 0) 1 24 Tryz.underlying178 hi hz hsz hy rfl (by omega) v L.length cs h1 ad 1 1 [.slice A n C] rfl
    (fun j u hj => by
      rcases j with _ | j
      · simp at hj; subst hj
        have : ad.add 0 = ad := by obtain ⟨b, off, sp⟩ := ad; cases sp <;> simp [Addr.add]
        rw [this]; exact hc
      · simp at hj)
    (fun u hu => by simp at hu; subst hu; rfl) (by unfold maxLen; omega) (by omega) hB
  have hO : OwnP w0 w' B v' (L ++ [l]) := by
    refine ⟨cs ++ [.slice A n C], by rw [List.length_append]; exact r2, by simp [h2], fun j hj => ?_⟩
    rw [List.length_append, List.length_singleton] at hj
    by_cases hjl : j < L.length
    · obtain ⟨A', C', e, o'⟩ := h3 j hjl
      rw [pgetD_app L l j hjl]
      exact ⟨A', C', by rw [List.getElem?_append_left (by omega)]; exact e, o'⟩
    · obtain rfl : j = L.length := by omega
      rw [pgetD_last, hl.len]
      exact ⟨A, C, by rw [← h2]; simp, hl⟩
  obtain ⟨A', c', rfl, _⟩ := hO.form
  have ek : (L ++ [l]).length = k := by rw [List.length_append, List.length_singleton, hk]
  rw [ek] at hO hrun
  unfold Oper.wp
  simp [execOp, hop, resolve, invoke, builtin, hs, hx, hrun, Result.andThen]
  exact hK _ _ (h A' c' w' hO ((Below.refl _ _).grown r3 hB (fun k hk => (World.ownsRow.lt h1 k hk).1)))
set_option maxHeartbeats 2000000 in
theorem parts1_any (w0 w1 : World) (g : Nat) (D : List (List Nd)) (hd : D.length ≤ 1000) (p : List Nd) (A : Option Addr) (n c : Nat) (v : Value) (w : World) (hbox : SBox w g v) (hO : OwnP w0 w (g + 1) v D) (hP : Pt w0 A n c p) (hB : Below w1.heap.size w1 w) (hg : w1.heap.size ≤ g) :
    Calls Tryz.prog 111 #[.slice A n c, .pointer (some ⟨g, 0, none⟩)] w fun e w' => e = .returned (.bool true) ∧ (∃ v', SBox w' g v' ∧ OwnP w0 w' (g + 1) v' (D ++ [p])) ∧ Below w1.heap.size w1 w' := by
  have hc := hbox.cell
  have hlt := hbox.lt
  have HX := Lib.hid (hbox.below (below_alloc w (.cells #[.slice A n c] 26)) hlt)
  have HO := Lib.hid (hO.below (below_alloc w (.cells #[.slice A n c] 26)))
  have HB := Lib.hid (show Below w1.heap.size w1 (w.alloc (.cells #[.slice A n c] 26)) from hB.alloc hB.size _)
  have HP := Lib.hid hP
  have hcell : (w.alloc (.cells #[.slice A n c] 26)).cell? ⟨w.heap.size, 0, none⟩ = some (.slice A n c) := by simp [go_sem]
  have HC := Lib.hid hcell
  clear hbox hO hP hB hcell
  go_enter Tryz.func111, Tryz.ntmps111
  go_wp2_with (at_builtin; refine wp_appp (.tmp 4) (.tmp 6) w0 _ (by rfl) (by rfl) (g + 1) v D (by rfl) HO.out _ (by rfl) A n c p HC.out HP.out (by omega) (by rw [World.size_alloc]; omega) (D.length + 1) rfl ?_; intro A1 c1 w' hO' hb'; have X2 := Lib.hid (HX.out.below hb' (by omega)); have O2 := Lib.hid (hO'.set g (by omega) (.slice A1 (D.length + 1) c1)); have B2 := Lib.hid ((HB.out.trans (hb'.mono (by omega))).setCell (p := ⟨g, 0, none⟩) (by exact hg) (.slice A1 (D.length + 1) c1)); have fr := X2.out.free 0; have lt2 := X2.out.lt; have c2 := X2.out.cell; clear hO' hb')
  go_ret
  exact ⟨rfl, ⟨_, X2.out.set _, O2.out⟩, B2.out⟩
set_option maxHeartbeats 2000000 in
theorem parts_any (w0 : World) (a : Option Addr) (n c : Nat) (L : List Nd) (w : World) (hP : Pt w0 a n c L) (h01 : Below w0.heap.size w0 w) :
    Calls Tryz.prog 81 #[.slice a n c] w fun e w' => (∃ A C, e = .returned (.slice A (pts L).length C) ∧ Prow w0 w' A (pts L)) ∧ Below w.heap.size w w' := by
  have B0 := Lib.hid (below_alloc w (.cells #[.slice none 0 0] 178))
  have O := Lib.hid (ofp_parts (fun _ => true) (fun W D => ∃ v, SBox W w.heap.size v ∧ OwnP w0 W (w.heap.size + 1) v D) w0 w h01 w.heap.size n
    (Lib.hid fun D p A n' c' W hJ hPp _ hnn hD hB => by
      obtain ⟨v, h1, h2⟩ := hJ
      refine (parts1_any w0 w w.heap.size D hD p A n' c' v W h1 h2 hPp hB (Nat.le_refl _)).mono ?_
      rintro e w' ⟨rfl, h2, h3⟩
      exact ⟨rfl, fun _ => h2, h3⟩)
    a n c L _ hP (Nat.le_refl _) ⟨_, SBox.start w _, OwnP.nil _ _ _⟩ B0.out)
  have HE := Lib.hid (show ofp (fun _ => true) L = false → pts L = [] from fun h => by
    by_cases h0 : frn L = []
    · unfold pts; rw [h0, List.tail_nil, spl_nil]; rfl
    · rw [ofp_cons h0] at h
      unfold pts
      rcases hs : spl (frn L).tail with _ | ps
      · rfl
      · rw [hs] at h; simp at h)
  generalize ofp (fun _ => true) L = b at O HE
  clear hP
  generalize pts L = R at O HE
  go_enter Tryz.func81, Tryz.ntmps81
  go_wp2_with fail
  refine O.out.mono ?_
  rintro e w2 ⟨rfl, hJ, hB⟩
  have HJ := Lib.hid hJ
  have B2 := Lib.hid hB
  clear hJ hB O
  cases b
  · have e0 : R = [] := HE.out (by first | rfl | trivial)
    subst e0
    go_wp2_with fail
    go_ret
    exact ⟨⟨none, 0, rfl, fun i hi => absurd hi (by simp)⟩, B2.out⟩
  · obtain ⟨v, h1, h2⟩ := HJ.out (by first | rfl | trivial)
    obtain ⟨A, C, rfl, h3⟩ := h2.form
    have c1 := h1.cell
    have H3 := Lib.hid h3
    clear h1 h2 h3 HE HJ
    go_wp2_with fail
    go_ret
    exact ⟨⟨A, C, rfl, H3.out⟩, B2.out⟩
set_option maxHeartbeats 2000000 in
theorem depth_any (k : Nat) (hk : k ≤ 2000) : ∀ (a : Option Addr) (n c : Nat) (L : List Nd) (w : World), n < k → Pt w a n c L →
    Calls Tryz.prog 79 #[.slice a n c] w fun e w' => e = .returned (.int .i64 (dpt k L)) ∧ Below w.heap.size w w' := by
  induction k with
  | zero => intro a n c L w h; exact absurd h (by omega)
  | succ k ih =>
    intro a n c L w hn hP
    have IH := Lib.hid (ih (by omega))
    clear ih
    have PA := Lib.hid (parts_any w a n c L w hP (Below.refl _ _))
    have MEM := Lib.hid (show ∀ p ∈ pts L, p.length < k from fun p hp => by have := (pts_mem p hp).2.2.1; have := hP.len; omega)
    have PL := Lib.hid (show (pts L).length ≤ 1000 by have := pts_len L; have := hP.len; have := hP.few; omega)
    have HB := Lib.hid (fun p => dpt_pos k p)
    have E : dpt (k + 1) L = (pts L).foldl (fun m p => max m (1 + dpt k p)) 0 := rfl
    rw [E]
    clear E hP hn
    generalize pts L = R at PA MEM PL
    obtain ⟨q, hq⟩ : ∃ q, R.length = q := ⟨_, rfl⟩
    obtain ⟨r, hr⟩ : ∃ r, R.foldl (fun m p => max m (1 + dpt k p)) 0 = r := ⟨_, rfl⟩
    rw [hr]
    rw [hq] at PA PL
    have HQ := Lib.hid hq
    have HR := Lib.hid hr
    clear hq hr
    go_enter Tryz.func79, Tryz.ntmps79
    go_wp2_with fail
    refine PA.out.mono ?_
    rintro e w2 ⟨⟨A, C, rfl, hr⟩, hb⟩
    have HW := Lib.hid hr
    have B2 := Lib.hid hb
    have hql := PL.out
    clear hr hb PA
    go_wp2_with fail
    go_loopw [3, 9] (fun v3 v9 W => ∃ (m : Int) (i : Nat), v3 = .int .i64 m ∧ v9 = .int .i64 (i : Int) ∧ i ≤ q ∧ Hid (m = (R.take i).foldl (fun m p => max m (1 + dpt k p)) 0 ∧ Prow w W A R ∧ Below w.heap.size w W)) (fun _ v9 _ => q - (intOf v9).toNat)
    case atStart => exact ⟨0, 0, rfl, rfl, by omega, Lib.hid ⟨rfl, HW.out, B2.out⟩⟩
    case round =>
      obtain ⟨m, i, rfl, rfl, hi, H⟩ := hrel
      have HM := Lib.hid H.out.1
      have HW1 := Lib.hid H.out.2.1
      have B1 := Lib.hid H.out.2.2
      clear H HW B2
      by_cases ci : i < q
      · obtain ⟨b, off, A', C', rfl, hcell, hpt⟩ := HW1.out i (by have := HQ.out; omega)
        have HG := Lib.hid (show (R.getD i []).length < k from MEM.out _ (pgetD_mem R i (by have := HQ.out; omega)))
        have TS := Lib.hid (ptake_snoc R i (by have := HQ.out; omega))
        obtain ⟨p, hp⟩ : ∃ p, R.getD i [] = p := ⟨_, rfl⟩
        rw [hp] at hcell hpt HG TS
        clear hp
        obtain ⟨pl, hpl⟩ : ∃ pl, p.length = pl := ⟨_, rfl⟩
        rw [hpl] at hcell hpt HG
        have I := Lib.hid (IH.out A' pl C' p wr HG.out (hpt.below B1.out))
        obtain ⟨x, hx⟩ : ∃ x, dpt k p = x := ⟨_, rfl⟩
        have HX := Lib.hid (HB.out p)
        have TX := Lib.hid (show (R.take (i + 1)).foldl (fun m p => max m (1 + dpt k p)) 0 = max m (1 + x) by rw [TS.out, List.foldl_append, List.foldl_cons, List.foldl_nil, ← HM.out, hx])
        rw [hx] at I HX
        clear hx hpt hpl TS HM
        have x0 : 0 ≤ x := HX.out.1
        have x1 : x ≤ 2000 := by have := HX.out.2; omega
        go_wp2_with fail
        refine I.out.mono ?_
        rintro e w3 ⟨rfl, hb⟩
        have B3 := Lib.hid (below_go B1.out hb)
        have HW3 := Lib.hid (HW1.out.below hb)
        clear hb I HW1 B1 hcell
        go_wp2_with fail
        go_roundw
        case rel => exact ⟨_, i + 1, rfl, by go_num, by omega, Lib.hid ⟨TX.out.symm, HW3.out, B3.out⟩⟩
        case measure => simp [intOf]; omega
      · obtain rfl : i = q := by omega
        have EM := Lib.hid (show m = r by rw [HM.out, ← HR.out, List.take_of_length_le (by have := HQ.out; omega)])
        have em := EM.out
        subst em
        go_wp2_with fail
        go_ret
        exact ⟨rfl, B1.out⟩
end Go.Proofs.YtpnllbojifnopaaGreatDoor
