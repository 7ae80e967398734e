/- The document's Cut, Set and Next. -/
import Derived.Test.YtnomegopjdgbjaaDuEqual
namespace Go.Proofs.Ytnomegopjdgbjaa
open Go Go.RowKit
set_option maxRecDepth 20000

theorem Prs.below {w w' : World} {A : Option Addr} {L : List E} (h : Prs w A L) (hb : Below w.heap.size w w') : Prs w' A L := fun i hi => by
  obtain ⟨b, off, e, c0, c1⟩ := h i hi
  exact ⟨b, off, e, (hb.cell (World.block_lt_of_cell? _ _ c0)).trans c0, (hb.cell (World.block_lt_of_cell? _ _ c1)).trans c1⟩
theorem Prs.keep {w w' : World} {A : Option Addr} {L : List E} {F : Nat → Prop} (h : Prs w A L) (hb : Keep F w w') (hF : ∀ x, A = some x → ¬ F x.block) : Prs w' A L := fun i hi => by
  obtain ⟨b, off, rfl, c0, c1⟩ := h i hi
  exact ⟨b, off, rfl, hb.cell c0 (hF ⟨b, off, none⟩ rfl), hb.cell c1 (hF ⟨b, off, none⟩ rfl)⟩
theorem OwnE.prs {T : TypeId} {w : World} {B : Nat} {A : Option Addr} {n c : Nat} {L : List E} (h : OwnE T w B (.slice A n c) L) : Prs w A L := by
  obtain ⟨A', c', e, hp, _⟩ := h.form
  injection e with e _ _
  subst e
  exact hp
theorem OwnE.far {T : TypeId} {w : World} {B : Nat} {A : Option Addr} {n c : Nat} {L : List E} (h : OwnE T w B (.slice A n c) L) : ∀ x, A = some x → B ≤ x.block := fun x e => by
  subst e
  exact (h.lt x.block rfl).1
theorem wp_appe {T S : TypeId} {z : Value} (ty : Typ T S z) {ops : Array Oper} {rest : List Oper} {o : Oper} {a : Act} {Q : Exit → Act → World → Prop} (w : World) (hgd : o.guard = none) (s x : Operand)
    (hop : o.op = .call { callee := .builtin .append, args := #[s, x], argTypes := #[S, S] })
    (B : Nat) (v : Value) (L : List E) (hs : a.eval s = v) (ho : OwnE T w B v L) (b off c : Nat) (e : E) (hx : a.eval x = .slice (some ⟨b, off, none⟩) 1 c)
    (hk : w.cell? ⟨b, off, none⟩ = some (.int .u64 (e.1 : Int))) (ha : w.cell? ⟨b, off + 1, none⟩ = some (.int .u64 (e.2 : Int))) (hlen : L.length ≤ 1000000) (hB : B ≤ w.heap.size) (k : Nat) (hkk : L.length + 1 = k)
    (h : ∀ A' c' w', OwnE T w' B (.slice A' k c') (L ++ [e]) → Below B w w' → wpList Try.prog ops Q rest (a.put o.dst (.slice A' k c')) w') :
    wpList Try.prog ops Q (o :: rest) a w := by
  refine wpList_plain hgd fun K hK => ?_
  obtain ⟨v', w', hrun, h2, h3, h4⟩ := run_appe ty w B o.type v L ho b off c e hk ha hlen hB
  obtain ⟨A', c', rfl, _, _⟩ := h2.form
  rw [show (L ++ [e]).length = k by simp; omega] at h2 hrun h4
  unfold Oper.wp
  simp [execOp, hop, resolve, invoke, builtin, hs, hx, hrun, Result.andThen]
  exact hK _ _ (h A' c' w' h2 ((Below.refl _ _).grown h3 hB (fun k hk => (ho.lt k hk).1)))
theorem cut_take {l : List E} {i k : Nat} (hi : i < l.length) : cutL (l.take (i + 1)) k = if (g l i).1 = k then cutL (l.take i) k else cutL (l.take i) k ++ [g l i] := by
  rw [List.take_succ_eq_append_getElem hi, g_lt l i hi]
  unfold cutL
  rw [List.filter_append]
  by_cases c : (l[i]).1 = k
  · rw [if_pos c, List.filter_cons_of_neg (by simp [c])]; simp
  · rw [if_neg c, List.filter_cons_of_pos (by simp [c])]; simp
set_option maxHeartbeats 2000000 in
theorem rcut_any (w : World) (A : Option Addr) (n c k : Nat) (l : List E) (hl : l.length = n) (hp : Prs w A l) (hn : n ≤ 100000) :
    Calls Try.prog 20 #[.slice A n c, .int .u64 (k : Int)] w fun e w' => ∃ A' n' c', e = .returned (.tuple #[.slice A' n' c', .bool (decide (n' < n))]) ∧ (cutL l k).length = n' ∧ OwnE 37 w' w.heap.size (.slice A' n' c') (cutL l k) ∧ Below w.heap.size w w' := by
  have HP := Lib.hid hp
  have HL := Lib.hid hl
  have O0 := Lib.hid (OwnE.made 37 w)
  have B0 := Lib.hid (below_alloc w (.cells #[] 37))
  clear hp hl
  go_enter Try.func20, Try.ntmps20
  go_wp2_with fail
  go_loopw [11, 6] (fun s v wr => ∃ (i m : Nat) (A' : Option Addr) (c' : Nat), s = .int .i64 i ∧ v = .slice A' m c' ∧ i ≤ n ∧ m ≤ i ∧ Hid (OwnE 37 wr w.heap.size (.slice A' m c') (cutL (l.take i) k) ∧ (cutL (l.take i) k).length = m ∧ Below w.heap.size w wr)) (fun s _ _ => n - (intOf s).toNat)
  case atStart => exact ⟨0, 0, _, _, rfl, rfl, by omega, by omega, by simpa [cutL] using O0.out, by simp [cutL], B0.out⟩
  case round =>
    obtain ⟨i, m, A', c', rfl, rfl, hi, hm, H⟩ := hrel
    clear O0 B0
    by_cases ci : i < n
    · obtain ⟨b, off, rfl, x1, x2⟩ := (HP.out.below H.out.2.2) i (by have := HL.out; omega)
      have ci' : (i : Int) < (n : Int) := by omega
      have ci0 : (0 : Int) ≤ (i : Int) := by omega
      have CT := Lib.hid (cut_take (l := l) (k := k) (show i < l.length by have := HL.out; omega))
      have hbl : b < wr.heap.size := World.block_lt_of_cell? _ _ x1
      generalize g l i = y at *
      obtain ⟨y1, y2⟩ := y
      simp only at x1 x2 CT
      by_cases ck : y1 = k
      · subst ck
        rw [if_pos rfl] at CT
        go_wp2_with fail
        go_roundw
        case rel => exact ⟨i + 1, m, A', c', by go_num, rfl, by omega, by omega, by rw [CT.out]; exact H.out.1, by rw [CT.out]; exact H.out.2.1, H.out.2.2⟩
        case measure => simp [intOf]; omega
      · rw [if_neg ck] at CT
        have ck' : ¬ ((y1 : Int) = (k : Int)) := by omega
        have O1 := Lib.hid (H.out.1.below (below_alloc wr (.cells #[.int .u64 (y1 : Int), .int .u64 (y2 : Int)] 37)))
        have L1 := Lib.hid H.out.2.1
        have B1 := Lib.hid H.out.2.2
        clear H ck
        go_wp2_with (at_builtin; refine wp_appe typR _ rfl _ _ rfl w.heap.size _ _ rfl O1.out wr.heap.size 0 1 (y1, y2) rfl (by simp [go_sem]) (by simp [go_sem]) (by rw [L1.out]; omega) (by have := B1.out.size; simp; omega) (m + 1) (by rw [L1.out]) ?_)
        intro A3 c3 w3 hO3 hb3
        have O3 := Lib.hid hO3
        have B3 := Lib.hid ((B1.out.trans ((below_alloc wr (.cells #[.int .u64 (y1 : Int), .int .u64 (y2 : Int)] 37)).mono B1.out.size)).trans hb3)
        clear hO3 hb3 O1 x1 x2
        go_wp2_with fail
        go_roundw
        case rel => exact ⟨i + 1, m + 1, A3, c3, by go_num, rfl, by omega, by omega, by rw [CT.out]; exact O3.out, by rw [CT.out, List.length_append, L1.out]; rfl, B3.out⟩
        case measure => simp [intOf]; omega
    · obtain rfl : i = n := by omega
      have hfull : l.take i = l := List.take_of_length_le (by have := HL.out; omega)
      rw [hfull] at H
      clear hfull ci
      go_wp2_with fail
      go_ret2
      exact ⟨A', m, c', by simp, H.out.2.1, H.out.1, H.out.2.2⟩
set_option maxHeartbeats 2000000 in
theorem rset_any (w : World) (A : Option Addr) (n c k a : Nat) (l : List E) (hl : l.length = n) (hp : Prs w A l) (hn : n ≤ 90000) :
    Calls Try.prog 19 #[.slice A n c, .int .u64 (k : Int), .int .u64 (a : Int)] w fun e w' => ∃ A' n' c', e = .returned (.slice A' n' c') ∧ (cutL l k ++ [(k, a)]).length = n' ∧ OwnE 37 w' w.heap.size (.slice A' n' c') (cutL l k ++ [(k, a)]) ∧ Below w.heap.size w w' := by
  have C := Lib.hid (rcut_any w A n c k l hl hp (by omega))
  have hcl : (cutL l k).length ≤ n := by rw [← hl]; exact List.length_filter_le _ _
  clear hl hp
  generalize cutL l k = l' at *
  go_enter Try.func19, Try.ntmps19
  go_wp2_with fail
  refine C.out.mono ?_
  rintro e w1 ⟨A1, n1, c1, rfl, h1, h2, h3⟩
  have O1 := Lib.hid (h2.below (below_alloc w1 (.cells #[.int .u64 (k : Int), .int .u64 (a : Int)] 37)))
  have B1 := Lib.hid h3
  have L1 := Lib.hid h1
  have hn1 : n1 ≤ n := by omega
  clear h1 h2 h3 C hcl
  go_wp2_with (at_builtin; refine wp_appe typR _ rfl _ _ rfl w.heap.size _ _ rfl O1.out w1.heap.size 0 1 (k, a) rfl (by simp [go_sem]) (by simp [go_sem]) (by rw [L1.out]; omega) (by have := B1.out.size; simp; omega) (n1 + 1) (by rw [L1.out]) ?_)
  intro A3 c3 w3 hO3 hb3
  have O3 := Lib.hid hO3
  have B3 := Lib.hid ((B1.out.trans ((below_alloc w1 (.cells #[.int .u64 (k : Int), .int .u64 (a : Int)] 37)).mono B1.out.size)).trans hb3)
  clear hO3 hb3 O1
  go_wp2_with fail
  go_ret
  exact ⟨A3, n1 + 1, c3, rfl, by rw [List.length_append, L1.out]; rfl, O3.out, B3.out⟩
end Go.Proofs.Ytnomegopjdgbjaa
