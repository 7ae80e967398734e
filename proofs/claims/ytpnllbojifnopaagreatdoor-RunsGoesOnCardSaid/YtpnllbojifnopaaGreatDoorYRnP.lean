/- State; Same of equal states; what a feed keeps; mayRuns. -/
import Derived.Test.YtpnllbojifnopaaGreatDoorYRnO
import Derived.BigQuiet
namespace Go.Proofs.YtpnllbojifnopaaGreatDoor
open Go Go.RowKit Go.Maps Pk Rl
set_option maxRecDepth 20000
theorem OwnRu.empty (w : World) : OwnRu (w.alloc (.cells #[] 96)) w.heap.size (.slice (some ⟨w.heap.size, 0, none⟩) 0 0) [] :=
  World.ownsRow_made w #[] 0 (Nat.le_refl _) (by decide) rfl
theorem rcls_one (M : List Ru) : ∀ u ∈ rcls M, u.oneCell' = true := by
  intro u hu
  obtain ⟨r, _, h⟩ := List.mem_flatMap.1 hu
  simp [rcl] at h
  rcases h with rfl | rfl | rfl <;> rfl
theorem wp_appRus {ops : Array Oper} {rest : List Oper} {o : Oper} {a : Act} {Q : Exit → Act → World → Prop} (s x : Operand) (w : World) (hgd : o.guard = none)
    (hop : o.op = .call { callee := .builtin .append, args := #[s, x], argTypes := #[89, 89] })
    (B : Nat) (v : Value) (L : List Ru) (hs : a.eval s = v) (ho : OwnRu w B v L) (ad : Addr) (m c : Nat) (M : List Ru) (hx : a.eval x = .slice (some ad) m c) (hm : M.length = m) (hb : Rus w (some ad) M)
    (k : Nat) (hk : (L ++ M).length = k) (hlen : k ≤ 100000000) (hB : B ≤ w.heap.size)
    (h : ∀ A' c' w', OwnRu w' B (.slice A' k c') (L ++ M) → Below B w w' → wpList Tryz.prog ops Q rest (a.put o.dst (.slice A' k c')) w') : wpList Tryz.prog ops Q (o :: rest) a w := by
  refine wpList_plain hgd fun K hK => ?_
  have hlen2 : L.length + m ≤ 100000000 := by rw [List.length_append] at hk; omega
  obtain ⟨i, z, hi, hz, hsz, hy, hzs⟩ := infoRu
  obtain ⟨v', w', hrun, r2, r3, _, _⟩ := run_append_own_at (P := Tryz.prog) w B 89 o.type 96 i z 3 24 Tryz.underlying89 hi hz hsz hy hzs (by omega) v L.length (rcls L) ho ad m c (rcls M) (by rw [rcls_len, hm])
    (fun j u hj => by
      have hjl : j < M.length * 3 := by
        rcases Nat.lt_or_ge j (rcls M).length with h | h
        · rwa [rcls_len] at h
        · rw [List.getElem?_eq_none h] at hj; cases hj
      obtain ⟨b, off, h, c0, c1, c2⟩ := hb (j / 3) (by omega)
      injection h with h
      subst h
      rw [show j = j / 3 * 3 + j % 3 by omega, rcls_get M (j / 3) (by omega) (j % 3) (by omega)] at hj
      rw [add_plain, show off + j = off + j / 3 * 3 + j % 3 by omega]
      have h4 : j % 3 < 3 := by omega
      generalize j % 3 = p at hj h4
      rcases p with _ | _ | _ | p
      · rw [Nat.add_zero, c0]; exact hj
      · rw [c1]; exact hj
      · rw [c2]; exact hj
      · omega)
    (rcls_one M) (by unfold maxLen; omega) (by omega) hB
  have hO : OwnRu w' B v' (L ++ M) := by
    unfold OwnRu
    rw [show (L ++ M).length = L.length + m by rw [List.length_append, hm], rcls_app]
    exact r2
  obtain ⟨A', c', rfl, _⟩ := hO.form
  rw [hk] at hO hrun
  unfold Oper.wp
  simp [execOp, hop, resolve, invoke, builtin, hs, hx, hrun, Result.andThen]
  exact hK _ _ (h A' c' w' hO ((Below.refl _ _).grown r3 hB (fun k hk => (World.ownsRow.lt ho k hk).1)))
set_option maxHeartbeats 1000000 in
theorem rclone_any (a : Option Addr) (n c : Nat) (L : List Ru) (w : World) (hn : L.length = n) (hm : n ≤ 1000) (hv : Rus w a L) :
    Calls Tryz.prog 103 #[.slice a n c] w fun e w' => ∃ A c', e = .returned (.slice A n c') ∧ OwnRu w' w.heap.size (.slice A n c') L ∧ Below w.heap.size w w' := by
  rcases a with _ | ad
  · have hl : L = [] := by
      rcases L with _ | ⟨x, L⟩
      · rfl
      · obtain ⟨b, off, h, _⟩ := hv 0 (by simp)
        cases h
    subst hl
    subst hn
    have en : ∀ w, (binOp .eql 89 (.slice none 0 c) (.slice none 0 0)).run Tryz.prog w = .ok (.bool true) w := fun w => Lib.run_eql_slice_nil w 89 96 none 0 c 0 0 Tryz.underlying89
    go_enter Tryz.func103, Tryz.ntmps103
    go_wp2
    go_ret
    exact ⟨none, 0, rfl, OwnRu.nil _ _, Below.refl _ _⟩
  · have HN := Lib.hid hn
    have HV := Lib.hid (hv.below (below_alloc w (.cells #[] 96)))
    have B0 := Lib.hid (below_alloc w (.cells #[] 96))
    have O0 := Lib.hid (OwnRu.empty w)
    have HK := Lib.hid (show ([] ++ L).length = n by simpa using hn)
    have en : ∀ w, (binOp .eql 89 (.slice (some ad) n c) (.slice none 0 0)).run Tryz.prog w = .ok (.bool false) w := fun w => Lib.run_eql_slice_nil w 89 96 (some ad) n c 0 0 Tryz.underlying89
    clear hn hv
    go_enter Tryz.func103, Tryz.ntmps103
    go_wp2_with (at_builtin; refine wp_appRus (.tmp 5) (.tmp 6) _ rfl rfl w.heap.size _ [] rfl O0.out ad n c L rfl HN.out HV.out n HK.out (by omega) B0.out.size ?_; intro A' c' w1 hO1 hb1)
    go_ret
    exact ⟨A', c', rfl, hO1, B0.out.trans hb1⟩
abbrev stv (next last : Nat) (fl : Bool) (fat : Nat) (A : Option Addr) (n c : Nat) : Value := .agg #[.int .u64 (next : Int), .int .u64 (last : Int), .bool fl, .int .u64 (fat : Int), .slice A n c]
abbrev sto (next last : Nat) (fl : Bool) (fat : Nat) (A : Option Addr) (n c : Nat) : Obj := .cells #[.int .u64 (next : Int), .int .u64 (last : Int), .bool fl, .int .u64 (fat : Int), .slice A n c] 91
theorem sto_cells {W : World} {g next last : Nat} {fl : Bool} {fat : Nat} {A : Option Addr} {n c : Nat} (h : W.heap[g]? = some (sto next last fl fat A n c)) : W.cell? ⟨g, 0, none⟩ = some (.int .u64 (next : Int)) ∧ W.cell? ⟨g, 1, none⟩ = some (.int .u64 (last : Int)) ∧ W.cell? ⟨g, 2, none⟩ = some (.bool fl) ∧ W.cell? ⟨g, 3, none⟩ = some (.int .u64 (fat : Int)) ∧ W.cell? ⟨g, 4, none⟩ = some (.slice A n c) ∧ ∀ j, W.frozen? ⟨g, j, none⟩ = false := by
  refine ⟨?_, ?_, ?_, ?_, ?_, fun j => by simp [World.frozen?, h]⟩ <;> (rw [cell_of_row W g _ _ _ _ h]; rfl)
def StX (next last : Nat) (fl : Bool) (fat : Nat) (R : List Ru) (w : World) (e : Ending) (w' : World) : Prop := ∃ A c, e = .returned (stv next last fl fat A R.length c) ∧ Hid (OwnRu w' w.heap.size (.slice A R.length c) R) ∧ Below w.heap.size w w'
set_option maxHeartbeats 4000000 in
theorem rown_any (next last : Nat) (fl : Bool) (fat : Nat) (Ar : Option Addr) (nr cr : Nat) (R : List Ru) (w : World) (hr : Rus w Ar R) (hn : R.length = nr) (hm : nr ≤ 1000) :
    Calls Tryz.prog 72 #[stv next last fl fat Ar nr cr] w fun e w' => StX next last fl fat R w e w' := by
  subst hn
  have n1 := below_alloc w (sto next last fl fat Ar R.length cr)
  have n2 := below_alloc (w.alloc (sto next last fl fat Ar R.length cr)) (sto 0 0 false 0 none 0 0)
  have h1 := heap_alloc_new w (sto next last fl fat Ar R.length cr)
  have h2 := heap_alloc_new (w.alloc (sto next last fl fat Ar R.length cr)) (sto 0 0 false 0 none 0 0)
  simp only [World.size_alloc] at h2 n2
  have S1 : Hid (((w.alloc (.cells #[.int .u64 (next : Int), .int .u64 (last : Int), .bool fl, .int .u64 (fat : Int), .slice Ar R.length cr] 91)).alloc (.cells #[.int .u64 0, .int .u64 0, .bool false, .int .u64 0, .slice none 0 0] 91)).heap[w.heap.size]? = some (sto next last fl fat Ar R.length cr)) := Lib.hid ((n2.block _ (by omega)).trans h1)
  have S2 : Hid (((w.alloc (.cells #[.int .u64 (next : Int), .int .u64 (last : Int), .bool fl, .int .u64 (fat : Int), .slice Ar R.length cr] 91)).alloc (.cells #[.int .u64 0, .int .u64 0, .bool false, .int .u64 0, .slice none 0 0] 91)).heap[w.heap.size + 1]? = some (sto 0 0 false 0 none 0 0)) := Lib.hid h2
  have BB : Hid (Below w.heap.size w ((w.alloc (.cells #[.int .u64 (next : Int), .int .u64 (last : Int), .bool fl, .int .u64 (fat : Int), .slice Ar R.length cr] 91)).alloc (.cells #[.int .u64 0, .int .u64 0, .bool false, .int .u64 0, .slice none 0 0] 91))) := Lib.hid (below_go n1 (below_alloc _ _))
  have CC := Lib.hid (fun W (hb : Below w.heap.size w W) => rclone_any Ar R.length cr R W rfl hm (hr.below hb))
  clear n1 n2 h1 h2 hr hm
  go_enter Tryz.func72, Tryz.ntmps72
  go_upto_region 1 with fail
  generalize ((w.alloc (.cells #[.int .u64 (next : Int), .int .u64 (last : Int), .bool fl, .int .u64 (fat : Int), .slice Ar R.length cr] 91)).alloc (.cells #[.int .u64 0, .int .u64 0, .bool false, .int .u64 0, .slice none 0 0] 91)) = w1 at S1 S2 BB ⊢
  have z1 := (Array.getElem?_eq_some_iff.1 S2.out).1
  have C1 := Lib.hid (CC.out w1 BB.out)
  obtain ⟨c0, c1, c2, c3, c4, cf⟩ := sto_cells S1.out
  clear CC cf
  go_wp2_with fail
  refine C1.out.mono ?_
  rintro e w2 ⟨A, c', rfl, ho, hb⟩
  have S3 := Lib.hid ((hb.block _ (by omega)).trans S1.out)
  have S4 := Lib.hid ((hb.block _ (by omega)).trans S2.out)
  have B2 := Lib.hid (below_go BB.out hb)
  have O2 := Lib.hid (OwnRu.same ho fun k cur hk _ => rfl)
  have Z1 := Lib.hid z1
  clear C1 c0 c1 c2 c3 c4 hb z1 S1 S2 BB ho
  obtain ⟨c0, c1, c2, c3, c4, cf⟩ := sto_cells S3.out
  have f4 := cf 4
  obtain ⟨_, _, _, _, _, df⟩ := sto_cells S4.out
  have g0 := df 0
  have g1 := df 1
  have g2 := df 2
  have g3 := df 3
  have g4 := df 4
  clear cf df
  have q0 : (w2.setCell ⟨w.heap.size, 4, none⟩ (.slice A R.length c')).heap[w.heap.size + 1]? = some (sto 0 0 false 0 none 0 0) := (heap_setCell_other w2 ⟨w.heap.size, 4, none⟩ (w.heap.size + 1) _ (by show w.heap.size + 1 ≠ w.heap.size; omega)).trans S4.out
  have q1 := heap_setCell_same _ (w.heap.size + 1) 0 _ _ (.int .u64 (next : Int)) q0
  have q2 := heap_setCell_same _ (w.heap.size + 1) 1 _ _ (.int .u64 (last : Int)) q1
  have q3 := heap_setCell_same _ (w.heap.size + 1) 2 _ _ (.bool fl) q2
  have q4 := heap_setCell_same _ (w.heap.size + 1) 3 _ _ (.int .u64 (fat : Int)) q3
  have q5 := heap_setCell_same _ (w.heap.size + 1) 4 _ _ (.slice A R.length c') q4
  have QF : Hid (((((((w2.setCell ⟨w.heap.size, 4, none⟩ (.slice A R.length c')).setCell ⟨w.heap.size + 1, 0, none⟩ (.int .u64 (next : Int))).setCell ⟨w.heap.size + 1, 1, none⟩ (.int .u64 (last : Int))).setCell ⟨w.heap.size + 1, 2, none⟩ (.bool fl)).setCell ⟨w.heap.size + 1, 3, none⟩ (.int .u64 (fat : Int))).setCell ⟨w.heap.size + 1, 4, none⟩ (.slice A R.length c')).heap[w.heap.size + 1]? = some (sto next last fl fat A R.length c')) := Lib.hid (by rw [q5]; rfl)
  have hz := Z1.out
  have OF : Hid (OwnRu ((((((w2.setCell ⟨w.heap.size, 4, none⟩ (.slice A R.length c')).setCell ⟨w.heap.size + 1, 0, none⟩ (.int .u64 (next : Int))).setCell ⟨w.heap.size + 1, 1, none⟩ (.int .u64 (last : Int))).setCell ⟨w.heap.size + 1, 2, none⟩ (.bool fl)).setCell ⟨w.heap.size + 1, 3, none⟩ (.int .u64 (fat : Int))).setCell ⟨w.heap.size + 1, 4, none⟩ (.slice A R.length c')) w.heap.size (.slice A R.length c') R) := Lib.hid (row_mono (row_cell (row_cell (row_cell (row_cell (row_cell (row_cell O2.out (d := w.heap.size) (by omega) _ _) (d := w.heap.size + 1) (by omega) _ _) (d := w.heap.size + 1) (by omega) _ _) (d := w.heap.size + 1) (by omega) _ _) (d := w.heap.size + 1) (by omega) _ _) (d := w.heap.size + 1) (by omega) _ _) (by omega))
  have BF : Hid (Below w.heap.size w ((((((w2.setCell ⟨w.heap.size, 4, none⟩ (.slice A R.length c')).setCell ⟨w.heap.size + 1, 0, none⟩ (.int .u64 (next : Int))).setCell ⟨w.heap.size + 1, 1, none⟩ (.int .u64 (last : Int))).setCell ⟨w.heap.size + 1, 2, none⟩ (.bool fl)).setCell ⟨w.heap.size + 1, 3, none⟩ (.int .u64 (fat : Int))).setCell ⟨w.heap.size + 1, 4, none⟩ (.slice A R.length c'))) := Lib.hid ((((((B2.out.setCell (p := ⟨w.heap.size, 4, none⟩) (Nat.le_refl _) _).setCell (p := ⟨w.heap.size + 1, 0, none⟩) (Nat.le_succ _) _).setCell (p := ⟨w.heap.size + 1, 1, none⟩) (Nat.le_succ _) _).setCell (p := ⟨w.heap.size + 1, 2, none⟩) (Nat.le_succ _) _).setCell (p := ⟨w.heap.size + 1, 3, none⟩) (Nat.le_succ _) _).setCell (p := ⟨w.heap.size + 1, 4, none⟩) (Nat.le_succ _) _)
  clear q0 q1 q2 q3 q4 q5 hz
  go_wp2_with fail
  generalize ((((((w2.setCell ⟨w.heap.size, 4, none⟩ (.slice A R.length c')).setCell ⟨w.heap.size + 1, 0, none⟩ (.int .u64 (next : Int))).setCell ⟨w.heap.size + 1, 1, none⟩ (.int .u64 (last : Int))).setCell ⟨w.heap.size + 1, 2, none⟩ (.bool fl)).setCell ⟨w.heap.size + 1, 3, none⟩ (.int .u64 (fat : Int))).setCell ⟨w.heap.size + 1, 4, none⟩ (.slice A R.length c')) = wf at QF OF BF ⊢
  obtain ⟨k0, k1, k2, k3, k4, _⟩ := sto_cells QF.out
  refine bodyPost_ret (v := stv next last fl fat A R.length c') ?_ rfl ⟨A, c', rfl, Lib.hid OF.out, BF.out⟩
  simp [results, Tryz.results72, go_sem, *]
set_option maxHeartbeats 4000000 in
theorem state_any (d : Nat) (e : En) (R : List Ru) (w : World) (h : EnB w d e) (hr : Rus w e.Ar R) (hn : R.length = e.nr) (hm : e.nr ≤ 1000) :
    Calls Tryz.prog 35 #[.pointer (some ⟨d, 0, none⟩)] w fun en w' => StX e.next e.last e.fl e.fat R w en w' := by
  obtain ⟨Ap, kp, cp, a, b, Ae, ke, ce, win, next, last, fl, fat, Ar, nr, cr⟩ := e
  simp only at hr hn hm ⊢
  subst hn
  have nb := below_alloc w (sto 0 0 false 0 none 0 0)
  have S1 : Hid ((w.alloc (.cells #[.int .u64 0, .int .u64 0, .bool false, .int .u64 0, .slice none 0 0] 91)).heap[w.heap.size]? = some (sto 0 0 false 0 none 0 0)) := Lib.hid (heap_alloc_new w _)
  have BB : Hid (Below w.heap.size w (w.alloc (.cells #[.int .u64 0, .int .u64 0, .bool false, .int .u64 0, .slice none 0 0] 91))) := Lib.hid nb
  have EE : Hid (EnB (w.alloc (.cells #[.int .u64 0, .int .u64 0, .bool false, .int .u64 0, .slice none 0 0] 91)) d ⟨Ap, kp, cp, a, b, Ae, ke, ce, win, next, last, fl, fat, Ar, R.length, cr⟩) := Lib.hid (h.below nb)
  have OC := Lib.hid (fun W (hb : Below w.heap.size w W) => rown_any next last fl fat Ar R.length cr R W (hr.below hb) rfl hm)
  clear nb h hr hm
  go_enter Tryz.func35, Tryz.ntmps35
  go_upto_region 1 with fail
  generalize (w.alloc (.cells #[.int .u64 0, .int .u64 0, .bool false, .int .u64 0, .slice none 0 0] 91)) = w1 at S1 BB EE ⊢
  obtain ⟨_, _, _, _, _, c5, c6, c7, c8, c9, _⟩ := EE.out.cells
  simp only at c5 c6 c7 c8 c9
  have O1 := Lib.hid (OC.out w1 BB.out)
  clear OC EE
  go_wp2_with fail
  refine O1.out.mono ?_
  rintro en w2 ⟨A, c, rfl, ho, hb⟩
  have z1 := (Array.getElem?_eq_some_iff.1 S1.out).1
  have S2 := (hb.block _ z1).trans S1.out
  have B2 := below_go BB.out hb
  obtain ⟨_, _, _, _, _, df⟩ := sto_cells S2
  have g0 := df 0
  have g1 := df 1
  have g2 := df 2
  have g3 := df 3
  have g4 := df 4
  have q1 := heap_setCell_same _ w.heap.size 0 _ _ (.int .u64 (next : Int)) S2
  have q2 := heap_setCell_same _ w.heap.size 1 _ _ (.int .u64 (last : Int)) q1
  have q3 := heap_setCell_same _ w.heap.size 2 _ _ (.bool fl) q2
  have q4 := heap_setCell_same _ w.heap.size 3 _ _ (.int .u64 (fat : Int)) q3
  have q5 := heap_setCell_same _ w.heap.size 4 _ _ (.slice A R.length c) q4
  have QF : Hid ((((((w2.setCell ⟨w.heap.size, 0, none⟩ (.int .u64 (next : Int))).setCell ⟨w.heap.size, 1, none⟩ (.int .u64 (last : Int))).setCell ⟨w.heap.size, 2, none⟩ (.bool fl)).setCell ⟨w.heap.size, 3, none⟩ (.int .u64 (fat : Int))).setCell ⟨w.heap.size, 4, none⟩ (.slice A R.length c)).heap[w.heap.size]? = some (sto next last fl fat A R.length c)) := Lib.hid (by rw [q5]; rfl)
  have OF : Hid (OwnRu (((((w2.setCell ⟨w.heap.size, 0, none⟩ (.int .u64 (next : Int))).setCell ⟨w.heap.size, 1, none⟩ (.int .u64 (last : Int))).setCell ⟨w.heap.size, 2, none⟩ (.bool fl)).setCell ⟨w.heap.size, 3, none⟩ (.int .u64 (fat : Int))).setCell ⟨w.heap.size, 4, none⟩ (.slice A R.length c)) w.heap.size (.slice A R.length c) R) := Lib.hid (row_mono (row_cell (row_cell (row_cell (row_cell (row_cell ho.out (d := w.heap.size) z1 _ _) (d := w.heap.size) z1 _ _) (d := w.heap.size) z1 _ _) (d := w.heap.size) z1 _ _) (d := w.heap.size) z1 _ _) (by omega))
  have BF : Hid (Below w.heap.size w (((((w2.setCell ⟨w.heap.size, 0, none⟩ (.int .u64 (next : Int))).setCell ⟨w.heap.size, 1, none⟩ (.int .u64 (last : Int))).setCell ⟨w.heap.size, 2, none⟩ (.bool fl)).setCell ⟨w.heap.size, 3, none⟩ (.int .u64 (fat : Int))).setCell ⟨w.heap.size, 4, none⟩ (.slice A R.length c))) := Lib.hid (((((B2.setCell (p := ⟨w.heap.size, 0, none⟩) (Nat.le_refl _) _).setCell (p := ⟨w.heap.size, 1, none⟩) (Nat.le_refl _) _).setCell (p := ⟨w.heap.size, 2, none⟩) (Nat.le_refl _) _).setCell (p := ⟨w.heap.size, 3, none⟩) (Nat.le_refl _) _).setCell (p := ⟨w.heap.size, 4, none⟩) (Nat.le_refl _) _)
  clear q1 q2 q3 q4 q5 S2 B2 df z1 ho hb c5 c6 c7 c8 c9 O1 S1 BB
  go_wp2_with fail
  generalize (((((w2.setCell ⟨w.heap.size, 0, none⟩ (.int .u64 (next : Int))).setCell ⟨w.heap.size, 1, none⟩ (.int .u64 (last : Int))).setCell ⟨w.heap.size, 2, none⟩ (.bool fl)).setCell ⟨w.heap.size, 3, none⟩ (.int .u64 (fat : Int))).setCell ⟨w.heap.size, 4, none⟩ (.slice A R.length c)) = wf at QF OF BF ⊢
  obtain ⟨k0, k1, k2, k3, k4, _⟩ := sto_cells QF.out
  refine bodyPost_ret (v := stv next last fl fat A R.length c) ?_ rfl ⟨A, c, rfl, Lib.hid OF.out, BF.out⟩
  simp [results, Tryz.results35, go_sem, *]
end Go.Proofs.YtpnllbojifnopaaGreatDoor
namespace Go.Proofs.YtpnllbojifnopaaGreatDoor
open Go Go.RowKit Go.Maps Pk Rl
set_option maxRecDepth 20000
structure Sxx (w W : World) (next last : Nat) (fl : Bool) (fat : Nat) (A : Option Addr) (n c : Nat) (A' : Option Addr) (c' : Nat) (R : List Ru) : Prop where
  a : W.heap[w.heap.size]? = some (sto next last fl fat A n c)
  b : W.heap[w.heap.size + 1]? = some (sto next last fl fat A' n c')
  r : Rus W A R
  r' : Rus W A' R
  bel : Below w.heap.size w W
theorem Sxx.next {w W W' : World} {next last : Nat} {fl : Bool} {fat : Nat} {A : Option Addr} {n c : Nat} {A' : Option Addr} {c' : Nat} {R : List Ru} (h : Sxx w W next last fl fat A n c A' c' R) (hb : Below W.heap.size W W') : Sxx w W' next last fl fat A n c A' c' R :=
  ⟨(hb.block _ (Array.getElem?_eq_some_iff.1 h.a).1).trans h.a, (hb.block _ (Array.getElem?_eq_some_iff.1 h.b).1).trans h.b, h.r.below hb, h.r'.below hb, below_go h.bel hb⟩
set_option maxHeartbeats 4000000 in
theorem rsame15_eq (next last : Nat) (fl : Bool) (fat : Nat) (A : Option Addr) (n c : Nat) (A' : Option Addr) (c' : Nat) (R : List Ru) (w : World) (h1 : Rus w A R) (h2 : Rus w A' R) (hn : R.length = n) (hm : n ≤ 1000) :
    Calls Tryz.prog 34 #[stv next last fl fat A n c, stv next last fl fat A' n c'] w fun en w' => en = .returned (.bool true) ∧ Below w.heap.size w w' := by
  have X0 : Hid (Sxx w ((w.alloc (.cells #[.int .u64 (next : Int), .int .u64 (last : Int), .bool fl, .int .u64 (fat : Int), .slice A n c] 91)).alloc (.cells #[.int .u64 (next : Int), .int .u64 (last : Int), .bool fl, .int .u64 (fat : Int), .slice A' n c'] 91)) next last fl fat A n c A' c' R) := Lib.hid (by
    have n1 := below_alloc w (sto next last fl fat A n c)
    have n2 := below_alloc (w.alloc (sto next last fl fat A n c)) (sto next last fl fat A' n c')
    have e2 := heap_alloc_new (w.alloc (sto next last fl fat A n c)) (sto next last fl fat A' n c')
    have bb : Below w.heap.size w ((w.alloc (sto next last fl fat A n c)).alloc (sto next last fl fat A' n c')) := below_go n1 (below_alloc _ _)
    simp only [World.size_alloc] at e2 n2
    exact ⟨(n2.block _ (by omega)).trans (heap_alloc_new w _), e2, h1.below bb, h2.below bb, bb⟩)
  have HN := Lib.hid hn
  clear h1 h2 hn
  go_enter Tryz.func34, Tryz.ntmps34
  go_upto_region 1 with fail
  generalize ((w.alloc (.cells #[.int .u64 (next : Int), .int .u64 (last : Int), .bool fl, .int .u64 (fat : Int), .slice A n c] 91)).alloc (.cells #[.int .u64 (next : Int), .int .u64 (last : Int), .bool fl, .int .u64 (fat : Int), .slice A' n c'] 91)) = w1 at X0 ⊢
  obtain ⟨a0, a1, a2, a3, a4, _⟩ := sto_cells X0.out.a
  obtain ⟨b0, b1, b2, b3, b4, _⟩ := sto_cells X0.out.b
  go_wp2_with fail
  go_loopw [44] (fun v W => ∃ (i : Nat), v = .int .i64 (i : Int) ∧ i ≤ n ∧ Hid (Sxx w W next last fl fat A n c A' c' R)) (fun v _ => n - (intOf v).toNat)
  case atStart => exact ⟨0, rfl, by omega, Lib.hid X0.out⟩
  case round =>
    obtain ⟨i, rfl, hi, H⟩ := hrel
    clear a0 a1 a2 a3 a4 b0 b1 b2 b3 b4
    by_cases ci : i < n
    · obtain ⟨_, _, _, _, a4, _⟩ := sto_cells H.out.a
      obtain ⟨_, _, _, _, b4, _⟩ := sto_cells H.out.b
      have hl : i < R.length := by have := HN.out; omega
      obtain ⟨g, o, rfl, k0, k1, k2⟩ := H.out.r i hl
      obtain ⟨g', o', rfl, m0, m1, m2⟩ := H.out.r' i hl
      have HD := Lib.hid (fun m => H.out.next (below_drewN wr.heap.size wr m))
      clear H X0
      go_upto_region 6 with fail
      go_quiet (fail)
      go_wp2_with fail
      exact ⟨⟨i + 1, by go_num, by omega, Lib.hid (HD.out _)⟩, by simp [intOf]; omega⟩
    · obtain rfl : i = n := by omega
      have BF := Lib.hid H.out.bel
      clear H X0
      go_wp2_with fail
      go_ret
      exact ⟨rfl, BF.out⟩
end Go.Proofs.YtpnllbojifnopaaGreatDoor
namespace Go.Proofs.YtpnllbojifnopaaGreatDoor
open Go Go.RowKit Go.Maps Pk Rl
set_option maxRecDepth 20000
structure Rgd (next last win ke : Nat) (R : List Ru) : Prop where
  s : ∀ r ∈ R, r.s < next ∧ r.t ≤ last ∧ last - r.t ≤ win ∧ r.x ≠ 0 ∧ r.x < 2 ^ ke
  p : R.Pairwise fun r q => r.s < q.s ∧ r.t ≤ q.t
theorem Rgd.nil (next last win ke : Nat) : Rgd next last win ke [] := ⟨fun r hr => absurd hr (by simp), List.Pairwise.nil⟩
theorem kept_ne {x : Nat} {r r' : Ru} (h : r' ∈ kept x r) : x ≠ 0 := by
  unfold kept at h
  split at h
  · cases h
  · assumption
theorem mem_gR {Es : List Ed} {pl ba win at_ : Nat} {r r' : Ru} (h : r' ∈ gR Es pl ba win at_ r) : r'.s = r.s ∧ r'.t = r.t ∧ at_ - r.t ≤ win ∧ r'.x ≠ 0 ∧ r'.x = (r.x &&& (18446744073709551615 - ba)) ||| frs Es (ont Es r.x &&& pl) := by
  unfold gR at h
  split at h
  · cases h
  · have e := mem_kept h
    have hx := kept_ne h
    subst e
    exact ⟨rfl, rfl, by omega, hx, rfl⟩
theorem pair_flat {R : List Ru} {g : Ru → List Ru} (hp : R.Pairwise fun r q => r.s < q.s ∧ r.t ≤ q.t) (hg : ∀ r, ∀ r' ∈ g r, r'.s = r.s ∧ r'.t = r.t) (h1 : ∀ r, (g r).length ≤ 1) : (R.flatMap g).Pairwise fun r q => r.s < q.s ∧ r.t ≤ q.t := by
  induction R with
  | nil => exact List.Pairwise.nil
  | cons r R ih =>
    rw [List.pairwise_cons] at hp
    rw [List.flatMap_cons, List.pairwise_append]
    refine ⟨?_, ih hp.2, fun a ha b hb => ?_⟩
    · have := h1 r
      match g r, this with
      | [], _ => exact List.Pairwise.nil
      | [x], _ => exact List.pairwise_singleton _ _
    · obtain ⟨q, hq, hbq⟩ := List.mem_flatMap.1 hb
      have e1 := hg r a ha
      have e2 := hg q b hbq
      have := hp.1 q hq
      omega
theorem gR_len (Es : List Ed) (pl ba win at_ : Nat) (r : Ru) : (gR Es pl ba win at_ r).length ≤ 1 := by
  unfold gR
  split
  · simp
  · exact kept_len _ _
theorem Rgd.feed {Ps : List Qu} {Es : List Ed} {a win next last : Nat} {R : List Ru} {l : Lg} (h : Rgd next last win Es.length R) (hl : last ≤ l.at_) : Rgd (next + 1) l.at_ win Es.length (feR Ps Es a win next R l) := by
  unfold feR fR
  rw [List.take_length]
  constructor
  · intro r hr
    rcases List.mem_append.1 hr with hr | hr
    · obtain ⟨r0, h0, h1⟩ := List.mem_flatMap.1 hr
      obtain ⟨e1, e2, e3, e4, e5⟩ := mem_gR h1
      obtain ⟨f1, f2, f3, f4, f5⟩ := h.s r0 h0
      refine ⟨by omega, by omega, by omega, e4, ?_⟩
      rw [e5]
      exact Nat.or_lt_two_pow (Nat.lt_of_le_of_lt Nat.and_le_left f5) (sbt_lt _ _)
    · have hx := kept_ne hr
      have e := mem_kept hr
      subst e
      exact ⟨by show next < next + 1; omega, Nat.le_refl _, by show l.at_ - l.at_ ≤ win; omega, hx, sbt_lt _ _⟩
  · rw [List.pairwise_append]
    refine ⟨pair_flat h.p (fun r r' hr => ⟨(mem_gR hr).1, (mem_gR hr).2.1⟩) (gR_len _ _ _ _ _), ?_, fun x hx y hy => ?_⟩
    · have := kept_len (frs Es (a &&& plc_ Ps l)) ⟨next, l.at_, 0⟩
      match kept (frs Es (a &&& plc_ Ps l)) ⟨next, l.at_, 0⟩, this with
      | [], _ => exact List.Pairwise.nil
      | [x], _ => exact List.pairwise_singleton _ _
    · have e := mem_kept hy
      subst e
      obtain ⟨r0, h0, h1⟩ := List.mem_flatMap.1 hx
      obtain ⟨e1, e2, _⟩ := mem_gR h1
      obtain ⟨f1, f2, _⟩ := h.s r0 h0
      show x.s < next ∧ x.t ≤ l.at_
      omega
end Go.Proofs.YtpnllbojifnopaaGreatDoor
namespace Go.Proofs.YtpnllbojifnopaaGreatDoor
open Go Go.RowKit Go.Maps Pk Rl
set_option maxRecDepth 20000
structure Sy (w W : World) (d win : Nat) (Ae : Option Addr) (ke ce next last : Nat) (fl : Bool) (fat : Nat) (A : Option Addr) (n c : Nat) (R : List Ru) : Prop where
  c3 : W.cell? ⟨d, 3, none⟩ = some (.slice Ae ke ce)
  c4 : W.cell? ⟨d, 4, none⟩ = some (.int .u64 (win : Int))
  b : W.heap[w.heap.size]? = some (sto next last fl fat A n c)
  r : Rus W A R
  bel : Below w.heap.size w W
theorem Sy.next {w W W' : World} {d win : Nat} {Ae : Option Addr} {ke ce next last : Nat} {fl : Bool} {fat : Nat} {A : Option Addr} {n c : Nat} {R : List Ru} (h : Sy w W d win Ae ke ce next last fl fat A n c R) (hb : Below W.heap.size W W') : Sy w W' d win Ae ke ce next last fl fat A n c R := by
  have k : ∀ {p v}, W.cell? p = some v → W'.cell? p = some v := fun hc => (hb.cell (World.block_lt_of_cell? _ _ hc)).trans hc
  exact ⟨k h.c3, k h.c4, (hb.block _ (Array.getElem?_eq_some_iff.1 h.b).1).trans h.b, h.r.below hb, below_go h.bel hb⟩
theorem ru_mem {R : List Ru} {i : Nat} (h : i < R.length) : R.getD i rz ∈ R := by
  rw [List.getD_eq_getElem?_getD, List.getElem?_eq_getElem h]; exact List.getElem_mem h
set_option maxHeartbeats 8000000 in
theorem mayruns_yes (d win : Nat) (Ae : Option Addr) (ke ce next last : Nat) (fl : Bool) (fat : Nat) (A : Option Addr) (n c : Nat) (R : List Ru) (w : World) (h3 : w.cell? ⟨d, 3, none⟩ = some (.slice Ae ke ce)) (h4 : w.cell? ⟨d, 4, none⟩ = some (.int .u64 (win : Int))) (hr : Rus w A R) (hn : R.length = n) (hm : n ≤ 1000) (hke : ke ≤ 64) (hl : last ≤ 1099511627776)
    (hg : Rgd next last win ke R) : Calls Tryz.prog 104 #[.pointer (some ⟨d, 0, none⟩), stv next last fl fat A n c] w fun en w' => en = .returned (.bool true) ∧ Below w.heap.size w w' := by
  have X0 : Hid (Sy w (w.alloc (.cells #[.int .u64 (next : Int), .int .u64 (last : Int), .bool fl, .int .u64 (fat : Int), .slice A n c] 91)) d win Ae ke ce next last fl fat A n c R) := Lib.hid (by
    have n1 := below_alloc w (sto next last fl fat A n c)
    have k : ∀ {p v}, w.cell? p = some v → (w.alloc (sto next last fl fat A n c)).cell? p = some v := fun hc => (n1.cell (World.block_lt_of_cell? _ _ hc)).trans hc
    exact ⟨k h3, k h4, heap_alloc_new w _, hr.below n1, n1⟩)
  have HN := Lib.hid hn
  have HG := Lib.hid hg
  clear h3 h4 hr hn hg
  go_enter Tryz.func104, Tryz.ntmps104
  go_upto_region 1 with fail
  generalize (w.alloc (.cells #[.int .u64 (next : Int), .int .u64 (last : Int), .bool fl, .int .u64 (fat : Int), .slice A n c] 91)) = w1 at X0 ⊢
  obtain ⟨_, _, _, _, b4, _⟩ := sto_cells X0.out.b
  go_wp2_with fail
  go_loopw [10] (fun v W => ∃ (i : Nat), v = .int .i64 (i : Int) ∧ i ≤ n ∧ Hid (Sy w W d win Ae ke ce next last fl fat A n c R)) (fun v _ => n - (intOf v).toNat)
  case atStart => exact ⟨0, rfl, by omega, Lib.hid X0.out⟩
  case round =>
    obtain ⟨i, rfl, hi, H⟩ := hrel
    clear b4 X0
    by_cases ci : i < n
    · have hl' : i < R.length := by have := HN.out; omega
      obtain ⟨f1, f2, f3, f4, f5⟩ := HG.out.s _ (ru_mem hl')
      obtain ⟨g, o, rfl, k0, k1, k2⟩ := H.out.r i hl'
      have PR := Lib.hid (fun (j : Nat) (hj : j + 1 = i) => List.pairwise_iff_getElem.1 HG.out.p j i (by omega) hl' (by omega))
      have GD : Hid (∀ j, (hj : j < R.length) → R.getD j rz = R[j]) := Lib.hid (fun j hj => by rw [List.getD_eq_getElem?_getD, List.getElem?_eq_getElem hj]; rfl)
      have GI := Lib.hid (GD.out i hl')
      obtain ⟨r, hr⟩ : ∃ r, R.getD i rz = r := ⟨_, rfl⟩
      have HR := Lib.hid hr
      rw [hr] at f1 f2 f3 f4 f5 k0 k1 k2
      obtain ⟨rs, rt, rx⟩ := r
      simp only at f1 f2 f3 f4 f5 k0 k1 k2
      have B1 := Lib.hid (heap_alloc_new wr (robj ⟨rs, rt, rx⟩))
      have X1 := Lib.hid (H.out.next (below_alloc wr (robj ⟨rs, rt, rx⟩)))
      clear H hr
      go_upto_region 4 with fail
      generalize wr.alloc (robj ⟨rs, rt, rx⟩) = w2 at B1 X1 ⊢
      generalize wr.heap.size = gb at B1 ⊢
      clear k0 k1 k2
      have r0 : w2.cell? ⟨gb, 0, none⟩ = some (.int .u64 (rs : Int)) := by rw [cell_of_row _ _ _ _ _ _ B1.out]; rfl
      have r1 : w2.cell? ⟨gb, 1, none⟩ = some (.int .u64 (rt : Int)) := by rw [cell_of_row _ _ _ _ _ _ B1.out]; rfl
      have r2 : w2.cell? ⟨gb, 2, none⟩ = some (.int .u64 (rx : Int)) := by rw [cell_of_row _ _ _ _ _ _ B1.out]; rfl
      obtain ⟨b0, b1, b2, b3, b4, _⟩ := sto_cells X1.out.b
      have c3 := X1.out.c3
      have c4 := X1.out.c4
      have d1 : decide ((next : Int) ≤ (rs : Int)) = false := by simp; omega
      have d1' : decide (next ≤ rs) = false := by simp; omega
      have d2 : decide ((last : Int) < (rt : Int)) = false := by simp; omega
      have d2' : decide (last < rt) = false := by simp; omega
      have hw : IntKind.u64.wrap ((last : Int) - (rt : Int)) = ((last - rt : Nat) : Int) := by rw [IntKind.wrap_u64]; omega
      have d3 : decide ((win : Int) < ((last - rt : Nat) : Int)) = false := by simp; omega
      have d3' : decide (win < last - rt) = false := by simp; omega
      have d4 : ((rx : Int) == 0) = false := by simp; omega
      have d5 : (rx : Int) / 2 ^ ke = 0 := by
        have : rx / 2 ^ ke = 0 := Nat.div_eq_of_lt f5
        have e : (rx : Int) / 2 ^ ke = ((rx / 2 ^ ke : Nat) : Int) := by simp
        rw [e, this]; rfl
      have XD := Lib.hid (fun m => X1.out.next (below_drewN w2.heap.size w2 m))
      clear f1 f2 f3 f4 f5
      go_quiet (fail)
      clear d1 d1' d2 d2' d3 d3' d4 d5 hw c3 c4
      rcases i with _ | j
      · go_upto_region 6 with fail
        go_quiet (fail)
        go_wp2_with fail
        exact ⟨⟨0 + 1, by go_num, by omega, Lib.hid (XD.out _)⟩, by simp [intOf]; omega⟩
      · have hj : j < R.length := by omega
        have PQ := PR.out j rfl
        rw [← GI.out, HR.out, ← GD.out j hj] at PQ
        obtain ⟨g', o', he, k0, k1, _⟩ := X1.out.r j hj
        injection he with he
        injection he with he1 he2 _
        subst he1 he2
        obtain ⟨q, hq⟩ : ∃ q, R.getD j rz = q := ⟨_, rfl⟩
        rw [hq] at PQ k0 k1
        obtain ⟨qs, qt, qx⟩ := q
        simp only at PQ k0 k1
        obtain ⟨p1, p2⟩ := PQ
        have d6 : decide ((rs : Int) ≤ (qs : Int)) = false := by simp; omega
        have d6' : decide (rs ≤ qs) = false := by simp; omega
        have d7 : decide ((rt : Int) < (qt : Int)) = false := by simp; omega
        have d7' : decide (rt < qt) = false := by simp; omega
        clear p1 p2 hq
        go_upto_region 6 with fail
        go_quiet (fail)
        go_wp2_with fail
        exact ⟨⟨j + 1 + 1, by go_num, by omega, Lib.hid (XD.out _)⟩, by simp [intOf]; omega⟩
    · obtain rfl : i = n := by omega
      have BF := Lib.hid H.out.bel
      clear H
      go_wp2_with fail
      go_ret
      exact ⟨rfl, BF.out⟩
end Go.Proofs.YtpnllbojifnopaaGreatDoor
