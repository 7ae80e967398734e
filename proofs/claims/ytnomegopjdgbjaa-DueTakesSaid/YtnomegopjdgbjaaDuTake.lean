/- A list of dues: what is due is taken. -/
import Derived.Test.YtnomegopjdgbjaaDuSet
namespace Go.Proofs.Ytnomegopjdgbjaa
open Go Go.RowKit
set_option maxRecDepth 20000

/- rows of keys -/
def kcs (ks : List Nat) : List Value := ks.map (fun k : Nat => Value.int .u64 (k : Int))
def OwnK (w : World) (B : Nat) (v : Value) (ks : List Nat) : Prop := w.ownsRow B 28 1 v ks.length (kcs ks)
def Kys (w : World) (A : Option Addr) (ks : List Nat) : Prop := ∀ i, i < ks.length → ∃ b off, A = some ⟨b, off, none⟩ ∧ w.cell? ⟨b, off + i, none⟩ = some (.int .u64 ((ks.getD i 0 : Nat) : Int))
theorem OwnK.nil (w : World) (B : Nat) : OwnK w B (.slice none 0 0) [] := World.ownsRow_nil w B 28 1
theorem OwnK.made (w : World) : OwnK (w.alloc (.cells #[] 28)) w.heap.size (.slice (some ⟨w.heap.size, 0, none⟩) 0 0) [] := World.ownsRow_made w #[] 0 (Nat.le_refl _) (by decide) rfl
theorem OwnK.form {w : World} {B : Nat} {v : Value} {ks : List Nat} (h : OwnK w B v ks) : ∃ A c, v = .slice A ks.length c ∧ Kys w A ks := by
  rcases h.2 with ⟨rfl, h0⟩ | ⟨g0, cap, cur, rfl, _⟩
  · have : ks = [] := List.eq_nil_of_length_eq_zero h0
    subst this
    exact ⟨none, 0, rfl, fun i hi => absurd hi (by simp)⟩
  · refine ⟨_, _, rfl, fun i hi => ⟨g0, 0, rfl, ?_⟩⟩
    have := World.ownsRow.cells h (g := g0) rfl i (.int .u64 ((ks.getD i 0 : Nat) : Int)) (by simp [kcs, List.getElem?_eq_getElem hi])
    rwa [add_plain] at this
theorem OwnK.same {w w' : World} {B : Nat} {v : Value} {ks : List Nat} (h : OwnK w B v ks) (hb : ∀ k, v.ownBlock = some k → w'.heap[k]? = w.heap[k]?) : OwnK w' B v ks := by
  refine ⟨h.1, ?_⟩
  rcases h.2 with h0 | ⟨g0, cap, cur, rfl, hg, hh, r⟩
  · exact .inl h0
  · exact .inr ⟨g0, cap, cur, rfl, hg, by rw [hb g0 rfl]; exact hh, r⟩
theorem OwnK.lt {w : World} {B : Nat} {v : Value} {ks : List Nat} (h : OwnK w B v ks) : ∀ k, v.ownBlock = some k → B ≤ k ∧ k < w.heap.size := World.ownsRow.lt h
theorem OwnK.keep {w w' : World} {B : Nat} {v : Value} {ks : List Nat} {F : Nat → Prop} (h : OwnK w B v ks) (hb : Keep F w w') (hF : ∀ k, v.ownBlock = some k → ¬ F k) : OwnK w' B v ks := h.same (fun k hk => hb.block k (h.lt k hk).2 (hF k hk))
theorem OwnK.below {w w' : World} {B : Nat} {v : Value} {ks : List Nat} (h : OwnK w B v ks) (hb : Below w.heap.size w w') : OwnK w' B v ks := h.same (fun k hk => hb.block k (h.lt k hk).2)
theorem Kys.below {w w' : World} {A : Option Addr} {ks : List Nat} (h : Kys w A ks) (hb : Below w.heap.size w w') : Kys w' A ks := fun i hi => by
  obtain ⟨b, off, e, hc⟩ := h i hi
  exact ⟨b, off, e, (hb.cell (World.block_lt_of_cell? _ _ hc)).trans hc⟩
theorem infoK : ∃ i, Try.prog.info? 28 = some i ∧ i.zero = some (.int .u64 0) ∧ i.size = 1 ∧ i.bytes = 8 :=
  ⟨(Try.prog.info? 28).get (by kernel_rfl), by kernel_rfl, by kernel_rfl, by kernel_rfl, by kernel_rfl⟩
theorem wp_appk {ops : Array Oper} {rest : List Oper} {o : Oper} {a : Act} {Q : Exit → Act → World → Prop} (w : World) (hgd : o.guard = none) (s x : Operand)
    (hop : o.op = .call { callee := .builtin .append, args := #[s, x], argTypes := #[40, 40] })
    (B : Nat) (v : Value) (ks : List Nat) (hs : a.eval s = v) (ho : OwnK w B v ks) (b off c k : Nat) (hx : a.eval x = .slice (some ⟨b, off, none⟩) 1 c)
    (hk : w.cell? ⟨b, off, none⟩ = some (.int .u64 (k : Int))) (hlen : ks.length ≤ 1000000) (hB : B ≤ w.heap.size) (n : Nat) (hn : ks.length + 1 = n)
    (h : ∀ A' c' w', OwnK w' B (.slice A' n c') (ks ++ [k]) → w.grownBy w' v.ownBlock → wpList Try.prog ops Q rest (a.put o.dst (.slice A' n c')) w') : wpList Try.prog ops Q (o :: rest) a w := by
  refine wpList_plain hgd fun K hK => ?_
  obtain ⟨i, hi, hz, hs', hy⟩ := infoK
  obtain ⟨v', w', h1, h2, h3, _⟩ := run_append_own (P := Try.prog) w B 40 o.type 28 i (.int .u64 0) 1 8 Try.underlying40 hi hz hs' hy rfl (by omega) v ks.length (kcs ks) ho ⟨b, off, none⟩ 1 c [.int .u64 (k : Int)] rfl
    (fun j u hj => by
      rw [add_plain]
      rcases j with _ | j
      · rw [Nat.add_zero, hk]; exact hj
      · simp at hj)
    (fun u hu => by simp at hu; subst hu; rfl)
    (by unfold maxLen; omega) (by omega) hB
  have h2' : OwnK w' B v' (ks ++ [k]) := by
    unfold OwnK
    rw [List.length_append]
    simpa [kcs] using h2
  obtain ⟨A', c', rfl, _⟩ := h2'.form
  rw [show (ks ++ [k]).length = n by simp; omega] at h2' h1
  unfold Oper.wp
  simp [execOp, hop, resolve, invoke, builtin, hs, hx, h1, Result.andThen]
  exact hK _ _ (h A' c' w' h2' h3)
theorem field_key (w : World) (k a : Int) : (Instr.field 61 (.agg #[.int .u64 k, .int .u64 a]) 0).run Try.prog w = .ok (.int .u64 k) w := by kernel_rfl
def lenOf : Value → Nat | .slice _ n _ => n | _ => 0
/- on the way through a Take: what was taken, and what is left -/
structure Tw (now : Nat) (w W : World) (d m : Nat) (v : Value) (L : List E) (t : Value) (acc : List Nat) (v' : Value) (L' : List E) : Prop where
  dl : Dl W d m v' L'
  row : OwnK W w.heap.size t acc
  way : ∀ ks R, Tk now L' ks R → Tk now L (acc ++ ks) R
  keep : Keep (Fp d m v) w W
  own : v'.ownBlock = v.ownBlock
  len : acc.length + L'.length = L.length
theorem Tw.far {now : Nat} {w W : World} {d m : Nat} {v : Value} {L : List E} {t : Value} {acc : List Nat} {v' : Value} {L' : List E} (h : Tw now w W d m v L t acc v' L') (h0 : Dl w d m v L) : ∀ k, t.ownBlock = some k → ¬ Fp d m v' k := fun k hk e => by
  have h1 := (h.row.lt k hk).1
  have : Fp d m v k := by
    rcases e with e | e | e
    · exact .inl e
    · exact .inr (.inl e)
    · exact .inr (.inr (by rw [← h.own]; exact e))
  have := h0.lt k this
  omega
theorem tk_next {now : Nat} {L L2 : List E} (hh : Hp L.length L) (hp : (L2 ++ [g L 0]).Perm L) (hn : (g L 0).2 ≤ now) {ks : List Nat} {R : List E} (h : Tk now L2 ks R) : Tk now L ((g L 0).1 :: ks) R := by
  refine .step (hp.symm.trans (List.perm_append_singleton _ _)) hn (fun x hx => ?_) h
  obtain ⟨i, hi, rfl⟩ := mem_g hx
  exact hh.first i hi
theorem tk_stop {now : Nat} {L : List E} (hh : Hp L.length L) (hn : 0 < L.length → now < (g L 0).2) : Tk now L [] L := by
  refine .stop (fun e he => ?_)
  obtain ⟨i, hi, rfl⟩ := mem_g he
  have h1 := hh.first i hi
  have h2 := hn (by omega)
  simp [lt] at h1
  omega
theorem take_nil (w : World) (now : Int) : Calls Try.prog 14 #[nilp, .int .u64 now] w fun e w' => e = .returned (.slice none 0 0) ∧ w' = w := by
  have C := Lib.hid (next_nil w)
  go_enter Try.func14, Try.ntmps14
  go_wp2_with fail
  refine wp_loop_rounds 1 ?_
  rw [rounds_succ]
  go_wp2_with fail
  refine C.out.mono ?_
  rintro e w1 ⟨rfl, rfl⟩
  clear C
  go_wp2_with fail
  go_ret
  exact ⟨rfl, rfl⟩
set_option maxHeartbeats 4000000 in
theorem take_any {w : World} {d m : Nat} {v : Value} {L : List E} (h : Dl w d m v L) (now : Nat) (hlen : L.length ≤ 80000) :
    Calls Try.prog 14 #[ptr d, .int .u64 (now : Int)] w fun e w' => ∃ t ks v' R, e = .returned t ∧ OwnK w' w.heap.size t ks ∧ Tk now L ks R ∧ Dl w' d m v' R ∧ Keep (Fp d m v) w w' ∧ v'.ownBlock = v.ownBlock := by
  have H0 : Hid (Tw now w w d m v L (.slice none 0 0) [] v L) := ⟨h, OwnK.nil _ _, fun _ _ h => h, Keep.refl _ _, rfl, by simp⟩
  have HD := Lib.hid h
  have fk := field_key
  clear h
  go_enter Try.func14, Try.ntmps14
  go_wp2_with fail
  go_loopw [5] (fun s wr => ∃ (A : Option Addr) (n c : Nat) (acc : List Nat) (v' : Value) (L' : List E), s = .slice A n c ∧ n ≤ 80000 ∧ n ≤ L.length ∧ Hid (acc.length = n ∧ Tw now w wr d m v L (.slice A n c) acc v' L')) (fun s _ => L.length - lenOf s)
  case atStart => exact ⟨none, 0, 0, [], v, L, rfl, by omega, by omega, rfl, H0.out⟩
  case round =>
    obtain ⟨A, n, c, acc, v', L', rfl, hn, hnl, H⟩ := hrel
    have T := Lib.hid H.out.2
    have HA := Lib.hid H.out.1
    clear H H0
    by_cases c0 : L' = []
    · subst c0
      have C := Lib.hid (next_none T.out.dl)
      have TK := Lib.hid (T.out.way [] [] (.stop (by simp)))
      go_wp2_with fail
      refine C.out.mono ?_
      rintro e w1 ⟨rfl, rfl⟩
      clear C
      go_wp2_with fail
      go_ret
      exact ⟨_, acc, v', [], rfl, T.out.row, by simpa using TK.out, T.out.dl, T.out.keep, T.out.own⟩
    · have hpos : 0 < L'.length := List.length_pos_iff.2 c0
      have C := Lib.hid (next_some T.out.dl hpos)
      have LN := Lib.hid T.out.len
      by_cases ht : now < (g L' 0).2
      · have TK := Lib.hid (T.out.way [] L' (tk_stop T.out.dl.hp (fun _ => ht)))
        generalize (g L' 0).2 = a at *
        have ht' : (now : Int) < (a : Int) := by omega
        go_wp2_with fail
        refine C.out.mono ?_
        rintro e w1 ⟨rfl, rfl⟩
        clear C
        go_wp2_with fail
        go_ret
        exact ⟨_, acc, v', L', rfl, T.out.row, by simpa using TK.out, T.out.dl, T.out.keep, T.out.own⟩
      · have C2 := Lib.hid (remove_any T.out.dl 0 hpos (by have := LN.out; omega))
        have WAY := Lib.hid (fun L2 ks R (hp : (L2 ++ [g L' 0]).Perm L') (h : Tk now L2 ks R) => T.out.way _ _ (tk_next T.out.dl.hp hp (by omega) h))
        generalize g L' 0 = x at *
        obtain ⟨k, a⟩ := x
        simp only at ht C WAY
        dsimp only [agg] at C2
        have ht' : (a : Int) ≤ (now : Int) := by omega
        clear ht
        go_wp2_with fail
        refine C.out.mono ?_
        rintro e w1 ⟨rfl, rfl⟩
        clear C
        go_wp2_with fail
        refine C2.out.mono ?_
        rintro e w2 ⟨rfl, v2, L2, h1, h2, h3, h4⟩
        have R2 := Lib.hid (T.out.row.keep h3 (T.out.far HD.out))
        have K2 := Lib.hid (T.out.keep.trans h3 (fun x _ e => by
          rcases e with e | e | e
          · exact Or.inl e
          · exact Or.inr (Or.inl e)
          · exact Or.inr (Or.inr (by rw [← T.out.own]; exact e))))
        have D2 := Lib.hid h1
        have P2 := Lib.hid h2
        have O2 := Lib.hid (h4.trans T.out.own)
        clear h1 h2 h3 h4 C2
        have hsz := Lib.hid K2.out.size
        go_wp2_with (at_builtin; refine wp_appk _ rfl _ _ rfl w.heap.size _ acc rfl (R2.out.below (below_alloc _ _)) w2.heap.size 0 1 k rfl (by simp [go_sem]) (by rw [HA.out]; omega) (by have := hsz.out; simp; omega) (n + 1) (by rw [HA.out]) ?_)
        intro A3 c3 w3 hO3 hg3
        have K3 := Lib.hid ((Keep.of_below (fun x => (Value.slice A n c).ownBlock = some x) (below_alloc w2 (.cells #[.int .u64 (k : Int)] 28))).trans (Keep.grown (F := fun x => (Value.slice A n c).ownBlock = some x) hg3 (fun _ e => e)) (fun _ _ e => e))
        have O3 := Lib.hid hO3
        clear hO3 hg3
        go_wp2_with fail
        go_roundw
        case rel =>
          have hl : L2.length + 1 = L'.length := by have := P2.out.length_eq; simpa using this
          have hb : ∀ x, (Value.slice A n c).ownBlock = some x → w.heap.size ≤ x := fun x hx => (R2.out.lt x hx).1
          refine ⟨A3, n + 1, c3, acc ++ [k], v2, L2, by go_num, by have := LN.out; have := HA.out; omega, by have := LN.out; have := HA.out; omega, by rw [List.length_append, HA.out]; rfl, ⟨D2.out.keep K3.out (fun x hx e => ?_), O3.out, fun ks R h => ?_, K2.out.trans K3.out (fun x hx e => ?_), O2.out, ?_⟩⟩
          · have h1 := hb x e
            have : Fp d m v x := by
              rcases hx with e | e | e
              · exact .inl e
              · exact .inr (.inl e)
              · exact .inr (.inr (by rw [← O2.out]; exact e))
            have := HD.out.lt x this
            omega
          · have := WAY.out L2 ks R P2.out h
            simpa using this
          · have := hb x e
            omega
          · rw [List.length_append]
            have := LN.out
            simp
            omega
        case measure => simp [lenOf]; have := LN.out; have := HA.out; omega
end Go.Proofs.Ytnomegopjdgbjaa
