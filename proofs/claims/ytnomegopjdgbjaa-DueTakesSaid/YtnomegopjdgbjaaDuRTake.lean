/- The document's Take. -/
import Derived.Test.YtnomegopjdgbjaaDuRNext
namespace Go.Proofs.Ytnomegopjdgbjaa
open Go Go.RowKit
set_option maxRecDepth 20000

theorem wp_appk2 {ops : Array Oper} {rest : List Oper} {o : Oper} {a : Act} {Q : Exit → Act → World → Prop} (w : World) (hgd : o.guard = none) (s x : Operand)
    (hop : o.op = .call { callee := .builtin .append, args := #[s, x], argTypes := #[40, 40] })
    (B : Nat) (v : Value) (ks : List Nat) (hs : a.eval s = v) (ho : OwnK w B v ks) (b off c k : Nat) (hx : a.eval x = .slice (some ⟨b, off, none⟩) 1 c)
    (hk : w.cell? ⟨b, off, none⟩ = some (.int .u64 (k : Int))) (hlen : ks.length ≤ 1000000) (hB : B ≤ w.heap.size) (n : Nat) (hn : ks.length + 1 = n)
    (h : ∀ A' c' w', OwnK w' B (.slice A' n c') (ks ++ [k]) → w.grownBy w' v.ownBlock → ((Value.slice A' n c').ownBlock = v.ownBlock ∨ (Value.slice A' n c').ownBlock = some w.heap.size) → wpList Try.prog ops Q rest (a.put o.dst (.slice A' n c')) w') : wpList Try.prog ops Q (o :: rest) a w := by
  refine wpList_plain hgd fun K hK => ?_
  obtain ⟨i, hi, hz, hs', hy⟩ := infoK
  obtain ⟨v', w', h1, h2, h3, _, h5⟩ := run_append_own_at (P := Try.prog) w B 40 o.type 28 i (.int .u64 0) 1 8 Try.underlying40 hi hz hs' hy rfl (by omega) v ks.length (kcs ks) ho ⟨b, off, none⟩ 1 c [.int .u64 (k : Int)] rfl
    (fun j u hj => by
      rw [add_plain]
      rcases j with _ | j
      · rw [Nat.add_zero, hk]; exact hj
      · simp at hj)
    (fun u hu => by simp at hu; subst hu; rfl)
    (by unfold maxLen; omega) (by omega) hB
  have h2' : OwnK w' B v' (ks ++ [k]) := by
    unfold OwnK
    rw [List.length_append]
    simpa [kcs] using h2
  obtain ⟨A', c', rfl, _⟩ := h2'.form
  rw [show (ks ++ [k]).length = n by simp; omega] at h2' h1 h5
  unfold Oper.wp
  simp [execOp, hop, resolve, invoke, builtin, hs, hx, h1, Result.andThen]
  exact hK _ _ (h A' c' w' h2' h3 h5)
/- on the way through the document's Take -/
structure Rw (now : Nat) (w W : World) (A0 : Option Addr) (l0 : List E) (t : Value) (acc : List Nat) (A : Option Addr) (l : List E) : Prop where
  prs : Prs W A l
  row : OwnK W w.heap.size t acc
  way : ∀ ks R, Tk now l ks R → Tk now l0 (acc ++ ks) R
  bel : Below w.heap.size w W
  once : Once l
  len : acc.length + l.length = l0.length
  apart : ∀ x k, A = some x → t.ownBlock = some k → x.block ≠ k
  old : ∀ x, A = some x → A0 = some x ∨ w.heap.size ≤ x.block
  lt : ∀ x, A = some x → x.block < W.heap.size
theorem rtk_next {now : Nat} {l : List E} {b : Nat} (hb : Lst l l.length b) (ho : Once l) (hn : (g l b).2 ≤ now) {ks : List Nat} {R : List E} (h : Tk now (cutL l (g l b).1) ks R) : Tk now l ((g l b).1 :: ks) R := by
  refine .step ((once_split ho (g_mem l b hb.1)).trans (List.perm_append_singleton _ _)) hn (fun x hx => ?_) h
  obtain ⟨i, hi, rfl⟩ := mem_g hx
  exact hb.2 i hi
theorem rtk_stop {now : Nat} {l : List E} {b : Nat} (hb : Lst l l.length b) (hn : now < (g l b).2) : Tk now l [] l := by
  refine .stop (fun e he => ?_)
  obtain ⟨i, hi, rfl⟩ := mem_g he
  have h1 := hb.2 i hi
  simp [lt] at h1
  omega
theorem cutL_len {l : List E} {b : Nat} (hb : b < l.length) (ho : Once l) : (cutL l (g l b).1).length + 1 = l.length := by
  have := (once_split ho (g_mem l b hb)).length_eq
  rw [List.length_append] at this
  exact this.symm
theorem Once.cut {l : List E} (h : Once l) (k : Nat) : Once (cutL l k) := List.Pairwise.filter _ h
set_option maxHeartbeats 4000000 in
theorem rtake_any (w : World) (A0 : Option Addr) (n0 c0 now : Nat) (l0 : List E) (hl : l0.length = n0) (hp : Prs w A0 l0) (ho : Once l0) (hn : n0 ≤ 80000) (hA : ∀ x, A0 = some x → x.block < w.heap.size) :
    Calls Try.prog 21 #[.slice A0 n0 c0, .int .u64 (now : Int)] w fun e w' => ∃ t ks A n c R, e = .returned (.tuple #[t, .slice A n c]) ∧ OwnK w' w.heap.size t ks ∧ Tk now l0 ks R ∧ R.length = n ∧ Prs w' A R ∧ Below w.heap.size w w' ∧ (∀ x, A = some x → A0 = some x ∨ w.heap.size ≤ x.block) ∧ (∀ x, A = some x → x.block < w'.heap.size) := by
  have H0 : Hid (Rw now w (w.alloc (.cells #[] 28)) A0 l0 (.slice (some ⟨w.heap.size, 0, none⟩) 0 0) [] A0 l0) :=
    ⟨hp.below (below_alloc _ _), OwnK.made w, fun _ _ h => h, below_alloc _ _, ho, by simp, fun x k h1 h2 => by
      have := hA x h1
      have e : k = w.heap.size := by simpa [Value.ownBlock] using h2.symm
      omega, fun x h => .inl h, fun x h => by have := hA x h; simp; omega⟩
  have HL := Lib.hid hl
  clear hp ho hA hl
  go_enter Try.func21, Try.ntmps21
  go_wp2_with fail
  go_loopw [0, 6] (fun s t wr => ∃ (A T : Option Addr) (n c k q : Nat) (acc : List Nat) (l : List E), s = .slice A n c ∧ t = .slice T k q ∧ n ≤ 80000 ∧ k ≤ 80000 ∧ n ≤ n0 ∧ Hid (l.length = n ∧ acc.length = k ∧ Rw now w wr A0 l0 (.slice T k q) acc A l)) (fun s _ _ => lenOf s)
  case atStart => exact ⟨A0, _, n0, c0, 0, 0, [], l0, rfl, rfl, by omega, by omega, by omega, HL.out, rfl, H0.out⟩
  case round =>
    obtain ⟨A, T, n, c, k, q, acc, l, rfl, rfl, hn1, hk1, hn2, H⟩ := hrel
    clear H0
    have R0 := Lib.hid H.out.2.2
    have L0 := Lib.hid H.out.1
    have K0 := Lib.hid H.out.2.1
    clear H
    rcases Nat.eq_zero_or_pos n with rfl | hpos
    · have C := Lib.hid (rnext_nil wr A c)
      have hnil : l = [] := List.eq_nil_of_length_eq_zero L0.out
      subst hnil
      have TK := Lib.hid (R0.out.way [] [] (.stop (by simp)))
      go_wp2_with fail
      refine C.out.mono ?_
      rintro e w1 ⟨rfl, rfl⟩
      clear C
      go_wp2_with fail
      go_ret2
      exact ⟨_, acc, A, 0, c, [], rfl, R0.out.row, by simpa using TK.out, rfl, R0.out.prs, R0.out.bel, R0.out.old, R0.out.lt⟩
    · have C := Lib.hid (rnext_some wr A n c l L0.out R0.out.prs hpos (by omega))
      go_wp2_with fail
      refine C.out.mono ?_
      rintro e w1 ⟨b, rfl, hL, hb1⟩
      clear C
      have hbn := hL.1
      have P1 := Lib.hid (R0.out.prs.below hb1)
      have O1 := Lib.hid (R0.out.row.below hb1)
      have B1 := Lib.hid (R0.out.bel.trans (hb1.mono R0.out.bel.size))
      obtain ⟨ab, off, rfl, x1, x2⟩ := P1.out b (by have := L0.out; omega)
      have SZ := Lib.hid hb1.size
      have LL := Lib.hid (show Lst l l.length b by rw [L0.out]; exact hL)
      clear hL hb1
      have hb' : (b : Int) < (n : Int) := by omega
      have hb0 : (0 : Int) ≤ (b : Int) := by omega
      by_cases ht : now < (g l b).2
      · have TK := Lib.hid (R0.out.way [] l (rtk_stop LL.out ht))
        generalize g l b = y at *
        obtain ⟨y1, y2⟩ := y
        simp only at x1 x2 ht
        have ht' : (now : Int) < (y2 : Int) := by omega
        go_wp2_with fail
        go_ret2
        exact ⟨_, acc, _, n, c, l, rfl, O1.out, by simpa using TK.out, L0.out, P1.out, B1.out, R0.out.old, fun x e => by have := R0.out.lt x e; have := SZ.out; omega⟩
      · have WAY := Lib.hid (fun ks R (h : Tk now (cutL l (g l b).1) ks R) => R0.out.way _ _ (rtk_next LL.out R0.out.once (by omega) h))
        have LEN := Lib.hid (cutL_len LL.out.1 R0.out.once)
        have ON := Lib.hid (R0.out.once.cut (g l b).1)
        have hkey := Lib.hid x1
        generalize g l b = y at *
        obtain ⟨y1, y2⟩ := y
        simp only at x1 x2 ht WAY LEN ON
        have ht' : (y2 : Int) ≤ (now : Int) := by omega
        clear ht
        have hab : ab < w1.heap.size := World.block_lt_of_cell? _ _ x1
        have S1 := Lib.hid B1.out.size
        go_wp2_with (at_builtin; refine wp_appk2 _ rfl _ _ rfl w.heap.size _ acc rfl (O1.out.below (below_alloc _ _)) w1.heap.size 0 1 y1 rfl (by simp [go_sem]) (by rw [K0.out]; omega) (by have := S1.out; simp; omega) (k + 1) (by rw [K0.out]) ?_)
        intro T2 q2 w2 hO2 hg2 hl2
        have BA := below_alloc w1 (.cells #[.int .u64 (y1 : Int)] 28)
        have K2 : Keep (fun x => (Value.slice T k q).ownBlock = some x) w1 w2 := (Keep.of_below _ BA).trans (Keep.grown (F := fun x => (Value.slice T k q).ownBlock = some x) hg2 (fun _ e => e)) (fun _ _ e => e)
        have hsz2 : w1.heap.size + 1 ≤ w2.heap.size := by have := hg2.size; simp at this; omega
        have P2 : Prs w2 (some ⟨ab, off, none⟩) l := P1.out.keep K2 (fun x e hx => R0.out.apart x x.block e hx rfl)
        have B2 : Below w.heap.size w w2 := B1.out.trans (K2.below (fun x hx => (O1.out.lt x hx).1) B1.out.size)
        have hT2 : ∀ x, (Value.slice T2 (k + 1) q2).ownBlock = some x → x < w2.heap.size := fun x hx => (hO2.lt x hx).2
        have C2 := Lib.hid (rcut_any w2 (some ⟨ab, off, none⟩) n c y1 l L0.out P2 (by omega))
        have z1 : w2.cell? ⟨ab, off + b * 2, none⟩ = some (.int .u64 (y1 : Int)) := K2.cell x1 (fun hx => R0.out.apart ⟨ab, off, none⟩ ab rfl hx rfl)
        have HO2 := Lib.hid hO2
        have HB2 := Lib.hid B2
        have HT2 := Lib.hid hT2
        clear hO2 hg2 hl2 BA K2 hsz2 P2 B2 hT2 x1 x2 hkey hab O1 P1 B1 S1
        go_wp2_with fail
        refine C2.out.mono ?_
        rintro e w3 ⟨A3, n3, c3, rfl, h1, h2, h3⟩
        have N3 := Lib.hid h1
        have O3 := Lib.hid h2
        have B3 := Lib.hid h3
        have hn3 : n3 + 1 = n := by have := LEN.out; have := L0.out; omega
        have H3 := Lib.hid hn3
        clear h1 h2 h3 C2 z1 hn3
        go_wp2_with fail
        go_roundw
        case rel =>
          have e3 := H3.out
          have e4 := R0.out.len
          have e5 := LEN.out
          have e6 := K0.out
          refine ⟨A3, T2, n3, c3, k + 1, q2, acc ++ [y1], cutL l y1, rfl, rfl, by omega, by have := HL.out; omega, by omega, N3.out, by rw [List.length_append, e6]; rfl, ⟨O3.out.prs, HO2.out.below B3.out, fun ks R h => ?_, HB2.out.trans (B3.out.mono HB2.out.size), ON.out, ?_, fun x kk h1 h2 => ?_, fun x h1 => .inr ?_, fun x h1 => by subst h1; exact (O3.out.lt x.block rfl).2⟩⟩
          · have := WAY.out ks R h
            simpa using this
          · rw [List.length_append, List.length_singleton]; omega
          · have := O3.out.far x h1
            have := HT2.out kk h2
            omega
          · have := O3.out.far x h1
            have := HB2.out.size
            omega
        case measure => simp [lenOf]; have := H3.out; omega
end Go.Proofs.Ytnomegopjdgbjaa
