/- One operation of both disks: Append. -/
import Derived.Test.YtahjodpaikhhmaaDkD4
import Derived.Deep.RegionLaw
import Derived.Deep.DeepCutAuto
namespace Go.Proofs.Ytahjodpaikhhmaa
open Go Go.RowKit
set_option maxRecDepth 20000

theorem rowB_made (w : World) : Own (w.alloc (.cells #[] 5)) w.heap.size (.slice (some ⟨w.heap.size, 0, none⟩) 0 0) [] := World.ownsRow_made w #[] 0 (Nat.le_refl _) (by decide) rfl
theorem step_appb {ops : Array Oper} {o : Oper} {a : Act} {K : Act → World → Prop} {Q : Exit → Act → World → Prop} {E : Prop} (w : World) (hgd : o.guard = none) (s x : Operand)
    (hop : o.op = .call { callee := .builtin .append, args := #[s, x], argTypes := #[33, 33] })
    (B : Nat) (v : Value) (hs : a.eval s = v) (ho : Own w B v []) (A : Option Addr) (m c : Nat) (l : List Int) (hx : a.eval x = .slice A m c) (hm : l.length = m) (hb : Byt w A l) (hc : A = none → c = 0) (hlen : m ≤ 100000) (hB : B ≤ w.heap.size)
    (h : ∀ A' c' w', Own w' B (.slice A' m c') l → Below B w w' → K (a.put o.dst (.slice A' m c')) w') :
    if Region.wanted o (yielded ops a.tmps) = true then Oper.wp Try.prog o a w K Q else E := by
  have hw : Region.wanted o (yielded ops a.tmps) = true := by simp [Region.wanted, hgd]
  rw [if_pos hw]
  obtain ⟨v', w', hrun, h2, h3, h4⟩ := run_appb w B o.type v [] ho A m c l hm hb hc (by simp; omega) hB
  rw [List.nil_append] at h2
  obtain ⟨A', c', rfl, _⟩ := h2.form hb.2
  rw [hm] at h2 hrun
  unfold Oper.wp
  simp [execOp, hop, resolve, invoke, builtin, hs, hx, hrun, Result.andThen]
  exact h A' c' w' h2 ((Below.refl _ _).grown h3 hB (fun k hk => (World.ownsRow.lt ho k hk).1))
set_option maxHeartbeats 2000000 in
theorem do_app0 {B : Nat} {w : World} {d m : Nat} {V : ByteArray → Value} {S : St} {A : Option Addr} {n c : Nat} {L : List RF} (h : Pl B w d m V S S A n L) (o : OP) (hq : o.q = 0) (T : St) (hT : T.room = S.room)
    (k : Nat) (l : List Int) (hl : l.length = o.bn) (hI : ∀ W, Below B w W → Byt W o.ba l) (hz : o.ba = none → o.bc = 0) (hk3 : o.bn ≤ 100000)
    (C1 : ∀ W A' c', Dk W d m V S → Byt W A' l → (A' = none → c' = 0) → o.bn ≤ c' → (∀ x, A' = some x → ¬ Fp d m V S.fs x.block) → Calls Try.prog 12 #[ptr d, .string o.nm, .slice A' o.bn c'] W (Acted W d m V S k T))
    (C2 : ∀ W, RD W S A n L → Byt W o.ba l → Calls Try.prog 23 #[rvS S A n c, .string o.nm, .slice o.ba o.bn o.bc] W (RDo W A L (k : Nat) T)) :
    Calls Try.prog 8 #[ptr d, rvS S A n c, .agg (opc o)] w (Did B w d m (At d m V S.fs A L)) := by
  obtain ⟨oq, onm, ont, oba, obn, obc, on, ok, oka, okn, okc⟩ := o
  simp only at hq C1 C2 hl hI hz hk3
  subst hq
  have P := Lib.hid h
  have bw := dw0_below w S A n c ⟨0, onm, ont, oba, obn, obc, on, ok, oka, okn, okc⟩
  have P0 := Lib.hid (h.below bw)
  have X0 := Lib.hid (Bx.start w S A n c ⟨0, onm, ont, oba, obn, obc, on, ok, oka, okn, okc⟩)
  have BW := Lib.hid bw
  have D1 := Lib.hid C1
  have HI := Lib.hid hI
  have HL := Lib.hid hl
  have HZ := Lib.hid hz
  have SZ := Lib.hid (show (dw0 w S A n c ⟨0, onm, ont, oba, obn, obc, on, ok, oka, okn, okc⟩).heap.size = w.heap.size + 1 + 1 + 1 by simp only [World.size_alloc])
  have bdn : Below w.heap.size w ((dw0 w S A n c ⟨0, onm, ont, oba, obn, obc, on, ok, oka, okn, okc⟩).drewN 1) := ⟨bw.os, bw.tape, bw.output, bw.size, bw.block⟩
  have o0 := rowB_made ((dw0 w S A n c ⟨0, onm, ont, oba, obn, obc, on, ok, oka, okn, okc⟩).drewN 1)
  have szd : ((dw0 w S A n c ⟨0, onm, ont, oba, obn, obc, on, ok, oka, okn, okc⟩).drewN 1).heap.size = w.heap.size + 1 + 1 + 1 := SZ.out
  rw [szd] at o0
  have O0 := Lib.hid o0
  have ba := below_go bdn (below_alloc ((dw0 w S A n c ⟨0, onm, ont, oba, obn, obc, on, ok, oka, okn, okc⟩).drewN 1) (.cells #[] 5))
  have J0 := Lib.hid (hI _ (ba.mono h.hB))
  have bad : Below (dw0 w S A n c ⟨0, onm, ont, oba, obn, obc, on, ok, oka, okn, okc⟩).heap.size (dw0 w S A n c ⟨0, onm, ont, oba, obn, obc, on, ok, oka, okn, okc⟩) (((dw0 w S A n c ⟨0, onm, ont, oba, obn, obc, on, ok, oka, okn, okc⟩).drewN 1).alloc (.cells #[] 5)) := by
    have := below_alloc ((dw0 w S A n c ⟨0, onm, ont, oba, obn, obc, on, ok, oka, okn, okc⟩).drewN 1) (.cells #[] 5)
    exact ⟨this.os, this.tape, this.output, this.size, this.block⟩
  have BA := Lib.hid bad
  have hgs : Hid (w.heap.size + 1 + 1 + 1 ≤ (((dw0 w S A n c ⟨0, onm, ont, oba, obn, obc, on, ok, oka, okn, okc⟩).drewN 1).alloc (.cells #[] 5)).heap.size) := Lib.hid (by have := bad.size; rw [SZ.out] at this; exact this)
  have D2 := Lib.hid C2
  have HT := Lib.hid hT
  clear h bw C1 C2 hT hI hl hz ba o0 bdn bad szd
  go_enter Try.func8, Try.ntmps8
  go_upto_region 11 with fail
  go_cut [8] from 65 to 72 (fun v w1 => v = .int .i64 (k : Int) ∧ Hid (∃ w0 V1, Below (dw0 w S A n c ⟨0, onm, ont, oba, obn, obc, on, ok, oka, okn, okc⟩).heap.size (dw0 w S A n c ⟨0, onm, ont, oba, obn, obc, on, ok, oka, okn, okc⟩) w0 ∧ Dk w1 d m V1 T ∧ Keep (Fp d m V S.fs) w0 w1 ∧ ∀ x, Fp d m V1 T.fs x → Fp d m V S.fs x ∨ w0.heap.size ≤ x))
  case first =>
    clear D2 HT HI BW
    go_region_law (first
      | (refine step_appb _ (by rfl) (.tmp 68) (.tmp 70) (by rfl) (w.heap.size + 1 + 1 + 1) _ (by rfl) O0.out oba obn obc l (by rfl) HL.out J0.out HZ.out hk3 hgs.out ?_; intro Ac cc w0 hO0 hb0; have bb0 := BA.out.trans (show Below (dw0 w S A n c ⟨0, onm, ont, oba, obn, obc, on, ok, oka, okn, okc⟩).heap.size _ w0 from by rw [SZ.out]; exact hb0); have x0 := X0.out.keep (F := fun _ => False) (Keep.of_below _ bb0) (fun _ _ _ e => e); have q1 : w0.cell? ⟨w.heap.size + 1, 1, none⟩ = some (.string onm) := (by rw [cell_in x0.b1]; rfl); have hg1 := (Array.getElem?_eq_some_iff.1 x0.b1).1; have BB := Lib.hid bb0; have D4 := Lib.hid (D1.out w0 Ac cc (P0.out.below bb0).db.dk (hO0.byt J0.out.2) (fun e => hO0.capz e) (hO0.le HL.out) (fun x e q => by have := P0.out.lt _ (.inl q); have := (hO0.addr x e).1; have := SZ.out; omega)); clear hO0 hb0 bb0 x0)
      | (go_simp; go_at_call 12; refine D4.out.mono ?_; rintro e w1 ⟨rfl, V1, hd, hk, hf⟩; have FN := Lib.hid (⟨w0, V1, BB.out, hd, hk, hf⟩ : ∃ w0 V1, Below (dw0 w S A n c ⟨0, onm, ont, oba, obn, obc, on, ok, oka, okn, okc⟩).heap.size (dw0 w S A n c ⟨0, onm, ont, oba, obn, obc, on, ok, oka, okn, okc⟩) w0 ∧ Dk w1 d m V1 T ∧ Keep (Fp d m V S.fs) w0 w1 ∧ ∀ x, Fp d m V1 T.fs x → Fp d m V S.fs x ∨ w0.heap.size ≤ x); clear hd hk hf))
    all_goals
      clear D1 D4 O0 J0 BA hgs SZ X0 P0 P HL HZ BB
      go_wp2_with fail
      go_meet
      exact ⟨rfl, FN⟩
  case rest =>
  obtain ⟨w1, hw1⟩ : ∃ w1, w1 = wc := ⟨_, rfl⟩
  subst hw1
  obtain ⟨rfl, HC⟩ := hcut
  obtain ⟨w0, V1, bb0, hd, hk, hf⟩ := HC.out
  have P5 := Lib.hid (P0.out.below bb0)
  have X5 := Lib.hid (X0.out.keep (F := fun _ => False) (Keep.of_below _ bb0) (fun _ _ _ e => e))
  have BB := Lib.hid bb0
  clear HC bb0 D1 O0 J0 BA hgs SZ
  obtain ⟨p1, b1, at1⟩ := P5.out.first hd hk hf
  have x1 := X5.out.keep hk (fun x h1 _ e => by have := P.out.lt x (.inl e); omega)
  obtain ⟨y0, y1, y2, y3, y4, y5, y6, f0, f1, f2, f3, f4, f5, f6, hg0⟩ := look7 x1.b0
  obtain ⟨q0, q1, q2, q3, q4, q5, q6, r0, r1, r2, r3, r4, r5, r6, hg1⟩ := look7 x1.b1
  have P1 := Lib.hid p1
  have A1 := Lib.hid at1
  have B1 := Lib.hid b1
  have X1 := Lib.hid x1
  have bw1 := ((BW.out.mono P.out.hB).trans (BB.out.mono P0.out.hB)).trans b1
  have D3 := Lib.hid (D2.out w1 p1.rd (HI.out w1 bw1))
  have S0 := Lib.hid (show (dw0 w S A n c ⟨0, onm, ont, oba, obn, obc, on, ok, oka, okn, okc⟩).heap.size = w.heap.size + 3 by simp)
  have hs0 : Hid (w.heap.size + 3 ≤ w0.heap.size) := Lib.hid (by have := BB.out.size; have := S0.out; omega)
  have hs1 : Hid (w.heap.size + 3 ≤ w1.heap.size) := Lib.hid (by have := hk.size; have := hs0.out; omega)
  have HK1 : Hid (Keep (Fp d m V S.fs) w w1) := Lib.hid (((Keep.of_below _ BW.out).tr (Keep.of_below _ BB.out)).tr hk)
  clear D2 hd hk hf p1 b1 at1 x1 X0 X5 HI HL HZ bw1
  go_wp2_with fail
  refine D3.out.mono ?_
  rintro e w2 ⟨A', n', c', L', rfl, hr, hn, hb2⟩
  obtain ⟨p2, at2⟩ := P1.out.then_ hr hn hb2 (by rw [HT.out]; exact P.out.room)
  have x2 := X1.out.keep (F := fun _ => False) (Keep.of_below _ hb2) (fun _ _ _ e => e)
  clear y0 y1 y2 y3 y4 y5 y6 f0 f1 f2 f3 f4 f5 f6 hg0 q0 q1 q2 q3 q4 q5 q6 r0 r1 r2 r3 r4 r5 r6 hg1 D3
  obtain ⟨y0, y1, y2, y3, y4, y5, y6, f0, f1, f2, f3, f4, f5, f6, hg0⟩ := look7 x2.b0
  obtain ⟨W3, hW3, k0, kk, ks, kb⟩ := boxed x2.b0 (.int .i64 (T.room : Int)) (.slice A' n' c') (.bool (!T.up)) (.int .i64 T.falls) (.bool T.lit) (.int .i64 (T.acts : Int)) (.int .i64 (T.part : Int))
  have k2 : W3.heap[w.heap.size + 2]? = some rc0 := (kk _ (by omega)).trans x2.b2
  have HW := Lib.hid hW3
  have HK3 : Hid (Keep (fun x => x = w.heap.size ∨ x = w.heap.size + 2) w2 W3) := Lib.hid (by rw [← hW3]; exact keep7 (Keep.refl _ _) _ (.inl rfl) _ _ _ _ _ _ _)
  have HAT : Hid (∀ x, At d m V1 T.fs A' L' x → At d m V S.fs A L x ∨ w.heap.size + 3 ≤ x) := Lib.hid (fun x hx => by
    rcases at2 x hx with e | e
    · rcases A1.out x e with e | e
      · exact .inl e
      · have := hs0.out; exact .inr (by omega)
    · have := hs1.out; exact .inr (by omega))
  have HB2 : Hid (Below B w w2) := Lib.hid ((((BW.out.mono P.out.hB).trans (BB.out.mono P0.out.hB)).trans B1.out).trans (hb2.mono P1.out.hB))
  have P2 := Lib.hid p2
  have K0 := Lib.hid k0
  have K2 := Lib.hid k2
  have PB := Lib.hid P.out.hB
  have HG := Lib.hid P.out.lt
  have HKP : Hid (Keep (At d m V S.fs A L) w w2) := Lib.hid ((HK1.out.tr (Keep.of_below _ hb2)).wide (fun x _ hx => .inl hx))
  clear p2 at2 x2 k0 k2 kk ks kb hW3 hr hn hb2 X1 A1 B1 S0 hs0 hs1 BW BB P1 P0 P5 HT P
  go_wp2_with fail
  rw [HW.out]
  clear y0 y1 y2 y3 y4 y5 y6 f0 f1 f2 f3 f4 f5 f6 hg0 HW
  obtain ⟨y0, y1, y2, y3, y4, y5, y6, f0, f1, f2, f3, f4, f5, f6, hg0⟩ := look7 K0.out
  obtain ⟨z0, z1, z2, z3, z4, z5, z6, e0, e1, e2, e3, e4, e5, e6, hg1⟩ := look7 K2.out
  go_region
  all_goals
    go_wp2_with fail
    have KF := (keep7 HK3.out (w.heap.size + 2) (.inr rfl) (.int .i64 (T.room : Int)) (.slice A' n' c') (.bool (!T.up)) (.int .i64 T.falls) (.bool T.lit) (.int .i64 (T.acts : Int)) (.int .i64 (T.part : Int))).drew
    exact bodyPost_ret (v := .tuple #[.bool true, rvS T A' n' c']) (by simp [results, Try.results8, go_sem, *]) rfl (did_end P2.out HAT.out HG.out HB2.out PB.out HKP.out KF true)
end Go.Proofs.Ytahjodpaikhhmaa
