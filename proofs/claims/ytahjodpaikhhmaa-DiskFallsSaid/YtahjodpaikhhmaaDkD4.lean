/- One operation of both disks: up again. -/
import Derived.Test.YtahjodpaikhhmaaDkD3
namespace Go.Proofs.Ytahjodpaikhhmaa
open Go Go.RowKit
set_option maxRecDepth 20000

theorem rowI_made (w : World) : (w.alloc (.cells #[] 3)).ownsRow w.heap.size 3 1 (.slice (some ⟨w.heap.size, 0, none⟩) 0 0) 0 [] := World.ownsRow_made w #[] 0 (Nat.le_refl _) (by decide) rfl
set_option maxHeartbeats 2000000 in
theorem do_wake0 {B : Nat} {w : World} {d m : Nat} {V : ByteArray → Value} {S : St} {A : Option Addr} {n c : Nat} {L : List RF} (h : Pl B w d m V S S A n L) (o : OP) (hq : o.q = 7) (T : St) (hT : T.room = S.room)
    (l : List Int) (hl : l.length = o.kn) (hI : ∀ W, Below B w W → Ints W o.ka l) (hz : o.ka = none → o.kc = 0) (hk3 : o.kn ≤ 1000)
    (C1 : ∀ W A' c', Dk W d m V S → Ints W A' l → (∀ x, A' = some x → ¬ Fp d m V S.fs x.block ∧ x.block < W.heap.size) → Calls Try.prog 13 #[ptr d, .slice A' o.kn c'] W (Woken W d m V S T))
    (C2 : ∀ W, RD W S A n L → Ints W o.ka l → Calls Try.prog 30 #[rvS S A n c, .slice o.ka o.kn o.kc] W (RSo W A L T)) :
    Calls Try.prog 8 #[ptr d, rvS S A n c, .agg (opc o)] w (Did B w d m (At d m V S.fs A L)) := by
  obtain ⟨oq, onm, ont, oba, obn, obc, on, ok, oka, okn, okc⟩ := o
  simp only at hq C1 C2 hl hI hz hk3
  subst hq
  have P := Lib.hid h
  have bw := dw0_below w S A n c ⟨7, onm, ont, oba, obn, obc, on, ok, oka, okn, okc⟩
  have P0 := Lib.hid (h.below bw)
  have X0 := Lib.hid (Bx.start w S A n c ⟨7, onm, ont, oba, obn, obc, on, ok, oka, okn, okc⟩)
  have BW := Lib.hid bw
  have D1 := Lib.hid C1
  have HI := Lib.hid hI
  have HL := Lib.hid hl
  have HZ := Lib.hid hz
  have SZ := Lib.hid (show (dw0 w S A n c ⟨7, onm, ont, oba, obn, obc, on, ok, oka, okn, okc⟩).heap.size = w.heap.size + 1 + 1 + 1 by simp only [World.size_alloc])
  have o0 := rowI_made (dw0 w S A n c ⟨7, onm, ont, oba, obn, obc, on, ok, oka, okn, okc⟩)
  rw [SZ.out] at o0
  have O0 := Lib.hid o0
  have ba := below_alloc (dw0 w S A n c ⟨7, onm, ont, oba, obn, obc, on, ok, oka, okn, okc⟩) (.cells #[] 3)
  have J0 := Lib.hid (hI _ ((below_go bw ba).mono h.hB))
  have BA := Lib.hid ba
  have hgs : Hid (w.heap.size + 1 + 1 + 1 ≤ ((dw0 w S A n c ⟨7, onm, ont, oba, obn, obc, on, ok, oka, okn, okc⟩).alloc (.cells #[] 3)).heap.size) := Lib.hid (by have := ba.size; rw [SZ.out] at this; exact this)
  have D2 := Lib.hid C2
  have HT := Lib.hid hT
  clear h bw C1 C2 hT hI hl hz ba o0
  go_enter Try.func8, Try.ntmps8
  go_wp2_with (at_builtin; refine wp_appi _ rfl _ _ rfl (w.heap.size + 1 + 1 + 1) _ rfl O0.out oka okn okc l rfl HL.out J0.out HZ.out hk3 hgs.out ?_; intro Ac cc w0 hI0 hfar0 hb0)
  rw [← SZ.out] at hb0
  have bb0 := BA.out.trans hb0
  have p0 := P0.out.below bb0
  have x0 := X0.out.keep (F := fun _ => False) (Keep.of_below _ bb0) (fun _ _ _ e => e)
  have D4 := Lib.hid (D1.out w0 Ac cc p0.db.dk hI0 (fun x e => ⟨fun q => by have := P0.out.lt _ (.inl q); have := (hfar0 x e).1; have := SZ.out; omega, (hfar0 x e).2⟩))
  have P5 := Lib.hid p0
  have X5 := Lib.hid x0
  have BB := Lib.hid bb0
  obtain ⟨y0, y1, y2, y3, y4, y5, y6, f0, f1, f2, f3, f4, f5, f6, hg0⟩ := look7 x0.b0
  obtain ⟨q0, q1, q2, q3, q4, q5, q6, r0, r1, r2, r3, r4, r5, r6, hg1⟩ := look7 x0.b1
  clear hI0 hfar0 hb0 bb0 p0 x0 D1 O0 J0 BA hgs SZ
  go_wp2_with fail
  refine D4.out.mono ?_
  rintro e w1 ⟨rfl, V1, hd, hk, hf⟩
  obtain ⟨p1, b1, at1⟩ := P5.out.first hd hk hf
  have x1 := X5.out.keep hk (fun x h1 _ e => by have := P.out.lt x (.inl e); omega)
  clear y0 y1 y2 y3 y4 y5 y6 f0 f1 f2 f3 f4 f5 f6 hg0 q0 q1 q2 q3 q4 q5 q6 r0 r1 r2 r3 r4 r5 r6 hg1
  obtain ⟨y0, y1, y2, y3, y4, y5, y6, f0, f1, f2, f3, f4, f5, f6, hg0⟩ := look7 x1.b0
  obtain ⟨q0, q1, q2, q3, q4, q5, q6, r0, r1, r2, r3, r4, r5, r6, hg1⟩ := look7 x1.b1
  have P1 := Lib.hid p1
  have A1 := Lib.hid at1
  have B1 := Lib.hid b1
  have X1 := Lib.hid x1
  have bw1 := ((BW.out.mono P.out.hB).trans (BB.out.mono P0.out.hB)).trans b1
  have D3 := Lib.hid (D2.out w1 p1.rd (HI.out w1 bw1))
  have S0 := Lib.hid (show (dw0 w S A n c ⟨7, onm, ont, oba, obn, obc, on, ok, oka, okn, okc⟩).heap.size = w.heap.size + 3 by simp)
  have hs0 : Hid (w.heap.size + 3 ≤ w0.heap.size) := Lib.hid (by have := BB.out.size; have := S0.out; omega)
  have hs1 : Hid (w.heap.size + 3 ≤ w1.heap.size) := Lib.hid (by have := hk.size; have := hs0.out; omega)
  have HK1 : Hid (Keep (Fp d m V S.fs) w w1) := Lib.hid (((Keep.of_below _ BW.out).tr (Keep.of_below _ BB.out)).tr hk)
  clear D4 D2 hd hk hf p1 b1 at1 x1 X0 X5 HI HL HZ bw1
  go_wp2_with fail
  refine D3.out.mono ?_
  rintro e w2 ⟨A', n', c', L', rfl, hr, hn, hb2⟩
  obtain ⟨p2, at2⟩ := P1.out.then_ hr hn hb2 (by rw [HT.out]; exact P.out.room)
  have x2 := X1.out.keep (F := fun _ => False) (Keep.of_below _ hb2) (fun _ _ _ e => e)
  clear y0 y1 y2 y3 y4 y5 y6 f0 f1 f2 f3 f4 f5 f6 hg0 q0 q1 q2 q3 q4 q5 q6 r0 r1 r2 r3 r4 r5 r6 hg1 D3
  obtain ⟨y0, y1, y2, y3, y4, y5, y6, f0, f1, f2, f3, f4, f5, f6, hg0⟩ := look7 x2.b0
  obtain ⟨W3, hW3, k0, kk, ks, kb⟩ := boxed x2.b0 (.int .i64 (T.room : Int)) (.slice A' n' c') (.bool (!T.up)) (.int .i64 T.falls) (.bool T.lit) (.int .i64 (T.acts : Int)) (.int .i64 (T.part : Int))
  have k2 : W3.heap[w.heap.size + 2]? = some rc0 := (kk _ (by omega)).trans x2.b2
  have HW := Lib.hid hW3
  have HK3 : Hid (Keep (fun x => x = w.heap.size ∨ x = w.heap.size + 2) w2 W3) := Lib.hid (by rw [← hW3]; exact keep7 (Keep.refl _ _) _ (.inl rfl) _ _ _ _ _ _ _)
  have HAT : Hid (∀ x, At d m V1 T.fs A' L' x → At d m V S.fs A L x ∨ w.heap.size + 3 ≤ x) := Lib.hid (fun x hx => by
    rcases at2 x hx with e | e
    · rcases A1.out x e with e | e
      · exact .inl e
      · have := hs0.out; exact .inr (by omega)
    · have := hs1.out; exact .inr (by omega))
  have HB2 : Hid (Below B w w2) := Lib.hid ((((BW.out.mono P.out.hB).trans (BB.out.mono P0.out.hB)).trans B1.out).trans (hb2.mono P1.out.hB))
  have P2 := Lib.hid p2
  have K0 := Lib.hid k0
  have K2 := Lib.hid k2
  have PB := Lib.hid P.out.hB
  have HG := Lib.hid P.out.lt
  have HKP : Hid (Keep (At d m V S.fs A L) w w2) := Lib.hid ((HK1.out.tr (Keep.of_below _ hb2)).wide (fun x _ hx => .inl hx))
  clear p2 at2 x2 k0 k2 kk ks kb hW3 hr hn hb2 X1 A1 B1 S0 hs0 hs1 BW BB P1 P0 P5 HT P
  go_wp2_with fail
  rw [HW.out]
  clear y0 y1 y2 y3 y4 y5 y6 f0 f1 f2 f3 f4 f5 f6 hg0 HW
  obtain ⟨y0, y1, y2, y3, y4, y5, y6, f0, f1, f2, f3, f4, f5, f6, hg0⟩ := look7 K0.out
  obtain ⟨z0, z1, z2, z3, z4, z5, z6, e0, e1, e2, e3, e4, e5, e6, hg1⟩ := look7 K2.out
  go_region
  all_goals
    go_wp2_with fail
    have KF := (keep7 HK3.out (w.heap.size + 2) (.inr rfl) (.int .i64 (T.room : Int)) (.slice A' n' c') (.bool (!T.up)) (.int .i64 T.falls) (.bool T.lit) (.int .i64 (T.acts : Int)) (.int .i64 (T.part : Int))).drew
    exact bodyPost_ret (v := .tuple #[.bool true, rvS T A' n' c']) (by simp [results, Try.results8, go_sem, *]) rfl (did_end P2.out HAT.out HG.out HB2.out PB.out HKP.out KF true)
end Go.Proofs.Ytahjodpaikhhmaa
