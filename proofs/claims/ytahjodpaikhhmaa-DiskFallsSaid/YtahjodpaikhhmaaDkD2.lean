/- One operation of both disks: acts. -/
import Derived.Test.YtahjodpaikhhmaaDkD1
namespace Go.Proofs.Ytahjodpaikhhmaa
open Go Go.RowKit
set_option maxRecDepth 20000

abbrev rcS (S : St) (A : Option Addr) (n c : Nat) : Obj := rc (S.room : Int) A n c (!S.up) S.falls S.lit (S.acts : Int) (S.part : Int)
abbrev oc (o : OP) : Obj := .cells (opc o) 35
abbrev dw0 (w : World) (S : St) (A : Option Addr) (n c : Nat) (o : OP) : World := ((w.alloc (rcS S A n c)).alloc (oc o)).alloc rc0
structure Bx (W : World) (g : Nat) (S : St) (A : Option Addr) (n c : Nat) (o : OP) : Prop where
  b0 : W.heap[g]? = some (rcS S A n c)
  b1 : W.heap[g + 1]? = some (oc o)
  b2 : W.heap[g + 2]? = some rc0
theorem Bx.start (w : World) (S : St) (A : Option Addr) (n c : Nat) (o : OP) : Bx (dw0 w S A n c o) w.heap.size S A n c o := by
  refine ⟨?_, ?_, ?_⟩
  · rw [Below.heap_alloc _ _ _ (by simp only [World.size_alloc]; omega), Below.heap_alloc _ _ _ (by simp only [World.size_alloc]; omega)]
    exact heap_alloc_new w _
  · rw [Below.heap_alloc _ _ _ (by simp)]
    have := heap_alloc_new (w.alloc (rcS S A n c)) (oc o)
    rwa [World.size_alloc] at this
  · have := heap_alloc_new ((w.alloc (rcS S A n c)).alloc (oc o)) rc0
    rwa [World.size_alloc, World.size_alloc] at this
theorem Bx.keep {W W' : World} {g : Nat} {S : St} {A : Option Addr} {n c : Nat} {o : OP} {F : Nat → Prop} (h : Bx W g S A n c o) (hk : Keep F W W') (hF : ∀ x, g ≤ x → x < g + 3 → ¬ F x) : Bx W' g S A n c o :=
  ⟨(hk.block g ((Array.getElem?_eq_some_iff.1 h.b0).1) (hF _ (by omega) (by omega))).trans h.b0, (hk.block (g + 1) ((Array.getElem?_eq_some_iff.1 h.b1).1) (hF _ (by omega) (by omega))).trans h.b1, (hk.block (g + 2) ((Array.getElem?_eq_some_iff.1 h.b2).1) (hF _ (by omega) (by omega))).trans h.b2⟩
theorem dw0_below (w : World) (S : St) (A : Option Addr) (n c : Nat) (o : OP) : Below w.heap.size w (dw0 w S A n c o) := below_go (below_go (below_alloc _ _) (below_alloc _ _)) (below_alloc _ _)
def Did (B : Nat) (w : World) (d m : Nat) (G : Nat → Prop) (e : Ending) (w' : World) : Prop :=
  ∃ ok V' T A' n' c' L', e = .returned (.tuple #[.bool ok, rvS T A' n' c']) ∧ Pl B w' d m V' T T A' n' L' ∧ Below B w w' ∧ Keep G w w' ∧ ∀ x, At d m V' T.fs A' L' x → G x ∨ w.heap.size ≤ x
/- the last steps: two boxes are written, which nobody else looks at -/
theorem did_end {B : Nat} {w w2 W4 : World} {d m : Nat} {V : ByteArray → Value} {T : St} {A : Option Addr} {n c : Nat} {L : List RF} {G : Nat → Prop} (h : Pl B w2 d m V T T A n L) (hat : ∀ x, At d m V T.fs A L x → G x ∨ w.heap.size + 3 ≤ x) (hG : ∀ x, G x → x < w.heap.size) (hb : Below B w w2) (hB : B ≤ w.heap.size) (hkp : Keep G w w2)
    (hk : Keep (fun x => x = w.heap.size ∨ x = w.heap.size + 2) w2 W4) (ok : Bool) : Did B w d m G (.returned (.tuple #[.bool ok, rvS T A n c])) W4 :=
  ⟨ok, V, T, A, n, c, L, rfl, h.keep hk (fun x hx e => by
    rcases hat x hx with h1 | h1
    · have := hG x h1
      rcases e with e | e <;> omega
    · rcases e with e | e <;> omega), hb.trans (hk.below (fun k e => by rcases e with e | e <;> omega) (Nat.le_trans hB hb.size)),
    ⟨hk.os.trans hkp.os, hk.tape.trans hkp.tape, hk.output.trans hkp.output, Nat.le_trans hkp.size hk.size, fun k hk1 hn => (hk.block k (Nat.lt_of_lt_of_le hk1 hkp.size) (fun e => by rcases e with e | e <;> omega)).trans (hkp.block k hk1 hn)⟩,
    fun x hx => (hat x hx).imp id (fun h1 => by omega)⟩
theorem keep7 {F : Nat → Prop} {w W : World} (h : Keep F w W) (g : Nat) (hg : F g) (v0 v1 v2 v3 v4 v5 v6 : Value) : Keep F w (((((((W.setCell ⟨g, 0, none⟩ v0).setCell ⟨g, 1, none⟩ v1).setCell ⟨g, 2, none⟩ v2).setCell ⟨g, 3, none⟩ v3).setCell ⟨g, 4, none⟩ v4).setCell ⟨g, 5, none⟩ v5).setCell ⟨g, 6, none⟩ v6) :=
  ((((((h.tr (Keep.set F _ _ _ hg)).tr (Keep.set F _ _ _ hg)).tr (Keep.set F _ _ _ hg)).tr (Keep.set F _ _ _ hg)).tr (Keep.set F _ _ _ hg)).tr (Keep.set F _ _ _ hg)).tr (Keep.set F _ _ _ hg)
set_option maxHeartbeats 2000000 in
theorem do_sync0 {B : Nat} {w : World} {d m : Nat} {V : ByteArray → Value} {S : St} {A : Option Addr} {n c : Nat} {L : List RF} (h : Pl B w d m V S S A n L) (o : OP) (hq : o.q = 1) (k : Nat) (T : St) (hT : T.room = S.room)
    (C1 : ∀ W, Dk W d m V S → Calls Try.prog 17 #[ptr d, .string o.nm] W (Acted W d m V S k T))
    (C2 : ∀ W, RD W S A n L → Calls Try.prog 24 #[rvS S A n c, .string o.nm] W (RDo W A L (k : Nat) T)) :
    Calls Try.prog 8 #[ptr d, rvS S A n c, .agg (opc o)] w (Did B w d m (At d m V S.fs A L)) := by
  obtain ⟨oq, onm, ont, oba, obn, obc, on, ok, oka, okn, okc⟩ := o
  simp only at hq C1 C2
  subst hq
  have P := Lib.hid h
  have bw := dw0_below w S A n c ⟨1, onm, ont, oba, obn, obc, on, ok, oka, okn, okc⟩
  have P0 := Lib.hid (h.below bw)
  have X0 := Lib.hid (Bx.start w S A n c ⟨1, onm, ont, oba, obn, obc, on, ok, oka, okn, okc⟩)
  have BW := Lib.hid bw
  have D1 := Lib.hid (C1 _ (h.below bw).db.dk)
  have D2 := Lib.hid C2
  have HT := Lib.hid hT
  clear h bw C1 C2 hT
  go_enter Try.func8, Try.ntmps8
  go_wp2_with fail
  refine D1.out.mono ?_
  rintro e w1 ⟨rfl, V1, hd, hk, hf⟩
  obtain ⟨p1, b1, at1⟩ := P0.out.first hd hk hf
  have x1 := X0.out.keep hk (fun x h1 _ e => by have := P.out.lt x (.inl e); omega)
  obtain ⟨y0, y1, y2, y3, y4, y5, y6, f0, f1, f2, f3, f4, f5, f6, hg0⟩ := look7 x1.b0
  obtain ⟨q0, q1, q2, q3, q4, q5, q6, r0, r1, r2, r3, r4, r5, r6, hg1⟩ := look7 x1.b1
  have P1 := Lib.hid p1
  have A1 := Lib.hid at1
  have B1 := Lib.hid b1
  have X1 := Lib.hid x1
  have D3 := Lib.hid (D2.out w1 p1.rd)
  have S0 := Lib.hid (show (dw0 w S A n c ⟨1, onm, ont, oba, obn, obc, on, ok, oka, okn, okc⟩).heap.size = w.heap.size + 3 by simp)
  have hs1 : Hid (w.heap.size + 3 ≤ w1.heap.size) := Lib.hid (by have := hk.size; have := S0.out; omega)
  have HK1 : Hid (Keep (Fp d m V S.fs) w w1) := Lib.hid ((Keep.of_below _ BW.out).tr hk)
  clear D1 D2 hd hk hf p1 b1 at1 x1 X0
  go_wp2_with fail
  refine D3.out.mono ?_
  rintro e w2 ⟨A', n', c', L', rfl, hr, hn, hb2⟩
  obtain ⟨p2, at2⟩ := P1.out.then_ hr hn hb2 (by rw [HT.out]; exact P.out.room)
  have x2 := X1.out.keep (F := fun _ => False) (Keep.of_below _ hb2) (fun _ _ _ e => e)
  clear y0 y1 y2 y3 y4 y5 y6 f0 f1 f2 f3 f4 f5 f6 hg0 q0 q1 q2 q3 q4 q5 q6 r0 r1 r2 r3 r4 r5 r6 hg1 D3
  obtain ⟨y0, y1, y2, y3, y4, y5, y6, f0, f1, f2, f3, f4, f5, f6, hg0⟩ := look7 x2.b0
  obtain ⟨W3, hW3, k0, kk, ks, kb⟩ := boxed x2.b0 (.int .i64 (T.room : Int)) (.slice A' n' c') (.bool (!T.up)) (.int .i64 T.falls) (.bool T.lit) (.int .i64 (T.acts : Int)) (.int .i64 (T.part : Int))
  have k2 : W3.heap[w.heap.size + 2]? = some rc0 := (kk _ (by omega)).trans x2.b2
  have HW := Lib.hid hW3
  have HK3 : Hid (Keep (fun x => x = w.heap.size ∨ x = w.heap.size + 2) w2 W3) := Lib.hid (by rw [← hW3]; exact keep7 (Keep.refl _ _) _ (.inl rfl) _ _ _ _ _ _ _)
  have HAT : Hid (∀ x, At d m V1 T.fs A' L' x → At d m V S.fs A L x ∨ w.heap.size + 3 ≤ x) := Lib.hid (fun x hx => by
    rcases at2 x hx with e | e
    · rcases A1.out x e with e | e
      · exact .inl e
      · have := S0.out; exact .inr (by omega)
    · have := hs1.out; exact .inr (by omega))
  have HB2 : Hid (Below B w w2) := Lib.hid (((BW.out.mono P.out.hB).trans B1.out).trans (hb2.mono P1.out.hB))
  have P2 := Lib.hid p2
  have K0 := Lib.hid k0
  have K2 := Lib.hid k2
  have PB := Lib.hid P.out.hB
  have HG := Lib.hid P.out.lt
  have HKP : Hid (Keep (At d m V S.fs A L) w w2) := Lib.hid ((HK1.out.tr (Keep.of_below _ hb2)).wide (fun x _ hx => .inl hx))
  clear p2 at2 x2 k0 k2 kk ks kb hW3 hr hn hb2 X1 A1 B1 S0 hs1 BW P1 P0 HT P
  go_wp2_with fail
  rw [HW.out]
  clear y0 y1 y2 y3 y4 y5 y6 f0 f1 f2 f3 f4 f5 f6 hg0 HW
  obtain ⟨y0, y1, y2, y3, y4, y5, y6, f0, f1, f2, f3, f4, f5, f6, hg0⟩ := look7 K0.out
  obtain ⟨z0, z1, z2, z3, z4, z5, z6, e0, e1, e2, e3, e4, e5, e6, hg1⟩ := look7 K2.out
  go_region
  all_goals
    go_wp2_with fail
    have KF := (keep7 HK3.out (w.heap.size + 2) (.inr rfl) (.int .i64 (T.room : Int)) (.slice A' n' c') (.bool (!T.up)) (.int .i64 T.falls) (.bool T.lit) (.int .i64 (T.acts : Int)) (.int .i64 (T.part : Int))).drew
    exact bodyPost_ret (v := .tuple #[.bool true, rvS T A' n' c']) (by simp [results, Try.results8, go_sem, *]) rfl (did_end P2.out HAT.out HG.out HB2.out PB.out HKP.out KF true)
set_option maxHeartbeats 2000000 in
theorem do_ren0 {B : Nat} {w : World} {d m : Nat} {V : ByteArray → Value} {S : St} {A : Option Addr} {n c : Nat} {L : List RF} (h : Pl B w d m V S S A n L) (o : OP) (hq : o.q = 2) (k : Nat) (T : St) (hT : T.room = S.room)
    (C1 : ∀ W, Dk W d m V S → Calls Try.prog 18 #[ptr d, .string o.nm, .string o.nt] W (Acted W d m V S k T))
    (C2 : ∀ W, RD W S A n L → Calls Try.prog 25 #[rvS S A n c, .string o.nm, .string o.nt] W (RDo W A L (k : Nat) T)) :
    Calls Try.prog 8 #[ptr d, rvS S A n c, .agg (opc o)] w (Did B w d m (At d m V S.fs A L)) := by
  obtain ⟨oq, onm, ont, oba, obn, obc, on, ok, oka, okn, okc⟩ := o
  simp only at hq C1 C2
  subst hq
  have P := Lib.hid h
  have bw := dw0_below w S A n c ⟨2, onm, ont, oba, obn, obc, on, ok, oka, okn, okc⟩
  have P0 := Lib.hid (h.below bw)
  have X0 := Lib.hid (Bx.start w S A n c ⟨2, onm, ont, oba, obn, obc, on, ok, oka, okn, okc⟩)
  have BW := Lib.hid bw
  have D1 := Lib.hid (C1 _ (h.below bw).db.dk)
  have D2 := Lib.hid C2
  have HT := Lib.hid hT
  clear h bw C1 C2 hT
  go_enter Try.func8, Try.ntmps8
  go_wp2_with fail
  refine D1.out.mono ?_
  rintro e w1 ⟨rfl, V1, hd, hk, hf⟩
  obtain ⟨p1, b1, at1⟩ := P0.out.first hd hk hf
  have x1 := X0.out.keep hk (fun x h1 _ e => by have := P.out.lt x (.inl e); omega)
  obtain ⟨y0, y1, y2, y3, y4, y5, y6, f0, f1, f2, f3, f4, f5, f6, hg0⟩ := look7 x1.b0
  obtain ⟨q0, q1, q2, q3, q4, q5, q6, r0, r1, r2, r3, r4, r5, r6, hg1⟩ := look7 x1.b1
  have P1 := Lib.hid p1
  have A1 := Lib.hid at1
  have B1 := Lib.hid b1
  have X1 := Lib.hid x1
  have D3 := Lib.hid (D2.out w1 p1.rd)
  have S0 := Lib.hid (show (dw0 w S A n c ⟨2, onm, ont, oba, obn, obc, on, ok, oka, okn, okc⟩).heap.size = w.heap.size + 3 by simp)
  have hs1 : Hid (w.heap.size + 3 ≤ w1.heap.size) := Lib.hid (by have := hk.size; have := S0.out; omega)
  have HK1 : Hid (Keep (Fp d m V S.fs) w w1) := Lib.hid ((Keep.of_below _ BW.out).tr hk)
  clear D1 D2 hd hk hf p1 b1 at1 x1 X0
  go_wp2_with fail
  refine D3.out.mono ?_
  rintro e w2 ⟨A', n', c', L', rfl, hr, hn, hb2⟩
  obtain ⟨p2, at2⟩ := P1.out.then_ hr hn hb2 (by rw [HT.out]; exact P.out.room)
  have x2 := X1.out.keep (F := fun _ => False) (Keep.of_below _ hb2) (fun _ _ _ e => e)
  clear y0 y1 y2 y3 y4 y5 y6 f0 f1 f2 f3 f4 f5 f6 hg0 q0 q1 q2 q3 q4 q5 q6 r0 r1 r2 r3 r4 r5 r6 hg1 D3
  obtain ⟨y0, y1, y2, y3, y4, y5, y6, f0, f1, f2, f3, f4, f5, f6, hg0⟩ := look7 x2.b0
  obtain ⟨W3, hW3, k0, kk, ks, kb⟩ := boxed x2.b0 (.int .i64 (T.room : Int)) (.slice A' n' c') (.bool (!T.up)) (.int .i64 T.falls) (.bool T.lit) (.int .i64 (T.acts : Int)) (.int .i64 (T.part : Int))
  have k2 : W3.heap[w.heap.size + 2]? = some rc0 := (kk _ (by omega)).trans x2.b2
  have HW := Lib.hid hW3
  have HK3 : Hid (Keep (fun x => x = w.heap.size ∨ x = w.heap.size + 2) w2 W3) := Lib.hid (by rw [← hW3]; exact keep7 (Keep.refl _ _) _ (.inl rfl) _ _ _ _ _ _ _)
  have HAT : Hid (∀ x, At d m V1 T.fs A' L' x → At d m V S.fs A L x ∨ w.heap.size + 3 ≤ x) := Lib.hid (fun x hx => by
    rcases at2 x hx with e | e
    · rcases A1.out x e with e | e
      · exact .inl e
      · have := S0.out; exact .inr (by omega)
    · have := hs1.out; exact .inr (by omega))
  have HB2 : Hid (Below B w w2) := Lib.hid (((BW.out.mono P.out.hB).trans B1.out).trans (hb2.mono P1.out.hB))
  have P2 := Lib.hid p2
  have K0 := Lib.hid k0
  have K2 := Lib.hid k2
  have PB := Lib.hid P.out.hB
  have HG := Lib.hid P.out.lt
  have HKP : Hid (Keep (At d m V S.fs A L) w w2) := Lib.hid ((HK1.out.tr (Keep.of_below _ hb2)).wide (fun x _ hx => .inl hx))
  clear p2 at2 x2 k0 k2 kk ks kb hW3 hr hn hb2 X1 A1 B1 S0 hs1 BW P1 P0 HT P
  go_wp2_with fail
  rw [HW.out]
  clear y0 y1 y2 y3 y4 y5 y6 f0 f1 f2 f3 f4 f5 f6 hg0 HW
  obtain ⟨y0, y1, y2, y3, y4, y5, y6, f0, f1, f2, f3, f4, f5, f6, hg0⟩ := look7 K0.out
  obtain ⟨z0, z1, z2, z3, z4, z5, z6, e0, e1, e2, e3, e4, e5, e6, hg1⟩ := look7 K2.out
  go_region
  all_goals
    go_wp2_with fail
    have KF := (keep7 HK3.out (w.heap.size + 2) (.inr rfl) (.int .i64 (T.room : Int)) (.slice A' n' c') (.bool (!T.up)) (.int .i64 T.falls) (.bool T.lit) (.int .i64 (T.acts : Int)) (.int .i64 (T.part : Int))).drew
    exact bodyPost_ret (v := .tuple #[.bool true, rvS T A' n' c']) (by simp [results, Try.results8, go_sem, *]) rfl (did_end P2.out HAT.out HG.out HB2.out PB.out HKP.out KF true)
set_option maxHeartbeats 2000000 in
theorem do_tru0 {B : Nat} {w : World} {d m : Nat} {V : ByteArray → Value} {S : St} {A : Option Addr} {n c : Nat} {L : List RF} (h : Pl B w d m V S S A n L) (o : OP) (hq : o.q = 3) (k : Nat) (T : St) (hT : T.room = S.room)
    (C1 : ∀ W, Dk W d m V S → Calls Try.prog 19 #[ptr d, .string o.nm, .int .i64 o.n] W (Acted W d m V S k T))
    (C2 : ∀ W, RD W S A n L → Calls Try.prog 26 #[rvS S A n c, .string o.nm, .int .i64 o.n] W (RDo W A L (k : Nat) T)) :
    Calls Try.prog 8 #[ptr d, rvS S A n c, .agg (opc o)] w (Did B w d m (At d m V S.fs A L)) := by
  obtain ⟨oq, onm, ont, oba, obn, obc, on, ok, oka, okn, okc⟩ := o
  simp only at hq C1 C2
  subst hq
  have P := Lib.hid h
  have bw := dw0_below w S A n c ⟨3, onm, ont, oba, obn, obc, on, ok, oka, okn, okc⟩
  have P0 := Lib.hid (h.below bw)
  have X0 := Lib.hid (Bx.start w S A n c ⟨3, onm, ont, oba, obn, obc, on, ok, oka, okn, okc⟩)
  have BW := Lib.hid bw
  have D1 := Lib.hid (C1 _ (h.below bw).db.dk)
  have D2 := Lib.hid C2
  have HT := Lib.hid hT
  clear h bw C1 C2 hT
  go_enter Try.func8, Try.ntmps8
  go_wp2_with fail
  refine D1.out.mono ?_
  rintro e w1 ⟨rfl, V1, hd, hk, hf⟩
  obtain ⟨p1, b1, at1⟩ := P0.out.first hd hk hf
  have x1 := X0.out.keep hk (fun x h1 _ e => by have := P.out.lt x (.inl e); omega)
  obtain ⟨y0, y1, y2, y3, y4, y5, y6, f0, f1, f2, f3, f4, f5, f6, hg0⟩ := look7 x1.b0
  obtain ⟨q0, q1, q2, q3, q4, q5, q6, r0, r1, r2, r3, r4, r5, r6, hg1⟩ := look7 x1.b1
  have P1 := Lib.hid p1
  have A1 := Lib.hid at1
  have B1 := Lib.hid b1
  have X1 := Lib.hid x1
  have D3 := Lib.hid (D2.out w1 p1.rd)
  have S0 := Lib.hid (show (dw0 w S A n c ⟨3, onm, ont, oba, obn, obc, on, ok, oka, okn, okc⟩).heap.size = w.heap.size + 3 by simp)
  have hs1 : Hid (w.heap.size + 3 ≤ w1.heap.size) := Lib.hid (by have := hk.size; have := S0.out; omega)
  have HK1 : Hid (Keep (Fp d m V S.fs) w w1) := Lib.hid ((Keep.of_below _ BW.out).tr hk)
  clear D1 D2 hd hk hf p1 b1 at1 x1 X0
  go_wp2_with fail
  refine D3.out.mono ?_
  rintro e w2 ⟨A', n', c', L', rfl, hr, hn, hb2⟩
  obtain ⟨p2, at2⟩ := P1.out.then_ hr hn hb2 (by rw [HT.out]; exact P.out.room)
  have x2 := X1.out.keep (F := fun _ => False) (Keep.of_below _ hb2) (fun _ _ _ e => e)
  clear y0 y1 y2 y3 y4 y5 y6 f0 f1 f2 f3 f4 f5 f6 hg0 q0 q1 q2 q3 q4 q5 q6 r0 r1 r2 r3 r4 r5 r6 hg1 D3
  obtain ⟨y0, y1, y2, y3, y4, y5, y6, f0, f1, f2, f3, f4, f5, f6, hg0⟩ := look7 x2.b0
  obtain ⟨W3, hW3, k0, kk, ks, kb⟩ := boxed x2.b0 (.int .i64 (T.room : Int)) (.slice A' n' c') (.bool (!T.up)) (.int .i64 T.falls) (.bool T.lit) (.int .i64 (T.acts : Int)) (.int .i64 (T.part : Int))
  have k2 : W3.heap[w.heap.size + 2]? = some rc0 := (kk _ (by omega)).trans x2.b2
  have HW := Lib.hid hW3
  have HK3 : Hid (Keep (fun x => x = w.heap.size ∨ x = w.heap.size + 2) w2 W3) := Lib.hid (by rw [← hW3]; exact keep7 (Keep.refl _ _) _ (.inl rfl) _ _ _ _ _ _ _)
  have HAT : Hid (∀ x, At d m V1 T.fs A' L' x → At d m V S.fs A L x ∨ w.heap.size + 3 ≤ x) := Lib.hid (fun x hx => by
    rcases at2 x hx with e | e
    · rcases A1.out x e with e | e
      · exact .inl e
      · have := S0.out; exact .inr (by omega)
    · have := hs1.out; exact .inr (by omega))
  have HB2 : Hid (Below B w w2) := Lib.hid (((BW.out.mono P.out.hB).trans B1.out).trans (hb2.mono P1.out.hB))
  have P2 := Lib.hid p2
  have K0 := Lib.hid k0
  have K2 := Lib.hid k2
  have PB := Lib.hid P.out.hB
  have HG := Lib.hid P.out.lt
  have HKP : Hid (Keep (At d m V S.fs A L) w w2) := Lib.hid ((HK1.out.tr (Keep.of_below _ hb2)).wide (fun x _ hx => .inl hx))
  clear p2 at2 x2 k0 k2 kk ks kb hW3 hr hn hb2 X1 A1 B1 S0 hs1 BW P1 P0 HT P
  go_wp2_with fail
  rw [HW.out]
  clear y0 y1 y2 y3 y4 y5 y6 f0 f1 f2 f3 f4 f5 f6 hg0 HW
  obtain ⟨y0, y1, y2, y3, y4, y5, y6, f0, f1, f2, f3, f4, f5, f6, hg0⟩ := look7 K0.out
  obtain ⟨z0, z1, z2, z3, z4, z5, z6, e0, e1, e2, e3, e4, e5, e6, hg1⟩ := look7 K2.out
  go_region
  all_goals
    go_wp2_with fail
    have KF := (keep7 HK3.out (w.heap.size + 2) (.inr rfl) (.int .i64 (T.room : Int)) (.slice A' n' c') (.bool (!T.up)) (.int .i64 T.falls) (.bool T.lit) (.int .i64 (T.acts : Int)) (.int .i64 (T.part : Int))).drew
    exact bodyPost_ret (v := .tuple #[.bool true, rvS T A' n' c']) (by simp [results, Try.results8, go_sem, *]) rfl (did_end P2.out HAT.out HG.out HB2.out PB.out HKP.out KF true)
set_option maxHeartbeats 2000000 in
theorem do_del0 {B : Nat} {w : World} {d m : Nat} {V : ByteArray → Value} {S : St} {A : Option Addr} {n c : Nat} {L : List RF} (h : Pl B w d m V S S A n L) (o : OP) (hq : o.q = 4) (k : Nat) (T : St) (hT : T.room = S.room)
    (C1 : ∀ W, Dk W d m V S → Calls Try.prog 20 #[ptr d, .string o.nm] W (Acted W d m V S k T))
    (C2 : ∀ W, RD W S A n L → Calls Try.prog 27 #[rvS S A n c, .string o.nm] W (RDo W A L (k : Nat) T)) :
    Calls Try.prog 8 #[ptr d, rvS S A n c, .agg (opc o)] w (Did B w d m (At d m V S.fs A L)) := by
  obtain ⟨oq, onm, ont, oba, obn, obc, on, ok, oka, okn, okc⟩ := o
  simp only at hq C1 C2
  subst hq
  have P := Lib.hid h
  have bw := dw0_below w S A n c ⟨4, onm, ont, oba, obn, obc, on, ok, oka, okn, okc⟩
  have P0 := Lib.hid (h.below bw)
  have X0 := Lib.hid (Bx.start w S A n c ⟨4, onm, ont, oba, obn, obc, on, ok, oka, okn, okc⟩)
  have BW := Lib.hid bw
  have D1 := Lib.hid (C1 _ (h.below bw).db.dk)
  have D2 := Lib.hid C2
  have HT := Lib.hid hT
  clear h bw C1 C2 hT
  go_enter Try.func8, Try.ntmps8
  go_wp2_with fail
  refine D1.out.mono ?_
  rintro e w1 ⟨rfl, V1, hd, hk, hf⟩
  obtain ⟨p1, b1, at1⟩ := P0.out.first hd hk hf
  have x1 := X0.out.keep hk (fun x h1 _ e => by have := P.out.lt x (.inl e); omega)
  obtain ⟨y0, y1, y2, y3, y4, y5, y6, f0, f1, f2, f3, f4, f5, f6, hg0⟩ := look7 x1.b0
  obtain ⟨q0, q1, q2, q3, q4, q5, q6, r0, r1, r2, r3, r4, r5, r6, hg1⟩ := look7 x1.b1
  have P1 := Lib.hid p1
  have A1 := Lib.hid at1
  have B1 := Lib.hid b1
  have X1 := Lib.hid x1
  have D3 := Lib.hid (D2.out w1 p1.rd)
  have S0 := Lib.hid (show (dw0 w S A n c ⟨4, onm, ont, oba, obn, obc, on, ok, oka, okn, okc⟩).heap.size = w.heap.size + 3 by simp)
  have hs1 : Hid (w.heap.size + 3 ≤ w1.heap.size) := Lib.hid (by have := hk.size; have := S0.out; omega)
  have HK1 : Hid (Keep (Fp d m V S.fs) w w1) := Lib.hid ((Keep.of_below _ BW.out).tr hk)
  clear D1 D2 hd hk hf p1 b1 at1 x1 X0
  go_wp2_with fail
  refine D3.out.mono ?_
  rintro e w2 ⟨A', n', c', L', rfl, hr, hn, hb2⟩
  obtain ⟨p2, at2⟩ := P1.out.then_ hr hn hb2 (by rw [HT.out]; exact P.out.room)
  have x2 := X1.out.keep (F := fun _ => False) (Keep.of_below _ hb2) (fun _ _ _ e => e)
  clear y0 y1 y2 y3 y4 y5 y6 f0 f1 f2 f3 f4 f5 f6 hg0 q0 q1 q2 q3 q4 q5 q6 r0 r1 r2 r3 r4 r5 r6 hg1 D3
  obtain ⟨y0, y1, y2, y3, y4, y5, y6, f0, f1, f2, f3, f4, f5, f6, hg0⟩ := look7 x2.b0
  obtain ⟨W3, hW3, k0, kk, ks, kb⟩ := boxed x2.b0 (.int .i64 (T.room : Int)) (.slice A' n' c') (.bool (!T.up)) (.int .i64 T.falls) (.bool T.lit) (.int .i64 (T.acts : Int)) (.int .i64 (T.part : Int))
  have k2 : W3.heap[w.heap.size + 2]? = some rc0 := (kk _ (by omega)).trans x2.b2
  have HW := Lib.hid hW3
  have HK3 : Hid (Keep (fun x => x = w.heap.size ∨ x = w.heap.size + 2) w2 W3) := Lib.hid (by rw [← hW3]; exact keep7 (Keep.refl _ _) _ (.inl rfl) _ _ _ _ _ _ _)
  have HAT : Hid (∀ x, At d m V1 T.fs A' L' x → At d m V S.fs A L x ∨ w.heap.size + 3 ≤ x) := Lib.hid (fun x hx => by
    rcases at2 x hx with e | e
    · rcases A1.out x e with e | e
      · exact .inl e
      · have := S0.out; exact .inr (by omega)
    · have := hs1.out; exact .inr (by omega))
  have HB2 : Hid (Below B w w2) := Lib.hid (((BW.out.mono P.out.hB).trans B1.out).trans (hb2.mono P1.out.hB))
  have P2 := Lib.hid p2
  have K0 := Lib.hid k0
  have K2 := Lib.hid k2
  have PB := Lib.hid P.out.hB
  have HG := Lib.hid P.out.lt
  have HKP : Hid (Keep (At d m V S.fs A L) w w2) := Lib.hid ((HK1.out.tr (Keep.of_below _ hb2)).wide (fun x _ hx => .inl hx))
  clear p2 at2 x2 k0 k2 kk ks kb hW3 hr hn hb2 X1 A1 B1 S0 hs1 BW P1 P0 HT P
  go_wp2_with fail
  rw [HW.out]
  clear y0 y1 y2 y3 y4 y5 y6 f0 f1 f2 f3 f4 f5 f6 hg0 HW
  obtain ⟨y0, y1, y2, y3, y4, y5, y6, f0, f1, f2, f3, f4, f5, f6, hg0⟩ := look7 K0.out
  obtain ⟨z0, z1, z2, z3, z4, z5, z6, e0, e1, e2, e3, e4, e5, e6, hg1⟩ := look7 K2.out
  go_region
  all_goals
    go_wp2_with fail
    have KF := (keep7 HK3.out (w.heap.size + 2) (.inr rfl) (.int .i64 (T.room : Int)) (.slice A' n' c') (.bool (!T.up)) (.int .i64 T.falls) (.bool T.lit) (.int .i64 (T.acts : Int)) (.int .i64 (T.part : Int))).drew
    exact bodyPost_ret (v := .tuple #[.bool true, rvS T A' n' c']) (by simp [results, Try.results8, go_sem, *]) rfl (did_end P2.out HAT.out HG.out HB2.out PB.out HKP.out KF true)
theorem do_sync {B : Nat} {w : World} {d m : Nat} {V : ByteArray → Value} {S : St} {A : Option Addr} {n c : Nat} {L : List RF} (h : Pl B w d m V S S A n L) (o : OP) (ho : Oko w o) (hq : o.q = 1) :
    Calls Try.prog 8 #[ptr d, rvS S A n c, .agg (opc o)] w (Did B w d m (At d m V S.fs A L)) :=
  do_sync0 h o hq (synE S o.nm) (synS S o.nm) (syn_room S _) (fun W hd => sync_any hd o.nm (Nat.le_trans ho.nm (by unfold maxLen; omega))) (fun W hr => rsyncS hr h.db.dk.ok o.nm)
theorem do_del {B : Nat} {w : World} {d m : Nat} {V : ByteArray → Value} {S : St} {A : Option Addr} {n c : Nat} {L : List RF} (h : Pl B w d m V S S A n L) (o : OP) (ho : Oko w o) (hq : o.q = 4) :
    Calls Try.prog 8 #[ptr d, rvS S A n c, .agg (opc o)] w (Did B w d m (At d m V S.fs A L)) :=
  do_del0 h o hq (delE S o.nm) (delS S o.nm) (del_room S _) (fun W hd => delete_any hd o.nm (Nat.le_trans ho.nm (by unfold maxLen; omega))) (fun W hr => rdeleteS hr h.db.dk.ok o.nm)
theorem do_tru {B : Nat} {w : World} {d m : Nat} {V : ByteArray → Value} {S : St} {A : Option Addr} {n c : Nat} {L : List RF} (h : Pl B w d m V S S A n L) (o : OP) (ho : Oko w o) (hq : o.q = 3) :
    Calls Try.prog 8 #[ptr d, rvS S A n c, .agg (opc o)] w (Did B w d m (At d m V S.fs A L)) :=
  do_tru0 h o hq (truE S o.nm o.n) (truS S o.nm o.n) (tru_room S _ _) (fun W hd => truncate_any hd o.nm o.n (Nat.le_trans ho.nm (by unfold maxLen; omega))) (fun W hr => rtruncateS hr h.db.dk.ok o.nm o.n)
theorem do_ren {B : Nat} {w : World} {d m : Nat} {V : ByteArray → Value} {S : St} {A : Option Addr} {n c : Nat} {L : List RF} (h : Pl B w d m V S S A n L) (o : OP) (ho : Oko w o) (hq : o.q = 2) :
    Calls Try.prog 8 #[ptr d, rvS S A n c, .agg (opc o)] w (Did B w d m (At d m V S.fs A L)) :=
  do_ren0 h o hq (renE S o.nm o.nt) (renS S o.nm o.nt) (ren_room S _ _) (fun W hd => rename_any hd o.nm o.nt (Nat.le_trans ho.nm (by unfold maxLen; omega)) (Nat.le_trans ho.nt (by unfold maxLen; omega))) (fun W hr => rrenameS hr h.db.dk.ok o.nm o.nt (Nat.le_trans ho.nt (by unfold maxLen; omega)))
end Go.Proofs.Ytahjodpaikhhmaa
