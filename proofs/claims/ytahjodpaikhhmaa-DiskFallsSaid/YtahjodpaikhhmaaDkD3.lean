/- One operation of both disks: fuse, fall, and up again. -/
import Derived.Test.YtahjodpaikhhmaaDkD2
namespace Go.Proofs.Ytahjodpaikhhmaa
open Go Go.RowKit
set_option maxRecDepth 20000

theorem infoI : ∃ i, Try.prog.info? 3 = some i ∧ i.zero = some (.int .i64 0) ∧ i.size = 1 ∧ i.bytes = 8 :=
  ⟨(Try.prog.info? 3).get (by kernel_rfl), by kernel_rfl, by kernel_rfl, by kernel_rfl, by kernel_rfl⟩
/- whole numbers are copied behind a row that is empty -/
theorem wp_appi {ops : Array Oper} {rest : List Oper} {o : Oper} {a : Act} {Q : Exit → Act → World → Prop} (w : World) (hgd : o.guard = none) (s x : Operand)
    (hop : o.op = .call { callee := .builtin .append, args := #[s, x], argTypes := #[23, 23] })
    (B : Nat) (v : Value) (hs : a.eval s = v) (ho : w.ownsRow B 3 1 v 0 []) (A : Option Addr) (m c : Nat) (l : List Int) (hx : a.eval x = .slice A m c) (hm : l.length = m) (hb : Ints w A l) (hc : A = none → c = 0) (hlen : m ≤ 1000) (hB : B ≤ w.heap.size)
    (h : ∀ A' c' w', Ints w' A' l → (∀ x, A' = some x → B ≤ x.block ∧ x.block < w'.heap.size) → Below B w w' → wpList Try.prog ops Q rest (a.put o.dst (.slice A' m c')) w') : wpList Try.prog ops Q (o :: rest) a w := by
  refine wpList_plain hgd fun K hK => ?_
  obtain ⟨i, hi, hz, hs', hy⟩ := infoI
  have key : ∃ v' w', (Builtin.append_ #[23, 23] o.type #[v, .slice A m c]).run Try.prog w = .ok v' w' ∧ w'.ownsRow B 3 1 v' m (l.map (Value.int .i64)) ∧ Below B w w' := by
    rcases A with _ | ad
    · obtain rfl := hc rfl
      have hl : l = [] := by
        rcases l with _ | ⟨x, l⟩
        · rfl
        · obtain ⟨b, off, h, _⟩ := hb 0 (by simp)
          cases h
      subst hl
      subst hm
      exact ⟨v, w, run_append_owned_none (P := Try.prog) (w := w) B 23 o.type 3 i 1 Try.underlying23 hi v _ _ ho, ho, Below.refl _ _⟩
    · obtain ⟨v', w', h1, h2, h3, _⟩ := run_append_own (P := Try.prog) w B 23 o.type 3 i (.int .i64 0) 1 8 Try.underlying23 hi hz hs' hy rfl (by omega) v 0 [] ho ad m c (l.map (Value.int .i64))
        (by simp [hm])
        (fun j u hj => by
          have hjl : j < l.length := by
            rcases Nat.lt_or_ge j l.length with h | h
            · exact h
            · rw [List.getElem?_eq_none (by simpa using h)] at hj; cases hj
          obtain ⟨b, off, h, hcell⟩ := hb j hjl
          injection h with h
          subst h
          rw [add_plain, hcell]
          simp [List.getElem?_eq_getElem hjl] at hj
          rw [← hj]
          simp [List.getElem?_eq_getElem hjl])
        (fun u hu => by
          obtain ⟨x, _, rfl⟩ := List.mem_map.1 hu
          rfl)
        (by unfold maxLen; omega) (by omega) hB
      refine ⟨v', w', h1, ?_, (Below.refl _ _).grown h3 hB (fun k hk => (World.ownsRow.lt ho k hk).1)⟩
      simpa using h2
  obtain ⟨v', w', h1, h2, h3⟩ := key
  have hlt := World.ownsRow.lt h2
  have fm : ∃ A' c', v' = .slice A' m c' ∧ Ints w' A' l ∧ ∀ x, A' = some x → B ≤ x.block ∧ x.block < w'.heap.size := by
    rcases h2.2 with ⟨rfl, h0⟩ | ⟨g0, cap, cur, rfl, hg, hh, _⟩
    · subst h0
      have : l = [] := List.eq_nil_of_length_eq_zero hm
      subst this
      exact ⟨none, 0, rfl, fun i hi => absurd hi (by simp), fun x e => by cases e⟩
    · refine ⟨_, _, rfl, fun i hi => ⟨g0, 0, rfl, ?_⟩, fun x e => by injection e with e; subst e; exact ⟨hg, (hlt g0 rfl).2⟩⟩
      have := World.ownsRow.cells h2 (g := g0) rfl i (.int .i64 (l.getD i 0)) (by simp [List.getElem?_eq_getElem hi])
      rwa [add_plain] at this
  obtain ⟨A', c', rfl, q1, q2⟩ := fm
  unfold Oper.wp
  simp [execOp, hop, resolve, invoke, builtin, hs, hx, h1, Result.andThen]
  exact hK _ _ (h A' c' w' q1 q2 h3)
set_option maxHeartbeats 2000000 in
theorem do_fuse0 {B : Nat} {w : World} {d m : Nat} {V : ByteArray → Value} {S : St} {A : Option Addr} {n c : Nat} {L : List RF} (h : Pl B w d m V S S A n L) (o : OP) (hq : o.q = 5) (T : St) (hT : T.room = S.room)
    (C1 : ∀ W, Dk W d m V S → Calls Try.prog 16 #[ptr d, .int .i64 o.n, .int .i64 o.k] W (Woken W d m V S T))
    (C2 : ∀ W, RD W S A n L → Calls Try.prog 28 #[rvS S A n c, .int .i64 o.n, .int .i64 o.k] W (RSo W A L T)) :
    Calls Try.prog 8 #[ptr d, rvS S A n c, .agg (opc o)] w (Did B w d m (At d m V S.fs A L)) := by
  obtain ⟨oq, onm, ont, oba, obn, obc, on, ok, oka, okn, okc⟩ := o
  simp only at hq C1 C2
  subst hq
  have P := Lib.hid h
  have bw := dw0_below w S A n c ⟨5, onm, ont, oba, obn, obc, on, ok, oka, okn, okc⟩
  have P0 := Lib.hid (h.below bw)
  have X0 := Lib.hid (Bx.start w S A n c ⟨5, onm, ont, oba, obn, obc, on, ok, oka, okn, okc⟩)
  have BW := Lib.hid bw
  have D1 := Lib.hid (C1 _ (h.below bw).db.dk)
  have D2 := Lib.hid C2
  have HT := Lib.hid hT
  clear h bw C1 C2 hT
  go_enter Try.func8, Try.ntmps8
  go_wp2_with fail
  refine D1.out.mono ?_
  rintro e w1 ⟨rfl, V1, hd, hk, hf⟩
  obtain ⟨p1, b1, at1⟩ := P0.out.first hd hk hf
  have x1 := X0.out.keep hk (fun x h1 _ e => by have := P.out.lt x (.inl e); omega)
  obtain ⟨y0, y1, y2, y3, y4, y5, y6, f0, f1, f2, f3, f4, f5, f6, hg0⟩ := look7 x1.b0
  obtain ⟨q0, q1, q2, q3, q4, q5, q6, r0, r1, r2, r3, r4, r5, r6, hg1⟩ := look7 x1.b1
  have P1 := Lib.hid p1
  have A1 := Lib.hid at1
  have B1 := Lib.hid b1
  have X1 := Lib.hid x1
  have D3 := Lib.hid (D2.out w1 p1.rd)
  have S0 := Lib.hid (show (dw0 w S A n c ⟨5, onm, ont, oba, obn, obc, on, ok, oka, okn, okc⟩).heap.size = w.heap.size + 3 by simp)
  have hs1 : Hid (w.heap.size + 3 ≤ w1.heap.size) := Lib.hid (by have := hk.size; have := S0.out; omega)
  have HK1 : Hid (Keep (Fp d m V S.fs) w w1) := Lib.hid ((Keep.of_below _ BW.out).tr hk)
  clear D1 D2 hd hk hf p1 b1 at1 x1 X0
  go_wp2_with fail
  refine D3.out.mono ?_
  rintro e w2 ⟨A', n', c', L', rfl, hr, hn, hb2⟩
  obtain ⟨p2, at2⟩ := P1.out.then_ hr hn hb2 (by rw [HT.out]; exact P.out.room)
  have x2 := X1.out.keep (F := fun _ => False) (Keep.of_below _ hb2) (fun _ _ _ e => e)
  clear y0 y1 y2 y3 y4 y5 y6 f0 f1 f2 f3 f4 f5 f6 hg0 q0 q1 q2 q3 q4 q5 q6 r0 r1 r2 r3 r4 r5 r6 hg1 D3
  obtain ⟨y0, y1, y2, y3, y4, y5, y6, f0, f1, f2, f3, f4, f5, f6, hg0⟩ := look7 x2.b0
  obtain ⟨W3, hW3, k0, kk, ks, kb⟩ := boxed x2.b0 (.int .i64 (T.room : Int)) (.slice A' n' c') (.bool (!T.up)) (.int .i64 T.falls) (.bool T.lit) (.int .i64 (T.acts : Int)) (.int .i64 (T.part : Int))
  have k2 : W3.heap[w.heap.size + 2]? = some rc0 := (kk _ (by omega)).trans x2.b2
  have HW := Lib.hid hW3
  have HK3 : Hid (Keep (fun x => x = w.heap.size ∨ x = w.heap.size + 2) w2 W3) := Lib.hid (by rw [← hW3]; exact keep7 (Keep.refl _ _) _ (.inl rfl) _ _ _ _ _ _ _)
  have HAT : Hid (∀ x, At d m V1 T.fs A' L' x → At d m V S.fs A L x ∨ w.heap.size + 3 ≤ x) := Lib.hid (fun x hx => by
    rcases at2 x hx with e | e
    · rcases A1.out x e with e | e
      · exact .inl e
      · have := S0.out; exact .inr (by omega)
    · have := hs1.out; exact .inr (by omega))
  have HB2 : Hid (Below B w w2) := Lib.hid (((BW.out.mono P.out.hB).trans B1.out).trans (hb2.mono P1.out.hB))
  have P2 := Lib.hid p2
  have K0 := Lib.hid k0
  have K2 := Lib.hid k2
  have PB := Lib.hid P.out.hB
  have HG := Lib.hid P.out.lt
  have HKP : Hid (Keep (At d m V S.fs A L) w w2) := Lib.hid ((HK1.out.tr (Keep.of_below _ hb2)).wide (fun x _ hx => .inl hx))
  clear p2 at2 x2 k0 k2 kk ks kb hW3 hr hn hb2 X1 A1 B1 S0 hs1 BW P1 P0 HT P
  go_wp2_with fail
  rw [HW.out]
  clear y0 y1 y2 y3 y4 y5 y6 f0 f1 f2 f3 f4 f5 f6 hg0 HW
  obtain ⟨y0, y1, y2, y3, y4, y5, y6, f0, f1, f2, f3, f4, f5, f6, hg0⟩ := look7 K0.out
  obtain ⟨z0, z1, z2, z3, z4, z5, z6, e0, e1, e2, e3, e4, e5, e6, hg1⟩ := look7 K2.out
  go_region
  all_goals
    go_wp2_with fail
    have KF := (keep7 HK3.out (w.heap.size + 2) (.inr rfl) (.int .i64 (T.room : Int)) (.slice A' n' c') (.bool (!T.up)) (.int .i64 T.falls) (.bool T.lit) (.int .i64 (T.acts : Int)) (.int .i64 (T.part : Int))).drew
    exact bodyPost_ret (v := .tuple #[.bool true, rvS T A' n' c']) (by simp [results, Try.results8, go_sem, *]) rfl (did_end P2.out HAT.out HG.out HB2.out PB.out HKP.out KF true)
set_option maxHeartbeats 2000000 in
theorem do_fall0 {B : Nat} {w : World} {d m : Nat} {V : ByteArray → Value} {S : St} {A : Option Addr} {n c : Nat} {L : List RF} (h : Pl B w d m V S S A n L) (o : OP) (hq : o.q = 6) (T : St) (hT : T.room = S.room)
    (C1 : ∀ W, Dk W d m V S → Calls Try.prog 10 #[ptr d] W (Woken W d m V S T))
    (C2 : ∀ W, RD W S A n L → Calls Try.prog 29 #[rvS S A n c] W (RSo W A L T)) :
    Calls Try.prog 8 #[ptr d, rvS S A n c, .agg (opc o)] w (Did B w d m (At d m V S.fs A L)) := by
  obtain ⟨oq, onm, ont, oba, obn, obc, on, ok, oka, okn, okc⟩ := o
  simp only at hq C1 C2
  subst hq
  have P := Lib.hid h
  have bw := dw0_below w S A n c ⟨6, onm, ont, oba, obn, obc, on, ok, oka, okn, okc⟩
  have P0 := Lib.hid (h.below bw)
  have X0 := Lib.hid (Bx.start w S A n c ⟨6, onm, ont, oba, obn, obc, on, ok, oka, okn, okc⟩)
  have BW := Lib.hid bw
  have D1 := Lib.hid (C1 _ (h.below bw).db.dk)
  have D2 := Lib.hid C2
  have HT := Lib.hid hT
  clear h bw C1 C2 hT
  go_enter Try.func8, Try.ntmps8
  go_wp2_with fail
  refine D1.out.mono ?_
  rintro e w1 ⟨rfl, V1, hd, hk, hf⟩
  obtain ⟨p1, b1, at1⟩ := P0.out.first hd hk hf
  have x1 := X0.out.keep hk (fun x h1 _ e => by have := P.out.lt x (.inl e); omega)
  obtain ⟨y0, y1, y2, y3, y4, y5, y6, f0, f1, f2, f3, f4, f5, f6, hg0⟩ := look7 x1.b0
  obtain ⟨q0, q1, q2, q3, q4, q5, q6, r0, r1, r2, r3, r4, r5, r6, hg1⟩ := look7 x1.b1
  have P1 := Lib.hid p1
  have A1 := Lib.hid at1
  have B1 := Lib.hid b1
  have X1 := Lib.hid x1
  have D3 := Lib.hid (D2.out w1 p1.rd)
  have S0 := Lib.hid (show (dw0 w S A n c ⟨6, onm, ont, oba, obn, obc, on, ok, oka, okn, okc⟩).heap.size = w.heap.size + 3 by simp)
  have hs1 : Hid (w.heap.size + 3 ≤ w1.heap.size) := Lib.hid (by have := hk.size; have := S0.out; omega)
  have HK1 : Hid (Keep (Fp d m V S.fs) w w1) := Lib.hid ((Keep.of_below _ BW.out).tr hk)
  clear D1 D2 hd hk hf p1 b1 at1 x1 X0
  go_wp2_with fail
  refine D3.out.mono ?_
  rintro e w2 ⟨A', n', c', L', rfl, hr, hn, hb2⟩
  obtain ⟨p2, at2⟩ := P1.out.then_ hr hn hb2 (by rw [HT.out]; exact P.out.room)
  have x2 := X1.out.keep (F := fun _ => False) (Keep.of_below _ hb2) (fun _ _ _ e => e)
  clear y0 y1 y2 y3 y4 y5 y6 f0 f1 f2 f3 f4 f5 f6 hg0 q0 q1 q2 q3 q4 q5 q6 r0 r1 r2 r3 r4 r5 r6 hg1 D3
  obtain ⟨y0, y1, y2, y3, y4, y5, y6, f0, f1, f2, f3, f4, f5, f6, hg0⟩ := look7 x2.b0
  obtain ⟨W3, hW3, k0, kk, ks, kb⟩ := boxed x2.b0 (.int .i64 (T.room : Int)) (.slice A' n' c') (.bool (!T.up)) (.int .i64 T.falls) (.bool T.lit) (.int .i64 (T.acts : Int)) (.int .i64 (T.part : Int))
  have k2 : W3.heap[w.heap.size + 2]? = some rc0 := (kk _ (by omega)).trans x2.b2
  have HW := Lib.hid hW3
  have HK3 : Hid (Keep (fun x => x = w.heap.size ∨ x = w.heap.size + 2) w2 W3) := Lib.hid (by rw [← hW3]; exact keep7 (Keep.refl _ _) _ (.inl rfl) _ _ _ _ _ _ _)
  have HAT : Hid (∀ x, At d m V1 T.fs A' L' x → At d m V S.fs A L x ∨ w.heap.size + 3 ≤ x) := Lib.hid (fun x hx => by
    rcases at2 x hx with e | e
    · rcases A1.out x e with e | e
      · exact .inl e
      · have := S0.out; exact .inr (by omega)
    · have := hs1.out; exact .inr (by omega))
  have HB2 : Hid (Below B w w2) := Lib.hid (((BW.out.mono P.out.hB).trans B1.out).trans (hb2.mono P1.out.hB))
  have P2 := Lib.hid p2
  have K0 := Lib.hid k0
  have K2 := Lib.hid k2
  have PB := Lib.hid P.out.hB
  have HG := Lib.hid P.out.lt
  have HKP : Hid (Keep (At d m V S.fs A L) w w2) := Lib.hid ((HK1.out.tr (Keep.of_below _ hb2)).wide (fun x _ hx => .inl hx))
  clear p2 at2 x2 k0 k2 kk ks kb hW3 hr hn hb2 X1 A1 B1 S0 hs1 BW P1 P0 HT P
  go_wp2_with fail
  rw [HW.out]
  clear y0 y1 y2 y3 y4 y5 y6 f0 f1 f2 f3 f4 f5 f6 hg0 HW
  obtain ⟨y0, y1, y2, y3, y4, y5, y6, f0, f1, f2, f3, f4, f5, f6, hg0⟩ := look7 K0.out
  obtain ⟨z0, z1, z2, z3, z4, z5, z6, e0, e1, e2, e3, e4, e5, e6, hg1⟩ := look7 K2.out
  go_region
  all_goals
    go_wp2_with fail
    have KF := (keep7 HK3.out (w.heap.size + 2) (.inr rfl) (.int .i64 (T.room : Int)) (.slice A' n' c') (.bool (!T.up)) (.int .i64 T.falls) (.bool T.lit) (.int .i64 (T.acts : Int)) (.int .i64 (T.part : Int))).drew
    exact bodyPost_ret (v := .tuple #[.bool true, rvS T A' n' c']) (by simp [results, Try.results8, go_sem, *]) rfl (did_end P2.out HAT.out HG.out HB2.out PB.out HKP.out KF true)
theorem do_fuse {B : Nat} {w : World} {d m : Nat} {V : ByteArray → Value} {S : St} {A : Option Addr} {n c : Nat} {L : List RF} (h : Pl B w d m V S S A n L) (o : OP) (ho : Oko w o) (hq : o.q = 5) :
    Calls Try.prog 8 #[ptr d, rvS S A n c, .agg (opc o)] w (Did B w d m (At d m V S.fs A L)) :=
  do_fuse0 h o hq (lighted S o.n o.k) rfl (fun W hd => (fuse_any hd o.n o.k ho.n1 ho.k1).mono fun e w' hr => ⟨hr.1, V, hr.2.1, hr.2.2, fun x hx => .inl hx⟩) (fun W hr => rlightS hr o.n o.k)
theorem do_fall {B : Nat} {w : World} {d m : Nat} {V : ByteArray → Value} {S : St} {A : Option Addr} {n c : Nat} {L : List RF} (h : Pl B w d m V S S A n L) (o : OP) (ho : Oko w o) (hq : o.q = 6) :
    Calls Try.prog 8 #[ptr d, rvS S A n c, .agg (opc o)] w (Did B w d m (At d m V S.fs A L)) :=
  do_fall0 h o hq (down S) rfl (fun W hd => (crash_any hd).mono fun e w' hr => ⟨hr.1, V, hr.2.1, hr.2.2, fun x hx => .inl hx⟩) (fun W hr => rcrashS hr)
end Go.Proofs.Ytahjodpaikhhmaa
