/- One operation of both disks: Read. -/
import Derived.Test.YtahjodpaikhhmaaDkD4
namespace Go.Proofs.Ytahjodpaikhhmaa
open Go Go.RowKit
set_option maxRecDepth 20000

def Rdd (lb : List Int) (kk : Int) (w : World) (e : Ending) (w' : World) : Prop := ∃ A1 c1, e = .returned (.tuple #[.slice A1 lb.length c1, .int .i64 kk]) ∧ Byt w' A1 lb ∧ Below w.heap.size w w'
set_option maxHeartbeats 2000000 in
theorem do_rdown {B : Nat} {w : World} {d m : Nat} {V : ByteArray → Value} {S : St} {A : Option Addr} {n c : Nat} {L : List RF} (h : Pl B w d m V S S A n L) (o : OP) (hq : ∀ j : Int, 0 ≤ j → j ≤ 7 → o.q ≠ j) (hs : o.nm.size ≤ maxLen) (hu : S.up = false) :
    Calls Try.prog 8 #[ptr d, rvS S A n c, .agg (opc o)] w (Did B w d m (At d m V S.fs A L)) := by
  obtain ⟨oq, onm, ont, oba, obn, obc, on, ok, oka, okn, okc⟩ := o
  simp only at hq hs
  have e0 : (oq == 0) = false := by rw [beq_eq_false_iff_ne]; exact hq 0 (by omega) (by omega)
  have e1 : (oq == 1) = false := by rw [beq_eq_false_iff_ne]; exact hq 1 (by omega) (by omega)
  have e2 : (oq == 2) = false := by rw [beq_eq_false_iff_ne]; exact hq 2 (by omega) (by omega)
  have e3 : (oq == 3) = false := by rw [beq_eq_false_iff_ne]; exact hq 3 (by omega) (by omega)
  have e4 : (oq == 4) = false := by rw [beq_eq_false_iff_ne]; exact hq 4 (by omega) (by omega)
  have e5 : (oq == 5) = false := by rw [beq_eq_false_iff_ne]; exact hq 5 (by omega) (by omega)
  have e6 : (oq == 6) = false := by rw [beq_eq_false_iff_ne]; exact hq 6 (by omega) (by omega)
  have e7 : (oq == 7) = false := by rw [beq_eq_false_iff_ne]; exact hq 7 (by omega) (by omega)
  have P := Lib.hid h
  have bw := dw0_below w S A n c ⟨oq, onm, ont, oba, obn, obc, on, ok, oka, okn, okc⟩
  have P0 := Lib.hid (h.below bw)
  have X0 := Lib.hid (Bx.start w S A n c ⟨oq, onm, ont, oba, obn, obc, on, ok, oka, okn, okc⟩)
  have BW := Lib.hid bw
  have hn : n ≤ 1000 := by have := h.rd.many; have := h.db.dk.ok.many; omega
  have D1 : Hid (Calls Try.prog 14 #[ptr d, .string onm] (dw0 w S A n c ⟨oq, onm, ont, oba, obn, obc, on, ok, oka, okn, okc⟩) (Rdd [] 9 (dw0 w S A n c ⟨oq, onm, ont, oba, obn, obc, on, ok, oka, okn, okc⟩))) := Lib.hid (by
    refine (read_down (h.below bw).db.dk onm hu).mono ?_
    rintro e w1 ⟨rfl, rfl⟩
    exact ⟨none, 0, rfl, Byt.nil _, Below.refl _ _⟩)
  have D2 := Lib.hid (fun (W : World) (hr : RD W S A n L) => rfind_any W (S.room : Int) A n c (!S.up) S.falls S.lit (S.acts : Int) (S.part : Int) L onm hr.len hr.rs.fls hn)
  have HU := Lib.hid (show (!S.up) = true by rw [hu]; rfl)
  clear h bw hq hu
  go_enter Try.func8, Try.ntmps8
  go_wp2_with fail
  refine D1.out.mono ?_
  rintro e w1 ⟨A1, c1, rfl, hY1, hb1⟩
  have p1 := P0.out.below hb1
  have x1 := X0.out.keep (F := fun _ => False) (Keep.of_below _ hb1) (fun _ _ _ e => e)
  obtain ⟨y0, y1, y2, y3, y4, y5, y6, f0, f1, f2, f3, f4, f5, f6, hg0⟩ := look7 x1.b0
  obtain ⟨q0, q1, q2, q3, q4, q5, q6, r0, r1, r2, r3, r4, r5, r6, hg1⟩ := look7 x1.b1
  have P1 := Lib.hid p1
  have X1 := Lib.hid x1
  have Y1 := Lib.hid hY1
  have B1 := Lib.hid (below_go BW.out hb1)
  have D3 := Lib.hid (D2.out w1 p1.rd)
  clear D1 D2 p1 x1 hY1 hb1 P0 X0 BW e0 e1 e2 e3 e4 e5 e6 e7
  go_wp2_with fail
  refine D3.out.mono ?_
  rintro e w2 ⟨hfo, hb2⟩
  obtain ⟨z, rfl⟩ : ∃ z : Int, e = .returned (.int .i64 z) := by
    rcases hfo with ⟨i, _, rfl, _⟩ | ⟨rfl, _⟩
    · exact ⟨_, rfl⟩
    · exact ⟨_, rfl⟩
  clear hfo
  have x2 := X1.out.keep (F := fun _ => False) (Keep.of_below _ hb2) (fun _ _ _ e => e)
  have P2 := Lib.hid (P1.out.below hb2)
  have B2 := Lib.hid (below_go B1.out hb2)
  have Y2 := Lib.hid (Y1.out.below hb2)
  have HAT : Hid (∀ x, At d m V S.fs A L x → At d m V S.fs A L x ∨ w.heap.size + 3 ≤ x) := Lib.hid (fun x hx => .inl hx)
  have PB := Lib.hid P.out.hB
  have HG := Lib.hid P.out.lt
  have HKP : Hid (Keep (At d m V S.fs A L) w w2) := Lib.hid (Keep.of_below _ B2.out)
  have HB2 := Lib.hid (B2.out.mono PB.out)
  clear y0 y1 y2 y3 y4 y5 y6 f0 f1 f2 f3 f4 f5 f6 hg0 q0 q1 q2 q3 q4 q5 q6 r0 r1 r2 r3 r4 r5 r6 hg1 D3
  obtain ⟨y0, y1, y2, y3, y4, y5, y6, f0, f1, f2, f3, f4, f5, f6, hg0⟩ := look7 x2.b0
  obtain ⟨z0, z1, z2, z3, z4, z5, z6, e0, e1, e2, e3, e4, e5, e6, hg1⟩ := look7 x2.b2
  rw [HU.out] at y2
  clear x2 hb2 X1 P1 B1 Y1 P
  go_wp2_with fail
  go_region
  all_goals
    go_wp2_with fail
    have KF := (keep7 (Keep.refl (fun x => x = w.heap.size ∨ x = w.heap.size + 2) w2) (w.heap.size + 2) (.inr rfl) (.int .i64 (S.room : Int)) (.slice A n c) (.bool true) (.int .i64 S.falls) (.bool S.lit) (.int .i64 (S.acts : Int)) (.int .i64 (S.part : Int))).drew
    exact bodyPost_ret (v := .tuple #[.bool true, .agg #[.int .i64 (S.room : Int), .slice A n c, .bool true, .int .i64 S.falls, .bool S.lit, .int .i64 (S.acts : Int), .int .i64 (S.part : Int)]]) (by simp [results, Try.results8, go_sem, *]) rfl (by
      have := did_end (c := c) P2.out HAT.out HG.out HB2.out PB.out HKP.out KF true
      unfold rvS at this
      rw [HU.out] at this
      exact this)
set_option maxHeartbeats 2000000 in
theorem do_rnone {B : Nat} {w : World} {d m : Nat} {V : ByteArray → Value} {S : St} {A : Option Addr} {n c : Nat} {L : List RF} (h : Pl B w d m V S S A n L) (o : OP) (hq : ∀ j : Int, 0 ≤ j → j ≤ 7 → o.q ≠ j) (hs : o.nm.size ≤ maxLen) (hu : S.up = true) (hf : fnd S.fs o.nm = none) :
    Calls Try.prog 8 #[ptr d, rvS S A n c, .agg (opc o)] w (Did B w d m (At d m V S.fs A L)) := by
  obtain ⟨oq, onm, ont, oba, obn, obc, on, ok, oka, okn, okc⟩ := o
  simp only at hq hs hf
  have e0 : (oq == 0) = false := by rw [beq_eq_false_iff_ne]; exact hq 0 (by omega) (by omega)
  have e1 : (oq == 1) = false := by rw [beq_eq_false_iff_ne]; exact hq 1 (by omega) (by omega)
  have e2 : (oq == 2) = false := by rw [beq_eq_false_iff_ne]; exact hq 2 (by omega) (by omega)
  have e3 : (oq == 3) = false := by rw [beq_eq_false_iff_ne]; exact hq 3 (by omega) (by omega)
  have e4 : (oq == 4) = false := by rw [beq_eq_false_iff_ne]; exact hq 4 (by omega) (by omega)
  have e5 : (oq == 5) = false := by rw [beq_eq_false_iff_ne]; exact hq 5 (by omega) (by omega)
  have e6 : (oq == 6) = false := by rw [beq_eq_false_iff_ne]; exact hq 6 (by omega) (by omega)
  have e7 : (oq == 7) = false := by rw [beq_eq_false_iff_ne]; exact hq 7 (by omega) (by omega)
  have P := Lib.hid h
  have bw := dw0_below w S A n c ⟨oq, onm, ont, oba, obn, obc, on, ok, oka, okn, okc⟩
  have P0 := Lib.hid (h.below bw)
  have X0 := Lib.hid (Bx.start w S A n c ⟨oq, onm, ont, oba, obn, obc, on, ok, oka, okn, okc⟩)
  have BW := Lib.hid bw
  have hn : n ≤ 1000 := by have := h.rd.many; have := h.db.dk.ok.many; omega
  have D1 : Hid (Calls Try.prog 14 #[ptr d, .string onm] (dw0 w S A n c ⟨oq, onm, ont, oba, obn, obc, on, ok, oka, okn, okc⟩) (Rdd [] 8 (dw0 w S A n c ⟨oq, onm, ont, oba, obn, obc, on, ok, oka, okn, okc⟩))) := Lib.hid (by
    refine (read_none (h.below bw).db.dk onm hs hu hf).mono ?_
    rintro e w1 ⟨rfl, hb⟩
    exact ⟨none, 0, rfl, Byt.nil _, hb⟩)
  have D2 := Lib.hid (fun (W : World) (hr : RD W S A n L) => rfind_any W (S.room : Int) A n c (!S.up) S.falls S.lit (S.acts : Int) (S.part : Int) L onm hr.len hr.rs.fls hn)
  have HU := Lib.hid (show (!S.up) = false by rw [hu]; rfl)
  have HF := Lib.hid (show fnd (fls L) onm = none by rw [h.rd.fs]; exact hf)
  clear h bw hq hu hf
  go_enter Try.func8, Try.ntmps8
  go_wp2_with fail
  refine D1.out.mono ?_
  rintro e w1 ⟨A1, c1, rfl, hY1, hb1⟩
  have p1 := P0.out.below hb1
  have x1 := X0.out.keep (F := fun _ => False) (Keep.of_below _ hb1) (fun _ _ _ e => e)
  obtain ⟨y0, y1, y2, y3, y4, y5, y6, f0, f1, f2, f3, f4, f5, f6, hg0⟩ := look7 x1.b0
  obtain ⟨q0, q1, q2, q3, q4, q5, q6, r0, r1, r2, r3, r4, r5, r6, hg1⟩ := look7 x1.b1
  have P1 := Lib.hid p1
  have X1 := Lib.hid x1
  have Y1 := Lib.hid hY1
  have B1 := Lib.hid (below_go BW.out hb1)
  have D3 := Lib.hid (D2.out w1 p1.rd)
  clear D1 D2 p1 x1 hY1 hb1 P0 X0 BW e0 e1 e2 e3 e4 e5 e6 e7
  go_wp2_with fail
  refine D3.out.mono ?_
  rintro e w2 ⟨hfo, hb2⟩
  obtain rfl : e = .returned (.int .i64 (-1)) := by
    rcases hfo with ⟨i, _, _, h3⟩ | ⟨rfl, _⟩
    · rw [HF.out] at h3; cases h3
    · rfl
  clear hfo
  have x2 := X1.out.keep (F := fun _ => False) (Keep.of_below _ hb2) (fun _ _ _ e => e)
  have P2 := Lib.hid (P1.out.below hb2)
  have B2 := Lib.hid (below_go B1.out hb2)
  have Y2 := Lib.hid (Y1.out.below hb2)
  have HAT : Hid (∀ x, At d m V S.fs A L x → At d m V S.fs A L x ∨ w.heap.size + 3 ≤ x) := Lib.hid (fun x hx => .inl hx)
  have PB := Lib.hid P.out.hB
  have HG := Lib.hid P.out.lt
  have HKP : Hid (Keep (At d m V S.fs A L) w w2) := Lib.hid (Keep.of_below _ B2.out)
  have HB2 := Lib.hid (B2.out.mono PB.out)
  clear y0 y1 y2 y3 y4 y5 y6 f0 f1 f2 f3 f4 f5 f6 hg0 q0 q1 q2 q3 q4 q5 q6 r0 r1 r2 r3 r4 r5 r6 hg1 D3
  obtain ⟨y0, y1, y2, y3, y4, y5, y6, f0, f1, f2, f3, f4, f5, f6, hg0⟩ := look7 x2.b0
  obtain ⟨z0, z1, z2, z3, z4, z5, z6, e0, e1, e2, e3, e4, e5, e6, hg1⟩ := look7 x2.b2
  rw [HU.out] at y2
  clear x2 hb2 X1 P1 B1 Y1 P
  go_wp2_with fail
  go_region
  all_goals
    go_wp2_with fail
    have KF := (keep7 (Keep.refl (fun x => x = w.heap.size ∨ x = w.heap.size + 2) w2) (w.heap.size + 2) (.inr rfl) (.int .i64 (S.room : Int)) (.slice A n c) (.bool false) (.int .i64 S.falls) (.bool S.lit) (.int .i64 (S.acts : Int)) (.int .i64 (S.part : Int))).drew
    exact bodyPost_ret (v := .tuple #[.bool true, .agg #[.int .i64 (S.room : Int), .slice A n c, .bool false, .int .i64 S.falls, .bool S.lit, .int .i64 (S.acts : Int), .int .i64 (S.part : Int)]]) (by simp [results, Try.results8, go_sem, *]) rfl (by
      have := did_end (c := c) P2.out HAT.out HG.out HB2.out PB.out HKP.out KF true
      unfold rvS at this
      rw [HU.out] at this
      exact this)
set_option maxHeartbeats 2000000 in
theorem do_rsome {B : Nat} {w : World} {d m : Nat} {V : ByteArray → Value} {S : St} {A : Option Addr} {n c : Nat} {L : List RF} (h : Pl B w d m V S S A n L) (o : OP) (hq : ∀ j : Int, 0 ≤ j → j ≤ 7 → o.q ≠ j) (hs : o.nm.size ≤ maxLen) (hu : S.up = true) (f : Fl) (hf : fnd S.fs o.nm = some f) :
    Calls Try.prog 8 #[ptr d, rvS S A n c, .agg (opc o)] w (Did B w d m (At d m V S.fs A L)) := by
  obtain ⟨oq, onm, ont, oba, obn, obc, on, ok, oka, okn, okc⟩ := o
  simp only at hq hs hf
  have e0 : (oq == 0) = false := by rw [beq_eq_false_iff_ne]; exact hq 0 (by omega) (by omega)
  have e1 : (oq == 1) = false := by rw [beq_eq_false_iff_ne]; exact hq 1 (by omega) (by omega)
  have e2 : (oq == 2) = false := by rw [beq_eq_false_iff_ne]; exact hq 2 (by omega) (by omega)
  have e3 : (oq == 3) = false := by rw [beq_eq_false_iff_ne]; exact hq 3 (by omega) (by omega)
  have e4 : (oq == 4) = false := by rw [beq_eq_false_iff_ne]; exact hq 4 (by omega) (by omega)
  have e5 : (oq == 5) = false := by rw [beq_eq_false_iff_ne]; exact hq 5 (by omega) (by omega)
  have e6 : (oq == 6) = false := by rw [beq_eq_false_iff_ne]; exact hq 6 (by omega) (by omega)
  have e7 : (oq == 7) = false := by rw [beq_eq_false_iff_ne]; exact hq 7 (by omega) (by omega)
  have P := Lib.hid h
  have bw := dw0_below w S A n c ⟨oq, onm, ont, oba, obn, obc, on, ok, oka, okn, okc⟩
  have P0 := Lib.hid (h.below bw)
  have X0 := Lib.hid (Bx.start w S A n c ⟨oq, onm, ont, oba, obn, obc, on, ok, oka, okn, okc⟩)
  have BW := Lib.hid bw
  have hn : n ≤ 1000 := by have := h.rd.many; have := h.db.dk.ok.many; omega
  have D1 : Hid (Calls Try.prog 14 #[ptr d, .string onm] (dw0 w S A n c ⟨oq, onm, ont, oba, obn, obc, on, ok, oka, okn, okc⟩) (Rdd f.bs 0 (dw0 w S A n c ⟨oq, onm, ont, oba, obn, obc, on, ok, oka, okn, okc⟩))) := Lib.hid (by
    refine (read_some (h.below bw).db.dk onm hs hu f hf).mono ?_
    rintro e w1 ⟨A', c', rfl, h1, h2⟩
    exact ⟨A', c', rfl, h1.byt (h.db.dk.ok.file f (fnd_mem hf).1).bytes, h2⟩)
  have D2 := Lib.hid (fun (W : World) (hr : RD W S A n L) => rfind_any W (S.room : Int) A n c (!S.up) S.falls S.lit (S.acts : Int) (S.part : Int) L onm hr.len hr.rs.fls hn)
  have HU := Lib.hid (show (!S.up) = false by rw [hu]; rfl)
  have HF := Lib.hid (show fnd (fls L) onm = some f by rw [h.rd.fs]; exact hf)
  clear h bw hq hu hf
  go_enter Try.func8, Try.ntmps8
  go_wp2_with fail
  refine D1.out.mono ?_
  rintro e w1 ⟨A1, c1, rfl, hY1, hb1⟩
  have p1 := P0.out.below hb1
  have x1 := X0.out.keep (F := fun _ => False) (Keep.of_below _ hb1) (fun _ _ _ e => e)
  obtain ⟨y0, y1, y2, y3, y4, y5, y6, f0, f1, f2, f3, f4, f5, f6, hg0⟩ := look7 x1.b0
  obtain ⟨q0, q1, q2, q3, q4, q5, q6, r0, r1, r2, r3, r4, r5, r6, hg1⟩ := look7 x1.b1
  have P1 := Lib.hid p1
  have X1 := Lib.hid x1
  have Y1 := Lib.hid hY1
  have B1 := Lib.hid (below_go BW.out hb1)
  have D3 := Lib.hid (D2.out w1 p1.rd)
  clear D1 D2 p1 x1 hY1 hb1 P0 X0 BW e0 e1 e2 e3 e4 e5 e6 e7
  go_wp2_with fail
  refine D3.out.mono ?_
  rintro e w2 ⟨hfo, hb2⟩
  obtain ⟨i, hi, rfl, hfi⟩ : ∃ i : Nat, i < n ∧ e = .returned (.int .i64 (i : Int)) ∧ f = (L.getD i rz).f := by
    rcases hfo with ⟨i, h1, h2, h3⟩ | ⟨_, h2⟩
    · rw [HF.out] at h3; injection h3 with h3; exact ⟨i, h1, h2, h3⟩
    · rw [HF.out] at h2; cases h2
  clear hfo
  have x2 := X1.out.keep (F := fun _ => False) (Keep.of_below _ hb2) (fun _ _ _ e => e)
  have P2 := Lib.hid (P1.out.below hb2)
  have B2 := Lib.hid (below_go B1.out hb2)
  have Y2 := Lib.hid (Y1.out.below hb2)
  have HAT : Hid (∀ x, At d m V S.fs A L x → At d m V S.fs A L x ∨ w.heap.size + 3 ≤ x) := Lib.hid (fun x hx => .inl hx)
  have PB := Lib.hid P.out.hB
  have HG := Lib.hid P.out.lt
  have HKP : Hid (Keep (At d m V S.fs A L) w w2) := Lib.hid (Keep.of_below _ B2.out)
  have HB2 := Lib.hid (B2.out.mono PB.out)
  clear y0 y1 y2 y3 y4 y5 y6 f0 f1 f2 f3 f4 f5 f6 hg0 q0 q1 q2 q3 q4 q5 q6 r0 r1 r2 r3 r4 r5 r6 hg1 D3
  obtain ⟨y0, y1, y2, y3, y4, y5, y6, f0, f1, f2, f3, f4, f5, f6, hg0⟩ := look7 x2.b0
  obtain ⟨z0, z1, z2, z3, z4, z5, z6, e0, e1, e2, e3, e4, e5, e6, hg1⟩ := look7 x2.b2
  rw [HU.out] at y2
  have hLi : i < L.length := by rw [P.out.rd.len]; exact hi
  have rs2 := (P2.out.rd).rs
  obtain ⟨bf, off, hA, g0, g1, g2⟩ := rs2.fls i hLi
  subst hA
  have hmem : L.getD i rz ∈ L := by rw [List.getD_eq_getElem?_getD, List.getElem?_eq_getElem hLi]; exact List.getElem_mem hLi
  have yB := (rs2.hdr _ hmem).1
  rw [← hfi] at g1 yB
  have st1 := run_str w2.drew A1 f.bs.length c1 f.bs rfl (Y2.out.below ((Below.refl _ _).drew))
  have st2 := run_str w2.drew (L.getD i rz).A f.bs.length (L.getD i rz).c f.bs rfl (yB.below ((Below.refl _ _).drew))
  have gl := World.block_lt_of_cell? _ _ g1
  have i0 : (0 : Int) ≤ (i : Int) := by omega
  have i1 : (i : Int) < (n : Int) := by omega
  have iz : decide ((i : Int) < 0) = false := by simp
  generalize strOfNums f.bs = Z at st1 st2
  generalize f.bs.length = q at *
  generalize (L.getD i rz).A = Af at *
  generalize (L.getD i rz).c = cf at *
  clear g0 g2 rs2 yB hfi hmem hLi
  clear x2 hb2 X1 P1 B1 Y1 P
  go_wp2_with fail
  go_region
  all_goals
    go_wp2_with fail
    have KF := (keep7 (Keep.refl (fun x => x = w.heap.size ∨ x = w.heap.size + 2) w2) (w.heap.size + 2) (.inr rfl) (.int .i64 (S.room : Int)) (.slice (some ⟨bf, off, none⟩) n c) (.bool false) (.int .i64 S.falls) (.bool S.lit) (.int .i64 (S.acts : Int)) (.int .i64 (S.part : Int))).drew
    exact bodyPost_ret (v := .tuple #[.bool true, .agg #[.int .i64 (S.room : Int), .slice (some ⟨bf, off, none⟩) n c, .bool false, .int .i64 S.falls, .bool S.lit, .int .i64 (S.acts : Int), .int .i64 (S.part : Int)]]) (by simp [results, Try.results8, go_sem, *]) rfl (by
      have := did_end (c := c) P2.out HAT.out HG.out HB2.out PB.out HKP.out KF true
      unfold rvS at this
      rw [HU.out] at this
      exact this)
end Go.Proofs.Ytahjodpaikhhmaa
