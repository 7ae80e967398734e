/- DiskFalls: the walk of the statement's own function. -/
import Derived.Test.YtahjodpaikhhmaaDkD7
import Derived.Deep.RegionLaw
import Derived.BigQuiet
namespace Go.Proofs.Ytahjodpaikhhmaa
open Go Go.RowKit
set_option maxRecDepth 20000

set_option maxHeartbeats 1000000 in
theorem falls_great (W : World) (a0 a1 : Option Addr) (N c0 K c1 : Nat) (h : 300 < K) (hm : K ≤ 140737488355328) :
    Calls Try.prog 3 #[.slice a0 N c0, .slice a1 K c1] W fun e w' => e = .returned (.bool true) ∧ Below W.heap.size W w' := by
  have F := Lib.hid (fixed_any W)
  have d : decide ((300 : Int) < (K : Int)) = true := by simp; omega
  go_enter Try.func3, Try.ntmps3
  go_wp2_with fail
  refine F.out.mono ?_
  rintro e w1 ⟨rfl, hb1⟩
  go_wp2
  go_ret
  exact ⟨rfl, hb1⟩
/- what stands between two operations -/
structure Bt (B : Nat) (w0 w : World) (d m g : Nat) (V : ByteArray → Value) (S : St) (A : Option Addr) (n c : Nat) (L : List RF) : Prop where
  pl : Pl B w d m V S S A n L
  box : w.heap[g]? = some (rcS S A n c)
  off : ∀ x, At d m V S.fs A L x → x ≠ g
  bel : Below B w0 w
theorem Bt.below {B : Nat} {w0 w w1 : World} {d m g : Nat} {V : ByteArray → Value} {S : St} {A : Option Addr} {n c : Nat} {L : List RF} (h : Bt B w0 w d m g V S A n c L) (hb : Below w.heap.size w w1) : Bt B w0 w1 d m g V S A n c L :=
  ⟨h.pl.below hb, (hb.block g ((Array.getElem?_eq_some_iff.1 h.box).1)).trans h.box, h.off, h.bel.trans (hb.mono h.pl.hB)⟩
/- an operation, and its answer in the box -/
theorem Bt.did {B : Nat} {w0 w w6 W7 : World} {d m g : Nat} {V : ByteArray → Value} {S : St} {A : Option Addr} {n c : Nat} {L : List RF} (h : Bt B w0 w d m g V S A n c L) {V' : ByteArray → Value} {T : St} {A' : Option Addr} {n' c' : Nat} {L' : List RF}
    (hp : Pl B w6 d m V' T T A' n' L') (hb : Below B w w6) (hk : Keep (At d m V S.fs A L) w w6) (hat : ∀ x, At d m V' T.fs A' L' x → At d m V S.fs A L x ∨ w.heap.size ≤ x)
    (hs : Keep (fun x => x = g) w6 W7) (hbx : W7.heap[g]? = some (rcS T A' n' c')) (hgB : B ≤ g) : Bt B w0 W7 d m g V' T A' n' c' L' := by
  have hg := (Array.getElem?_eq_some_iff.1 h.box).1
  have off : ∀ x, At d m V' T.fs A' L' x → x ≠ g := fun x hx e => by
    rcases hat x hx with e1 | e1
    · exact h.off x e1 e
    · omega
  exact ⟨hp.keep hs off, hbx, off, (h.bel.trans hb).trans (hs.below (fun k e => by omega) hp.hB)⟩
theorem Bt.still {B : Nat} {w0 w w6 : World} {d m g : Nat} {V : ByteArray → Value} {S : St} {A : Option Addr} {n c : Nat} {L : List RF} (h : Bt B w0 w d m g V S A n c L) (hk : Keep (At d m V S.fs A L) w w6) : w6.heap[g]? = some (rcS S A n c) :=
  (hk.block g ((Array.getElem?_eq_some_iff.1 h.box).1) (fun e => h.off g e rfl)).trans h.box
/- behind the operations: the names that were told, the program's disk goes on alone -/
structure Af (B : Nat) (w0 w : World) (d m g : Nat) (V : ByteArray → Value) (S T : St) (A : Option Addr) (q c : Nat) (L : List RF) (An : Option Addr) : Prop where
  pl : Pl B w d m V S T A q L
  box : w.heap[g]? = some (rcS S A q c)
  off : ¬ Fp d m V T.fs g
  nms : Nms w An S.fs
  nof : ∀ x, An = some x → ¬ Fp d m V T.fs x.block ∧ x.block < w.heap.size
  bel : Below B w0 w
section
variable {B : Nat} {w0 w w1 : World} {d m g : Nat} {V V' : ByteArray → Value} {S T U : St} {A : Option Addr} {q c : Nat} {L : List RF} {An : Option Addr}
theorem Af.below (h : Af B w0 w d m g V S T A q c L An) (hb : Below w.heap.size w w1) : Af B w0 w1 d m g V S T A q c L An :=
  ⟨h.pl.below hb, (hb.block g ((Array.getElem?_eq_some_iff.1 h.box).1)).trans h.box, h.off, h.nms.below hb, fun x e => ⟨(h.nof x e).1, Nat.lt_of_lt_of_le (h.nof x e).2 hb.size⟩, h.bel.trans (hb.mono h.pl.hB)⟩
theorem Af.step (h : Af B w0 w d m g V S T A q c L An) (hd : Dk w1 d m V' U) (hk : Keep (Fp d m V T.fs) w w1) (hf : ∀ x, Fp d m V' U.fs x → Fp d m V T.fs x ∨ w.heap.size ≤ x) : Af B w0 w1 d m g V' S U A q c L An := by
  obtain ⟨p1, b1, _⟩ := h.pl.first hd hk hf
  have hg := (Array.getElem?_eq_some_iff.1 h.box).1
  refine ⟨p1, (hk.block g hg h.off).trans h.box, fun e => ?_, h.nms.keep hk (fun x e => (h.nof x e).1), fun x e => ⟨fun e2 => ?_, Nat.lt_of_lt_of_le (h.nof x e).2 hk.size⟩, h.bel.trans b1⟩
  · rcases hf g e with e1 | e1
    · exact h.off e1
    · omega
  · have := (h.nof x e).2
    rcases hf _ e2 with e1 | e1
    · exact (h.nof x e).1 e1
    · omega
theorem Af.of (h : Bt B w0 w d m g V S A q c L) (hb : Below w.heap.size w w1) (hn : Nms w1 An S.fs) (ha : ∀ x, An = some x → w.heap.size ≤ x.block ∧ x.block < w1.heap.size) : Af B w0 w1 d m g V S S A q c L An :=
  ⟨h.pl.below hb, (h.below hb).box, fun e => h.off g (.inl e) rfl, hn, fun x e => ⟨fun e2 => by have := h.pl.lt _ (.inl e2); have := (ha x e).1; omega, (ha x e).2⟩, (h.below hb).bel⟩
end
set_option maxHeartbeats 4000000 in
theorem falls_small (W : World) (a0 : Option Addr) (N c0 : Nat) (O : List OP) (hl : O.length = N) (hx : Opr W a0 O) (hk : ∀ i, i < N → Oko W (O.getD i oz)) (hc : N ≤ c0) (hm : N ≤ 140737488355328) (a1 : Option Addr) (K c1 : Nat) (kp : List Int) (hl1 : kp.length = K) (hx1 : Ints W a1 kp) (hc1 : K ≤ c1) (hy1 : a1 = none → c1 = 0) (h3 : K ≤ 300) :
    Calls Try.prog 3 #[.slice a0 N c0, .slice a1 K c1] W fun e w' => e = .returned (.bool true) ∧ Below W.heap.size W w' := by
  have d3 : decide ((300 : Int) < (K : Int)) = false := by simp; omega
  have C0 := Lib.hid (new_b W 10000 (by omega))
  have HL := Lib.hid hl
  have HX := Lib.hid hx
  have HK := Lib.hid hk
  have HC := Lib.hid hc
  have HM := Lib.hid hm
  have HL1 := Lib.hid hl1
  have HX1 := Lib.hid hx1
  have HY1 := Lib.hid hy1
  have HC1 := Lib.hid hc1
  clear hl hx hk hc hm hl1 hx1 hy1 hc1
  go_enter Try.func3, Try.ntmps3
  go_wp2_with fail
  refine C0.out.mono ?_
  rintro e w1 ⟨d, m, V, rfl, hdb, hb1⟩
  have DB := Lib.hid hdb
  have B1 := Lib.hid hb1
  clear hdb hb1 C0
  go_wp2_with fail
  refine (fixed_any w1).mono ?_
  rintro e w2 ⟨rfl, hb2⟩
  have B2 := Lib.hid hb2
  clear hb2
  have k0 := heap_alloc_new w2 (rc 10000 none 0 0 false 0 false 0 0)
  have b3 := below_alloc w2 (rc 10000 none 0 0 false 0 false 0 0)
  obtain ⟨W3, hW3⟩ : ∃ W3, w2.alloc (rc 10000 none 0 0 false 0 false 0 0) = W3 := ⟨_, rfl⟩
  rw [hW3] at k0 b3
  have B3 := Lib.hid b3
  have B03 := Lib.hid ((below_go (below_go B1.out B2.out) B3.out))
  have lt0 : Hid (∀ x, Fp d m V (St0 10000).fs x → x < w1.heap.size) := Lib.hid (fun x hx => DB.out.dk.lt x hx)
  have LT3 : Hid (∀ x, At d m V (St0 10000).fs none [] x → x < W3.heap.size) := Lib.hid (fun x hx => by
    rcases hx with e | ⟨a, e, _⟩ | ⟨r, hr, _⟩
    · have := lt0.out x e; have := B2.out.size; have := B3.out.size; omega
    · cases e
    · simp at hr)
  have NG : Hid (∀ x, At d m V (St0 10000).fs none [] x → x ≠ w2.heap.size) := Lib.hid (fun x hx => by
    rcases hx with e | ⟨a, e, _⟩ | ⟨r, hr, _⟩
    · have := lt0.out x e; have := B2.out.size; omega
    · cases e
    · simp at hr)
  have BT := Lib.hid (show Bt W.heap.size W W3 d m w2.heap.size V (St0 10000) none 0 0 [] from
    ⟨⟨(DB.out.below B2.out).below B3.out, ⟨rfl, ⟨Fls.nil _ _, fun r hr => (by simp at hr)⟩, rfl⟩, B03.out.size, ⟨fun a e => (by cases e), fun r hr => (by simp at hr)⟩, LT3.out, by decide⟩, k0, NG.out, B03.out⟩)
  have HW := Lib.hid hW3
  have GB := Lib.hid (show W.heap.size ≤ w2.heap.size from (below_go B1.out B2.out).size)
  clear hW3 k0 b3 lt0 LT3 NG
  have CU := Lib.hid (cut_any W3 a0 N c0 O HL.out (HX.out.below B03.out) (fun i hi => ⟨(HK.out i hi).nm, (HK.out i hi).nt, (HK.out i hi).b47, (HK.out i hi).k47⟩) HC.out HM.out)
  go_wp2_with fail
  rw [HW.out]
  refine CU.out.mono ?_
  rintro e w4 ⟨n, rfl, hnN, hn1, hsm, hb4⟩
  have BT4 := Lib.hid (BT.out.below hb4)
  have SM := Lib.hid hsm
  clear hsm hb4 CU HW BT B1 B2 B3 B03 DB
  generalize w2.heap.size = g at *
  go_wp2_with fail
  go_loopw [38] (fun i wr => ∃ j : Nat, j ≤ n ∧ i = .int .i64 j ∧ Hid (∃ V S A q c L, Bt W.heap.size W wr d m g V S A q c L)) (fun i _ => n - (intOf i).toNat)
  case atStart => exact ⟨0, Nat.zero_le _, rfl, Lib.hid ⟨V, _, _, _, _, _, BT4.out⟩⟩
  case round =>
  obtain ⟨j, hj, rfl, H⟩ := hrel
  by_cases hlt : j < n
  · obtain ⟨V0, S, A, q, c, L, bt⟩ := H.out
    have HB := Lib.hid bt
    obtain ⟨b, off, rfl, x0, x1, x2, x3, x4, x5, x6⟩ := HX.out.below bt.bel j (by rw [HL.out]; omega)
    have hbl := World.block_lt_of_cell? _ _ x0
    have HO := Lib.hid (HK.out j (by omega))
    have HS := Lib.hid (SM.out j hlt)
    generalize O.getD j oz = o at *
    have k0 := heap_alloc_new wr (oc o)
    have b5 := below_alloc wr (oc o)
    obtain ⟨W5, hW5⟩ : ∃ W5, wr.alloc (oc o) = W5 := ⟨_, rfl⟩
    rw [hW5] at k0 b5
    have HW := Lib.hid hW5
    have K0 := Lib.hid k0
    have B5 := Lib.hid b5
    have BT5 := Lib.hid (HB.out.below b5)
    obtain ⟨lb, hlb, hyb⟩ := HO.out.bs
    obtain ⟨lk, hlk, hyk⟩ := HO.out.ks
    have DD := Lib.hid (do_any (c := c) BT5.out.pl o (HO.out.below BT5.out.bel) HS.out lb hlb (fun W' hW' => hyb.below (BT5.out.bel.trans hW')) lk hlk (fun W' hW' => hyk.below (BT5.out.bel.trans hW')))
    clear hW5 k0 b5 bt H hyb hyk hlb hlk
    obtain ⟨y0, y1, y2, y3, y4, y5, y6, f0, f1, f2, f3, f4, f5, f6, hg0⟩ := look7 HB.out.box
    have hgw : g ≠ wr.heap.size := by omega
    have jn : (j : Int) < (c0 : Int) := by have := HC.out; omega
    have j7 : (j : Int) < (n : Int) := by omega
    go_wp2_with fail
    rw [show wr.alloc (.cells #[.int .i64 o.q, .string o.nm, .string o.nt, .slice o.ba o.bn o.bc, .int .i64 o.n, .int .i64 o.k, .slice o.ka o.kn o.kc] 35) = W5 from HW.out]
    refine DD.out.mono ?_
    rintro e w6 ⟨ok, V6, T, A6, n6, c6, L6, rfl, hp, hb6, hk6, hat6⟩
    have bx6 := BT5.out.still hk6
    clear y0 y1 y2 y3 y4 y5 y6 f0 f1 f2 f3 f4 f5 f6 hg0 x0 x1 x2 x3 x4 x5 x6 hbl
    obtain ⟨y0, y1, y2, y3, y4, y5, y6, f0, f1, f2, f3, f4, f5, f6, hg0⟩ := look7 bx6
    obtain ⟨W7, hW7, k7, kk7, ks7, kb7⟩ := boxed bx6 (.int .i64 (T.room : Int)) (.slice A6 n6 c6) (.bool (!T.up)) (.int .i64 T.falls) (.bool T.lit) (.int .i64 (T.acts : Int)) (.int .i64 (T.part : Int))
    have hs7 : Keep (fun x => x = g) w6 W7 := by rw [← hW7]; exact keep7 (F := fun x => x = g) (Keep.refl _ _) g rfl _ _ _ _ _ _ _
    have FIN := Lib.hid (BT5.out.did hp hb6 hk6 hat6 hs7 k7 GB.out)
    have HW7 := Lib.hid hW7
    clear hp hb6 hk6 hat6 bx6 hW7 k7 kk7 ks7 kb7 hs7 DD HW K0 B5 HB BT5
    go_wp2_with fail
    rw [HW7.out]
    go_roundw
    case rel => exact ⟨j + 1, by omega, by go_num, Lib.hid ⟨V6, T, A6, n6, c6, L6, FIN.out⟩⟩
    case measure => simp [intOf]; omega
  obtain ⟨V0, S, A, q, c, L, bt⟩ := H.out
  have CL := Lib.hid (list_any bt.pl.db.dk)
  have HBT := Lib.hid bt
  clear bt H BT4 SM
  go_wp2_with fail
  refine CL.out.mono ?_
  rintro e w5 ⟨An, cn, rfl, hnm, han, hb5⟩
  have F5 := Lib.hid (Af.of HBT.out hb5 hnm han)
  clear hnm han hb5 HBT CL
  have CC := Lib.hid (crash_any F5.out.pl.db.dk)
  go_wp2_with fail
  refine CC.out.mono ?_
  rintro e w6 ⟨rfl, hd6, hk6⟩
  have F6 := Lib.hid (F5.out.step hd6 hk6 (fun x hx => .inl hx))
  clear hd6 hk6 CC F5
  have CUp := Lib.hid (up_any F6.out.pl.db.dk)
  rw [show (down S).up = false from rfl] at CUp
  go_wp2_with fail
  refine CUp.out.mono ?_
  rintro e w' ⟨rfl, rfl⟩
  clear CUp
  have CA := Lib.hid (append_down F6.out.pl.db.dk ⟨#[97]⟩ (.slice none 0 0) rfl)
  go_wp2_with fail
  refine CA.out.mono ?_
  rintro e w7 ⟨rfl, V7, hd7, hk7, hf7⟩
  have F7 := Lib.hid (F6.out.step hd7 hk7 hf7)
  clear hd7 hk7 hf7 CA F6
  have ba := below_alloc w7 (.cells #[] 3)
  have O0 := Lib.hid (rowI_made w7)
  have J0 := Lib.hid (HX1.out.below (F7.out.bel.trans (ba.mono F7.out.pl.hB)))
  have BA := Lib.hid ba
  clear ba
  go_wp2_with (at_builtin; refine wp_appi _ rfl _ _ rfl w7.heap.size _ rfl O0.out a1 K c1 kp rfl HL1.out J0.out HY1.out (by omega) BA.out.size ?_; intro Ac cc w8 hI8 hfar8 hb8)
  have F8 := Lib.hid (F7.out.below (BA.out.trans hb8))
  have lt7 := F7.out.pl.db.dk.lt
  have CW := Lib.hid (wake_any F8.out.pl.db.dk Ac K cc kp HL1.out hI8 (fun x e => ⟨fun q => by have := lt7 _ q; have := (hfar8 x e).1; omega, (hfar8 x e).2⟩) (by omega))
  clear hI8 hfar8 hb8 lt7 F7 O0 J0 BA
  go_wp2_with fail
  refine CW.out.mono ?_
  rintro e w9 ⟨rfl, V9, hd9, hk9, hf9⟩
  have F9 := Lib.hid (F8.out.step hd9 hk9 hf9)
  have T9 : woke (down S) kp = ⟨(down S).room, wkL kp 0 S.fs, true, (down S).falls, (down S).lit, (down S).acts, (down S).part⟩ := by unfold woke; rw [show (down S).up = false from rfl]; rfl
  rw [T9] at F9
  clear hd9 hk9 hf9 CW F8 T9
  generalize (down S).room = r1 at F9
  generalize (down S).falls = r2 at F9
  generalize (down S).lit = r3 at F9
  generalize (down S).acts = r4 at F9
  generalize (down S).part = r5 at F9
  have CL2 := Lib.hid (list_any F9.out.pl.db.dk)
  go_wp2_with fail
  refine CL2.out.mono ?_
  rintro e w10 ⟨Al, cl, rfl, hnl, hal, hb10⟩
  have F10 := Lib.hid (F9.out.below hb10)
  have NL := Lib.hid hnl
  have ln : (wkL kp 0 S.fs).length = S.fs.length := wkL_len _ _ _
  have CU2 := Lib.hid (up_any F10.out.pl.db.dk)
  clear hnl hal hb10 CL2 F9
  have HQ := Lib.hid (show S.fs.length = q from F10.out.pl.rd.many.symm)
  have hq3 : q ≤ 256 := by
    have := F10.out.pl.db.dk.ok.many
    simp only [wkL_len] at this
    rw [HQ.out] at this
    exact this
  clear ln
  simp only [wkL_len]
  rw [HQ.out]
  obtain ⟨y0, y1, y2, y3, y4, y5, y6, f0, f1, f2, f3, f4, f5, f6, hg0⟩ := look7 F10.out.box
  go_wp2_with fail
  refine CU2.out.mono ?_
  rintro e w' ⟨rfl, rfl⟩
  clear CU2
  go_wp2_with fail
  go_loopw [81] (fun i wr => ∃ i' : Nat, i' ≤ q ∧ i = .int .i64 i' ∧ Below w10.heap.size w10 wr) (fun i _ => q - (intOf i).toNat)
  case atStart => exact ⟨0, Nat.zero_le _, rfl, Below.refl _ _⟩
  case round =>
  obtain ⟨i, hi, rfl, hbe⟩ := hrel
  have BE := Lib.hid hbe
  clear hbe y0 y1 y2 y3 y4 y5 y6 f0 f1 f2 f3 f4 f5 f6 hg0
  by_cases hlt2 : i < q
  · have F := Lib.hid (F10.out.below BE.out)
    have hLi : i < L.length := by rw [F.out.pl.rd.len]; exact hlt2
    obtain ⟨bf, off, rfl, x0, x1, x2⟩ := F.out.pl.rd.rs.fls i hLi
    have hmem : L.getD i rz ∈ L := by rw [List.getD_eq_getElem?_getD, List.getElem?_eq_getElem hLi]; exact List.getElem_mem hLi
    obtain ⟨yB, hrc, _⟩ := F.out.pl.rd.rs.hdr _ hmem
    have hfs : (L.getD i rz).f = S.fs.getD i fz := by
      rw [← F.out.pl.rd.fs, List.getD_eq_getElem?_getD, List.getD_eq_getElem?_getD, fls, List.getElem?_map, List.getElem?_eq_getElem hLi]; rfl
    have hSi : i < S.fs.length := by rw [HQ.out]; exact hlt2
    have hwg : (wkL kp 0 S.fs).getD i fz = wk kp i (L.getD i rz).f := by rw [wkL_get kp S.fs 0 i hSi, Nat.zero_add, hfs]
    have hwm : wk kp i (L.getD i rz).f ∈ wkL kp 0 S.fs := by
      rw [← hwg, List.getD_eq_getElem?_getD, List.getElem?_eq_getElem (by rw [wkL_len]; exact hSi)]; exact List.getElem_mem _
    have okT := F.out.pl.db.dk.ok
    have okf := okT.file _ hwm
    have hff : fnd (wkL kp 0 S.fs) (L.getD i rz).f.nm = some (wk kp i (L.getD i rz).f) := fnd_of okT.rise hwm rfl
    obtain ⟨bn, on, eAn, cN⟩ := F.out.nms i hSi
    obtain ⟨bl, ol, eAl, cL⟩ := NL.out.below BE.out i (by simp only [wkL_len]; exact hSi)
    simp only [hwg] at cL
    rw [← hfs] at cN
    subst eAn eAl
    generalize L.getD i rz = r at *
    have hsz := okT.room
    have husd := okT.used
    have s1 : r.f.sf + mor kp i r.f ≤ r.f.bs.length := by
      have := okf.safe
      simp only [wk, List.length_take] at this
      omega
    have lnf : (wk kp i r.f).bs.length = r.f.sf + mor kp i r.f := by simp only [wk, List.length_take]; omega
    have hns : r.f.nm.size ≤ maxLen := by have := okf.n2; simp only [wk] at this; unfold maxLen; omega
    have b5 := below_alloc wr (.cells #[.string r.f.nm, .slice r.A r.f.bs.length r.c, .int .i64 (r.f.sf : Int)] 43)
    have RDx := Lib.hid (read_some (F.out.below b5).pl.db.dk r.f.nm hns rfl (wk kp i r.f) hff)
    have F5 := Lib.hid (F.out.below b5)
    have B5 := Lib.hid b5
    have YB := Lib.hid yB
    have HF := Lib.hid hff
    have hb1 := World.block_lt_of_cell? _ _ x0
    have cN' := Lib.hid cN
    have cL' := Lib.hid cL
    clear b5 yB hff hwg hwm hfs hmem okT okf hLi hSi
    have i0 : (0 : Int) ≤ (i : Int) := by omega
    have i1 : (i : Int) < (q : Int) := by omega
    have HLT := Lib.hid hlt2
    go_wp2_with fail
    refine RDx.out.mono ?_
    rintro e w11 ⟨A11, c11, rfl, hO11, hb11⟩
    rw [lnf]
    have hY11 := hO11.byt (fun c hc => YB.out.2 c (List.mem_of_mem_take hc))
    obtain ⟨fl, hfl⟩ : ∃ fl, r.f.sf + mor kp i r.f = fl := ⟨_, rfl⟩
    rw [hfl] at lnf s1 ⊢
    have F11 := Lib.hid (F5.out.below hb11)
    have B11 := Lib.hid (below_go (below_go BE.out B5.out) hb11)
    have bsame : (wk kp i r.f).bs = r.f.bs.take fl := by simp only [wk, hfl]
    have q0 : w11.cell? ⟨wr.heap.size, 0, none⟩ = some (.string r.f.nm) := (hb11.cell (p := ⟨wr.heap.size, 0, none⟩) (by simp)).trans (by simp [go_sem])
    have q1 : w11.cell? ⟨wr.heap.size, 1, none⟩ = some (.slice r.A r.f.bs.length r.c) := (hb11.cell (p := ⟨wr.heap.size, 1, none⟩) (by simp)).trans (by simp [go_sem])
    have q2 : w11.cell? ⟨wr.heap.size, 2, none⟩ = some (.int .i64 (r.f.sf : Int)) := (hb11.cell (p := ⟨wr.heap.size, 2, none⟩) (by simp)).trans (by simp [go_sem])
    have bb11 := below_go B5.out hb11
    have cN2 : w11.cell? ⟨bn, on + i, none⟩ = some (.string r.f.nm) := (bb11.cell (p := ⟨bn, on + i, none⟩) (World.block_lt_of_cell? _ _ cN'.out)).trans cN'.out
    have cL2 : w11.cell? ⟨bl, ol + i, none⟩ = some (.string r.f.nm) := (bb11.cell (p := ⟨bl, ol + i, none⟩) (World.block_lt_of_cell? _ _ cL'.out)).trans cL'.out
    have z0 : wr.heap.size < w11.heap.size := World.block_lt_of_cell? _ _ q0
    have z1 := World.block_lt_of_cell? _ _ cN2
    have z2 := World.block_lt_of_cell? _ _ cL2
    have st1 := fun j => run_str (w11.drewN j) A11 fl c11 (r.f.bs.take fl) (by rw [List.length_take]; omega) (Byt.below (by rw [← bsame]; exact hY11) (below_drewN _ _ _))
    have st2 := fun j => run_str (w11.drewN j) r.A fl r.c (r.f.bs.take fl) (by rw [List.length_take]; omega) (Byt.below ((YB.out.below bb11).take fl) (below_drewN _ _ _))
    have st5 := run_str w11 A11 fl c11 (r.f.bs.take fl) (by rw [List.length_take]; omega) (by rw [← bsame]; exact hY11)
    have st6 := run_str w11 r.A fl r.c (r.f.bs.take fl) (by rw [List.length_take]; omega) ((YB.out.below bb11).take fl)
    have st3 := run_str w11.drew A11 fl c11 (r.f.bs.take fl) (by rw [List.length_take]; omega) (Byt.below (by rw [← bsame]; exact hY11) ((Below.refl _ _).drew))
    have st4 := run_str w11.drew r.A fl r.c (r.f.bs.take fl) (by rw [List.length_take]; omega) (Byt.below ((YB.out.below bb11).take fl) ((Below.refl _ _).drew))
    have SF := Lib.hid (fun (W' : World) (hW : Below w11.heap.size w11 W') => safe_any (F11.out.below hW).pl.db.dk r.f.nm (wk kp i r.f) HF.out hns)
    rw [show (wk kp i r.f).sf = fl from hfl] at SF
    have SQ := Lib.hid (fun j => (SF.out (w11.drewN j) (below_drewN _ _ _)).mono (fun e w' h => (⟨h.1, h.2.symm⟩ : e = _ ∧ w' = w11.drewN j)))
    have sf1 : r.f.sf ≤ fl := by omega
    have frc : (fl : Int) ≤ (r.c : Int) := by omega
    clear hO11 hY11 bb11 hb11 F F5 B5 YB RDx cN' cL' bsame hfl lnf
    generalize strOfNums (r.f.bs.take fl) = Z at st1 st2 st3 st4 st5 st6
    generalize r.f.nm = nm at *
    generalize r.f.sf = sf at *
    generalize r.f.bs.length = rl at *
    generalize r.A = rA at *
    generalize r.c = rcc at *
    have g1 : decide (fl < sf) = false := by simp; omega
    have g2 : decide (rl < fl) = false := by simp; omega
    have g3 : decide ((fl : Int) < (sf : Int)) = false := by simp; omega
    have g4 : decide ((rl : Int) < (fl : Int)) = false := by simp; omega
    have fl0 : (0 : Int) ≤ (fl : Int) := by omega
    clear x0 x1 x2 hb1 HF hrc
    go_wp2_with fail
    go_quiet (first | (go_at_call 15; refine Calls.quiet_of_same (SQ.out _)))
    have BX := Lib.hid (B11.out.trans (below_drewN w10.heap.size w11 nq))
    go_wp2_with fail
    go_roundw
    case rel => exact ⟨i + 1, by have := HLT.out; omega, by go_num, BX.out⟩
    case measure => have := HLT.out; simp [intOf]; omega
  have hiq : i = q := by omega
  subst hiq
  go_wp2_with fail
  go_ret
  exact ⟨rfl, F10.out.bel.trans (BE.out.mono F10.out.pl.hB)⟩
theorem falls_walk (W : World) (a0 : Option Addr) (N c0 : Nat) (O : List OP) (hl : O.length = N) (hx : Opr W a0 O) (hk : ∀ i, i < N → Oko W (O.getD i oz)) (hc : N ≤ c0) (hm : N ≤ 140737488355328) (a1 : Option Addr) (K c1 : Nat) (kp : List Int) (hl1 : kp.length = K) (hx1 : Ints W a1 kp) (hc1 : K ≤ c1) (hy1 : a1 = none → c1 = 0) (hm1 : K ≤ 140737488355328) :
    Calls Try.prog 3 #[.slice a0 N c0, .slice a1 K c1] W fun e w' => e = .returned (.bool true) ∧ Below W.heap.size W w' := by
  by_cases h : 300 < K
  · exact falls_great W a0 a1 N c0 K c1 h hm1
  · exact falls_small W a0 N c0 O hl hx hk hc hm a1 K c1 kp hl1 hx1 hc1 hy1 (by omega)
end Go.Proofs.Ytahjodpaikhhmaa
