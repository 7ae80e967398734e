/- AutoRises, walked. -/
import Derived.Test.YtdplflpjcjkhdaaDoorAuF
import Derived.Test.YtdplflpjcjkhdaaDoorMW
import Derived.BigQuiet
import Derived.Deep.RegionHeld3
namespace Go.Proofs.YtdplflpjcjkhdaaDoor
open Go Go.RowKit Pk Rl
set_option maxRecDepth 20000

theorem dk_symm {a b : EV} (h : Dk a b) : Dk b a := fun e => h ⟨e.1.symm, e.2.symm⟩
/- the edges of an automaton: rising, within its places, each pair once -/
structure Rz (N : Nat) (Es : List Ed) : Prop where
  each : ∀ i, i < Es.length → (Es.getD i ed0).f < (Es.getD i ed0).t ∧ (Es.getD i ed0).t < N
  rise : ∀ i, i + 1 < Es.length → (Es.getD i ed0).f < (Es.getD (i + 1) ed0).f ∨ (Es.getD i ed0).f = (Es.getD (i + 1) ed0).f ∧ (Es.getD i ed0).t < (Es.getD (i + 1) ed0).t
theorem rz_of {L : List Nd} {win : Int} (h : mp L win = 0) {Es : List Ed} (hp : (Es.map ve).Perm (au 33 L 0).2.2.2) (hk : Kyl Es) : Rz (au 33 L 0).2.2.1.length Es := by
  have T := mp_top h
  have ok := au_ok 33 L T.fm T.fr 0
  have nd : (Es.map ve).Pairwise Dk := (hp.pairwise_iff (fun h => dk_symm h)).2 ok.nd
  have hget : ∀ i, i < Es.length → Es.getD i ed0 ∈ Es := fun i hi => by rw [List.getD_eq_getElem?_getD, List.getElem?_eq_getElem hi]; exact List.getElem_mem _
  refine ⟨fun i hi => ?_, fun i hi => ?_⟩
  · have hm := hp.mem_iff.1 (List.mem_map.2 ⟨_, hget i hi, rfl⟩)
    have := ok.er _ hm
    simp only [ve, Nat.zero_add] at this
    exact ⟨this.2.1, this.2.2⟩
  · have h1 := hk i (i + 1) (by omega) hi
    rw [List.pairwise_map] at nd
    have h2 := List.pairwise_iff_getElem.1 nd i (i + 1) (by omega) hi (by omega)
    unfold Dk ve at h2
    have e1 : Es.getD i ed0 = Es[i]'(by omega) := by rw [List.getD_eq_getElem?_getD, List.getElem?_eq_getElem (by omega)]; rfl
    have e2 : Es.getD (i + 1) ed0 = Es[i + 1]'hi := by rw [List.getD_eq_getElem?_getD, List.getElem?_eq_getElem hi]; rfl
    rw [e1, e2] at h1 ⊢
    simp only at h2
    omega
/- behind Compile -/
structure RX (w W : World) (g1 g4 : Nat) (A : Option Addr) (k c : Nat) (win : Int) (D : List Nd) (r : Nat) (Ap : Option Addr) (kp cp : Nat) (a b : Nat) (Ae : Option Addr) (ke ce : Nat) (Ps : List Qu) (Es : List Ed) : Prop where
  p : PtB W g1 A k c win
  ab : AB W g4 Ap kp cp (a : Int) (b : Int) Ae ke ce
  pt : Pt W A k c D
  tab : Tab W
  tab5 : Tab5 W
  mi : Mi W r Ap kp cp Ae ke ce Ps Es
  bel : Below w.heap.size w W
theorem Mi.next {W W' : World} {r : Nat} {Ap : Option Addr} {kp cp : Nat} {Ae : Option Addr} {ke ce : Nat} {Ps : List Qu} {Es : List Ed} (h : Mi W r Ap kp cp Ae ke ce Ps Es) (hb : Below W.heap.size W W') : Mi W' r Ap kp cp Ae ke ce Ps Es :=
  h.same (fun x o hx _ => by rw [hb.block x (Array.getElem?_eq_some_iff.1 hx).1]; exact hx)
theorem RX.next {w W W' : World} {g1 g4 : Nat} {A : Option Addr} {k c : Nat} {win : Int} {D : List Nd} {r : Nat} {Ap : Option Addr} {kp cp a b : Nat} {Ae : Option Addr} {ke ce : Nat} {Ps : List Qu} {Es : List Ed} (h : RX w W g1 g4 A k c win D r Ap kp cp a b Ae ke ce Ps Es) (hb : Below W.heap.size W W') : RX w W' g1 g4 A k c win D r Ap kp cp a b Ae ke ce Ps Es :=
  ⟨h.p.next hb, h.ab.below hb h.ab.lt, h.pt.below hb, h.tab.below hb, h.tab5.below hb, h.mi.next hb, below_go h.bel hb⟩
/- an edge in its row -/
theorem Mi.edge {W : World} {r : Nat} {Ap : Option Addr} {kp cp : Nat} {Ae : Option Addr} {ke ce : Nat} {Ps : List Qu} {Es : List Ed} (h : Mi W r Ap kp cp Ae ke ce Ps Es) (hk : 0 < ke) : ∃ g, Ae = some ⟨g, 0, none⟩ ∧ g < W.heap.size ∧ ∀ i, i < ke → W.cell? ⟨g, i * 6, none⟩ = some (.int .u8 ((Es.getD i ed0).f : Int)) ∧ W.cell? ⟨g, i * 6 + 1, none⟩ = some (.int .u8 ((Es.getD i ed0).t : Int)) ∧ W.cell? ⟨g, i * 6 + 2, none⟩ = some (.bool (Es.getD i ed0).y) ∧ W.cell? ⟨g, i * 6 + 3, none⟩ = some (.bool (Es.getD i ed0).g.x) ∧ W.cell? ⟨g, i * 6 + 4, none⟩ = some (.int .u8 (Es.getD i ed0).g.t) ∧ W.cell? ⟨g, i * 6 + 5, none⟩ = some (.slice (Es.getD i ed0).g.a (Es.getD i ed0).g.n (Es.getD i ed0).g.c) := by
  have hre := h.re
  rcases hre.2 with ⟨_, h0⟩ | ⟨g, cap, cur, e, _, hh, _⟩
  · have := h.le; omega
  · injection e with e1 _ _
    refine ⟨g, e1, (Array.getElem?_eq_some_iff.1 hh).1, fun i hi => ?_⟩
    have key : ∀ j u, j < 6 → (ecl (Es.getD i ed0))[j]? = some u → W.cell? ⟨g, i * 6 + j, none⟩ = some u := fun j u hj hu => by
      have := World.ownsRow.cells hre (g := g) (by rw [e1]; rfl) (i * 6 + j) u (by rw [ecls_get Es i (by rw [h.le]; exact hi) j hj]; exact hu)
      rwa [add_plain, Nat.zero_add] at this
    exact ⟨key 0 _ (by omega) rfl, key 1 _ (by omega) rfl, key 2 _ (by omega) rfl, key 3 _ (by omega) rfl, key 4 _ (by omega) rfl, key 5 _ (by omega) rfl⟩
theorem csm_of {L D : List Nd} {m : Nat} (h : D.map (cn 10) = (L.take m).map (cn 10)) (hs : ∀ v ∈ L, Sm v) (hl : ∀ v ∈ D, v.p.L.length ≤ 10 ∧ v.g.L.length ≤ 10) : ∀ v ∈ D, Sm v := by
  intro v hv
  have : cn 10 v ∈ (L.take m).map (cn 10) := by rw [← h]; exact List.mem_map.2 ⟨v, hv, rfl⟩
  obtain ⟨u, hu, e⟩ := List.mem_map.1 this
  have hs := hs u (List.mem_of_mem_take hu)
  unfold cn cq at e
  simp only [Prod.mk.injEq] at e
  obtain ⟨_, ⟨_, _, e1⟩, _, ⟨_, _, e2⟩, _⟩ := e
  have hl := hl v hv
  rw [List.take_of_length_le hl.1] at e1
  rw [List.take_of_length_le hl.2] at e2
  refine ⟨fun t ht => hs.1 t ?_, fun t ht => hs.2 t ?_⟩
  · rw [← e1] at ht; exact List.mem_of_mem_take ht
  · rw [← e2] at ht; exact List.mem_of_mem_take ht
structure CX (w W : World) (g1 : Nat) (A : Option Addr) (k c : Nat) (win : Int) (D : List Nd) : Prop where
  p : PtB W g1 A k c win
  pt : Pt W A k c D
  tab : Tab W
  tab5 : Tab5 W
  bel : Below w.heap.size w W
theorem CX.next {w W W' : World} {g1 : Nat} {A : Option Addr} {k c : Nat} {win : Int} {D : List Nd} (h : CX w W g1 A k c win D) (hb : Below W.heap.size W W') : CX w W' g1 A k c win D :=
  ⟨h.p.next hb, h.pt.below hb, h.tab.below hb, h.tab5.below hb, below_go h.bel hb⟩
structure MZ (w W : World) (g4 g9 : Nat) (Ap : Option Addr) (kp cp a b : Nat) (Ae : Option Addr) (ke ce : Nat) (A : Option Addr) (k c : Nat) (D : List Nd) (nd : Nd) (At : Option Addr) (m Ct : Nat) (F : Nat → Prop) : Prop where
  ab : AB W g4 Ap kp cp (a : Int) (b : Int) Ae ke ce
  t : Trb W g9 nd At m Ct
  pt : Pt W A k c D
  tr : Trs 33 W F At (pts D)
  fb : ∀ b, F b → b < W.heap.size
  tab : Tab W
  tab5 : Tab5 W
  bel : Below w.heap.size w W
theorem MZ.next {w W W' : World} {g4 g9 : Nat} {Ap : Option Addr} {kp cp a b : Nat} {Ae : Option Addr} {ke ce : Nat} {A : Option Addr} {k c : Nat} {D : List Nd} {nd : Nd} {At : Option Addr} {m Ct : Nat} {F : Nat → Prop} (h : MZ w W g4 g9 Ap kp cp a b Ae ke ce A k c D nd At m Ct F) (hb : Below W.heap.size W W') : MZ w W' g4 g9 Ap kp cp a b Ae ke ce A k c D nd At m Ct F :=
  ⟨h.ab.below hb h.ab.lt, h.t.below hb h.t.lt, h.pt.below hb, h.tr.below hb h.fb, fun b hf => Nat.lt_of_lt_of_le (h.fb b hf) hb.size, h.tab.below hb, h.tab5.below hb, below_go h.bel hb⟩
abbrev Kz (w W : World) (g4 g9 : Nat) (Ap : Option Addr) (kp cp a b : Nat) (Ae : Option Addr) (ke ce : Nat) (A : Option Addr) (k c : Nat) (D : List Nd) (nd : Nd) (At : Option Addr) (m Ct : Nat) (F : Nat → Prop) : Prop :=
  W.cell? ⟨g4, 1, none⟩ = some (.int .u32 (a : Int)) ∧ W.cell? ⟨g4, 2, none⟩ = some (.int .u32 (b : Int)) ∧
  W.cell? ⟨g9, 0, none⟩ = some (.int .u8 nd.k) ∧ W.cell? ⟨g9, 1, none⟩ = some (.bool nd.p.x) ∧ W.cell? ⟨g9, 2, none⟩ = some (.int .u8 nd.p.t) ∧ W.cell? ⟨g9, 3, none⟩ = some (.slice nd.p.a nd.p.n nd.p.c) ∧
  W.cell? ⟨g9, 4, none⟩ = some (.bool nd.y) ∧ W.cell? ⟨g9, 5, none⟩ = some (.bool nd.g.x) ∧ W.cell? ⟨g9, 6, none⟩ = some (.int .u8 nd.g.t) ∧ W.cell? ⟨g9, 7, none⟩ = some (.slice nd.g.a nd.g.n nd.g.c) ∧
  W.cell? ⟨g9, 8, none⟩ = some (.int .u8 nd.lo) ∧ W.cell? ⟨g9, 9, none⟩ = some (.int .u8 nd.hi) ∧ W.cell? ⟨g9, 10, none⟩ = some (.int .i64 nd.s) ∧ W.cell? ⟨g9, 11, none⟩ = some (.slice At m Ct) ∧
  Hid (MZ w W g4 g9 Ap kp cp a b Ae ke ce A k c D nd At m Ct F)
theorem kz_of {w W : World} {g4 g9 : Nat} {Ap : Option Addr} {kp cp a b : Nat} {Ae : Option Addr} {ke ce : Nat} {A : Option Addr} {k c : Nat} {D : List Nd} {nd : Nd} {At : Option Addr} {m Ct : Nat} {F : Nat → Prop} (h : MZ w W g4 g9 Ap kp cp a b Ae ke ce A k c D nd At m Ct F) : Kz w W g4 g9 Ap kp cp a b Ae ke ce A k c D nd At m Ct F := by
  obtain ⟨⟨e0, e1, e2, e3, e4, e5, e6, e7, e8, e9, e10⟩, e11⟩ := h.t.cells
  obtain ⟨_, a1, a2, _, _⟩ := h.ab.cells
  exact ⟨a1, a2, e0, e1, e2, e3, e4, e5, e6, e7, e8, e9, e10, e11, Lib.hid h⟩
theorem kz_next {w W W' : World} {g4 g9 : Nat} {Ap : Option Addr} {kp cp a b : Nat} {Ae : Option Addr} {ke ce : Nat} {A : Option Addr} {k c : Nat} {D : List Nd} {nd : Nd} {At : Option Addr} {m Ct : Nat} {F : Nat → Prop} (hb : Below W.heap.size W W') (h : Kz w W g4 g9 Ap kp cp a b Ae ke ce A k c D nd At m Ct F) : Kz w W' g4 g9 Ap kp cp a b Ae ke ce A k c D nd At m Ct F := by
  obtain ⟨_, _, _, _, _, _, _, _, _, _, _, _, _, _, h⟩ := h
  exact kz_of (h.out.next hb)
set_option maxHeartbeats 16000000 in
theorem arises_walk (a : Option Addr) (n c : Nat) (L : List Nd) (win : Int) (w : World) (hn : L.length = n) (hm : n ≤ maxLen) (hv : RN w a L) (hs : ∀ v ∈ L, Sm v) (hw0 : 0 ≤ win) (hT : Tab w) (hT5 : Tab5 w) :
    Calls Tryd.prog 3 #[ptv a n c win] w fun e w' => e = .returned (.bool true) ∧ Below w.heap.size w w' := by
  have B0 := Lib.hid (below_alloc w (xpobj a n c win))
  have PA := Lib.hid (pattern_any a n c L win (w.alloc (xpobj a n c win)) hn hm (hv.below B0.out))
  have T0 := Lib.hid (hT.below B0.out)
  have T5 := Lib.hid (hT5.below B0.out)
  have HS := Lib.hid hs
  have HW := Lib.hid hw0
  have FX := Lib.hid afixed_any
  clear hn hm hv hs hT hT5 hw0
  go_enter Tryd.func3, Tryd.ntmps3
  go_wp2_with fail
  refine PA.out.mono ?_
  rintro e w2 ⟨A, k, c', D, rfl, hDk, hDc, hDo, hb⟩
  have k40 : k ≤ 40 := by have h1 := congrArg List.length hDc; simp at h1; omega
  have pt2 := hDo.pt hDk (by omega)
  have X0 : Hid (CX w (w2.alloc (ptobj A k c' win)) w2.heap.size A k c' win D) := Lib.hid ⟨PtB.alloc _ _ _ _ _, pt2.below (below_alloc _ _), (T0.out.below hb).below (below_alloc _ _), (T5.out.below hb).below (below_alloc _ _), below_go (below_go B0.out hb) (below_alloc _ _)⟩
  have SD := Lib.hid (csm_of hDc HS.out (fun v hv => by have := pt2.ok v hv; exact ⟨by rw [this.p.len]; exact this.p.few, by rw [this.g.len]; exact this.g.few⟩))
  have K40 := Lib.hid k40
  have HK := Lib.hid hDk
  obtain ⟨g1, hg1⟩ : ∃ g, w2.heap.size = g := ⟨_, rfl⟩
  rw [hg1] at X0
  clear PA hDc hDo hb pt2 B0 T0 T5 HS k40 hDk
  have G1 := Lib.hid (fun X (h : CX w X g1 A k c' win D) => rtgreat_any A k c' D win X h.pt SD.out (by have := K40.out; omega))
  have M1 := Lib.hid (fun (h0 : mp D win ≠ 0) X (h : CX w X g1 A k c' win D) => comp_no A k c' D win X h.pt h.tab h0)
  have M2 := Lib.hid (fun (h0 : mp D win = 0) X (h : CX w X g1 A k c' win D) => comp_yes A k c' D win X h.pt h.tab h.tab5 h0)
  obtain ⟨gt, hgt⟩ : ∃ z, D.any gr = z := ⟨_, rfl⟩
  rw [hgt] at G1
  clear hgt SD
  go_wp2_with fail
  refine (G1.out _ X0.out).mono ?_
  rintro e w3 ⟨rfl, hb⟩
  have X3 := Lib.hid (X0.out.next hb)
  have q0 := X3.out.p.c0
  have q1 := X3.out.p.c1
  clear hb X0 G1
  cases gt
  case true =>
    go_wp2_with fail
    refine (FX.out _ X3.out.tab X3.out.tab5).mono ?_
    rintro e w4 ⟨rfl, hb⟩
    have B4 := Lib.hid (below_go X3.out.bel hb)
    clear hb X3
    go_wp2_with fail
    go_ret
    exact ⟨rfl, B4.out⟩
  case false =>
    by_cases h0 : mp D win = 0
    case neg =>
      have MN := Lib.hid (M1.out h0 _ X3.out)
      have HN := Lib.hid h0
      clear M1 M2 h0
      obtain ⟨m, hme⟩ : ∃ z, mp D win = z := ⟨_, rfl⟩
      rw [hme] at MN HN
      have h1 : (m != 0) = true := by simp [HN.out]
      clear hme
      go_wp2_with fail
      refine MN.out.mono ?_
      rintro e w4 ⟨rfl, hb⟩
      have hb2 := below_go hb (below_alloc w4 (.cells #[.slice none 0 0, .int .u32 0, .int .u32 0, .slice none 0 0] 36))
      have X4 := Lib.hid (X3.out.next hb2)
      clear hb hb2 MN X3 HN
      go_wp2_with fail
      refine (FX.out _ X4.out.tab X4.out.tab5).mono ?_
      rintro e w5 ⟨rfl, hb⟩
      have B5 := Lib.hid (below_go X4.out.bel hb)
      clear hb X4
      go_wp2_with fail
      go_ret
      exact ⟨rfl, B5.out⟩
    case pos =>
      have MY := Lib.hid (M2.out h0 _ X3.out)
      have TP := mp_top h0
      have ok := au_ok 33 D TP.fm TP.fr 0
      have lt := au_lt 33 D 0
      have cp := (au_cn 33 D TP.fm TP.fr).p 0
      have RZ := Lib.hid (fun Es hp hk => rz_of (Es := Es) h0 hp hk)
      obtain ⟨S, hS⟩ : ∃ S, au 33 D 0 = S := ⟨_, rfl⟩
      rw [hS] at MY ok lt cp RZ
      obtain ⟨s1, s2, sP, sE⟩ := S
      unfold Lt2 at lt
      have okf := ok.f0
      have okl := ok.l0
      simp only [Nat.zero_add] at lt cp okf okl RZ
      have hcn := TP.cn
      have hpl := TP.pl
      have H0 := Lib.hid h0
      clear M1 M2 hS ok TP h0
      go_wp2_with fail
      refine MY.out.mono ?_
      rintro e w4 (⟨_, rfl, hb⟩ | ⟨hs64, r, Ap, kp, cp_, Ae, ke, ce, Ps, Es, rfl, hMi, hPs, hEs, hKy, hrr, hb⟩)
      · have hb2 := below_go hb (below_alloc w4 (.cells #[.slice none 0 0, .int .u32 0, .int .u32 0, .slice none 0 0] 36))
        have X4 := Lib.hid (X3.out.next hb2)
        clear hb hb2 MY X3 H0 okf okl lt cp RZ hcn hpl
        go_wp2_with fail
        refine (FX.out _ X4.out.tab X4.out.tab5).mono ?_
        rintro e w5 ⟨rfl, hb⟩
        have B5 := Lib.hid (below_go X4.out.bel hb)
        clear hb X4
        go_wp2_with fail
        go_ret
        exact ⟨rfl, B5.out⟩
      · have hkp : kp = sP.length := by have h1 := congrArg List.length hPs; rw [List.length_map, hMi.lp] at h1; exact h1
        have RZ2 := Lib.hid (RZ.out Es hEs hKy)
        have ke64 : ke ≤ 64 := by
          have h1 := hEs.length_eq
          rw [List.length_map, hMi.le] at h1
          simp only at hs64 h1
          omega
        rw [← hkp] at RZ2 lt cp
        have N32 : kp ≤ 32 := by omega
        have PL : Hid (plc 33 D = (kp : Int)) := Lib.hid (by rw [hpl, cp])
        have LT := Lib.hid lt
        have OF := Lib.hid okf
        have OL := Lib.hid okl
        have n5 := below_alloc w4 (.cells #[.slice Ap kp cp_, .int .u32 (s1 : Int), .int .u32 (s2 : Int), .slice Ae ke ce] 36)
        have X4 : Hid (RX w (w4.alloc (.cells #[.slice Ap kp cp_, .int .u32 (s1 : Int), .int .u32 (s2 : Int), .slice Ae ke ce] 36)) g1 w4.heap.size A k c' win D r Ap kp cp_ s1 s2 Ae ke ce Ps Es) := Lib.hid
          ⟨(X3.out.next (below_go hb n5)).p, heap_alloc_new w4 _, (X3.out.next (below_go hb n5)).pt, (X3.out.next (below_go hb n5)).tab, (X3.out.next (below_go hb n5)).tab5, hMi.next n5, (X3.out.next (below_go hb n5)).bel⟩
        clear hb n5 hMi hPs hEs hKy hs64 MY X3 RZ okf okl lt cp hcn hpl hkp hrr q0 q1
        go_upto_region 7 with fail
        generalize w4.alloc (.cells #[.slice Ap kp cp_, .int .u32 (s1 : Int), .int .u32 (s2 : Int), .slice Ae ke ce] 36) = w5 at X4 ⊢
        generalize w4.heap.size = g4 at X4 ⊢
        obtain ⟨a0, a1, a2, a3, _⟩ := X4.out.ab.cells
        have zA := X4.out.ab.lt
        go_wp2_with fail
        clear a0 a1 a2 a3 zA
        go_loopw [7, 8, 30] (fun _ _ t W => ∃ i : Nat, i ≤ ke ∧ t = .int .i64 (i : Int) ∧ Hid (RX w W g1 g4 A k c' win D r Ap kp cp_ s1 s2 Ae ke ce Ps Es)) (fun _ _ t _ => ke - (intOf t).toNat)
        case atStart => exact ⟨0, Nat.zero_le _, rfl, X4⟩
        case round =>
          obtain ⟨i, hi, rfl, I⟩ := hrel
          clear X4
          by_cases hlt : i < ke
          · obtain ⟨ge, rfl, zge, hcell⟩ := I.out.mi.edge (by omega)
            obtain ⟨d0, d1, d2, d3, d4, d5⟩ := hcell i hlt
            have hle := I.out.mi.le
            have hr1 := RZ2.out.each i (by omega)
            have RI := Lib.hid (RZ2.out.rise (i - 1))
            have b6 := below_alloc wr (eobjE (Es.getD i ed0))
            have X6 := Lib.hid (I.out.next b6)
            have hc6 : ∀ j, j < ke → (wr.alloc (eobjE (Es.getD i ed0))).cell? ⟨ge, j * 6, none⟩ = some (.int .u8 ((Es.getD j ed0).f : Int)) ∧ (wr.alloc (eobjE (Es.getD i ed0))).cell? ⟨ge, j * 6 + 1, none⟩ = some (.int .u8 ((Es.getD j ed0).t : Int)) := fun j hj => by
              obtain ⟨e0, e1, _⟩ := hcell j hj
              exact ⟨(b6.cell (p := ⟨ge, j * 6, none⟩) zge).trans e0, (b6.cell (p := ⟨ge, j * 6 + 1, none⟩) zge).trans e1⟩
            have HC := Lib.hid hc6
            have D0 : (wr.alloc (eobjE (Es.getD i ed0))).cell? ⟨wr.heap.size, 0, none⟩ = some (.int .u8 ((Es.getD i ed0).f : Int)) := by simp [go_sem]
            have D1 : (wr.alloc (eobjE (Es.getD i ed0))).cell? ⟨wr.heap.size, 1, none⟩ = some (.int .u8 ((Es.getD i ed0).t : Int)) := by simp [go_sem]
            have HD := Lib.hid (And.intro D0 D1)
            have HLE := Lib.hid hle
            clear hcell b6 hc6 D0 D1 hle I
            generalize hd : Es.getD i ed0 = d at d0 d1 d2 d3 d4 d5 hr1 X6 HC HD
            obtain ⟨f, t, y, ⟨gx, gt, ga, gn, gc, gL⟩⟩ := d
            simp only at d0 d1 d2 d3 d4 d5 hr1
            have HDD := Lib.hid hd
            clear hd
            go_upto_region 11 with fail
            generalize wr.alloc (eobjE ⟨f, t, y, ⟨gx, gt, ga, gn, gc, gL⟩⟩) = w6 at X6 HC HD ⊢
            generalize wr.heap.size = b8 at HD ⊢
            clear d0 d1 d2 d3 d4 d5
            obtain ⟨D0, D1⟩ := HD.out
            obtain ⟨_, _, _, a3, _⟩ := X6.out.ab.cells
            have n1 : decide ((t : Int) ≤ (f : Int)) = false := by simp; omega
            have n1' : decide (t ≤ f) = false := by simp; omega
            have n2 : decide ((kp : Int) ≤ (t : Int)) = false := by simp; omega
            have n2' : decide (kp ≤ t) = false := by simp; omega
            have hwt : IntKind.i64.wrap (t : Int) = (t : Int) := by rw [IntKind.wrap_i64]; omega
            have XD := Lib.hid (fun m => X6.out.next (below_drewN w6.heap.size w6 m))
            rcases i with _ | j
            · clear X6 HC HD RI HLE HDD
              go_quiet (fail)
              go_wp2_with fail
              exact ⟨⟨1, by omega, by go_num, Lib.hid (XD.out _)⟩, by simp [intOf]; omega⟩
            · have hj := RI.out (by have := HLE.out; omega)
              obtain ⟨e0, e1⟩ := HC.out j (by omega)
              rw [Nat.add_sub_cancel, HDD.out] at hj
              simp only at hj
              generalize Es.getD j ed0 = d' at hj e0 e1
              obtain ⟨f', t', y', g'⟩ := d'
              simp only at hj e0 e1
              have n3 : decide ((0 : Int) < (j : Int) + 1) = true := decide_eq_true (by omega)
              have hjk : j < ke := by omega
              have hjk' : (j : Int) < (ke : Int) := by omega
              have hj1 : (j : Int) + 1 - 1 = (j : Int) := by omega
              have hw1 : IntKind.i64.wrap (j : Int) = (j : Int) := by rw [IntKind.wrap_i64]; omega
              have n3' : decide (0 < j + 1) = true := by simp
              have n4 : decide ((f : Int) < (f' : Int)) = false := by simp; omega
              have n4' : decide (f < f') = false := by simp; omega
              clear X6 HC HD RI HLE HDD
              by_cases hff : f' = f
              · subst hff
                have n6 : decide ((t : Int) ≤ (t' : Int)) = false := by simp; omega
                have n6' : decide (t ≤ t') = false := by simp; omega
                clear hj
                go_quiet (fail)
                go_wp2_with fail
                exact ⟨⟨j + 1 + 1, by omega, by go_num, Lib.hid (XD.out _)⟩, by simp [intOf]; omega⟩
              · have n5 : ((f' : Int) == (f : Int)) = false := by simp; omega
                have n5' : (f' == f) = false := by simp; omega
                clear hj hff
                go_quiet (fail)
                go_wp2_with fail
                exact ⟨⟨j + 1 + 1, by omega, by go_num, Lib.hid (XD.out _)⟩, by simp [intOf]; omega⟩
          · obtain rfl : i = ke := by omega
            have TPx := mp_top H0.out
            have hk33 : k < 33 := by have h1 := TPx.len; have h2 := HK.out; omega
            have hb33 : bld 33 D = true ∧ fmT 33 D = true := by have := TPx.fm; rw [fmd_eq, Bool.and_eq_true] at this; exact this
            have TX := Lib.hid (rtree_any 33 A k c' D wr hk33 I.out.pt)
            have q0 := I.out.p.c0
            have q1 := I.out.p.c1
            have HB3 := Lib.hid hb33
            have HKK := Lib.hid hk33
            clear hb33 TPx hk33 RZ2
            go_wp2_with fail
            refine TX.out.mono ?_
            rintro e w6 ⟨nd, At, m, Ct, rfl, hbt, hb⟩
            obtain ⟨hnd, hmm, htr⟩ := hbt HB3.out.1
            have X6 := Lib.hid (I.out.next hb)
            have hszB : wr.heap.size ≤ w6.heap.size := hb.size
            have MX6 : Hid (MZ w (w6.alloc (tobjT nd At m Ct)) g4 w6.heap.size Ap kp cp_ s1 s2 Ae i ce A k c' D nd At m Ct (fun b => wr.heap.size ≤ b ∧ b < w6.heap.size)) := Lib.hid ⟨X6.out.ab.below (below_alloc _ _) X6.out.ab.lt, Trb.start _ _ _ _ _, X6.out.pt.below (below_alloc _ _), htr.below (below_alloc _ _) (fun b hb => hb.2), fun b hb => by rw [World.size_alloc]; have := hb.2; omega, X6.out.tab.below (below_alloc _ _), X6.out.tab5.below (below_alloc _ _), below_go X6.out.bel (below_alloc _ _)⟩
            have TPL : Hid (∀ W, MZ w W g4 w6.heap.size Ap kp cp_ s1 s2 Ae i ce A k c' D nd At m Ct (fun b => wr.heap.size ≤ b ∧ b < w6.heap.size) → Calls Tryd.prog 9 #[tOfT nd At m Ct] W fun e w' => e = .returned (.int .i64 (kp : Int)) ∧ Below W.heap.size W w') := Lib.hid fun W h => by
              have h33 : D.length < 33 := by have h1 := HKK.out; have h2 := HK.out; omega
              have := rplaces_any 33 nd At Ct D _ W (by omega) hnd (fun v hv => ⟨(h.pt.ok v hv).h0, (h.pt.ok v hv).h1⟩) h.tr h.fb
              rw [GP, plT_fuel 33 D h33, plT_eq 33 D HB3.out.2, ← hmm, PL.out] at this
              exact this
            obtain ⟨xk, ⟨xx, xt, xa, xn, xc, xL⟩, xy, ⟨yx, yt, ya, yn, yc, yL⟩, xlo, xhi, xs⟩ := nd
            have TP' := Lib.hid (fun W (h : Kz w W g4 w6.heap.size Ap kp cp_ s1 s2 Ae i ce A k c' D ⟨xk, ⟨xx, xt, xa, xn, xc, xL⟩, xy, ⟨yx, yt, ya, yn, yc, yL⟩, xlo, xhi, xs⟩ At m Ct (fun b => wr.heap.size ≤ b ∧ b < w6.heap.size)) => TPL.out W (by obtain ⟨_, _, _, _, _, _, _, _, _, _, _, _, _, _, h⟩ := h; exact h.out))
            have FX' := Lib.hid (fun W (h : Kz w W g4 w6.heap.size Ap kp cp_ s1 s2 Ae i ce A k c' D ⟨xk, ⟨xx, xt, xa, xn, xc, xL⟩, xy, ⟨yx, yt, ya, yn, yc, yL⟩, xlo, xhi, xs⟩ At m Ct (fun b => wr.heap.size ≤ b ∧ b < w6.heap.size)) => (have h2 := (show MZ w W g4 w6.heap.size Ap kp cp_ s1 s2 Ae i ce A k c' D ⟨xk, ⟨xx, xt, xa, xn, xc, xL⟩, xy, ⟨yx, yt, ya, yn, yc, yL⟩, xlo, xhi, xs⟩ At m Ct (fun b => wr.heap.size ≤ b ∧ b < w6.heap.size) from (by obtain ⟨_, _, _, _, _, _, _, _, _, _, _, _, _, _, h⟩ := h; exact h.out)); FX.out W h2.tab h2.tab5))
            have KD := Lib.hid (kz_next (Below.refl _ _).drew (kz_of MX6.out))
            obtain ⟨X, hX⟩ : ∃ X : Nat, 2 ^ kp = X := ⟨_, rfl⟩
            have hX32 : X ≤ 4294967296 := by rw [← hX]; exact Nat.pow_le_pow_right (by omega) N32
            have hsh : (2 : Int) ^ kp % 18446744073709551616 = (X : Int) := by
              have h1 : ((2 ^ kp : Nat) : Int) = (2 : Int) ^ kp := by rw [Int.natCast_pow]; rfl
              rw [← h1, hX]
              omega
            have hlt1 := LT.out.1
            have hlt2 := LT.out.2
            (try simp only at hlt1 hlt2)
            rw [hX] at hlt1 hlt2
            have ws1 : IntKind.u64.wrap (s1 : Int) = (s1 : Int) := by rw [IntKind.wrap_u64]; omega
            have ws2 : IntKind.u64.wrap (s2 : Int) = (s2 : Int) := by rw [IntKind.wrap_u64]; omega
            have wsX : IntKind.u64.wrap ((2 : Int) ^ kp) = (X : Int) := by rw [IntKind.wrap_u64]; exact hsh
            have r1 : decide (IntKind.u64.wrap (s1 : Int) < IntKind.u64.wrap ((2 : Int) ^ kp)) = true := by rw [ws1, wsX]; exact decide_eq_true (by omega)
            have r2 : decide (IntKind.u64.wrap (s2 : Int) < IntKind.u64.wrap ((2 : Int) ^ kp)) = true := by rw [ws2, wsX]; exact decide_eq_true (by omega)
            have t1 : decide ((s1 : Int) < (X : Int)) = true := decide_eq_true (by omega)
            have t2 : decide ((s2 : Int) < (X : Int)) = true := decide_eq_true (by omega)
            have t1' : decide (s1 < X) = true := decide_eq_true (by omega)
            have t2' : decide (s2 < X) = true := decide_eq_true (by omega)
            have of := OF.out
            have ol := OL.out
            have t3 : ((s1 : Int) != 0) = true := by simp; omega
            have t4 : ((s2 : Int) != 0) = true := by simp; omega
            have i1 : ((kp : Int) == (kp : Int)) = true := by simp
            clear hbt hb hszB htr hnd hmm X6 MX6 TPL TX q0 q1 I H0 HK HKK HB3 K40 PL LT OF OL FX HW hX of ol hlt1 hlt2
            go_wp2_with fail
            go_region_held3 (fun W => W.cell? ⟨g4, 1, none⟩ = some (.int .u32 (s1 : Int)) ∧ W.cell? ⟨g4, 2, none⟩ = some (.int .u32 (s2 : Int)) ∧ W.cell? ⟨w6.heap.size, 0, none⟩ = some (.int .u8 xk) ∧ W.cell? ⟨w6.heap.size, 1, none⟩ = some (.bool xx) ∧ W.cell? ⟨w6.heap.size, 2, none⟩ = some (.int .u8 xt) ∧ W.cell? ⟨w6.heap.size, 3, none⟩ = some (.slice xa xn xc) ∧ W.cell? ⟨w6.heap.size, 4, none⟩ = some (.bool xy) ∧ W.cell? ⟨w6.heap.size, 5, none⟩ = some (.bool yx) ∧ W.cell? ⟨w6.heap.size, 6, none⟩ = some (.int .u8 yt) ∧ W.cell? ⟨w6.heap.size, 7, none⟩ = some (.slice ya yn yc) ∧ W.cell? ⟨w6.heap.size, 8, none⟩ = some (.int .u8 xlo) ∧ W.cell? ⟨w6.heap.size, 9, none⟩ = some (.int .u8 xhi) ∧ W.cell? ⟨w6.heap.size, 10, none⟩ = some (.int .i64 xs) ∧ W.cell? ⟨w6.heap.size, 11, none⟩ = some (.slice At m Ct) ∧ Hid (MZ w W g4 w6.heap.size Ap kp cp_ s1 s2 Ae i ce A k c' D ⟨xk, ⟨xx, xt, xa, xn, xc, xL⟩, xy, ⟨yx, yt, ya, yn, yc, yL⟩, xlo, xhi, xs⟩ At m Ct (fun b => wr.heap.size ≤ b ∧ b < w6.heap.size)))
              (first | (with_reducible assumption) | (with_reducible exact KD.out) | (with_reducible exact kz_next (nd := ⟨xk, ⟨xx, xt, xa, xn, xc, xL⟩, xy, ⟨yx, yt, ya, yn, yc, yL⟩, xlo, xhi, xs⟩) b1 (by assumption)))
              (first
                | (go_at_call 6; (with_reducible refine Calls.mono (FX'.out _ ?_) ?_); (with_reducible assumption); rintro e w' ⟨rfl, b1⟩)
                | (go_at_call 9; (with_reducible refine Calls.mono (TP'.out _ ?_) ?_); (with_reducible assumption); rintro e w' ⟨rfl, b1⟩))
            all_goals (rename_i hHeld; have HB2 := Lib.hid hHeld.2.2.2.2.2.2.2.2.2.2.2.2.2.2.out.bel; clear hHeld; go_wp2_with fail; go_ret; exact ⟨rfl, HB2.out⟩)
end Go.Proofs.YtdplflpjcjkhdaaDoor
