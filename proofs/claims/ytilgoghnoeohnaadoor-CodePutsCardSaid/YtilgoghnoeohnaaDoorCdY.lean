/- The program's pattern: one node, and its parts by their contracts. -/
import Derived.Test.YtilgoghnoeohnaaDoorCdX
import Derived.Test.YtilgoghnoeohnaaDoorCdR
import Derived.Deep.DeepCutAuto
import Derived.BigRegion
namespace Go.Proofs.YtilgoghnoeohnaaDoor
open Go Go.RowKit Pk Rl
set_option maxRecDepth 20000

theorem Rb.under {B : Nat} {w w' : World} {r : Nat} {S : Value} {i : Int} {N : Value} (h : Rb w r S i N) (hb : Below B w w') (hr : r < B) : Rb w' r S i N := by unfold Rb; rw [hb.block r hr]; exact h
theorem NB.guard {w : World} {g : Nat} {nd : Nd} (h : NB w g nd) (x : Bool) (t : Int) (A : Option Addr) (k c : Nat) (L : List TT) : NB (((w.setCell ⟨g, 5, none⟩ (.bool x)).setCell ⟨g, 6, none⟩ (.int .u8 t)).setCell ⟨g, 7, none⟩ (.slice A k c)) g { nd with g := ⟨x, t, A, k, c, L⟩ } := by
  unfold NB
  have h1 : (w.setCell ⟨g, 5, none⟩ (.bool x)).heap[g]? = some (nobj { nd with g := ⟨x, nd.g.t, nd.g.a, nd.g.n, nd.g.c, L⟩ }) := by rw [heap_setCell_same w g 5 _ _ _ h]; rfl
  have h2 : ((w.setCell ⟨g, 5, none⟩ (.bool x)).setCell ⟨g, 6, none⟩ (.int .u8 t)).heap[g]? = some (nobj { nd with g := ⟨x, t, nd.g.a, nd.g.n, nd.g.c, L⟩ }) := by rw [heap_setCell_same _ g 6 _ _ _ h1]; rfl
  rw [heap_setCell_same _ g 7 _ _ _ h2]
  rfl
theorem GS.next {w0 W W' : World} {r B b off len cap i : Nat} {A : Option Addr} {k c : Nat} {D : List Nd} (h : GS w0 W r B b off len cap i A k c D) (hb : Below W.heap.size W W') : GS w0 W' r B b off len cap i A k c D :=
  ⟨h.rb.next hb, h.own.below hb, h.len, below_go h.bel hb, Nat.le_trans h.big hb.size⟩
/- what pattern answers of a part -/
def PC (w0 : World) (r B b off len cap : Nat) (l : List Int) (f : List Nd → List Int) (p : List Nd) (o : Int) : Prop :=
  ∀ (pre post : List Int) (W : World) (A : Option Addr) (k c : Nat) (D : List Nd), l = pre ++ (f p ++ post) → GS w0 W r B b off len cap pre.length A k c D → k + p.length ≤ 32 →
    Calls Tryd.prog 21 #[.pointer (some ⟨r, 0, none⟩), .int .i64 o] W fun e w' => ∃ A' k' c' D', e = .returned (.int .i64 0) ∧ GS w0 w' r B b off len cap (pre ++ f p).length A' k' c' (D ++ D') ∧ k' = k + p.length ∧ D'.map vn = p.map zn
set_option maxHeartbeats 8000000 in
theorem pattern1 (w0 : World) (r B b off len cap : Nat) (l : List Int) (hr0 : w0.heap.size ≤ r) (hr : r < B) (hlen : l.length = len) (hl : len ≤ 100000) (hc : len ≤ cap) (hb : Byt w0 (some ⟨b, off, none⟩) l) (hbr : b < w0.heap.size) (hT : Tab w0)
    (f : List Nd → List Int) (x : Nd) (ps : List (List Nd)) (hkd : kd x ps.length = true) (hm : ps.length < 256) (hf : Nfit w0 x) (o : Int) (ho : x.k = 1 ∨ o < 8) (ho0 : 0 ≤ o) (ho8 : o ≤ 8) (hs : x.s = (ps.flatten.length : Int)) (IH : ∀ q ∈ ps, PC w0 r B b off len cap l f q (o + 1))
    (pre post : List Int) (w : World) (A : Option Addr) (k c : Nat) (D : List Nd) (hL : l = pre ++ ((nbs x ps.length ++ ps.flatMap f) ++ post)) (h : GS w0 w r B b off len cap pre.length A k c D) (hk : k + (ps.flatten.length + 1) ≤ 32) :
    Calls Tryd.prog 21 #[.pointer (some ⟨r, 0, none⟩), .int .i64 o] w fun e w' => ∃ A' k' c' D', e = .returned (.int .i64 0) ∧ GS w0 w' r B b off len cap (pre ++ (nbs x ps.length ++ ps.flatMap f)).length A' k' c' (D ++ D') ∧ k' = k + (ps.flatten.length + 1) ∧ D'.map vn = (x :: ps.flatten).map zn := by
  obtain ⟨m, hmm⟩ : ∃ m, ps.length = m := ⟨_, rfl⟩
  rw [hmm] at hkd hm hL
  have zw : B ≤ w.heap.size := h.big
  obtain ⟨i, hi⟩ : ∃ i, pre.length = i := ⟨_, rfl⟩
  have hrb := h.rb
  rw [hi] at hrb
  have e1 : l = pre ++ (fb x :: (nmid x m ++ (ngrd x ++ (ps.flatMap f ++ post)))) := by
    have := nbs_split x m []
    rw [List.nil_append] at this
    rw [hL, this]
    simp
  have hi1 : i + 1 ≤ len := by rw [← hlen, e1, ← hi]; simp
  have hbw : Byt w (some ⟨b, off, none⟩) l := hb.below h.bel
  have c0 := byt_at hbw i (by omega)
  rw [show l.getD i 0 = fb x by rw [e1, List.getD_eq_getElem?_getD, List.getElem?_append_right (by omega), hi, Nat.sub_self]; rfl] at c0
  have hk14 : x.k = 1 ∨ x.k = 2 ∨ x.k = 3 ∨ x.k = 4 := by have := hf.k0; have := hf.k4; omega
  have hky : x.y = true → x.k = 2 ∨ x.k = 4 := fun hy => by
    unfold kd at hkd
    rw [hy] at hkd
    rcases hk14 with e | e | e | e <;> simp [e] at hkd ⊢
  have BW : ∀ W, Fr r r w W → Below w0.heap.size w0 W := fun W hF => h.bel.trans (hF.below hr0 hr0 h.bel.size)
  have KO := Lib.hid (kind_ok b off len cap i x.k x.y o r A k c w hrb hi1 hl hc c0 (by omega) hk14 hky (by omega) ho)
  have NA := Lib.hid (fun W (hF : Fr r r w W) (hR : Rb W r (.slice (some ⟨b, off, none⟩) len cap) ((i + 1 : Nat) : Int) (.slice A k c)) =>
    named_any b off len cap (pre ++ [fb x] ++ nmid x m).length (pre ++ [fb x]) (ngrd x ++ (ps.flatMap f ++ post)) x m r W.heap.size A k c (W.alloc (nobj { nz with k := x.k, y := x.y }))
      (by have := hR.next (below_alloc W (nobj { nz with k := x.k, y := x.y })); rw [List.length_append, hi]; exact this) (NB.alloc _ _) (by have := hR.lt; omega) (by omega) hkd hm rfl (by rw [← hlen, e1]; simp) hl hc
      (by have := (hbw.fr hF (by omega) (by omega)).below (below_alloc W (nobj { nz with k := x.k, y := x.y })); rw [e1] at this; simpa using this) (hf.below (below_go (BW W hF) (below_alloc W _))) (hT.below (below_go (BW W hF) (below_alloc W _))))
  go_enter Tryd.func21, Tryd.ntmps21
  go_wp2_with fail
  refine KO.out.mono ?_
  rintro e w1 ⟨rfl, hR1, hF1⟩
  have NW := Lib.hid (NA.out w1 hF1 hR1)
  have F1 := Lib.hid hF1
  clear KO NA hR1 hF1
  go_wp2_with fail
  refine NW.out.mono ?_
  rintro e w2 ⟨nd, rfl, hG, hR2, hN2, hF2⟩
  obtain ⟨g, hg⟩ : ∃ g, w1.heap.size = g := ⟨_, rfl⟩
  have zg1 : w.heap.size ≤ g := by rw [← hg]; exact F1.out.z
  have F2 : Fr r g w w2 := ((F1.out.wide (g := g)).trans (Fr.of_below (below_alloc w1 _))).trans (by rw [← hg]; exact hF2)
  rw [hg] at hN2
  have zg2 := hN2.lt
  have EB : (w1.alloc (nobj { nz with k := x.k, y := x.y })).heap.size = g + 1 := by rw [World.size_alloc, hg]
  have hbF : Byt w2 (some ⟨b, off, none⟩) l := hbw.fr F2 (by omega) (by omega)
  have QO := Lib.hid (fun (_ : x.y = true) => question_ok b off len cap (pre ++ nbs x m).length (pre ++ [fb x] ++ nmid x m) (ps.flatMap f ++ post) x.g r A k c w2 hR2 (by rw [nbs_split]; unfold ngrd; rw [if_pos ‹_›]) (by rw [← hlen, e1]; unfold ngrd; rw [if_pos ‹_›]; simp) hl hc
    (by rw [e1] at hbF; unfold ngrd at hbF; rw [if_pos ‹_›] at hbF; simpa using hbF) hf.ok.g.ok (hT.below (BW w2 (F2.drop zg1))) hf.gm)
  have G2 := Lib.hid hG
  have R2 := Lib.hid hR2
  have N2 := Lib.hid hN2
  have F2 := Lib.hid F2
  clear hR2 hN2 hF2 NW hG
  obtain ⟨_, _, _, _, x4, x5, x6, x7, _⟩ := N2.out.atn
  rw [G2.out.y] at x4
  simp only [Nat.zero_add] at x4 x5 x6 x7
  go_upto_if 28 with fail
  go_cut [6] from 10 to 34 (fun v W => v = .int .i64 0 ∧ ∃ nd', Hid (Gn (g + 1) W x nd' ∧ Rb W r (.slice (some ⟨b, off, none⟩) len cap) ((pre ++ nbs x m).length : Int) (.slice A k c) ∧ NB W g nd' ∧ Fr r r w W))
  case first =>
    have f5 := N2.out.free 5
    have f6 := N2.out.free 6
    have f7 := N2.out.free 7
    cases hy : x.y
    · clear x4 x5 x6 x7 QO
      go_wp2_with fail
      go_meet
      have E3 : nbs x m = [fb x] ++ nmid x m := by have := nbs_split x m []; unfold ngrd at this; rw [hy] at this; simpa using this
      refine ⟨rfl, nd, Lib.hid ⟨?_, ?_, N2.out, F2.out.drop zg1⟩⟩
      · rw [← EB]; exact G2.out.gn hkd hy hf.ok.g.len
      · rw [E3, ← List.append_assoc]; exact R2.out
    · have QQ := Lib.hid (QO.out hy)
      clear QO
      go_wp2_with fail
      refine QQ.out.mono ?_
      rintro e w3 ⟨A3, k3, c3, rfl, hk3, ho3, hR3, hF3⟩
      have N3 := Lib.hid (N2.out.fr hF3 (by omega) (by omega))
      obtain ⟨_, _, _, _, _, y5, y6, y7, _⟩ := N3.out.atn
      simp only [Nat.zero_add] at y5 y6 y7
      have g5 := N3.out.free 5
      have g6 := N3.out.free 6
      have g7 := N3.out.free 7
      have zg3 := N3.out.lt
      have R3 := Lib.hid hR3
      have F3 := Lib.hid hF3
      have O3 := Lib.hid ho3
      have K3 := Lib.hid hk3
      clear hR3 hF3 ho3 hk3 QQ x4 x5 x6 x7 f5 f6 f7
      go_wp2_with fail
      go_meet
      have O4 := OwnT.fr G2.out.own (r := r) (by rw [EB]; omega) F3.out
      refine ⟨rfl, { nd with g := ⟨x.g.x, x.g.t, A3, k3, c3, x.g.L.map nt⟩ }, Lib.hid ⟨?_, ?_, ?_, ?_⟩⟩
      · rw [← EB]
        refine G2.out.guard (M := w2.heap.size) ?_ K3.out (by rw [hf.ok.g.len]; exact hf.ok.g.few) ?_ (by rw [EB]; exact zg2)
        · exact ((O4.setCell g 5 (by rw [EB]; omega) _).setCell g 6 (by rw [EB]; omega) _).setCell g 7 (by rw [EB]; omega) _
        · exact ((O3.out.setCell g 5 zg2 _).setCell g 6 zg2 _).setCell g 7 zg2 _
      · exact ((R3.out.other g 5 _ (by omega)).other g 6 _ (by omega)).other g 7 _ (by omega)
      · exact N3.out.guard _ _ _ _ _ _
      · exact ((((F2.out.trans F3.out.wide).set g 5 _ (.inr rfl)).set g 6 _ (.inr rfl)).set g 7 _ (.inr rfl)).drop zg1
  case rest =>
    obtain ⟨rfl, nd', hcut⟩ := hcut
    have HC := Lib.hid hcut.out
    clear hcut QO x4 x5 x6 x7 G2 R2 N2 F2
    obtain ⟨s0, s1, s2⟩ := HC.out.2.1.cells
    have f2 := HC.out.2.1.free 2
    have zr := HC.out.2.1.lt
    have OC := Lib.hid (h.own.fr hr HC.out.2.2.2)
    have QQ := Lib.hid (HC.out.1.qb hf.ok h.own (by omega) (by omega))
    have RG := Lib.hid (HC.out.1.rg w0 hf.ok)
    have HK := Lib.hid h.len
    have BC : Hid (B ≤ wc.heap.size) := Lib.hid (Nat.le_trans zw HC.out.2.2.2.z)
    obtain ⟨y0, y1, y2, y3, y4, y5, y6, y7, y8, y9, y10⟩ := HC.out.2.2.1.atn
    simp only [Nat.zero_add] at y0 y1 y2 y3 y4 y5 y6 y7 y8 y9 y10
    have k32 : k + 1 ≤ 100000 := by omega
    go_upto_region 12 with fail
    go_cut [52] from 43 to 52 (fun v W => v = .pointer (some ⟨r, 2, none⟩) ∧ ∃ A3 c3, Hid (GS w0 W r B b off len cap (pre ++ nbs x m).length A3 (k + 1) c3 (D ++ [nd'])))
    case first =>
      go_region_law (first
        | (refine step_appn _ (by rfl) (.tmp 47) (.tmp 49) (by rfl) B _ D (by rfl) ((OC.out.below (below_drewN _ _ 1)).below (below_alloc _ _)) _ nd' (by rfl) (Atn.alloc _ nd') ((QQ.out.1.below (below_drewN _ _ 1)).below (below_alloc _ _)) ((QQ.out.2.below (below_drewN _ _ 1)).below (below_alloc _ _)) RG.out (k + 1) (by rw [HK.out]) k32 (Nat.le_trans BC.out (Nat.le_trans (below_drewN 0 _ 1).size (below_alloc _ _).size)) ?_; intro A3 c3 w3 hO3 hg3 hb3; have R3 := ((HC.out.2.1.next (below_drewN _ _ 1)).next (below_alloc _ _)).under hb3 hr; have t2 := R3.cells.2.2; have g2 := R3.free 2; have zr3 := R3.lt; have R3 := Lib.hid R3; have O3 := Lib.hid hO3; have B3 := Lib.hid (((Below.refl B wc).trans ((below_drewN B wc 1).trans ((below_alloc _ _).mono (Nat.le_trans BC.out (below_drewN 0 _ 1).size)))).trans hb3); clear hO3 hg3 hb3))
      all_goals
        have G4 : Hid (GS w0 (w3.setCell ⟨r, 2, none⟩ (.slice A3 (k + 1) c3)) r B b off len cap (pre ++ nbs x m).length A3 (k + 1) c3 (D ++ [nd'])) := Lib.hid
          ⟨R3.out.row _, O3.out.set r 2 hr _, by rw [List.length_append, HK.out]; rfl, (h.bel.trans ((HC.out.2.2.2.below hr0 hr0 h.bel.size).trans (B3.out.mono (by omega)))).setCell (p := ⟨r, 2, none⟩) hr0 _, by rw [World.size_setCell]; exact Nat.le_trans BC.out B3.out.size⟩
        go_wp2_with fail
        go_meet
        exact ⟨rfl, A3, c3, G4⟩
    case rest =>
      obtain ⟨rfl, A3, c3, G4⟩ := hcut
      have GV := Lib.hid HC.out.1.v
      have HM := Lib.hid hmm
      have HL := Lib.hid hL
      have HS := Lib.hid hs
      have HH := Lib.hid IH
      have HD := Lib.hid h.len
      have hw : IntKind.i64.wrap (o + 1) = o + 1 := by rw [IntKind.wrap_i64]; omega
      have HKK := Lib.hid hk
      have FT : Hid (∀ j, j < m → (ps.take (j + 1)).flatten = (ps.take j).flatten ++ ps.getD j [] ∧ ps.getD j [] ∈ ps ∧ l = (pre ++ nbs x m ++ (ps.take j).flatMap f) ++ (f (ps.getD j []) ++ ((ps.drop (j + 1)).flatMap f ++ post)) ∧ (ps.take j).flatten.length + (ps.getD j []).length ≤ ps.flatten.length) := Lib.hid (fun j hj => by
        have hj' : j < ps.length := by omega
        have e9 : (ps.take (j + 1)).flatten = (ps.take j).flatten ++ ps.getD j [] := by
          rw [List.take_succ_eq_append_getElem hj', List.flatten_append, List.getD_eq_getElem?_getD, List.getElem?_eq_getElem hj']; simp
        refine ⟨e9, pgetD_mem ps j hj', ?_, ?_⟩
        · have e7 : ps.flatMap f = (ps.take j).flatMap f ++ (f (ps.getD j []) ++ (ps.drop (j + 1)).flatMap f) := by
            conv => lhs; rw [← List.take_append_drop j ps, List.flatMap_append, List.drop_eq_getElem_cons hj', List.flatMap_cons]
            rw [List.getD_eq_getElem?_getD, List.getElem?_eq_getElem hj']; rfl
          rw [hL, e7]
          simp only [List.append_assoc]
        · have e8 : ps.flatten = (ps.take (j + 1)).flatten ++ (ps.drop (j + 1)).flatten := by rw [← List.flatten_append, List.take_append_drop]
          rw [e8, e9, List.length_append, List.length_append]; omega)
      clear h hrb hbw c0 e1 hL hmm hs IH HC s0 s1 s2 f2 zr OC QQ RG HK BC y0 y1 y2 y3 y4 y5 y6 y7 y8 y9 y10 F1 hbF EB hg hb hT hf hkd hi hi1
      go_wp2_with fail
      go_loopw [9, 54] (fun _ t X => ∃ (j : Nat) (A' : Option Addr) (k' c' : Nat) (D' : List Nd), j ≤ m ∧ t = .int .i64 (j : Int) ∧ Hid (GS w0 X r B b off len cap ((pre ++ nbs x m) ++ (ps.take j).flatMap f).length A' k' c' (D ++ nd' :: D') ∧ D'.map vn = (ps.take j).flatten.map zn ∧ k' = k + 1 + (ps.take j).flatten.length)) (fun _ t _ => m - (intOf t).toNat)
      case atStart => exact ⟨0, A3, k + 1, c3, [], Nat.zero_le _, rfl, Lib.hid ⟨by rw [List.take_zero, List.flatMap_nil, List.append_nil]; exact G4.out, rfl, rfl⟩⟩
      case round =>
        obtain ⟨j, A7, k7, c7, D7, hj, rfl, I⟩ := hrel
        clear G4
        by_cases hlt : j < m
        · have hlt2 : (j : Int) < (m : Int) := by omega
          obtain ⟨t1, t2, t3, t4⟩ := FT.out j hlt
          have P := Lib.hid (HH.out _ t2 _ _ wr A7 k7 c7 _ t3 I.out.1 (by have := I.out.2.2; have := HKK.out; omega))
          have T1 := Lib.hid t1
          have TA := Lib.hid (flat_take f ps j (by rw [HM.out]; exact hlt))
          clear t1 t2 t3 t4
          go_wp2_with fail
          refine P.out.mono ?_
          rintro e w8 ⟨A8, k8, c8, D8, rfl, hG8, hk8, hv8⟩
          have N8 : Hid (GS w0 w8 r B b off len cap ((pre ++ nbs x m) ++ (ps.take (j + 1)).flatMap f).length A8 k8 c8 (D ++ nd' :: (D7 ++ D8)) ∧ (D7 ++ D8).map vn = (ps.take (j + 1)).flatten.map zn ∧ k8 = k + 1 + (ps.take (j + 1)).flatten.length) := Lib.hid (by
            refine ⟨?_, ?_, ?_⟩
            · rw [TA.out, ← List.append_assoc]
              simpa using hG8
            · rw [T1.out, List.map_append, List.map_append, I.out.2.1, hv8]
            · rw [T1.out, List.length_append, hk8, I.out.2.2]; omega)
          clear hG8 hk8 hv8 P T1 TA I
          go_wp2_with fail
          exact ⟨⟨j + 1, A8, k8, c8, D7 ++ D8, by omega, by go_num, N8⟩, by simp [intOf]; omega⟩
        · obtain rfl : j = m := by omega
          have e5 : ps.take j = ps := List.take_of_length_le (by rw [HM.out]; exact Nat.le_refl _)
          rw [e5] at I
          clear e5
          obtain ⟨n, hn⟩ : ∃ n, ps.flatten.length = n := ⟨_, rfl⟩
          have hk7 : k7 = k + 1 + n := by rw [← hn]; exact I.out.2.2
          have hk32 : k + (n + 1) ≤ 32 := by rw [← hn]; exact HKK.out
          have hDl := HD.out
          have hlt : k < k7 := by omega
          obtain ⟨ga, cap7, cur7, hA7, hga, hh7, hc7⟩ : ∃ ga cap7 cur7, A7 = some ⟨ga, 0, none⟩ ∧ B ≤ ga ∧ wr.heap[ga]? = some (.cells cur7 52 (0, 0)) ∧ c7 = cap7 := by
            rcases I.out.1.own.1.2 with ⟨e, _⟩ | ⟨g', cp', cu', e, hB', hh', _⟩
            · injection e with _ e2 _; omega
            · injection e with e1 e2 e3
              exact ⟨g', cp', cu', e1, hB', hh', e3⟩
          subst hA7 hc7
          have hzg := (Array.getElem?_eq_some_iff.1 hh7).1
          have fz : wr.frozen? ⟨ga, k * 11 + 10, none⟩ = false := by simp [World.frozen?, hh7]
          have cs : wr.cell? ⟨ga, k * 11 + 10, none⟩ = some (.int .i64 nd'.s) := by
            obtain ⟨A9, c9, e, hNd, _⟩ := I.out.1.own.form
            injection e with e1 _ _
            subst e1
            obtain ⟨b9, o9, e, hat⟩ := hNd k (by rw [List.length_append, List.length_cons]; omega)
            injection e with e
            injection e with e1 e2 _
            subst e1 e2
            have e6 : (D ++ nd' :: D7).getD k nz = nd' := by rw [List.getD_eq_getElem?_getD, List.getElem?_append_right (by omega), hDl, Nat.sub_self]; rfl
            rw [e6] at hat
            have := hat.2.2.2.2.2.2.2.2.2.2
            rw [show 0 + k * 11 + 10 = k * 11 + 10 by omega] at this
            exact this
          obtain ⟨s0, s1, s2⟩ := I.out.1.rb.cells
          have hw1 : IntKind.i64.wrap ((k7 : Int) - (k : Int)) = (k7 : Int) - (k : Int) := by rw [IntKind.wrap_i64]; omega
          have hw2 : IntKind.i64.wrap ((k7 : Int) - (k : Int) - 1) = (n : Int) := by rw [IntKind.wrap_i64]; omega
          have FIN : Hid (∀ W, Below wr.heap.size wr W → GS w0 (W.setCell ⟨ga, k * 11 + 10, none⟩ (.int .i64 (n : Int))) r B b off len cap (pre ++ (nbs x j ++ ps.flatMap f)).length (some ⟨ga, 0, none⟩) k7 c7 (D ++ { nd' with s := (n : Int) } :: D7)) := Lib.hid (fun W hW => by
            have e6 : (D ++ nd' :: D7).getD k nz = nd' := by rw [List.getD_eq_getElem?_getD, List.getElem?_append_right (by omega), hDl, Nat.sub_self]; rfl
            have e7 : (D ++ nd' :: D7).set k { (D ++ nd' :: D7).getD k nz with s := (n : Int) } = D ++ { nd' with s := (n : Int) } :: D7 := by
              rw [e6, List.set_append_right _ _ (by omega), hDl, Nat.sub_self]; rfl
            refine ⟨?_, ?_, ?_, ?_, ?_⟩
            · rw [← List.append_assoc]
              exact (I.out.1.rb.next hW).other ga _ _ (by omega)
            · rw [← e7]
              exact (I.out.1.own.below hW).size k (by rw [List.length_append, List.length_cons]; omega) n (by omega) (by omega)
            · rw [← I.out.1.len, List.length_append, List.length_append]; rfl
            · exact (below_go I.out.1.bel hW).setCell (p := ⟨ga, k * 11 + 10, none⟩) (by show w0.heap.size ≤ ga; omega) _
            · rw [World.size_setCell]; exact Nat.le_trans I.out.1.big hW.size)
          have VV : Hid (({ nd' with s := (n : Int) } :: D7).map vn = (x :: ps.flatten).map zn) := Lib.hid (by
            have e8 := GV.out
            unfold vn zn at e8
            simp only [Prod.mk.injEq] at e8
            obtain ⟨a1, a2, a3, a4, a5, a6, _⟩ := e8
            rw [List.map_cons, List.map_cons, I.out.2.1]
            congr 1
            unfold vn zn
            rw [a1, a2, a3, a4, a5, a6, HS.out, hn])
          have K7 : Hid (k7 = k + (ps.flatten.length + 1)) := Lib.hid (by rw [hn]; omega)
          clear I hh7 hk7 hn hDl GV HS HD HH FT HL
          go_upto_region 19 with fail
          go_region
          go_wp2_with fail
          go_ret
          rw [HM.out]
          exact ⟨_, _, _, _, rfl, (FIN.out _ (Below.refl _ _)).next (Below.refl _ _).drew, K7.out, VV.out⟩
end Go.Proofs.YtilgoghnoeohnaaDoor
