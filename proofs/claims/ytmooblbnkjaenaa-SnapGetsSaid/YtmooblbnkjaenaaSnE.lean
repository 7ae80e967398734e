/- Runs put behind bytes. -/
import Derived.Test.YtmooblbnkjaenaaSnC
import Derived.Test.YtmooblbnkjaenaaLbPut
namespace Go.Proofs.Ytmooblbnkjaenaa
open Go Go.RowKit Pk
set_option maxRecDepth 20000

abbrev robj (r : Ru) : Obj := .cells #[.int .u64 (r.s : Int), .int .u64 (r.t : Int), .int .u64 (r.x : Int)] 43
/- while runs are put -/
structure Pr (w W : World) (g : Nat) (p : Ru) (A : Option Addr) (L : List Ru) (A' : Option Addr) (k' c' : Nat) (ys : List Int) : Prop where
  b : W.heap[g]? = some (robj p)
  r : Rus W A L
  o : Own W w.heap.size (.slice A' k' c') ys
  l : ys.length = k'
  rg : ∀ c ∈ ys, 0 ≤ c ∧ c < 256
  bel : Below w.heap.size w W
theorem Pr.next {w W W' : World} {g : Nat} {p : Ru} {A : Option Addr} {L : List Ru} {A' : Option Addr} {k' c' : Nat} {ys : List Int} (h : Pr w W g p A L A' k' c' ys) (hb : Below W.heap.size W W') : Pr w W' g p A L A' k' c' ys :=
  ⟨(hb.block _ (Array.getElem?_eq_some_iff.1 h.b).1).trans h.b, h.r.below hb, h.o.below hb, h.l, h.rg, below_go h.bel hb⟩
theorem robj_cells {W : World} {g s t x : Nat} (h : W.heap[g]? = some (robj ⟨s, t, x⟩)) : W.cell? ⟨g, 0, none⟩ = some (.int .u64 (s : Int)) ∧ W.cell? ⟨g, 1, none⟩ = some (.int .u64 (t : Int)) ∧ W.cell? ⟨g, 2, none⟩ = some (.int .u64 (x : Int)) ∧ ∀ j, W.frozen? ⟨g, j, none⟩ = false := by
  refine ⟨?_, ?_, ?_, fun j => by simp [World.frozen?, h]⟩ <;> (rw [cell_of_row W g _ _ _ _ h]; rfl)
/- one number put behind -/
theorem Pr.put {w W W' : World} {g : Nat} {p : Ru} {A : Option Addr} {L : List Ru} {A' : Option Addr} {k' c' : Nat} {ys : List Int} (h : Pr w W g p A L A' k' c' ys) (hb : Below W.heap.size W W') {A2 : Option Addr} {k2 c2 n : Nat} (h1 : (ys ++ wrt n).length = k2) (ho : Own W' W.heap.size (.slice A2 k2 c2) (ys ++ wrt n)) : Pr w W' g p A L A2 k2 c2 (ys ++ wrt n) :=
  ⟨(h.next hb).b, (h.next hb).r, row_mono ho h.bel.size, h1, range_app h.rg (wrt_range n), below_go h.bel hb⟩
theorem own_tag {W : World} {B g : Nat} {r : Ru} {v : Value} {ys : List Int} (h : Own W B v ys) (hg : W.heap[g]? = some (robj r)) (j : Nat) (x : Value) : Own (W.setCell ⟨g, j, none⟩ x) B v ys :=
  row_same h fun k cur _ hk => by
    rw [heap_setCell_other W ⟨g, j, none⟩ k x (by
      show k ≠ g
      rintro rfl
      rw [hg] at hk
      injection hk with hk
      injection hk with _ hk
      exact absurd hk (by decide))]
    exact hk
theorem Pr.set {w W : World} {g : Nat} {p : Ru} {A : Option Addr} {L : List Ru} {A' : Option Addr} {k' c' : Nat} {ys : List Int} (h : Pr w W g p A L A' k' c' ys) (hg : w.heap.size ≤ g) (hv : Rus w A L) (s t x : Nat) :
    Pr w (((W.setCell ⟨g, 0, none⟩ (.int .u64 (s : Int))).setCell ⟨g, 1, none⟩ (.int .u64 (t : Int))).setCell ⟨g, 2, none⟩ (.int .u64 (x : Int))) g ⟨s, t, x⟩ A L A' k' c' ys := by
  have b1 := heap_setCell_same W g 0 _ _ (.int .u64 (s : Int)) h.b
  have b2 := heap_setCell_same _ g 1 _ _ (.int .u64 (t : Int)) b1
  have b3 := heap_setCell_same _ g 2 _ _ (.int .u64 (x : Int)) b2
  have o1 := own_tag h.o h.b 0 (.int .u64 (s : Int))
  have o2 := own_tag (r := ⟨s, p.t, p.x⟩) o1 (by rw [b1]; rfl) 1 (.int .u64 (t : Int))
  have o3 := own_tag (r := ⟨s, t, p.x⟩) o2 (by rw [b2]; rfl) 2 (.int .u64 (x : Int))
  have bl := (((h.bel.setCell (p := ⟨g, 0, none⟩) hg (.int .u64 (s : Int))).setCell (p := ⟨g, 1, none⟩) hg (.int .u64 (t : Int))).setCell (p := ⟨g, 2, none⟩) hg (.int .u64 (x : Int)))
  exact ⟨by rw [b3]; rfl, hv.below bl, o3, h.l, h.rg, bl⟩
set_option maxHeartbeats 4000000 in
theorem putruns_any (a : Option Addr) (len cap : Nat) (l : List Int) (A : Option Addr) (n c : Nat) (L : List Ru) (w : World) (hl : l.length = len) (hm : len ≤ 1000) (hb : Byt w a l) (hn : L.length = n) (hn2 : n ≤ 64) (hv : Rus w A L) (hk : ∀ r ∈ L, Okr r) (ho : ord L n = true) :
    Calls Try.prog 15 #[.slice a len cap, .slice A n c] w fun e w' => ∃ A' k' c', e = .returned (.slice A' k' c') ∧ (l ++ (wrt n ++ wrs rz L)).length = k' ∧ k' ≤ c' ∧ Own w' w.heap.size (.slice A' k' c') (l ++ (wrt n ++ wrs rz L)) ∧ Below w.heap.size w w' := by
  have HN := Lib.hid hn
  have HV := Lib.hid hv
  have HK := Lib.hid hk
  have HO := Lib.hid ((ord_iff L n).1 ho)
  have HL := Lib.hid hl
  have HR := Lib.hid hb.2
  have P1 := Lib.hid (put_any a len cap l n w hl (by omega) (by omega) hb)
  clear hv hk ho hb hn hl
  go_enter Try.func15, Try.ntmps15
  go_wp2_with fail
  refine P1.out.mono ?_
  rintro _ w1 ⟨A1, k1, c1, rfl, hk1, ho1, hb1⟩
  have E1 := Lib.hid (hk1)
  have HS := Lib.hid (hb1.size)
  have X1 : Hid (Pr w (w1.alloc (.cells #[.int .u64 0, .int .u64 0, .int .u64 0] 43)) w1.heap.size rz A L A1 k1 c1 (l ++ wrt n)) := Lib.hid
    ⟨heap_alloc_new w1 _, (HV.out.below hb1).below (below_alloc _ _), ho1.below (below_alloc _ _), hk1, range_app HR.out (wrt_range n), below_go hb1 (below_alloc _ _)⟩
  clear P1 hk1 ho1 hb1
  go_upto_region 4 with fail
  generalize (w1.alloc (.cells #[.int .u64 0, .int .u64 0, .int .u64 0] 43)) = w2 at X1 ⊢
  obtain ⟨g, hg⟩ : ∃ g, w1.heap.size = g := ⟨_, rfl⟩
  have HG := Lib.hid (show w.heap.size ≤ g by rw [← hg]; exact HS.out)
  rw [hg] at X1 ⊢
  clear hg HS
  go_loopw [15, 0] (fun v y W => ∃ (i : Nat) (A' : Option Addr) (k' c' : Nat), v = .int .i64 (i : Int) ∧ y = .slice A' k' c' ∧ i ≤ n ∧ Hid (Pr w W g (pv rz L i) A L A' k' c' (l ++ (wrt n ++ wrs rz (L.take i))))) (fun v _ _ => n - (intOf v).toNat)
  case atStart => exact ⟨0, A1, k1, c1, rfl, rfl, by omega, Lib.hid (by simpa [wrs, pv] using X1.out)⟩
  case round =>
    obtain ⟨i, A', k', c', rfl, rfl, hi, H⟩ := hrel
    clear X1
    by_cases ci : i < n
    · have hl : i < L.length := by have := HN.out; omega
      obtain ⟨bb, off, rfl, q0, q1, q2⟩ := H.out.r i hl
      have hO := HO.out i ci
      have WT := Lib.hid (wrs_take rz L i hl)
      obtain ⟨p, hp⟩ : ∃ p, pv rz L i = p := ⟨_, rfl⟩
      obtain ⟨r, hr⟩ : ∃ r, L.getD i rz = r := ⟨_, rfl⟩
      have OK := Lib.hid (HK.out r (by rw [← hr, List.getD_eq_getElem?_getD, List.getElem?_eq_getElem hl]; exact List.getElem_mem _))
      have HP : Hid (p.s ≤ r.s ∧ p.t ≤ r.t) := Lib.hid (by
        rw [← hp, ← hr]
        unfold pv
        rcases hO with rfl | ⟨x, y⟩
        · simp
        · split
          · simp
          · exact ⟨by omega, y⟩)
      have PN := Lib.hid (show pv rz L (i + 1) = r by unfold pv; simpa using hr)
      rw [hp] at H WT
      rw [hr] at WT q0 q1 q2
      clear hp hr hO
      obtain ⟨rs, rt, rx⟩ := r
      obtain ⟨ps, pt, px⟩ := p
      simp only at q0 q1 q2 HP WT
      have BL : Hid ((l ++ (wrt n ++ wrs rz (L.take i))).length ≤ 4000) := Lib.hid (by
        have a1 := wrs_len rz (L.take i) (fun r hr => HK.out r (List.mem_of_mem_take hr))
        have a2 := wrt_ten n (by omega)
        have a3 := HL.out
        have a4 : (L.take i).length ≤ n := by rw [List.length_take]; omega
        simp only [List.length_append]
        omega)
      have YE := Lib.hid (show l ++ (wrt n ++ wrs rz (L.take (i + 1))) = l ++ (wrt n ++ wrs rz (L.take i)) ++ wrt (rs - ps) ++ wrt (rt - pt) ++ wrt rx by rw [WT.out]; simp [List.append_assoc])
      clear WT
      obtain ⟨ys, hys⟩ : ∃ ys, l ++ (wrt n ++ wrs rz (L.take i)) = ys := ⟨_, rfl⟩
      rw [hys] at H BL YE
      clear hys
      have B1 := Lib.hid (heap_alloc_new wr (robj ⟨rs, rt, rx⟩))
      have X1 := Lib.hid (H.out.next (below_alloc wr (robj ⟨rs, rt, rx⟩)))
      have w1s : IntKind.u64.wrap ((rs : Int) - (ps : Int)) = ((rs - ps : Nat) : Int) := by have := HP.out; have := OK.out.s; rw [IntKind.wrap_u64]; simp only at *; omega
      have w1t : IntKind.u64.wrap ((rt : Int) - (pt : Int)) = ((rt - pt : Nat) : Int) := by have := HP.out; have := OK.out.t; rw [IntKind.wrap_u64]; simp only at *; omega
      clear H
      go_upto_region 6 with fail
      generalize wr.alloc (robj ⟨rs, rt, rx⟩) = w3 at B1 X1 ⊢
      generalize wr.heap.size = gb at B1 ⊢
      clear q0 q1 q2
      obtain ⟨r0, r1, r2, _⟩ := robj_cells B1.out
      obtain ⟨p0, p1, p2, _⟩ := robj_cells X1.out.b
      go_wp2_with fail
      refine (put_any A' k' c' ys (rs - ps) w3 X1.out.l (by have := BL.out; have := X1.out.l; omega) (by have := OK.out.s; simp only at this; omega) (X1.out.o.byt X1.out.rg)).mono ?_
      rintro _ w4 ⟨A4, k4, c4, rfl, hk4, ho4, hb4⟩
      have X4 := Lib.hid (X1.out.put hb4 hk4 ho4)
      have B4 := Lib.hid ((hb4.block _ (Array.getElem?_eq_some_iff.1 B1.out).1).trans B1.out)
      clear hb4 hk4 ho4 r0 r1 r2 p0 p1 p2 X1 B1 w1s
      obtain ⟨r0, r1, r2, _⟩ := robj_cells B4.out
      obtain ⟨p0, p1, p2, _⟩ := robj_cells X4.out.b
      go_wp2_with fail
      refine (put_any A4 k4 c4 _ (rt - pt) w4 X4.out.l (by have := BL.out; have := X4.out.l; have := wrt_ten (rs - ps) (by have := OK.out.s; simp only at this; omega); rw [List.length_append] at *; omega) (by have := OK.out.t; simp only at this; omega) (X4.out.o.byt X4.out.rg)).mono ?_
      rintro _ w5 ⟨A5, k5, c5, rfl, hk5, ho5, hb5⟩
      have X5 := Lib.hid (X4.out.put hb5 hk5 ho5)
      have B5 := Lib.hid ((hb5.block _ (Array.getElem?_eq_some_iff.1 B4.out).1).trans B4.out)
      clear hb5 hk5 ho5 r0 r1 r2 p0 p1 p2 X4 B4 w1t
      obtain ⟨r0, r1, r2, _⟩ := robj_cells B5.out
      go_wp2_with fail
      refine (put_any A5 k5 c5 _ rx w5 X5.out.l (by have := BL.out; have := X5.out.l; have := wrt_ten (rs - ps) (by have := OK.out.s; simp only at this; omega); have := wrt_ten (rt - pt) (by have := OK.out.t; simp only at this; omega); simp only [List.length_append] at *; omega) OK.out.x (X5.out.o.byt X5.out.rg)).mono ?_
      rintro _ w6 ⟨A6, k6, c6, rfl, hk6, ho6, hb6⟩
      have X6 := Lib.hid (X5.out.put hb6 hk6 ho6)
      have B6 := Lib.hid ((hb6.block _ (Array.getElem?_eq_some_iff.1 B5.out).1).trans B5.out)
      clear hb6 hk6 ho6 r0 r1 r2 X5 B5
      obtain ⟨r0, r1, r2, _⟩ := robj_cells B6.out
      obtain ⟨_, _, _, pf⟩ := robj_cells X6.out.b
      have pf0 := pf 0
      have pf1 := pf 1
      have pf2 := pf 2
      clear pf
      go_wp2_with fail
      refine ⟨⟨i + 1, A6, k6, c6, by go_num, rfl, by omega, Lib.hid ?_⟩, by simp [intOf]; omega⟩
      rw [PN.out, YE.out]
      exact X6.out.set HG.out HV.out rs rt rx
    · obtain rfl : i = n := by omega
      have ET := Lib.hid (show L.take i = L from List.take_of_length_le (by have := HN.out; omega))
      rw [ET.out] at H
      have OF := Lib.hid H.out.o
      have LF := Lib.hid H.out.l
      have BF := Lib.hid H.out.bel
      clear H
      go_wp2_with fail
      go_ret
      exact ⟨A', k', c', rfl, LF.out, OF.out.le LF.out, OF.out, BF.out⟩
end Go.Proofs.Ytmooblbnkjaenaa
