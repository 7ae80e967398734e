/- A state's writing: the document's Put. -/
import Derived.Test.YtmooblbnkjaenaaSnF
import Derived.Test.YtmooblbnkjaenaaLbRPut
namespace Go.Proofs.Ytmooblbnkjaenaa
open Go Go.RowKit Pk
set_option maxRecDepth 20000

/- while the document's writing grows -/
structure Dw (w W : World) (next last : Nat) (fl : Bool) (fat : Nat) (A : Option Addr) (n c : Nat) (L : List Ru) (A' : Option Addr) (k' c' : Nat) (ys : List Int) : Prop where
  x : Sx w W next last fl fat A n c L
  o : Own W (w.heap.size + 1) (.slice A' k' c') ys
  l : ys.length = k'
  rg : ∀ c ∈ ys, 0 ≤ c ∧ c < 256
theorem Own.cap {W : World} {B k c : Nat} {A : Option Addr} {ys : List Int} (h : Own W B (.slice A k c) ys) : A = none → c = 0 := by
  rcases h.2 with ⟨h', _⟩ | ⟨g, cap, cur, h', _⟩
  · injection h' with _ _ e; intro _; exact e
  · injection h' with e; intro e2; rw [e2] at e; cases e
theorem Dw.put {w W W' : World} {next last : Nat} {fl : Bool} {fat : Nat} {A : Option Addr} {n c : Nat} {L : List Ru} {A' : Option Addr} {k' c' : Nat} {ys : List Int} (h : Dw w W next last fl fat A n c L A' k' c' ys) (hb : Below W.heap.size W W') {A2 : Option Addr} {k2 c2 m : Nat} (h1 : (ys ++ wrt m).length = k2) (ho : Own W' W.heap.size (.slice A2 k2 c2) (ys ++ wrt m)) : Dw w W' next last fl fat A n c L A2 k2 c2 (ys ++ wrt m) :=
  ⟨h.x.next hb, row_mono ho (Array.getElem?_eq_some_iff.1 h.x.a).1, h1, range_app h.rg (wrt_range m)⟩
theorem Dw.next {w W W' : World} {next last : Nat} {fl : Bool} {fat : Nat} {A : Option Addr} {n c : Nat} {L : List Ru} {A' : Option Addr} {k' c' : Nat} {ys : List Int} (h : Dw w W next last fl fat A n c L A' k' c' ys) (hb : Below W.heap.size W W') : Dw w W' next last fl fat A n c L A' k' c' ys :=
  ⟨h.x.next hb, h.o.below hb, h.l, h.rg⟩
/- one byte more -/
theorem Dw.byte {w W W' : World} {next last : Nat} {fl : Bool} {fat : Nat} {A : Option Addr} {n c : Nat} {L : List Ru} {A' : Option Addr} {k' c' : Nat} {ys : List Int} (h : Dw w W next last fl fat A n c L A' k' c' ys) (hv : Rus w A L) (hb : Below w.heap.size W W') (x : W'.heap[w.heap.size]? = some (sto next last fl fat A n c)) {A2 : Option Addr} {c2 : Nat} {b : Int} (hB : 0 ≤ b ∧ b < 256) (ho : Own W' (w.heap.size + 1) (.slice A2 (k' + 1) c2) (ys ++ [b])) : Dw w W' next last fl fat A n c L A2 (k' + 1) c2 (ys ++ [b]) :=
  ⟨⟨x, hv.below (h.x.bel.trans hb), h.x.bel.trans hb⟩, ho, by rw [List.length_append, h.l]; rfl, range_snoc h.rg hB⟩
set_option maxHeartbeats 8000000 in
theorem rput16_any (next last : Nat) (fl : Bool) (fat : Nat) (A : Option Addr) (n c : Nat) (L : List Ru) (w : World) (hn : L.length = n) (hm : n ≤ 1000) (hv : Rus w A L) (hk : ∀ r ∈ L, Okr r) (h1 : next < 18446744073709551616) (h2 : last < 18446744073709551616) (h3 : fat < 18446744073709551616) :
    Calls Try.prog 8 #[stv next last fl fat A n c] w fun e w' => PuX next last fl fat L w e w' := by
  have X0 : Hid (Sx w (w.alloc (.cells #[.int .u64 (next : Int), .int .u64 (last : Int), .bool fl, .int .u64 (fat : Int), .slice A n c] 25)) next last fl fat A n c L) := Lib.hid (Sx.new hv)
  have HB := Lib.hid (show next < 18446744073709551616 ∧ last < 18446744073709551616 ∧ fat < 18446744073709551616 from ⟨h1, h2, h3⟩)
  have HN := Lib.hid hn
  have HK := Lib.hid hk
  have HV := Lib.hid hv
  have HW := Lib.hid (fun W (h : Rus W A L) => may_any next last fl fat A n c L W hn hm h)
  clear h1 h2 h3 hn hk hv
  go_enter Try.func8, Try.ntmps8
  go_upto_region 1 with fail
  generalize (w.alloc (.cells #[.int .u64 (next : Int), .int .u64 (last : Int), .bool fl, .int .u64 (fat : Int), .slice A n c] 25)) = w1 at X0 ⊢
  obtain ⟨b0, b1, b2, b3, b4, _⟩ := sto_cells X0.out.a
  have H1 := Lib.hid (HW.out w1 X0.out.r)
  clear HW
  obtain ⟨ok, hok⟩ : ∃ ok, wr next last fl fat L = ok := ⟨_, rfl⟩
  rw [hok] at H1
  have OK := Lib.hid hok
  clear hok
  go_wp2_with fail
  refine H1.out.mono ?_
  rintro _ w2 ⟨rfl, hb2⟩
  have X2 := Lib.hid (X0.out.next hb2)
  clear H1 X0 hb2 b0 b1 b2 b3 b4
  cases ok
  · have YB := Lib.hid (show Byt (w2.alloc (.cells #[] 5)) (some ⟨w2.heap.size, 0, none⟩) [] from (Own.empty w2).byt (by simp))
    have BB := Lib.hid (below_go X2.out.bel (below_alloc w2 (.cells #[] 5)))
    go_wp2_with fail
    exact bodyPost_ret (results_tmp2 rfl _ _ _) rfl ⟨some ⟨w2.heap.size, 0, none⟩, 0, 0, [], by rw [OK.out]; rfl, by rw [OK.out]; rfl, rfl, by omega, Lib.hid YB.out, BB.out⟩
  · have WF := Lib.hid ((wr_iff _ _ _ _ _).1 OK.out)
    have Q0 := Lib.hid (below_alloc w2 (.cells #[] 5))
    have D0 : Hid (Dw w (w2.alloc (.cells #[] 5)) next last fl fat A n c L (some ⟨w2.heap.size, 0, none⟩) 0 0 []) := Lib.hid ⟨X2.out.next Q0.out, row_mono (Own.empty w2) (Array.getElem?_eq_some_iff.1 X2.out.a).1, rfl, by simp⟩
    have S2 := Lib.hid X2.out.bel.size
    obtain ⟨b0, b1, b2, b3, b4, _⟩ := sto_cells D0.out.x.a
    clear X2 Q0
    go_wp2_with fail
    generalize w2.alloc (.cells #[] 5) = w3 at D0 b0 b1 b2 b3 b4 ⊢
    refine (rput_any _ 0 0 [] next w3 rfl (by omega) (by intro h; cases h) HB.out.1 (D0.out.o.byt D0.out.rg)).mono ?_
    rintro _ w4 ⟨A4, k4, c4, rfl, hk4, ho4, hb4⟩
    have D4 := Lib.hid (D0.out.put hb4 hk4 ho4)
    clear D0 b0 b1 b2 b3 b4 hk4 ho4 hb4
    obtain ⟨b0, b1, b2, b3, b4, _⟩ := sto_cells D4.out.x.a
    have T1 := Lib.hid (wrt_ten next HB.out.1)
    have T2 := Lib.hid (wrt_ten last HB.out.2.1)
    have T3 := Lib.hid (wrt_ten fat HB.out.2.2)
    have K4 : Hid (k4 ≤ 10) := Lib.hid (by have := D4.out.l; have := T1.out; simp only [List.length_append, List.length_nil] at *; omega)
    go_wp2_with fail
    refine (rput_any A4 k4 c4 _ last w4 D4.out.l (by have := K4.out; omega) D4.out.o.cap HB.out.2.1 (D4.out.o.byt D4.out.rg)).mono ?_
    rintro _ w5 ⟨A5, k5, c5, rfl, hk5, ho5, hb5⟩
    have D5 := Lib.hid (D4.out.put hb5 hk5 ho5)
    have K5 : Hid (k5 ≤ 20) := Lib.hid (by have := D4.out.l; have := K4.out; have := T2.out; rw [List.length_append] at hk5; omega)
    clear D4 b0 b1 b2 b3 b4 hk5 ho5 hb5
    obtain ⟨b0, b1, b2, b3, b4, _⟩ := sto_cells D5.out.x.a
    have SW := Lib.hid (show w.heap.size < w5.heap.size from (Array.getElem?_eq_some_iff.1 D5.out.x.a).1)
    have NB6 : ∀ {o : Obj} {W : World}, Below w5.heap.size w5 (w5.alloc o) → Below (w.heap.size + 1) (w5.alloc o) W → Below w.heap.size w5 W := fun h k => (h.mono (Nat.le_of_lt SW.out)).trans (k.mono (Nat.le_succ _))
    have X6 : ∀ {o : Obj} {W : World}, Below w5.heap.size w5 (w5.alloc o) → Below (w.heap.size + 1) (w5.alloc o) W → W.heap[w.heap.size]? = some (sto next last fl fat A n c) := fun h k => (k.block _ (by omega)).trans ((h.block _ SW.out).trans D5.out.x.a)
    cases fl
    · go_upto_region 8 with fail
      have NB := Lib.hid (below_alloc w5 (.cells #[.int .u8 0] 5))
      have MB := Lib.hid (Byt.one w5 0 (by omega))
      have O5 := Lib.hid (D5.out.o.below NB.out)
      have L5 := Lib.hid NB.out.size
      go_wp2_with (at_builtin; refine wp_app (.tmp 29) (.tmp 30) _ rfl rfl (w.heap.size + 1) _ _ rfl O5.out _ 1 1 [0] rfl rfl MB.out (by intro h; cases h) D5.out.rg (k5 + 1) (by rw [List.length_append, D5.out.l]; rfl) (by have := K5.out; omega) (Nat.le_trans SW.out L5.out) ?_; intro A6 c6 w6 ho6 hy6 hb6; have D6 := Lib.hid (D5.out.byte HV.out (NB6 NB.out hb6) (X6 NB.out hb6) (by omega) ho6); have d3 := (sto_cells D6.out.x.a).2.2.2.1; have d4 := (sto_cells D6.out.x.a).2.2.2.2.1; clear hb6 ho6 hy6 D5 NB MB O5 L5)
      refine (rput_any A6 (k5 + 1) c6 _ n w6 D6.out.l (by have := K5.out; omega) D6.out.o.cap (by omega) (D6.out.o.byt D6.out.rg)).mono ?_
      rintro _ w7 ⟨A7, k7, c7, rfl, hk7, ho7, hb7⟩
      have D7 := Lib.hid (D6.out.put hb7 hk7 ho7)
      have K7 : Hid (k7 ≤ 31) := Lib.hid (by have := D6.out.l; have := K5.out; have := wrt_ten n (by omega); rw [List.length_append] at hk7; omega)
      clear D6 b0 b1 b2 b3 b4 d3 d4 hk7 ho7 hb7
      obtain ⟨b0, b1, b2, b3, b4, _⟩ := sto_cells D7.out.x.a
      have HO := Lib.hid ((ord_iff L n).1 (by have := (((wr_iff _ _ _ _ _).1 OK.out).2.2.2.2 rfl).2; rwa [HN.out] at this))
      have HM := Lib.hid (show n ≤ 64 by have := WF.out.2.2.1; rwa [HN.out] at this)
      obtain ⟨xs, hxs⟩ : ∃ xs, [] ++ wrt next ++ wrt last ++ [0] ++ wrt n = xs := ⟨_, rfl⟩
      have HX := Lib.hid hxs
      rw [hxs] at D7
      have KX : Hid (xs.length ≤ 31) := Lib.hid (by rw [D7.out.l]; exact K7.out)
      clear hxs
      go_upto_region 11 with fail
      clear b0 b1 b2 b3 b4
      go_loopw [41, 4] (fun v y W => ∃ (i : Nat) (A' : Option Addr) (k' c' : Nat), v = .int .i64 (i : Int) ∧ y = .slice A' k' c' ∧ i ≤ n ∧ Hid (Dw w W next last false fat A n c L A' k' c' (xs ++ wrs rz (L.take i)))) (fun v _ _ => n - (intOf v).toNat)
      case atStart => exact ⟨0, A7, k7, c7, rfl, rfl, by omega, Lib.hid (by simpa [wrs] using D7.out)⟩
      case round =>
        obtain ⟨i, A', k', c', rfl, rfl, hi, H⟩ := hrel
        clear D7
        by_cases ci : i < n
        · have hl : i < L.length := by have := HN.out; omega
          obtain ⟨bb, off, rfl, q0, q1, q2⟩ := H.out.x.r i hl
          have hO := HO.out i ci
          have WT := Lib.hid (wrs_take rz L i hl)
          obtain ⟨r, hr⟩ : ∃ r, L.getD i rz = r := ⟨_, rfl⟩
          have OK2 := Lib.hid (HK.out r (by rw [← hr, List.getD_eq_getElem?_getD, List.getElem?_eq_getElem hl]; exact List.getElem_mem _))
          have BL : Hid ((xs ++ wrs rz (L.take i)).length ≤ 4000) := Lib.hid (by
            have a1 := wrs_len rz (L.take i) (fun r hr => HK.out r (List.mem_of_mem_take hr))
            have a4 : (L.take i).length ≤ n := by rw [List.length_take]; omega
            have a5 := KX.out
            have a6 := HM.out
            simp only [List.length_append]
            omega)
          obtain ⟨b0, b1, b2, b3, b4, _⟩ := sto_cells H.out.x.a
          rw [hr] at hO WT q0 q1 q2
          obtain ⟨rs, rt, rx⟩ := r
          simp only at hO q0 q1 q2 WT
          rcases i with _ | j
          · have YE := Lib.hid (show xs ++ wrs rz (L.take (0 + 1)) = xs ++ wrs rz (L.take 0) ++ wrt rs ++ wrt rt ++ wrt rx by rw [WT.out]; simp [List.append_assoc, pv])
            clear WT hO
            simp only [Nat.zero_mul, Nat.add_zero] at q0 q1 q2
            obtain ⟨ys, hys⟩ : ∃ ys, xs ++ wrs rz (L.take 0) = ys := ⟨_, rfl⟩
            rw [hys] at H BL YE
            clear hys
            go_wp2_with fail
            refine (rput_any A' k' c' _ rs wr H.out.l (by have := BL.out; have := H.out.l; omega) H.out.o.cap (by have := OK2.out.s; have := OK2.out.t; have := OK2.out.x; simp only at *; omega) (H.out.o.byt H.out.rg)).mono ?_
            rintro _ v1 ⟨a1, i1, z1, rfl, hi1, hw1, hy1⟩
            have E1 := Lib.hid (H.out.put hy1 hi1 hw1)
            clear hi1 hw1
            have q2 := (hy1.cell (World.block_lt_of_cell? _ _ q2)).trans q2
            clear b0 b1 b2 b3 b4
            obtain ⟨b0, b1, b2, b3, b4, _⟩ := sto_cells E1.out.x.a
            clear hy1
            go_wp2_with fail
            refine (rput_any a1 i1 z1 _ rt v1 E1.out.l (by have := BL.out; have := E1.out.l; have := wrt_ten rs (by have := OK2.out.s; have := OK2.out.t; have := OK2.out.x; simp only at *; omega); simp only [List.length_append] at *; omega) E1.out.o.cap (by have := OK2.out.s; have := OK2.out.t; have := OK2.out.x; simp only at *; omega) (E1.out.o.byt E1.out.rg)).mono ?_
            rintro _ v2 ⟨a2, i2, z2, rfl, hi2, hw2, hy2⟩
            have E2 := Lib.hid (E1.out.put hy2 hi2 hw2)
            clear hi2 hw2
            have q2 := (hy2.cell (World.block_lt_of_cell? _ _ q2)).trans q2
            clear b0 b1 b2 b3 b4
            obtain ⟨b0, b1, b2, b3, b4, _⟩ := sto_cells E2.out.x.a
            clear hy2
            go_wp2_with fail
            refine (rput_any a2 i2 z2 _ rx v2 E2.out.l (by have := BL.out; have := E2.out.l; have := wrt_ten rs (by have := OK2.out.s; have := OK2.out.t; have := OK2.out.x; simp only at *; omega); have := wrt_ten rt (by have := OK2.out.s; have := OK2.out.t; have := OK2.out.x; simp only at *; omega); simp only [List.length_append] at *; omega) E2.out.o.cap (by have := OK2.out.s; have := OK2.out.t; have := OK2.out.x; simp only at *; omega) (E2.out.o.byt E2.out.rg)).mono ?_
            rintro _ v3 ⟨a3, i3, z3, rfl, hi3, hw3, hy3⟩
            have E3 := Lib.hid (E2.out.put hy3 hi3 hw3)
            clear hi3 hw3
            clear b0 b1 b2 b3 b4
            go_wp2_with fail
            exact ⟨⟨0 + 1, a3, i3, z3, by go_num, rfl, by omega, Lib.hid (by rw [YE.out]; exact E3.out)⟩, by simp [intOf]; omega⟩
          · obtain ⟨bb', off', he, p0, p1, _⟩ := H.out.x.r j (by omega)
            injection he with he
            injection he with he1 he2 _
            subst he1 he2
            obtain ⟨q, hq⟩ : ∃ q, L.getD j rz = q := ⟨_, rfl⟩
            have PV : pv rz L (j + 1) = q := by unfold pv; simpa using hq
            rw [PV] at WT
            rw [Nat.add_sub_cancel, hq] at hO
            rw [hq] at p0 p1
            clear PV
            obtain ⟨ps, pt, px⟩ := q
            simp only at hO p0 p1 WT
            have hO2 : ps < rs ∧ pt ≤ rt := by rcases hO with h | h; omega; exact h
            have w1s : IntKind.u64.wrap ((rs : Int) - (ps : Int)) = ((rs - ps : Nat) : Int) := by have := OK2.out.s; rw [IntKind.wrap_u64]; simp only at *; omega
            have w1t : IntKind.u64.wrap ((rt : Int) - (pt : Int)) = ((rt - pt : Nat) : Int) := by have := OK2.out.t; rw [IntKind.wrap_u64]; simp only at *; omega
            have YE := Lib.hid (show xs ++ wrs rz (L.take (j + 1 + 1)) = xs ++ wrs rz (L.take (j + 1)) ++ wrt (rs - ps) ++ wrt (rt - pt) ++ wrt rx by rw [WT.out]; simp [List.append_assoc])
            clear WT hO hq
            obtain ⟨ys, hys⟩ : ∃ ys, xs ++ wrs rz (L.take (j + 1)) = ys := ⟨_, rfl⟩
            rw [hys] at H BL YE
            clear hys
            go_wp2_with fail
            refine (rput_any A' k' c' _ (rs - ps) wr H.out.l (by have := BL.out; have := H.out.l; omega) H.out.o.cap (by have := OK2.out.s; have := OK2.out.t; have := OK2.out.x; simp only at *; omega) (H.out.o.byt H.out.rg)).mono ?_
            rintro _ v1 ⟨a1, i1, z1, rfl, hi1, hw1, hy1⟩
            have E1 := Lib.hid (H.out.put hy1 hi1 hw1)
            clear hi1 hw1
            have q2 := (hy1.cell (World.block_lt_of_cell? _ _ q2)).trans q2
            clear b0 b1 b2 b3 b4
            obtain ⟨b0, b1, b2, b3, b4, _⟩ := sto_cells E1.out.x.a
            clear hy1
            go_wp2_with fail
            refine (rput_any a1 i1 z1 _ (rt - pt) v1 E1.out.l (by have := BL.out; have := E1.out.l; have := wrt_ten (rs - ps) (by have := OK2.out.s; have := OK2.out.t; have := OK2.out.x; simp only at *; omega); simp only [List.length_append] at *; omega) E1.out.o.cap (by have := OK2.out.s; have := OK2.out.t; have := OK2.out.x; simp only at *; omega) (E1.out.o.byt E1.out.rg)).mono ?_
            rintro _ v2 ⟨a2, i2, z2, rfl, hi2, hw2, hy2⟩
            have E2 := Lib.hid (E1.out.put hy2 hi2 hw2)
            clear hi2 hw2
            have q2 := (hy2.cell (World.block_lt_of_cell? _ _ q2)).trans q2
            clear b0 b1 b2 b3 b4
            obtain ⟨b0, b1, b2, b3, b4, _⟩ := sto_cells E2.out.x.a
            clear hy2
            go_wp2_with fail
            refine (rput_any a2 i2 z2 _ rx v2 E2.out.l (by have := BL.out; have := E2.out.l; have := wrt_ten (rs - ps) (by have := OK2.out.s; have := OK2.out.t; have := OK2.out.x; simp only at *; omega); have := wrt_ten (rt - pt) (by have := OK2.out.s; have := OK2.out.t; have := OK2.out.x; simp only at *; omega); simp only [List.length_append] at *; omega) E2.out.o.cap (by have := OK2.out.s; have := OK2.out.t; have := OK2.out.x; simp only at *; omega) (E2.out.o.byt E2.out.rg)).mono ?_
            rintro _ v3 ⟨a3, i3, z3, rfl, hi3, hw3, hy3⟩
            have E3 := Lib.hid (E2.out.put hy3 hi3 hw3)
            clear hi3 hw3
            clear b0 b1 b2 b3 b4
            go_wp2_with fail
            exact ⟨⟨j + 1 + 1, a3, i3, z3, by go_num, rfl, by omega, Lib.hid (by rw [YE.out]; exact E3.out)⟩, by simp [intOf]; omega⟩
        · obtain rfl : i = n := by omega
          have ET := Lib.hid (show L.take i = L from List.take_of_length_le (by have := HN.out; omega))
          rw [ET.out, ← HX.out] at H
          have WE := Lib.hid (show [] ++ wrt next ++ wrt last ++ [0] ++ wrt i ++ wrs rz L = wst next last false fat L by rw [← HN.out]; simp [wst, List.append_assoc])
          rw [WE.out] at H
          have OF := Lib.hid H.out.o
          have LF := Lib.hid H.out.l
          have BF := Lib.hid H.out.x.bel
          have YF := Lib.hid (OF.out.byt H.out.rg)
          clear H
          go_wp2_with fail
          exact bodyPost_ret (results_tmp2 rfl _ _ _) rfl ⟨A', k', c', _, by rw [OK.out]; rfl, by rw [OK.out]; rfl, LF.out, OF.out.le LF.out, Lib.hid YF.out, BF.out⟩
    · go_upto_region 6 with fail
      have NB := Lib.hid (below_alloc w5 (.cells #[.int .u8 1] 5))
      have MB := Lib.hid (Byt.one w5 1 (by omega))
      have O5 := Lib.hid (D5.out.o.below NB.out)
      have L5 := Lib.hid NB.out.size
      go_wp2_with (at_builtin; refine wp_app (.tmp 22) (.tmp 23) _ rfl rfl (w.heap.size + 1) _ _ rfl O5.out _ 1 1 [1] rfl rfl MB.out (by intro h; cases h) D5.out.rg (k5 + 1) (by rw [List.length_append, D5.out.l]; rfl) (by have := K5.out; omega) (Nat.le_trans SW.out L5.out) ?_; intro A6 c6 w6 ho6 hy6 hb6; have D6 := Lib.hid (D5.out.byte HV.out (NB6 NB.out hb6) (X6 NB.out hb6) (by omega) ho6); have d3 := (sto_cells D6.out.x.a).2.2.2.1; have d4 := (sto_cells D6.out.x.a).2.2.2.2.1; clear hb6 ho6 hy6 D5 NB MB O5 L5)
      refine (rput_any A6 (k5 + 1) c6 _ fat w6 D6.out.l (by have := K5.out; omega) D6.out.o.cap HB.out.2.2 (D6.out.o.byt D6.out.rg)).mono ?_
      rintro _ w7 ⟨A7, k7, c7, rfl, hk7, ho7, hb7⟩
      have D7 := Lib.hid (D6.out.put hb7 hk7 ho7)
      clear D6 b0 b1 b2 b3 b4 d3 d4 hk7 ho7 hb7
      have WE := Lib.hid (show [] ++ wrt next ++ wrt last ++ [1] ++ wrt fat = wst next last true fat L by simp [wst, List.append_assoc])
      rw [WE.out] at D7
      have YF := Lib.hid (D7.out.o.byt D7.out.rg)
      go_wp2_with fail
      exact bodyPost_ret (results_tmp2 rfl _ _ _) rfl ⟨A7, k7, c7, _, by rw [OK.out]; rfl, by rw [OK.out]; rfl, D7.out.l, D7.out.o.le D7.out.l, Lib.hid YF.out, D7.out.x.bel⟩
end Go.Proofs.Ytmooblbnkjaenaa
