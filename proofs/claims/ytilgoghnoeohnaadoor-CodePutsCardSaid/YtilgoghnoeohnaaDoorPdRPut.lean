/- The contract of the document's Put. -/
import Derived.Test.YtilgoghnoeohnaaDoorPdPut
import Derived.Deep.RegionHeldLaw
namespace Go.Proofs.YtilgoghnoeohnaaDoor
open Go Go.RowKit Pk Rl
set_option maxRecDepth 20000

theorem step_app {ops : Array Oper} {o : Oper} {a : Act} {K : Act → World → Prop} {Q : Exit → Act → World → Prop} {E : Prop} (s x : Operand) (w : World) (hgd : o.guard = none)
    (hop : o.op = .call { callee := .builtin .append, args := #[s, x], argTypes := #[32, 32] })
    (B : Nat) (v : Value) (xs : List Int) (hs : a.eval s = v) (ho : Own w B v xs) (A : Option Addr) (m c : Nat) (l : List Int) (hx : a.eval x = .slice A m c) (hm : l.length = m) (hb : Byt w A l) (hc : A = none → c = 0)
    (hr : ∀ c ∈ xs, 0 ≤ c ∧ c < 256) (k : Nat) (hk : (xs ++ l).length = k) (hlen : k ≤ 1000000) (hB : B ≤ w.heap.size)
    (h : ∀ A' c' w', Own w' B (.slice A' k c') (xs ++ l) → Below B w w' → K (a.put o.dst (.slice A' k c')) w') :
    if Region.wanted o (yielded ops a.tmps) = true then Oper.wp Tryd.prog o a w K Q else E := by
  have hw : Region.wanted o (yielded ops a.tmps) = true := by simp [Region.wanted, hgd]
  rw [if_pos hw]
  have hlen2 : xs.length + m ≤ 1000000 := by rw [List.length_append] at hk; omega
  obtain ⟨v', w', hrun, h2, h3⟩ := run_app w B o.type v xs ho A m c l hm hb hc hlen2 hB
  obtain ⟨A', c', rfl, hby⟩ := h2.form (range_app hr hb.2)
  rw [hk] at h2 hrun
  unfold Oper.wp
  simp [execOp, hop, resolve, invoke, builtin, hs, hx, hrun, Result.andThen]
  exact h A' c' w' h2 h3
abbrev Sr (W : World) (g b off : Nat) (a : Option Addr) (n c j : Nat) (f o : Int) : Prop :=
  W.cell? ⟨g, 2, none⟩ = some (.slice a n c) ∧ W.cell? ⟨b, off + j * 6, none⟩ = some (.int .u8 f) ∧ W.cell? ⟨b, off + j * 6 + 1, none⟩ = some (.int .u8 o)
theorem sr_below {W W' : World} {B g b off : Nat} {a : Option Addr} {n c j : Nat} {f o : Int} (hb : Below B W W') (hB : Hid (g < B ∧ b < B)) (h : Sr W g b off a n c j f o) : Sr W' g b off a n c j f o :=
  ⟨by rw [hb.cell (p := ⟨g, 2, none⟩) hB.out.1]; exact h.1, by rw [hb.cell (p := ⟨b, off + j * 6, none⟩) hB.out.2]; exact h.2.1, by rw [hb.cell (p := ⟨b, off + j * 6 + 1, none⟩) hB.out.2]; exact h.2.2⟩
theorem sr_alloc {W : World} {ob : Obj} {g b off : Nat} {a : Option Addr} {n c j : Nat} {f o : Int} (h : Sr W g b off a n c j f o) : Sr (W.alloc ob) g b off a n c j f o :=
  sr_below (below_alloc W ob) (Lib.hid ⟨World.block_lt_of_cell? _ _ h.1, World.block_lt_of_cell? _ _ h.2.1⟩) h

set_option maxHeartbeats 1000000 in
theorem rpput_no (b : Value) (x : Bool) (t : Int) (a : Option Addr) (n c : Nat) (L : List TT) (w : World) (hn : L.length = n) (hm : n ≤ 1000) (hv : Tsts w a L) (hk : ∀ v ∈ L, Okt v) (h : pmay x t L = false) :
    Calls Tryd.prog 41 #[b, pv x t a n c] w fun e w' => ∃ A, e = .returned (.tuple #[.slice A 0 0, .int .i64 1]) ∧ Own w' w.heap.size (.slice A 0 0) [] ∧ Below w.heap.size w w' := by
  have B0 := Lib.hid (below_alloc w (pcells x t a n c))
  have M := Lib.hid (rpmay_any x t a n c L (w.alloc (pcells x t a n c)) hn hm (hv.below B0.out) hk)
  rw [h] at M
  clear hn hv hk hm h
  go_enter Tryd.func41, Tryd.ntmps41
  go_wp2_with fail
  refine M.out.mono ?_
  rintro e w2 ⟨rfl, hb⟩
  have B2 := Lib.hid (below_go B0.out hb)
  clear hb M B0
  have O2 := Lib.hid ((Own.empty w2).mono B2.out.size)
  have B3 := Lib.hid (below_go B2.out (below_alloc w2 (.cells #[] 5)))
  go_wp2_with fail
  go_ret2
  exact ⟨_, rfl, O2.out, B3.out⟩

theorem Att.below2 {B : Nat} {w w' : World} {b o : Nat} {v : TT} (h : Att w b o v) (hb : Below B w w') (hB : b < B) : Att w' b o v := by
  obtain ⟨h0, h1, h2, h3, h4, h5⟩ := h
  exact ⟨by rw [hb.cell (p := ⟨b, o, none⟩) hB]; exact h0, by rw [hb.cell (p := ⟨b, o + 1, none⟩) hB]; exact h1, by rw [hb.cell (p := ⟨b, o + 2, none⟩) hB]; exact h2, by rw [hb.cell (p := ⟨b, o + 3, none⟩) hB]; exact h3, by rw [hb.cell (p := ⟨b, o + 4, none⟩) hB]; exact h4, by rw [hb.cell (p := ⟨b, o + 5, none⟩) hB]; exact h5⟩
set_option maxHeartbeats 4000000 in
theorem rpput_f (b : Option Addr) (len cap : Nat) (l : List Int) (t : Int) (a : Option Addr) (n c : Nat) (L : List TT) (w : World) (hl : l.length = len) (hlen : len ≤ 100000) (hcap : b = none → cap = 0) (hb : Byt w b l) (ht : 0 ≤ t ∧ t < 256)
    (hn : L.length = n) (hv : Tsts w a L) (hk : ∀ v ∈ L, Okt v) (h : pmay false t L = true) :
    Calls Tryd.prog 41 #[.slice b len cap, pv false t a n c] w fun e w' => ∃ A' k' c', e = .returned (.tuple #[.slice A' k' c', .int .i64 0]) ∧ (l ++ wpd false t L).length = k' ∧ Own w' w.heap.size (.slice A' k' c') (l ++ wpd false t L) ∧ Below w.heap.size w w' := by
  have h4 : n ≤ 4 := hn ▸ pmay_len h
  have hr := pmay_rgt' h
  have B0 := Lib.hid (below_alloc w (pcells false t a n c))
  have E0 := Lib.hid (Pdt.alloc w false t a n c)
  have M := Lib.hid (rpmay_any false t a n c L (w.alloc (pcells false t a n c)) hn (by omega) (hv.below B0.out) hk)
  rw [h] at M
  have hw0 : IntKind.u8.wrap (16 * (n : Int)) = 16 * (n : Int) := by rw [IntKind.wrap_u8]; omega
  have hw1 : IntKind.u8.wrap (16 * (n : Int) + 1) = 16 * (n : Int) + 1 := by rw [IntKind.wrap_u8]; omega
  have HL := Lib.hid hl
  have HB := Lib.hid hb
  have HC := Lib.hid hcap
  have HN := Lib.hid hn
  have HV0 := Lib.hid hv
  have HV := Lib.hid hv
  have HK := Lib.hid hk
  have HM := Lib.hid hr
  have HT := Lib.hid ht
  have KB := Lib.hid (show ∀ j, ((l ++ [16 * (n : Int), t]) ++ wts (L.take j)).length ≤ 103000 from fun j => by
    have h1 := wts_len (L.take j) (fun v hv => hk v (List.mem_of_mem_take hv)) (fun v hv => hr v (List.mem_of_mem_take hv))
    have h3 := List.length_take_le' j L
    rw [List.length_append, List.length_append, hl]
    simp only [List.length_cons, List.length_nil]
    omega)
  have KR := Lib.hid (show ∀ j, ∀ c ∈ (l ++ [16 * (n : Int), t]) ++ wts (L.take j), 0 ≤ c ∧ c < 256 from fun j =>
    range_app (range_app hb.2 (fr0_range false t n ht h4)) (wts_range _ (fun v hv => hk v (List.mem_of_mem_take hv)) (fun v hv => hr v (List.mem_of_mem_take hv))))
  have EQ := Lib.hid (show (l ++ [16 * (n : Int), t]) ++ wts (L.take n) = l ++ wpd false t L by rw [← hn, List.take_length, wpd, List.append_assoc]; rfl)
  have R0 := Lib.hid (show ∀ c ∈ ([] : List Int), 0 ≤ c ∧ c < 256 by simp)
  have K0 := Lib.hid (show ([] ++ l).length = len by rw [List.nil_append]; exact hl)
  have K1 := Lib.hid (show (l ++ [16 * (n : Int), t]).length = len + 2 by rw [List.length_append, hl]; rfl)
  clear hl hb hcap hn hv hk h ht hr
  go_enter Tryd.func41, Tryd.ntmps41
  go_wp2_with fail
  refine M.out.mono ?_
  rintro e w2 ⟨rfl, hb⟩
  have B2 := Lib.hid (below_go B0.out hb)
  have E2 := Lib.hid (E0.out.next hb)
  clear hb M B0 E0
  have Z2 := Lib.hid (show w.heap.size + 1 ≤ w2.heap.size from E2.out.lt)
  have BX := Lib.hid (below_alloc w2 (.cells #[] 5))
  have O1 := Lib.hid ((Own.empty w2).mono Z2.out)
  go_wp2_with (first
    | (at_builtin; refine wp_app (.tmp 15) (.tmp 16) _ rfl rfl (w.heap.size + 1) _ [] rfl O1.out b len cap l rfl HL.out (HB.out.below (below_go B2.out BX.out)) HC.out R0.out len K0.out (by omega) (Nat.le_trans Z2.out BX.out.size) ?_; intro A3 c3 w3 hO3 _ hb3; rw [List.nil_append] at hO3; have E3 := Lib.hid ((E2.out.next BX.out).below hb3 (by omega)); have B3 := Lib.hid ((below_go B2.out BX.out).trans (hb3.mono (by omega))); have O3 := Lib.hid hO3; have Z3 := Lib.hid (show w.heap.size + 1 ≤ w3.heap.size from E3.out.lt); obtain ⟨e0, e1, e2⟩ := E3.out; have BY := Lib.hid (below_alloc w3 (.cells #[.int .u8 (16 * (n : Int)), .int .u8 t] 5)); clear hO3 hb3)
    | (at_builtin; refine wp_app (.tmp 29) (.tmp 37) _ rfl rfl (w.heap.size + 1) _ l rfl (O3.out.below BY.out) _ 2 2 [16 * (n : Int), t] rfl rfl (Byt.two w3 (16 * (n : Int)) t (by omega) HT.out) (by intro h; cases h) HB.out.2 (len + 2) K1.out (by omega) (Nat.le_trans Z3.out BY.out.size) ?_; intro A4 c4 w4 hO4 _ hb4; have P4 := Lib.hid (show PPut w w4 false t a n c A4 (len + 2) c4 (l ++ [16 * (n : Int), t]) from ⟨(E3.out.next BY.out).below hb4 (by omega), hO4, K1.out, (below_go B3.out BY.out).trans (hb4.mono (by omega))⟩); obtain ⟨e0, e1, e2⟩ := P4.out.pdt; clear hO4 hb4))
  clear O3 B3 E3 Z3 BY O1 BX B2 E2 Z2 e0 e1 e2
  go_loopw [42, 6] (fun i v W => ∃ (j : Nat) (A : Option Addr) (k c' : Nat), i = .int .i64 j ∧ v = .slice A k c' ∧ j ≤ n ∧ k ≤ 103000 ∧ Hid (PPut w W false t a n c A k c' ((l ++ [16 * (n : Int), t]) ++ wts (L.take j)))) (fun i _ _ => n - (intOf i).toNat)
  case atStart => exact ⟨0, A4, len + 2, c4, rfl, rfl, by omega, by omega, Lib.hid (by simpa [wts] using P4.out)⟩
  case round =>
    obtain ⟨j, A, k, c', rfl, rfl, hj, hk, H⟩ := hrel
    clear P4
    by_cases hjn : j < n
    · obtain ⟨b', off, rfl, hA0⟩ := HV0.out j (by have := HN.out; omega)
      have zb : b' < w.heap.size := World.block_lt_of_cell? _ _ hA0.1
      have hA1 := hA0.below H.out.bel
      clear hA0
      have hok := Lib.hid (HK.out _ (tgetD_mem L j (by have := HN.out; omega)))
      have hmy := Lib.hid (HM.out _ (tgetD_mem L j (by have := HN.out; omega)))
      have WS := Lib.hid (show ((l ++ [16 * (n : Int), t]) ++ wts (L.take (j + 1))) = ((l ++ [16 * (n : Int), t]) ++ wts (L.take j)) ++ wt (L.getD j tz) by rw [wts_snoc L j (by have := HN.out; omega), ← List.append_assoc])
      have KB1 := Lib.hid (KB.out (j + 1))
      have KR1 := Lib.hid (KR.out j)
      rw [WS.out] at KB1
      generalize L.getD j tz = v at hA1 hok hmy WS KB1
      generalize (l ++ [16 * (n : Int), t]) ++ wts (L.take j) = ys at H WS KB1 KR1
      have WL := wt_len v hok.out hmy.out
      have rv := (show ∀ c ∈ [v.1, v.2.1], 0 ≤ c ∧ c < 256 from (Byt.two wr v.1 v.2.1 ⟨hok.out.f0, hok.out.f1⟩ ⟨hok.out.o0, hok.out.o1⟩).2)
      have KR2 := Lib.hid (show ∀ c ∈ ys ++ [v.1, v.2.1], 0 ≤ c ∧ c < 256 from range_app KR1.out rv)
      have KY := Lib.hid (show (ys ++ [v.1, v.2.1]).length = k + 2 by rw [List.length_append, H.out.len]; rfl)
      have RF := Lib.hid (And.intro (And.intro hok.out.f0 hok.out.f1) (And.intro hok.out.o0 hok.out.o1))
      have PV := Lib.hid (fun (A6 : Option Addr) (c6 : Nat) (w6 : World) (h6 : PPut w w6 false t (some ⟨b', off, none⟩) n c A6 (k + 2) c6 (ys ++ [v.1, v.2.1])) => rvput_v v.2.2 w6 (rgt_may hmy.out) hok.out.v A6 (k + 2) c6 (ys ++ [v.1, v.2.1]) h6.len (by omega) h6.own.capz (h6.own.byt KR2.out))
      have WW : (ys ++ [v.1, v.2.1]) ++ wvv v.2.2 = ys ++ wt v := by rw [wt, List.append_assoc]
      rw [WW] at PV
      have WW2 := Lib.hid (show (ys ++ wt v).length = k + (wt v).length by rw [List.length_append, H.out.len])
      obtain ⟨f, o, q, m, r, s⟩ := v
      have AT := Lib.hid hA1
      obtain ⟨c0, c1, _, _, _, _⟩ := hA1
      obtain ⟨e0, e1, e2⟩ := H.out.pdt
      have HBB : Hid (w.heap.size < w.heap.size + 1 ∧ b' < w.heap.size + 1) := Lib.hid ⟨by omega, by omega⟩
      have KD := Lib.hid (show Sr wr.drew w.heap.size b' off (some ⟨b', off, none⟩) n c j f o from ⟨e2, c0, c1⟩)
      have KD2 := Lib.hid (fun (ob : Obj) => show Sr (wr.alloc ob).drew w.heap.size b' off (some ⟨b', off, none⟩) n c j f o from sr_below (below_alloc wr ob).drew (Lib.hid ⟨World.block_lt_of_cell? _ _ e2, World.block_lt_of_cell? _ _ c0⟩) ⟨e2, c0, c1⟩)
      have OB := Lib.hid (fun (ob : Obj) => H.out.own.below (below_alloc wr ob).drew)
      have BT := Lib.hid ((Byt.two wr f o RF.out.1 RF.out.2).below (Below.refl _ _).drew)
      clear hok hmy rv
      go_wp2_with fail
      go_region_held_law (fun W => W.cell? ⟨w.heap.size, 2, none⟩ = some (.slice (some ⟨b', off, none⟩) n c) ∧ W.cell? ⟨b', off + j * 6, none⟩ = some (.int .u8 f) ∧ W.cell? ⟨b', off + j * 6 + 1, none⟩ = some (.int .u8 o))
        (first | (with_reducible assumption) | (with_reducible exact KD.out) | (with_reducible exact sr_below hb6 HBB (by assumption)) | (with_reducible exact KD2.out _))
        (first
          | (refine step_app (.tmp 45) (.tmp 58) _ (by rfl) (by rfl) (w.heap.size + 1) _ ys (by rfl) (OB.out _) _ 2 2 [f, o] (by rfl) rfl BT.out (by intro h; cases h) KR1.out (k + 2) KY.out (by omega) (by have := H.out.size; simp; omega) ?_; intro A6 c6 w6 hO6 hb6; have P6 := Lib.hid (show PPut w w6 false t (some ⟨b', off, none⟩) n c A6 (k + 2) c6 (ys ++ [f, o]) from ⟨(H.out.pdt.next (below_alloc wr _).drew).below hb6 (by omega), hO6, KY.out, (below_go H.out.bel (below_alloc wr _).drew).trans (hb6.mono (by omega))⟩); have A6' := Lib.hid ((AT.out.below (below_alloc wr _).drew).below2 hb6 (by omega)); clear hO6))
      rename_i hHeld
      obtain ⟨d2, _, _⟩ := hHeld
      obtain ⟨c0, c1, c2, c3, c4, c5⟩ := A6'.out
      have PV6 := Lib.hid (PV.out A6 c6 w6 P6.out)
      clear OB BT KD KD2 A6' AT PV hb6
      go_wp2_with fail
      refine PV6.out.mono ?_
      rintro e w7 ⟨A7, k7, c7, rfl, hk7, ho7, hb7⟩
      have H8 := Lib.hid (show PPut w w7 false t (some ⟨b', off, none⟩) n c A7 k7 c7 (ys ++ wt (f, o, q, m, r, s)) from ⟨P6.out.pdt.next hb7, ho7.mono P6.out.size, hk7, below_go P6.out.bel hb7⟩)
      have K8 : k7 ≤ 103000 := by have := KB1.out; omega
      clear hk7 ho7 hb7 PV6 c0 c1 c2 c3 c4 c5 d2 P6 H
      rw [← WS.out] at H8
      go_wp2_with fail
      go_roundw
      case rel => exact ⟨j + 1, A7, k7, c7, by go_num, rfl, by omega, K8, Lib.hid H8.out⟩
      case measure => simp [intOf]; omega
    · obtain rfl : j = n := by omega
      rw [EQ.out] at H
      go_wp2_with fail
      go_ret2
      exact ⟨A, k, c', rfl, H.out.len, H.out.own.mono (by omega), H.out.bel⟩
set_option maxHeartbeats 4000000 in
theorem rpput_t (b : Option Addr) (len cap : Nat) (l : List Int) (t : Int) (a : Option Addr) (n c : Nat) (L : List TT) (w : World) (hl : l.length = len) (hlen : len ≤ 100000) (hcap : b = none → cap = 0) (hb : Byt w b l) (ht : 0 ≤ t ∧ t < 256)
    (hn : L.length = n) (hv : Tsts w a L) (hk : ∀ v ∈ L, Okt v) (h : pmay true t L = true) :
    Calls Tryd.prog 41 #[.slice b len cap, pv true t a n c] w fun e w' => ∃ A' k' c', e = .returned (.tuple #[.slice A' k' c', .int .i64 0]) ∧ (l ++ wpd true t L).length = k' ∧ Own w' w.heap.size (.slice A' k' c') (l ++ wpd true t L) ∧ Below w.heap.size w w' := by
  have h4 : n ≤ 4 := hn ▸ pmay_len h
  have hr := pmay_rgt' h
  have B0 := Lib.hid (below_alloc w (pcells true t a n c))
  have E0 := Lib.hid (Pdt.alloc w true t a n c)
  have M := Lib.hid (rpmay_any true t a n c L (w.alloc (pcells true t a n c)) hn (by omega) (hv.below B0.out) hk)
  rw [h] at M
  have hw0 : IntKind.u8.wrap (16 * (n : Int)) = 16 * (n : Int) := by rw [IntKind.wrap_u8]; omega
  have hw1 : IntKind.u8.wrap (16 * (n : Int) + 1) = 16 * (n : Int) + 1 := by rw [IntKind.wrap_u8]; omega
  have HL := Lib.hid hl
  have HB := Lib.hid hb
  have HC := Lib.hid hcap
  have HN := Lib.hid hn
  have HV0 := Lib.hid hv
  have HV := Lib.hid hv
  have HK := Lib.hid hk
  have HM := Lib.hid hr
  have HT := Lib.hid ht
  have KB := Lib.hid (show ∀ j, ((l ++ [16 * (n : Int) + 1]) ++ wts (L.take j)).length ≤ 103000 from fun j => by
    have h1 := wts_len (L.take j) (fun v hv => hk v (List.mem_of_mem_take hv)) (fun v hv => hr v (List.mem_of_mem_take hv))
    have h3 := List.length_take_le' j L
    rw [List.length_append, List.length_append, hl]
    simp only [List.length_cons, List.length_nil]
    omega)
  have KR := Lib.hid (show ∀ j, ∀ c ∈ (l ++ [16 * (n : Int) + 1]) ++ wts (L.take j), 0 ≤ c ∧ c < 256 from fun j =>
    range_app (range_app hb.2 (fr0_range true t n ht h4)) (wts_range _ (fun v hv => hk v (List.mem_of_mem_take hv)) (fun v hv => hr v (List.mem_of_mem_take hv))))
  have EQ := Lib.hid (show (l ++ [16 * (n : Int) + 1]) ++ wts (L.take n) = l ++ wpd true t L by rw [← hn, List.take_length, wpd, List.append_assoc]; rfl)
  have R0 := Lib.hid (show ∀ c ∈ ([] : List Int), 0 ≤ c ∧ c < 256 by simp)
  have K0 := Lib.hid (show ([] ++ l).length = len by rw [List.nil_append]; exact hl)
  have K1 := Lib.hid (show (l ++ [16 * (n : Int) + 1]).length = len + 1 by rw [List.length_append, hl]; rfl)
  clear hl hb hcap hn hv hk h ht hr
  go_enter Tryd.func41, Tryd.ntmps41
  go_wp2_with fail
  refine M.out.mono ?_
  rintro e w2 ⟨rfl, hb⟩
  have B2 := Lib.hid (below_go B0.out hb)
  have E2 := Lib.hid (E0.out.next hb)
  clear hb M B0 E0
  have Z2 := Lib.hid (show w.heap.size + 1 ≤ w2.heap.size from E2.out.lt)
  have BX := Lib.hid (below_alloc w2 (.cells #[] 5))
  have O1 := Lib.hid ((Own.empty w2).mono Z2.out)
  go_wp2_with (first
    | (at_builtin; refine wp_app (.tmp 15) (.tmp 16) _ rfl rfl (w.heap.size + 1) _ [] rfl O1.out b len cap l rfl HL.out (HB.out.below (below_go B2.out BX.out)) HC.out R0.out len K0.out (by omega) (Nat.le_trans Z2.out BX.out.size) ?_; intro A3 c3 w3 hO3 _ hb3; rw [List.nil_append] at hO3; have E3 := Lib.hid ((E2.out.next BX.out).below hb3 (by omega)); have B3 := Lib.hid ((below_go B2.out BX.out).trans (hb3.mono (by omega))); have O3 := Lib.hid hO3; have Z3 := Lib.hid (show w.heap.size + 1 ≤ w3.heap.size from E3.out.lt); obtain ⟨e0, e1, e2⟩ := E3.out; have BY := Lib.hid (below_alloc w3 (.cells #[.int .u8 (16 * (n : Int) + 1)] 5)); clear hO3 hb3)
    | (at_builtin; refine wp_app (.tmp 20) (.tmp 27) _ rfl rfl (w.heap.size + 1) _ l rfl (O3.out.below BY.out) _ 1 1 [16 * (n : Int) + 1] rfl rfl (Byt.one w3 (16 * (n : Int) + 1) (by omega)) (by intro h; cases h) HB.out.2 (len + 1) K1.out (by omega) (Nat.le_trans Z3.out BY.out.size) ?_; intro A4 c4 w4 hO4 _ hb4; have P4 := Lib.hid (show PPut w w4 true t a n c A4 (len + 1) c4 (l ++ [16 * (n : Int) + 1]) from ⟨(E3.out.next BY.out).below hb4 (by omega), hO4, K1.out, (below_go B3.out BY.out).trans (hb4.mono (by omega))⟩); obtain ⟨e0, e1, e2⟩ := P4.out.pdt; clear hO4 hb4))
  clear O3 B3 E3 Z3 BY O1 BX B2 E2 Z2 e0 e1 e2
  go_loopw [42, 6] (fun i v W => ∃ (j : Nat) (A : Option Addr) (k c' : Nat), i = .int .i64 j ∧ v = .slice A k c' ∧ j ≤ n ∧ k ≤ 103000 ∧ Hid (PPut w W true t a n c A k c' ((l ++ [16 * (n : Int) + 1]) ++ wts (L.take j)))) (fun i _ _ => n - (intOf i).toNat)
  case atStart => exact ⟨0, A4, len + 1, c4, rfl, rfl, by omega, by omega, Lib.hid (by simpa [wts] using P4.out)⟩
  case round =>
    obtain ⟨j, A, k, c', rfl, rfl, hj, hk, H⟩ := hrel
    clear P4
    by_cases hjn : j < n
    · obtain ⟨b', off, rfl, hA0⟩ := HV0.out j (by have := HN.out; omega)
      have zb : b' < w.heap.size := World.block_lt_of_cell? _ _ hA0.1
      have hA1 := hA0.below H.out.bel
      clear hA0
      have hok := Lib.hid (HK.out _ (tgetD_mem L j (by have := HN.out; omega)))
      have hmy := Lib.hid (HM.out _ (tgetD_mem L j (by have := HN.out; omega)))
      have WS := Lib.hid (show ((l ++ [16 * (n : Int) + 1]) ++ wts (L.take (j + 1))) = ((l ++ [16 * (n : Int) + 1]) ++ wts (L.take j)) ++ wt (L.getD j tz) by rw [wts_snoc L j (by have := HN.out; omega), ← List.append_assoc])
      have KB1 := Lib.hid (KB.out (j + 1))
      have KR1 := Lib.hid (KR.out j)
      rw [WS.out] at KB1
      generalize L.getD j tz = v at hA1 hok hmy WS KB1
      generalize (l ++ [16 * (n : Int) + 1]) ++ wts (L.take j) = ys at H WS KB1 KR1
      have WL := wt_len v hok.out hmy.out
      have rv := (show ∀ c ∈ [v.1, v.2.1], 0 ≤ c ∧ c < 256 from (Byt.two wr v.1 v.2.1 ⟨hok.out.f0, hok.out.f1⟩ ⟨hok.out.o0, hok.out.o1⟩).2)
      have KR2 := Lib.hid (show ∀ c ∈ ys ++ [v.1, v.2.1], 0 ≤ c ∧ c < 256 from range_app KR1.out rv)
      have KY := Lib.hid (show (ys ++ [v.1, v.2.1]).length = k + 2 by rw [List.length_append, H.out.len]; rfl)
      have RF := Lib.hid (And.intro (And.intro hok.out.f0 hok.out.f1) (And.intro hok.out.o0 hok.out.o1))
      have PV := Lib.hid (fun (A6 : Option Addr) (c6 : Nat) (w6 : World) (h6 : PPut w w6 true t (some ⟨b', off, none⟩) n c A6 (k + 2) c6 (ys ++ [v.1, v.2.1])) => rvput_v v.2.2 w6 (rgt_may hmy.out) hok.out.v A6 (k + 2) c6 (ys ++ [v.1, v.2.1]) h6.len (by omega) h6.own.capz (h6.own.byt KR2.out))
      have WW : (ys ++ [v.1, v.2.1]) ++ wvv v.2.2 = ys ++ wt v := by rw [wt, List.append_assoc]
      rw [WW] at PV
      have WW2 := Lib.hid (show (ys ++ wt v).length = k + (wt v).length by rw [List.length_append, H.out.len])
      obtain ⟨f, o, q, m, r, s⟩ := v
      have AT := Lib.hid hA1
      obtain ⟨c0, c1, _, _, _, _⟩ := hA1
      obtain ⟨e0, e1, e2⟩ := H.out.pdt
      have HBB : Hid (w.heap.size < w.heap.size + 1 ∧ b' < w.heap.size + 1) := Lib.hid ⟨by omega, by omega⟩
      have KD := Lib.hid (show Sr wr.drew w.heap.size b' off (some ⟨b', off, none⟩) n c j f o from ⟨e2, c0, c1⟩)
      have KD2 := Lib.hid (fun (ob : Obj) => show Sr (wr.alloc ob).drew w.heap.size b' off (some ⟨b', off, none⟩) n c j f o from sr_below (below_alloc wr ob).drew (Lib.hid ⟨World.block_lt_of_cell? _ _ e2, World.block_lt_of_cell? _ _ c0⟩) ⟨e2, c0, c1⟩)
      have OB := Lib.hid (fun (ob : Obj) => H.out.own.below (below_alloc wr ob).drew)
      have BT := Lib.hid ((Byt.two wr f o RF.out.1 RF.out.2).below (Below.refl _ _).drew)
      clear hok hmy rv
      go_wp2_with fail
      go_region_held_law (fun W => W.cell? ⟨w.heap.size, 2, none⟩ = some (.slice (some ⟨b', off, none⟩) n c) ∧ W.cell? ⟨b', off + j * 6, none⟩ = some (.int .u8 f) ∧ W.cell? ⟨b', off + j * 6 + 1, none⟩ = some (.int .u8 o))
        (first | (with_reducible assumption) | (with_reducible exact KD.out) | (with_reducible exact sr_below hb6 HBB (by assumption)) | (with_reducible exact KD2.out _))
        (first
          | (refine step_app (.tmp 45) (.tmp 58) _ (by rfl) (by rfl) (w.heap.size + 1) _ ys (by rfl) (OB.out _) _ 2 2 [f, o] (by rfl) rfl BT.out (by intro h; cases h) KR1.out (k + 2) KY.out (by omega) (by have := H.out.size; simp; omega) ?_; intro A6 c6 w6 hO6 hb6; have P6 := Lib.hid (show PPut w w6 true t (some ⟨b', off, none⟩) n c A6 (k + 2) c6 (ys ++ [f, o]) from ⟨(H.out.pdt.next (below_alloc wr _).drew).below hb6 (by omega), hO6, KY.out, (below_go H.out.bel (below_alloc wr _).drew).trans (hb6.mono (by omega))⟩); have A6' := Lib.hid ((AT.out.below (below_alloc wr _).drew).below2 hb6 (by omega)); clear hO6))
      rename_i hHeld
      obtain ⟨d2, _, _⟩ := hHeld
      obtain ⟨c0, c1, c2, c3, c4, c5⟩ := A6'.out
      have PV6 := Lib.hid (PV.out A6 c6 w6 P6.out)
      clear OB BT KD KD2 A6' AT PV hb6
      go_wp2_with fail
      refine PV6.out.mono ?_
      rintro e w7 ⟨A7, k7, c7, rfl, hk7, ho7, hb7⟩
      have H8 := Lib.hid (show PPut w w7 true t (some ⟨b', off, none⟩) n c A7 k7 c7 (ys ++ wt (f, o, q, m, r, s)) from ⟨P6.out.pdt.next hb7, ho7.mono P6.out.size, hk7, below_go P6.out.bel hb7⟩)
      have K8 : k7 ≤ 103000 := by have := KB1.out; omega
      clear hk7 ho7 hb7 PV6 c0 c1 c2 c3 c4 c5 d2 P6 H
      rw [← WS.out] at H8
      go_wp2_with fail
      go_roundw
      case rel => exact ⟨j + 1, A7, k7, c7, by go_num, rfl, by omega, K8, Lib.hid H8.out⟩
      case measure => simp [intOf]; omega
    · obtain rfl : j = n := by omega
      rw [EQ.out] at H
      go_wp2_with fail
      go_ret2
      exact ⟨A, k, c', rfl, H.out.len, H.out.own.mono (by omega), H.out.bel⟩
end Go.Proofs.YtilgoghnoeohnaaDoor
