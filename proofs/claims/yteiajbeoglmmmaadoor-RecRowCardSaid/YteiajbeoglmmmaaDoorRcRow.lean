/- RecRow: the walk of the statement's own function. -/
import Derived.Test.YteiajbeoglmmmaaDoorRcM
import Derived.Test.YteiajbeoglmmmaaDoorRcI
import Derived.Test.YteiajbeoglmmmaaDoorRcG
namespace Go.Proofs.YteiajbeoglmmmaaDoor
open Go Go.RowKit Crc
set_option maxRecDepth 20000

set_option maxHeartbeats 400000 in
theorem row_great (A : Option Addr) (n c : Nat) (y : Int) (w : World) (ht : Tab w) (G : Calls Tryd.prog 16 #[.slice A n c] w fun e w' => e = .returned (.bool true) ∧ w = w') :
    Calls Tryd.prog 5 #[.slice A n c, .int .u16 y] w fun e w' => e = .returned (.bool true) ∧ Below w.heap.size w w' := by
  have F := Lib.hid (fixed_any w ht)
  clear ht
  go_enter Tryd.func5, Tryd.ntmps5
  go_wp2_with fail
  refine G.mono ?_
  rintro e w' ⟨rfl, rfl⟩
  go_wp2_with fail
  refine F.out.mono ?_
  rintro e w1 ⟨rfl, hb1⟩
  go_wp2
  go_ret
  exact ⟨rfl, hb1⟩
def ends (L : List (List Int)) (k : Nat) : List Nat := (List.range k).map fun j => (rows (L.take (j + 1))).length
theorem ends_len (L : List (List Int)) (k : Nat) : (ends L k).length = k := by simp [ends]
theorem ends_next (L : List (List Int)) (k : Nat) : ends L (k + 1) = ends L k ++ [(rows (L.take (k + 1))).length] := by simp [ends, List.range_succ]
theorem ends_get (L : List (List Int)) (k i : Nat) (h : i < k) : (ends L k).getD i 0 = (rows (L.take (i + 1))).length := by
  rw [ends, List.getD_eq_getElem?_getD, List.getElem?_map, List.getElem?_range h]; rfl
theorem Rws.take {w : World} {A : Option Addr} {L : List (List Int)} (h : Rws w A L) (k : Nat) : Rws w A (L.take k) := fun i hi => by
  rw [List.length_take] at hi
  obtain ⟨b, off, A', C, e, hc, hy⟩ := h i (by omega)
  have e0 : g0 (L.take k) i = g0 L i := by
    have : i < k := by omega
    simp [g0, List.getD_eq_getElem?_getD, this]
  rw [e0]
  exact ⟨b, off, A', C, e, hc, hy⟩
def fl (L : List (List Int)) (j : Nat) : Nat := (rows (L.take j)).length
/- the state of the first loop -/
def Lp (w wr : World) (L : List (List Int)) (k T : Nat) (b es : Value) : Prop := Own wr w.heap.size b (rows (L.take k)) ∧ (rows (L.take k)).length = T ∧ OwnI wr w.heap.size es (ends L k) ∧ Below w.heap.size w wr
theorem rows_rng (L : List (List Int)) (h : ∀ l ∈ L, Rng l) : Rng (rows L) := by
  intro c hc
  obtain ⟨l, hl, hc⟩ := List.mem_flatMap.1 hc
  exact fr_rng l (h l hl) c hc
theorem take_rng (L : List (List Int)) (h : ∀ l ∈ L, Rng l) (k : Nat) : Rng (rows (L.take k)) := rows_rng _ fun l hl => h l (List.mem_of_mem_take hl)
set_option maxHeartbeats 4000000 in
theorem row_small (A : Option Addr) (n c : Nat) (L : List (List Int)) (y : Nat) (w : World) (hn : L.length = n) (hc : n ≤ c) (hx : Rws w A L) (hr : ∀ l ∈ L, Rng l) (hy : y < 65536) (ht : Tab w) (h2 : n ≤ 200) (h8 : gsk L n ≤ 8000) :
    Calls Tryd.prog 5 #[.slice A n c, .int .u16 (y : Int)] w fun e w' => e = .returned (.bool true) ∧ Below w.heap.size w w' := by
  have G := great_few A n c L w hn h2 hx
  rw [show decide (8000 < gsk L n) = false by simp; omega] at G
  have HG := Lib.hid G
  have HN := Lib.hid hn
  have HX := Lib.hid hx
  have HR := Lib.hid hr
  have HT := Lib.hid ht
  have H8 := Lib.hid (show gsk L L.length ≤ 8000 by rw [hn]; exact h8)
  have HC := Lib.hid hc
  clear G hn hx hr ht h8
  go_enter Tryd.func5, Tryd.ntmps5
  go_wp2_with fail
  refine HG.out.mono ?_
  rintro e w' ⟨rfl, rfl⟩
  clear HG
  go_wp2_with fail
  go_loopw [25, 5, 6] (fun i b es wr => ∃ (k : Nat) (Ab : Option Addr) (T Cb : Nat), k ≤ n ∧ i = .int .i64 k ∧ b = .slice Ab T Cb ∧ Hid (Lp w wr L k T b es)) (fun i _ _ _ => n - (intOf i).toNat)
  case atStart => exact ⟨0, none, 0, 0, Nat.zero_le _, rfl, rfl, Lib.hid ⟨by
    simp only [List.take_zero, rows, List.flatMap_nil]
    exact World.ownsRow_nil _ _ _ _, by simp [rows], OwnI.nil _ _, Below.refl _ _⟩⟩
  case round =>
  obtain ⟨k, Ab, T, Cb, hk, rfl, rfl, H⟩ := hrel
  by_cases hlt : k < n
  · obtain ⟨b, off, A', C, rfl, hcell, hY⟩ := HX.out.below H.out.2.2.2 k (by rw [HN.out]; exact hlt)
    have hT : T ≤ 9600 := by rw [← H.out.2.1]; exact rows_small L H8.out (by rw [HN.out]; exact h2) k (by rw [HN.out]; exact hk)
    have hm : (g0 L k).length ≤ 8000 := (gsk_len L H8.out k (by rw [HN.out]; exact hlt)).1
    have PU := Lib.hid (put_ok Ab A' T Cb (g0 L k).length C (rows (L.take k)) (g0 L k) wr H.out.2.1 (by omega) (H.out.1.byt (take_rng L HR.out k)) rfl (by omega) hY (HT.out.below H.out.2.2.2 HT.out.lt))
    have RN := Lib.hid (rows_next L k (by rw [HN.out]; exact hlt))
    have hbl := World.block_lt_of_cell? _ _ hcell
    clear hY
    obtain ⟨m, hmm⟩ : ∃ m, (g0 L k).length = m := ⟨_, rfl⟩
    rw [hmm] at hcell hm PU
    have HM := Lib.hid hmm
    clear hmm
    go_wp2_with fail
    refine PU.out.mono ?_
    rintro e w1 ⟨A1, T1, hT1, rfl, hO1, hY1, hb1⟩
    have hT1b : T1 ≤ 20000 := by omega
    have B1 := Lib.hid (below_go H.out.2.2.2 hb1)
    have D1 := Lib.hid (below_alloc w1 (.cells #[.int .i64 (T1 : Int)] 3))
    have O1 := Lib.hid ((hO1.mono H.out.2.2.2.size).below D1.out)
    have I1 := Lib.hid ((H.out.2.2.1.below hb1).below D1.out)
    have LT := Lib.hid (show (rows (L.take (k + 1))).length = T1 by rw [RN.out, List.length_append, fr_len, H.out.2.1, HM.out, hT1])
    clear hT1 hO1 hY1 hb1 PU hcell
    go_wp2_with ((with_reducible show wpList _ _ _ (Oper.mk (some 42) _ _ _ _ _ :: _) _ _); refine wp_appi (.tmp 38) (.tmp 41) _ rfl rfl w.heap.size _ (ends L k) rfl I1.out ⟨w1.heap.size, 0, none⟩ rfl T1 (by simp [go_sem]) _ _ O1.out (by rw [ends_len]; omega) (Nat.le_trans B1.out.size D1.out.size) ?_; intro v2 w2 hI2 hO2 hb2)
    have FIN := Lib.hid (show Lp w w2 L (k + 1) T1 (.slice A1 T1 T1) v2 from ⟨by rw [RN.out]; exact hO2, LT.out, by rw [ends_next, LT.out]; exact hI2, (below_go B1.out D1.out).trans hb2⟩)
    clear hI2 hO2 hb2
    go_wp2_with fail
    go_roundw
    case rel => exact ⟨k + 1, A1, T1, T1, by omega, by go_num, rfl, FIN⟩
    case measure => simp [intOf]; omega
  have hkn : k = n := by omega
  have LF := Lib.hid (show Lp w wr L n T (.slice Ab T Cb) u6 by rw [← hkn]; exact H.out)
  have tk : L.take n = L := List.take_of_length_le (by rw [HN.out]; exact Nat.le_refl _)
  have hT : T ≤ 9600 := by rw [← H.out.2.1]; exact rows_small L H8.out (by rw [HN.out]; exact h2) k (by rw [HN.out]; exact hk)
  have BF := Lib.hid LF.out.2.2.2
  have YB := Lib.hid (show Byt wr Ab (rows L) by
    have := LF.out.1.byt (take_rng L HR.out n)
    rwa [tk] at this)
  have LB := Lib.hid (show (rows L).length = T by
    have := LF.out.2.1
    rwa [tk] at this)
  have hTC : T ≤ Cb := LF.out.1.le LF.out.2.1
  obtain ⟨Ae, ce, hu6, hce⟩ := LF.out.2.2.1.form
  rw [ends_len] at hu6 hce
  subst hu6
  have HE := Lib.hid hce
  obtain ⟨q, hq⟩ : ∃ q : Nat, q = y % (T + 1) := ⟨_, rfl⟩
  have hqT : q ≤ T := by rw [hq]; have := Nat.mod_lt y (show 0 < T + 1 by omega); omega
  have hqv : (y : Int) % ((T : Int) + 1) = (q : Int) := by
    rw [show (T : Int) + 1 = ((T + 1 : Nat) : Int) by omega, ← Int.natCast_emod, ← hq]
  have hqC : (q : Int) ≤ (Cb : Int) := by omega
  obtain ⟨W, hW⟩ : ∃ W, (wh L q).1 = W := ⟨_, rfl⟩
  have hWn : W ≤ n := by rw [← hW, ← HN.out]; exact (wh_le L q).1
  have HI := Lib.hid (show ∀ j, j ≤ n → (fl L j ≤ q ↔ j ≤ W) from fun j hj => by rw [← hW]; exact wh_iff L q j (by rw [HN.out]; exact hj))
  have SC1 := Lib.hid (show scan ((rows L).take q) = (L.take W, fl L W) by
    have := scan_rows L (all_len L H8.out) q (by rw [LB.out]; exact hqT)
    rw [hW] at this
    rw [this, (wh_le L q).2.1, hW]; rfl)
  have SC2 := Lib.hid (show scan (rows L) = (L, T) by rw [scan_all L (all_len L H8.out), LB.out])
  have EG := Lib.hid (show ∀ j, j < n → (ends L n).getD j 0 = fl L (j + 1) from fun j hj => ends_get L n j hj)
  have FB := Lib.hid (show ∀ j, j ≤ n → fl L j ≤ 9600 from fun j hj => rows_small L H8.out (by rw [HN.out]; exact h2) j (by rw [HN.out]; exact hj))
  have F0 := Lib.hid (show fl L 0 = 0 by simp [fl, rows])
  clear H LF hce hq hW tk hk hkn
  go_wp2_with fail
  go_loop [52, 12, 13] (fun i a b => ∃ j : Nat, j ≤ n ∧ i = .int .i64 j ∧ a = .int .i64 ((min j W : Nat) : Int) ∧ b = .int .i64 (fl L (min j W) : Int)) (fun i _ _ => n - (intOf i).toNat)
  case atStart => exact ⟨0, Nat.zero_le _, rfl, by simp, by rw [Nat.zero_min, F0.out]; rfl⟩
  case round =>
  obtain ⟨j, hj, rfl, rfl, rfl⟩ := hrel
  by_cases hjn : j < n
  · obtain ⟨be, rfl, hcell⟩ := HE.out j hjn
    rw [EG.out j hjn] at hcell
    have hfb := FB.out (j + 1) (by omega)
    have hbl := World.block_lt_of_cell? _ _ hcell
    by_cases hle : j + 1 ≤ W
    · have hle2 := (HI.out (j + 1) (by omega)).2 hle
      have N1 := Lib.hid (show min (j + 1) W = j + 1 by omega)
      rw [show min j W = j by omega]
      obtain ⟨e, he⟩ : ∃ e, fl L (j + 1) = e := ⟨_, rfl⟩
      rw [he] at hcell hfb hle2
      have HF := Lib.hid he
      have d1 : decide (e ≤ q) = true := by simp; omega
      have d2 : decide ((e : Int) ≤ (q : Int)) = true := by simp; omega
      clear he hle
      go_wp2_with fail
      exact ⟨⟨j + 1, by omega, by go_num, by rw [N1.out]; simp, by rw [N1.out, HF.out]⟩, by simp [intOf]; omega⟩
    · have hle2 : ¬ fl L (j + 1) ≤ q := fun h => hle ((HI.out (j + 1) (by omega)).1 h)
      have N1 := Lib.hid (show min (j + 1) W = W by omega)
      rw [show min j W = W by omega]
      obtain ⟨e, he⟩ : ∃ e, fl L (j + 1) = e := ⟨_, rfl⟩
      rw [he] at hcell hfb hle2
      have d1 : decide (e ≤ q) = false := by simp; omega
      have d2 : decide ((e : Int) ≤ (q : Int)) = false := by simp; omega
      clear he hle
      go_wp2_with fail
      exact ⟨⟨j + 1, by omega, by go_num, by rw [N1.out], by rw [N1.out]⟩, by simp [intOf]; omega⟩
  have hjn2 : j = n := by omega
  rw [show min j W = W by omega]
  have S1 := Lib.hid (scan_any Ab q Cb ((rows L).take q) wr (by rw [List.length_take, LB.out]; omega) (by omega) (by omega) (YB.out.take q) (HT.out.below BF.out HT.out.lt))
  rw [SC1.out] at S1
  go_wp2_with fail
  refine S1.out.mono ?_
  rintro e w3 ⟨v3, rfl, hR3, hb3⟩
  obtain ⟨A3, c3, rfl, hW3⟩ := hR3.form (fun l hl => HR.out l (List.mem_of_mem_take hl))
  have LW := Lib.hid (show (L.take W).length = W by rw [List.length_take, HN.out]; omega)
  have B3 := Lib.hid (below_go BF.out hb3)
  have R3 := Lib.hid hW3
  have S2 := Lib.hid (scan_any Ab T Cb (rows L) w3 LB.out (by omega) hTC (YB.out.below hb3) (HT.out.below B3.out HT.out.lt))
  rw [SC2.out] at S2
  simp only at S2 ⊢
  clear hb3 hR3 hW3 S1
  rw [LW.out]
  generalize fl L W = at_
  go_wp2_with fail
  refine S2.out.mono ?_
  rintro e w4 ⟨v4, rfl, hR4, hb4⟩
  obtain ⟨A4, c4, rfl, hW4⟩ := hR4.form HR.out
  rw [HN.out]
  have B4 := Lib.hid (below_go B3.out hb4)
  have R3b := Lib.hid (R3.out.below hb4)
  have R4 := Lib.hid hW4
  clear hb4 hR4 hW4 S2 R3
  go_wp2_with fail
  refine (fixed_any w4 (HT.out.below B4.out HT.out.lt)).mono ?_
  rintro e w5 ⟨rfl, hb5⟩
  have B5 := Lib.hid (below_go B4.out hb5)
  have M1 := Lib.hid (same_eq A4 A n c4 c L w5 HN.out (by omega) (R4.out.below hb5) (HX.out.below B5.out))
  have R3c := Lib.hid (R3b.out.below hb5)
  have hWc : (W : Int) ≤ (c : Int) := by have := HC.out; omega
  clear hb5 R3b R4
  go_wp2_with fail
  refine M1.out.mono ?_
  rintro e w6 ⟨rfl, hb6⟩
  have B6 := Lib.hid (below_go B5.out hb6)
  have M2 := Lib.hid (same_eq A3 A W c3 c (L.take W) w6 LW.out (by omega) (R3c.out.below hb6) ((HX.out.below B6.out).take W))
  clear hb6 M1 R3c
  go_wp2_with fail
  refine M2.out.mono ?_
  rintro e w7 ⟨rfl, hb7⟩
  go_wp2
  go_ret
  exact ⟨rfl, below_go B6.out hb7⟩
theorem row_walk (A : Option Addr) (n c : Nat) (L : List (List Int)) (y : Nat) (w : World) (hn : L.length = n) (hc : n ≤ c) (hx : Rws w A L) (hr : ∀ l ∈ L, Rng l) (hy : y < 65536) (ht : Tab w) :
    Calls Tryd.prog 5 #[.slice A n c, .int .u16 (y : Int)] w fun e w' => e = .returned (.bool true) ∧ Below w.heap.size w w' := by
  by_cases h2 : 200 < n
  · exact row_great A n c y w ht (great_many A n c w h2)
  · by_cases h8 : 8000 < gsk L n
    · have G := great_few A n c L w hn (by omega) hx
      rw [show decide (8000 < gsk L n) = true by simp; omega] at G
      exact row_great A n c y w ht G
    · exact row_small A n c L y w hn hc hx hr hy ht (by omega) (by omega)
end Go.Proofs.YteiajbeoglmmmaaDoor
