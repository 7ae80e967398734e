/- What statements are handed: an event by its values' bits. -/
import Derived.Test.YtiddpoihhfphmaaDoorEvRow
import Derived.Test.YtiddpoihhfphmaaDoorLbValRaw
import Derived.Deep.DeepCutAuto
namespace Go.Proofs.YtiddpoihhfphmaaDoor
open Go Go.RowKit Pk Rl
set_option maxRecDepth 20000

def Rawv (w : World) (b o : Nat) (v : VV) : Prop :=
  w.cell? ⟨b, o, none⟩ = some (.int .u8 v.1) ∧ w.cell? ⟨b, o + 1, none⟩ = some (.int .i64 v.2.1) ∧ w.cell? ⟨b, o + 2, none⟩ = some (.int .u64 (v.2.2.1 : Int)) ∧ w.cell? ⟨b, o + 3, none⟩ = some (.string v.2.2.2)
def Raws (w : World) (a : Option Addr) (L : List VV) : Prop := ∀ i, i < L.length → ∃ b off, a = some ⟨b, off, none⟩ ∧ Rawv w b (off + i * 4) (L.getD i vz)
theorem Rawv.below {w w' : World} {b o : Nat} {v : VV} (h : Rawv w b o v) (hb : Below w.heap.size w w') : Rawv w' b o v := by
  obtain ⟨h0, h1, h2, h3⟩ := h
  refine ⟨?_, ?_, ?_, ?_⟩
  · rw [hb.cell (World.block_lt_of_cell? _ _ h0)]; exact h0
  · rw [hb.cell (World.block_lt_of_cell? _ _ h1)]; exact h1
  · rw [hb.cell (World.block_lt_of_cell? _ _ h2)]; exact h2
  · rw [hb.cell (World.block_lt_of_cell? _ _ h3)]; exact h3
theorem Raws.below {w w' : World} {a : Option Addr} {L : List VV} (h : Raws w a L) (hb : Below w.heap.size w w') : Raws w' a L := fun i hi => by
  obtain ⟨b, off, e, h⟩ := h i hi
  exact ⟨b, off, e, h.below hb⟩
abbrev xcells (t : Int) (a : Option Addr) (n c : Nat) : Obj := .cells #[.int .u8 t, .slice a n c] 27

/- an event in a block of its own, whole: it may be stored into -/
def Evb (w : World) (g : Nat) (t : Int) (a : Option Addr) (n c : Nat) : Prop := w.heap[g]? = some (.cells #[.int .u8 t, .slice a n c] 34 (0, 0))
theorem Evb.evt {w : World} {g : Nat} {t : Int} {a : Option Addr} {n c : Nat} (h : Evb w g t a n c) : Evt w g t a n c :=
  ⟨by rw [cell_of_row w g 0 _ _ _ h]; rfl, by rw [cell_of_row w g 1 _ _ _ h]; rfl⟩
theorem Evb.free {w : World} {g : Nat} {t : Int} {a : Option Addr} {n c : Nat} (h : Evb w g t a n c) (j : Nat) : w.frozen? ⟨g, j, none⟩ = false := by
  simp [World.frozen?, Evb] at h ⊢
  simp [h]
theorem Evb.below {B : Nat} {w w' : World} {g : Nat} {t : Int} {a : Option Addr} {n c : Nat} (h : Evb w g t a n c) (hb : Below B w w') (hg : g < B) : Evb w' g t a n c := by
  unfold Evb
  rw [hb.block g hg]
  exact h
theorem Evb.lt {w : World} {g : Nat} {t : Int} {a : Option Addr} {n c : Nat} (h : Evb w g t a n c) : g < w.heap.size := h.evt.lt
theorem Evb.next {w w' : World} {g : Nat} {t : Int} {a : Option Addr} {n c : Nat} (h : Evb w g t a n c) (hb : Below w.heap.size w w') : Evb w' g t a n c := h.below hb h.lt
theorem Evb.alloc (w : World) (t : Int) (a : Option Addr) (n c : Nat) : Evb (w.alloc (ecells t a n c)) w.heap.size t a n c := heap_alloc_new w _
theorem Evb.set {w : World} {g : Nat} {t : Int} {a : Option Addr} {n c : Nat} (h : Evb w g t a n c) (a' : Option Addr) (n' c' : Nat) : Evb (w.setCell ⟨g, 1, none⟩ (.slice a' n' c')) g t a' n' c' := by
  unfold Evb
  rw [heap_setCell_same w g 1 _ _ _ h]
  rfl
theorem Evb.other {w : World} {g : Nat} {t : Int} {a : Option Addr} {n c : Nat} (h : Evb w g t a n c) (g' j : Nat) (x : Value) (hne : g ≠ g') : Evb (w.setCell ⟨g', j, none⟩ x) g t a n c := by
  unfold Evb
  rw [heap_setCell_other w ⟨g', j, none⟩ g x hne]
  exact h

structure Rnd (w W : World) (t : Int) (A : Option Addr) (k c : Nat) (L : List VV) : Prop where
  res : Evb W (w.heap.size + 1) 0 none 0 0
  loc : Evb W (w.heap.size + 1 + 1) t A k c
  own : OwnV W (w.heap.size + 3) (.slice A k c) L
  bel : Below w.heap.size w W
  big : w.heap.size + 3 ≤ W.heap.size
theorem Rnd.next {w W W' : World} {t : Int} {A : Option Addr} {k c : Nat} {L : List VV} (h : Rnd w W t A k c L) (hb : Below W.heap.size W W') : Rnd w W' t A k c L :=
  ⟨h.res.next hb, h.loc.next hb, h.own.below hb, below_go h.bel hb, Nat.le_trans h.big hb.size⟩
theorem Rnd.start (w : World) (t : Int) (o : Obj) : Rnd w (((w.alloc o).alloc (ecells 0 none 0 0)).alloc (ecells t none 0 0)) t none 0 0 [] := by
  have h1 := (Evb.alloc (w.alloc o) 0 none 0 0).next (below_alloc _ (ecells t none 0 0))
  have h2 := Evb.alloc ((w.alloc o).alloc (ecells 0 none 0 0)) t none 0 0
  simp only [World.size_alloc] at h1 h2
  exact ⟨h1, h2, OwnV.nil _ _, below_go (below_go (below_alloc w _) (below_alloc _ _)) (below_alloc _ _), by simp⟩
/- the row grows, and is laid into the event -/
theorem Rnd.step {w W W' : World} {t : Int} {A : Option Addr} {k c : Nat} {L : List VV} (h : Rnd w W t A k c L) {A' : Option Addr} {k' c' : Nat} {L' : List VV} (ho : OwnV W' (w.heap.size + 3) (.slice A' k' c') L') (hb : Below (w.heap.size + 3) W W') :
    Rnd w (W'.setCell ⟨w.heap.size + 1 + 1, 1, none⟩ (.slice A' k' c')) t A' k' c' L' :=
  ⟨(h.res.below hb (by omega)).other _ _ _ (by omega), (h.loc.below hb (by omega)).set _ _ _, ho.setCell _ _ (by omega) _, (h.bel.trans (hb.mono (by omega))).setCell (by show w.heap.size ≤ w.heap.size + 1 + 1; omega) _, by rw [World.size_setCell]; exact Nat.le_trans h.big hb.size⟩

theorem take_snoc (L : List VV) (j : Nat) (h : j < L.length) : L.take (j + 1) = L.take j ++ [L.getD j vz] := by
  rw [List.take_succ_eq_append_getElem h, List.getD_eq_getElem?_getD, List.getElem?_eq_getElem h]; rfl

set_option maxHeartbeats 2000000 in
theorem event_any (t : Int) (a : Option Addr) (n c : Nat) (L : List VV) (w : World) (hn : L.length = n) (hm : n ≤ maxLen) (hv : Raws w a L) :
    Calls Tryd.prog 8 #[ev t a n c] w fun e w' => ∃ A k c', e = .returned (ev t A k c') ∧ (L.take 30).length = k ∧ OwnV w' w.heap.size (.slice A k c') (L.take 30) ∧ Below w.heap.size w w' := by
  have R0 := Lib.hid (Rnd.start w t (xcells t a n c))
  have HN := Lib.hid hn
  have HV := Lib.hid hv
  have sf := run_store_float
  unfold maxLen at hm
  clear hn hv
  go_enter Tryd.func8, Tryd.ntmps8
  go_wp2
  go_loopw [12] (fun i W => ∃ (j : Nat) (A : Option Addr) (k c' : Nat), i = .int .i64 j ∧ j ≤ n ∧ k ≤ 30 ∧ Hid (Rnd w W t A k c' (L.take (min j 30)) ∧ (L.take (min j 30)).length = k)) (fun i _ => n - (intOf i).toNat)
  case atStart => exact ⟨0, none, 0, 0, rfl, by omega, by omega, Lib.hid ⟨by simpa using R0.out, by simp⟩⟩
  case round =>
    obtain ⟨j, A, k, c', rfl, hj, hk30, H⟩ := hrel
    by_cases hjn : j < n
    · have R1 := Lib.hid H.out.1
      have HK := Lib.hid H.out.2
      obtain ⟨b, off, rfl, c0, c1, c2, c3⟩ := (HV.out.below R1.out.bel) j (by have := HN.out; omega)
      have e1 := R1.out.loc.evt.2
      have fr := R1.out.loc.free 1
      have zz : w.heap.size + 1 + 1 < wr.heap.size := by have := R1.out.big; omega
      obtain ⟨v, hv⟩ : ∃ v, L.getD j vz = v := ⟨_, rfl⟩
      rw [hv] at c0 c1 c2 c3
      by_cases c30 : j < 30
      · have TS := Lib.hid (show L.take (min (j + 1) 30) = L.take (min j 30) ++ [v] by
          rw [Nat.min_eq_left (by omega), Nat.min_eq_left (by omega), take_snoc L j (by have := HN.out; omega), hv])
        have K2 := Lib.hid (show (L.take (min j 30) ++ [v]).length = k + 1 by rw [List.length_append, HK.out]; rfl)
        clear hv H R0
        generalize L.take (min j 30) = M at R1 HK TS K2
        obtain ⟨q, m, r, s⟩ := v
        have RV := Lib.hid (raw_any q m r s)
        have FZ := Lib.hid (Rat4.alloc wr q m r s)
        go_wp2_with fail
        go_region_law (first
          | (refine step_appv _ (by rfl) (.tmp 20) (.tmp 23) (by rfl) (w.heap.size + 3) _ M (by rfl) (R2.out.own.below (below_alloc _ _)) _ 1 1 [(q, m, r, s)] (by rfl) rfl (Vals.one _ (q, m, r, s)) (by intro h; cases h) (k + 1) K2.out (by omega) (by have := R2.out.big; simp; omega) ?_; intro A3 c3 w3 hO3 hb3; have L3 := (R2.out.next (below_alloc _ _)).loc.below hb3 (by omega); have e3 := L3.evt.2; have fr3 := L3.free 1; have R3 := Lib.hid ((R2.out.next (below_alloc _ _)).step hO3 hb3); clear L3 hO3 hb3)
          | (go_simp; go_at_call 21; refine (RV.out _).mono ?_; rintro e w2 ⟨rfl, b1⟩; have R2 := Lib.hid ((R1.out.next (below_alloc wr _)).next ((below_drewN _ _ 1).trans b1)); have e2 := R2.out.loc.evt.2; have fr2 := R2.out.loc.free 1; have zz2 : w.heap.size + 1 + 1 < w2.heap.size := (by have := R2.out.big; omega)))
        all_goals (clear e2 fr2 zz2 e3 fr3 R2 c0 c1 c2 e1 fr zz R1 RV; rw [← TS.out] at R3 K2)
        all_goals go_wp2_with fail
        all_goals go_roundw
        all_goals first
          | exact ⟨j + 1, A3, k + 1, c3, by go_num, by omega, (by have := K2.out; have := List.length_take_le (min (j + 1) 30) L; omega), Lib.hid ⟨R3.out, K2.out⟩⟩
          | (simp [intOf]; omega)
      · have TS := Lib.hid (show L.take (min (j + 1) 30) = L.take (min j 30) by rw [Nat.min_eq_right (by omega), Nat.min_eq_right (by omega)])
        clear hv H R0
        obtain ⟨q, m, r, s⟩ := v
        have R2 := Lib.hid (R1.out.next (below_alloc wr (rcells q m r s)))
        rw [← TS.out] at R2 HK
        go_wp2_with fail
        go_roundw
        case rel => exact ⟨j + 1, A, k, c', by go_num, by omega, by omega, Lib.hid ⟨R2.out, HK.out⟩⟩
        case measure => simp [intOf]; omega
    · obtain rfl : j = n := by omega
      have R1 := Lib.hid H.out.1
      have HK := Lib.hid H.out.2
      have TT := Lib.hid (show L.take (min j 30) = L.take 30 by
        rcases Nat.lt_or_ge j 30 with h | h
        · rw [Nat.min_eq_left (by omega), List.take_of_length_le (by have := HN.out; omega), List.take_of_length_le (by have := HN.out; omega)]
        · rw [Nat.min_eq_right (by omega)])
      rw [TT.out] at R1 HK
      obtain ⟨e0, e1⟩ := R1.out.loc.evt
      obtain ⟨f0, f1⟩ := R1.out.res.evt
      have g0 := R1.out.res.free 0
      have g1 := R1.out.res.free 1
      have BB : Hid (Below w.heap.size w ((wr.setCell ⟨w.heap.size + 1, 0, none⟩ (.int .u8 t)).setCell ⟨w.heap.size + 1, 1, none⟩ (.slice A k c'))) := Lib.hid (((R1.out.bel).setCell (by show w.heap.size ≤ w.heap.size + 1; omega) _).setCell (by show w.heap.size ≤ w.heap.size + 1; omega) _)
      have OO := Lib.hid (((R1.out.own.setCell (w.heap.size + 1) 0 (by omega) (.int .u8 t)).setCell (w.heap.size + 1) 1 (by omega) (.slice A k c')).mono (show w.heap.size ≤ _ by omega))
      clear H R0 R1 TT
      go_wp2_with fail
      exact bodyPost_ret (v := ev t A k c') (by simp [results, Tryd.results8, go_sem, *]) rfl ⟨A, k, c', rfl, HK.out, OO.out, BB.out⟩
end Go.Proofs.YtiddpoihhfphmaaDoor
