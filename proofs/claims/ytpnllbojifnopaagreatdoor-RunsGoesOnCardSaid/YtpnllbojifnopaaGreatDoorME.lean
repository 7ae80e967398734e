/- Contracts, joined: LbValRaw, EvRaw, PdR, LbKeep, PdK. -/
import Derived.Test.YtpnllbojifnopaaGreatDoorMB
import Derived.Test.YtpnllbojifnopaaGreatDoorMC
import Derived.Deep.DeepCutAuto
import Derived.Test.YtpnllbojifnopaaGreatDoorMD
import Derived.Lib.MinMax
import Derived.Deep.RegionHeld3
/- What statements are handed: a value by its bits. -/
namespace Go.Proofs.YtpnllbojifnopaaGreatDoor
open Go Go.RowKit Rl
set_option maxRecDepth 20000
abbrev rw4 (k n : Int) (b : Nat) (s : ByteArray) : Value := .agg #[.int .u8 k, .int .i64 n, .int .u64 (b : Int), .string s]
abbrev rcells (k n : Int) (b : Nat) (s : ByteArray) : Obj := .cells #[.int .u8 k, .int .i64 n, .int .u64 (b : Int), .string s] 163
def Rat4 (w : World) (a : Nat) (k n : Int) (b : Nat) (s : ByteArray) : Prop :=
  w.cell? ⟨a, 0, none⟩ = some (.int .u8 k) ∧ w.cell? ⟨a, 1, none⟩ = some (.int .i64 n) ∧ w.cell? ⟨a, 2, none⟩ = some (.int .u64 (b : Int)) ∧ w.cell? ⟨a, 3, none⟩ = some (.string s)

set_option maxHeartbeats 1000000 in
theorem raw_any (k n : Int) (b : Nat) (s : ByteArray) (w : World) :
    Calls Tryz.prog 74 #[rw4 k n b s] w fun e w' => e = .returned (vl k n b s) ∧ Below w.heap.size w w' := by
  have r15 := run15 b
  have sf := run_store_float
  go_enter Tryz.func74, Tryz.ntmps74
  go_wp2_with fail
  go_region
  go_wp2
  exact bodyPost_ret (v := vl k n b s) (by simp [results, Tryz.results74, go_sem]) rfl ⟨rfl, (((Below.refl w.heap.size w).alloc (Nat.le_refl _) _).alloc (by simp) _).drew⟩

theorem Rat4.alloc (w : World) (k n : Int) (b : Nat) (s : ByteArray) : Rat4 (w.alloc (rcells k n b s)) w.heap.size k n b s := by
  refine ⟨?_, ?_, ?_, ?_⟩ <;> simp [go_sem]
theorem Rat4.next {w w' : World} {a : Nat} {k n : Int} {b : Nat} {s : ByteArray} (h : Rat4 w a k n b s) (hb : Below w.heap.size w w') : Rat4 w' a k n b s := by
  obtain ⟨h0, h1, h2, h3⟩ := h
  refine ⟨?_, ?_, ?_, ?_⟩
  · rw [hb.cell (World.block_lt_of_cell? _ _ h0)]; exact h0
  · rw [hb.cell (World.block_lt_of_cell? _ _ h1)]; exact h1
  · rw [hb.cell (World.block_lt_of_cell? _ _ h2)]; exact h2
  · rw [hb.cell (World.block_lt_of_cell? _ _ h3)]; exact h3
end Go.Proofs.YtpnllbojifnopaaGreatDoor

/- What statements are handed: an event by its values' bits. -/
namespace Go.Proofs.YtpnllbojifnopaaGreatDoor
open Go Go.RowKit Pk Rl
set_option maxRecDepth 20000

def Rawv (w : World) (b o : Nat) (v : VV) : Prop :=
  w.cell? ⟨b, o, none⟩ = some (.int .u8 v.1) ∧ w.cell? ⟨b, o + 1, none⟩ = some (.int .i64 v.2.1) ∧ w.cell? ⟨b, o + 2, none⟩ = some (.int .u64 (v.2.2.1 : Int)) ∧ w.cell? ⟨b, o + 3, none⟩ = some (.string v.2.2.2)
def Raws (w : World) (a : Option Addr) (L : List VV) : Prop := ∀ i, i < L.length → ∃ b off, a = some ⟨b, off, none⟩ ∧ Rawv w b (off + i * 4) (L.getD i vz)
theorem Rawv.below {w w' : World} {b o : Nat} {v : VV} (h : Rawv w b o v) (hb : Below w.heap.size w w') : Rawv w' b o v := by
  obtain ⟨h0, h1, h2, h3⟩ := h
  refine ⟨?_, ?_, ?_, ?_⟩
  · rw [hb.cell (World.block_lt_of_cell? _ _ h0)]; exact h0
  · rw [hb.cell (World.block_lt_of_cell? _ _ h1)]; exact h1
  · rw [hb.cell (World.block_lt_of_cell? _ _ h2)]; exact h2
  · rw [hb.cell (World.block_lt_of_cell? _ _ h3)]; exact h3
theorem Raws.below {w w' : World} {a : Option Addr} {L : List VV} (h : Raws w a L) (hb : Below w.heap.size w w') : Raws w' a L := fun i hi => by
  obtain ⟨b, off, e, h⟩ := h i hi
  exact ⟨b, off, e, h.below hb⟩
abbrev xcells (t : Int) (a : Option Addr) (n c : Nat) : Obj := .cells #[.int .u8 t, .slice a n c] 138

/- an event in a block of its own, whole: it may be stored into -/
def Evb (w : World) (g : Nat) (t : Int) (a : Option Addr) (n c : Nat) : Prop := w.heap[g]? = some (.cells #[.int .u8 t, .slice a n c] 79 (0, 0))
theorem Evb.evt {w : World} {g : Nat} {t : Int} {a : Option Addr} {n c : Nat} (h : Evb w g t a n c) : Evt w g t a n c :=
  ⟨by rw [cell_of_row w g 0 _ _ _ h]; rfl, by rw [cell_of_row w g 1 _ _ _ h]; rfl⟩
theorem Evb.free {w : World} {g : Nat} {t : Int} {a : Option Addr} {n c : Nat} (h : Evb w g t a n c) (j : Nat) : w.frozen? ⟨g, j, none⟩ = false := by
  simp [World.frozen?, Evb] at h ⊢
  simp [h]
theorem Evb.below {B : Nat} {w w' : World} {g : Nat} {t : Int} {a : Option Addr} {n c : Nat} (h : Evb w g t a n c) (hb : Below B w w') (hg : g < B) : Evb w' g t a n c := by
  unfold Evb
  rw [hb.block g hg]
  exact h
theorem Evb.lt {w : World} {g : Nat} {t : Int} {a : Option Addr} {n c : Nat} (h : Evb w g t a n c) : g < w.heap.size := h.evt.lt
theorem Evb.next {w w' : World} {g : Nat} {t : Int} {a : Option Addr} {n c : Nat} (h : Evb w g t a n c) (hb : Below w.heap.size w w') : Evb w' g t a n c := h.below hb h.lt
theorem Evb.alloc (w : World) (t : Int) (a : Option Addr) (n c : Nat) : Evb (w.alloc (ecells t a n c)) w.heap.size t a n c := heap_alloc_new w _
theorem Evb.set {w : World} {g : Nat} {t : Int} {a : Option Addr} {n c : Nat} (h : Evb w g t a n c) (a' : Option Addr) (n' c' : Nat) : Evb (w.setCell ⟨g, 1, none⟩ (.slice a' n' c')) g t a' n' c' := by
  unfold Evb
  rw [heap_setCell_same w g 1 _ _ _ h]
  rfl
theorem Evb.other {w : World} {g : Nat} {t : Int} {a : Option Addr} {n c : Nat} (h : Evb w g t a n c) (g' j : Nat) (x : Value) (hne : g ≠ g') : Evb (w.setCell ⟨g', j, none⟩ x) g t a n c := by
  unfold Evb
  rw [heap_setCell_other w ⟨g', j, none⟩ g x hne]
  exact h

structure Rnd (w W : World) (t : Int) (A : Option Addr) (k c : Nat) (L : List VV) : Prop where
  res : Evb W (w.heap.size + 1) 0 none 0 0
  loc : Evb W (w.heap.size + 1 + 1) t A k c
  own : OwnV W (w.heap.size + 3) (.slice A k c) L
  bel : Below w.heap.size w W
  big : w.heap.size + 3 ≤ W.heap.size
theorem Rnd.next {w W W' : World} {t : Int} {A : Option Addr} {k c : Nat} {L : List VV} (h : Rnd w W t A k c L) (hb : Below W.heap.size W W') : Rnd w W' t A k c L :=
  ⟨h.res.next hb, h.loc.next hb, h.own.below hb, below_go h.bel hb, Nat.le_trans h.big hb.size⟩
theorem Rnd.start (w : World) (t : Int) (o : Obj) : Rnd w (((w.alloc o).alloc (ecells 0 none 0 0)).alloc (ecells t none 0 0)) t none 0 0 [] := by
  have h1 := (Evb.alloc (w.alloc o) 0 none 0 0).next (below_alloc _ (ecells t none 0 0))
  have h2 := Evb.alloc ((w.alloc o).alloc (ecells 0 none 0 0)) t none 0 0
  simp only [World.size_alloc] at h1 h2
  exact ⟨h1, h2, OwnV.nil _ _, below_go (below_go (below_alloc w _) (below_alloc _ _)) (below_alloc _ _), by simp⟩
/- the row grows, and is laid into the event -/
theorem Rnd.step {w W W' : World} {t : Int} {A : Option Addr} {k c : Nat} {L : List VV} (h : Rnd w W t A k c L) {A' : Option Addr} {k' c' : Nat} {L' : List VV} (ho : OwnV W' (w.heap.size + 3) (.slice A' k' c') L') (hb : Below (w.heap.size + 3) W W') :
    Rnd w (W'.setCell ⟨w.heap.size + 1 + 1, 1, none⟩ (.slice A' k' c')) t A' k' c' L' :=
  ⟨(h.res.below hb (by omega)).other _ _ _ (by omega), (h.loc.below hb (by omega)).set _ _ _, ho.setCell _ _ (by omega) _, (h.bel.trans (hb.mono (by omega))).setCell (by show w.heap.size ≤ w.heap.size + 1 + 1; omega) _, by rw [World.size_setCell]; exact Nat.le_trans h.big hb.size⟩

theorem take_snoc (L : List VV) (j : Nat) (h : j < L.length) : L.take (j + 1) = L.take j ++ [L.getD j vz] := by
  rw [List.take_succ_eq_append_getElem h, List.getD_eq_getElem?_getD, List.getElem?_eq_getElem h]; rfl

set_option maxHeartbeats 2000000 in
theorem event_any (t : Int) (a : Option Addr) (n c : Nat) (L : List VV) (w : World) (hn : L.length = n) (hm : n ≤ maxLen) (hv : Raws w a L) :
    Calls Tryz.prog 54 #[ev t a n c] w fun e w' => ∃ A k c', e = .returned (ev t A k c') ∧ (L.take 30).length = k ∧ OwnV w' w.heap.size (.slice A k c') (L.take 30) ∧ Below w.heap.size w w' := by
  have R0 := Lib.hid (Rnd.start w t (xcells t a n c))
  have HN := Lib.hid hn
  have HV := Lib.hid hv
  have sf := run_store_float
  unfold maxLen at hm
  clear hn hv
  go_enter Tryz.func54, Tryz.ntmps54
  go_wp2
  go_loopw [12] (fun i W => ∃ (j : Nat) (A : Option Addr) (k c' : Nat), i = .int .i64 j ∧ j ≤ n ∧ k ≤ 30 ∧ Hid (Rnd w W t A k c' (L.take (min j 30)) ∧ (L.take (min j 30)).length = k)) (fun i _ => n - (intOf i).toNat)
  case atStart => exact ⟨0, none, 0, 0, rfl, by omega, by omega, Lib.hid ⟨by simpa using R0.out, by simp⟩⟩
  case round =>
    obtain ⟨j, A, k, c', rfl, hj, hk30, H⟩ := hrel
    by_cases hjn : j < n
    · have R1 := Lib.hid H.out.1
      have HK := Lib.hid H.out.2
      obtain ⟨b, off, rfl, c0, c1, c2, c3⟩ := (HV.out.below R1.out.bel) j (by have := HN.out; omega)
      have e1 := R1.out.loc.evt.2
      have fr := R1.out.loc.free 1
      have zz : w.heap.size + 1 + 1 < wr.heap.size := by have := R1.out.big; omega
      obtain ⟨v, hv⟩ : ∃ v, L.getD j vz = v := ⟨_, rfl⟩
      rw [hv] at c0 c1 c2 c3
      by_cases c30 : j < 30
      · have TS := Lib.hid (show L.take (min (j + 1) 30) = L.take (min j 30) ++ [v] by
          rw [Nat.min_eq_left (by omega), Nat.min_eq_left (by omega), take_snoc L j (by have := HN.out; omega), hv])
        have K2 := Lib.hid (show (L.take (min j 30) ++ [v]).length = k + 1 by rw [List.length_append, HK.out]; rfl)
        clear hv H R0
        generalize L.take (min j 30) = M at R1 HK TS K2
        obtain ⟨q, m, r, s⟩ := v
        have RV := Lib.hid (raw_any q m r s)
        have FZ := Lib.hid (Rat4.alloc wr q m r s)
        go_wp2_with fail
        go_region_law (first
          | (refine step_appv _ (by rfl) (.tmp 20) (.tmp 23) (by rfl) (w.heap.size + 3) _ M (by rfl) (R2.out.own.below (below_alloc _ _)) _ 1 1 [(q, m, r, s)] (by rfl) rfl (Vals.one _ (q, m, r, s)) (by intro h; cases h) (k + 1) K2.out (by omega) (by have := R2.out.big; simp; omega) ?_; intro A3 c3 w3 hO3 hb3; have L3 := (R2.out.next (below_alloc _ _)).loc.below hb3 (by omega); have e3 := L3.evt.2; have fr3 := L3.free 1; have R3 := Lib.hid ((R2.out.next (below_alloc _ _)).step hO3 hb3); clear L3 hO3 hb3)
          | (go_simp; go_at_call 74; refine (RV.out _).mono ?_; rintro e w2 ⟨rfl, b1⟩; have R2 := Lib.hid ((R1.out.next (below_alloc wr _)).next ((below_drewN _ _ 1).trans b1)); have e2 := R2.out.loc.evt.2; have fr2 := R2.out.loc.free 1; have zz2 : w.heap.size + 1 + 1 < w2.heap.size := (by have := R2.out.big; omega)))
        all_goals (clear e2 fr2 zz2 e3 fr3 R2 c0 c1 c2 e1 fr zz R1 RV; rw [← TS.out] at R3 K2)
        all_goals go_wp2_with fail
        all_goals go_roundw
        all_goals first
          | exact ⟨j + 1, A3, k + 1, c3, by go_num, by omega, (by have := K2.out; have := List.length_take_le (min (j + 1) 30) L; omega), Lib.hid ⟨R3.out, K2.out⟩⟩
          | (simp [intOf]; omega)
      · have TS := Lib.hid (show L.take (min (j + 1) 30) = L.take (min j 30) by rw [Nat.min_eq_right (by omega), Nat.min_eq_right (by omega)])
        clear hv H R0
        obtain ⟨q, m, r, s⟩ := v
        have R2 := Lib.hid (R1.out.next (below_alloc wr (rcells q m r s)))
        rw [← TS.out] at R2 HK
        go_wp2_with fail
        go_roundw
        case rel => exact ⟨j + 1, A, k, c', by go_num, by omega, by omega, Lib.hid ⟨R2.out, HK.out⟩⟩
        case measure => simp [intOf]; omega
    · obtain rfl : j = n := by omega
      have R1 := Lib.hid H.out.1
      have HK := Lib.hid H.out.2
      have TT := Lib.hid (show L.take (min j 30) = L.take 30 by
        rcases Nat.lt_or_ge j 30 with h | h
        · rw [Nat.min_eq_left (by omega), List.take_of_length_le (by have := HN.out; omega), List.take_of_length_le (by have := HN.out; omega)]
        · rw [Nat.min_eq_right (by omega)])
      rw [TT.out] at R1 HK
      obtain ⟨e0, e1⟩ := R1.out.loc.evt
      obtain ⟨f0, f1⟩ := R1.out.res.evt
      have g0 := R1.out.res.free 0
      have g1 := R1.out.res.free 1
      have BB : Hid (Below w.heap.size w ((wr.setCell ⟨w.heap.size + 1, 0, none⟩ (.int .u8 t)).setCell ⟨w.heap.size + 1, 1, none⟩ (.slice A k c'))) := Lib.hid (((R1.out.bel).setCell (by show w.heap.size ≤ w.heap.size + 1; omega) _).setCell (by show w.heap.size ≤ w.heap.size + 1; omega) _)
      have OO := Lib.hid (((R1.out.own.setCell (w.heap.size + 1) 0 (by omega) (.int .u8 t)).setCell (w.heap.size + 1) 1 (by omega) (.slice A k c')).mono (show w.heap.size ≤ _ by omega))
      clear H R0 R1 TT
      go_wp2_with fail
      exact bodyPost_ret (v := ev t A k c') (by simp [results, Tryz.results54, go_sem, *]) rfl ⟨A, k, c', rfl, HK.out, OO.out, BB.out⟩
end Go.Proofs.YtpnllbojifnopaaGreatDoor

/- What statements are handed: a question by its values' bits; whether it is great. -/
namespace Go.Proofs.YtpnllbojifnopaaGreatDoor
open Go Go.RowKit Pk Rl
set_option maxRecDepth 20000

def Rawt (w : World) (b o : Nat) (t : TT) : Prop :=
  w.cell? ⟨b, o, none⟩ = some (.int .u8 t.1) ∧ w.cell? ⟨b, o + 1, none⟩ = some (.int .u8 t.2.1) ∧ w.cell? ⟨b, o + 2, none⟩ = some (.int .u8 t.2.2.1) ∧ w.cell? ⟨b, o + 3, none⟩ = some (.int .i64 t.2.2.2.1) ∧ w.cell? ⟨b, o + 4, none⟩ = some (.int .u64 (t.2.2.2.2.1 : Int)) ∧ w.cell? ⟨b, o + 5, none⟩ = some (.string t.2.2.2.2.2)
def Rawts (w : World) (a : Option Addr) (L : List TT) : Prop := ∀ i, i < L.length → ∃ b off, a = some ⟨b, off, none⟩ ∧ Rawt w b (off + i * 6) (L.getD i tz)
theorem Rawt.below {w w' : World} {b o : Nat} {v : TT} (h : Rawt w b o v) (hb : Below w.heap.size w w') : Rawt w' b o v := by
  obtain ⟨h0, h1, h2, h3, h4, h5⟩ := h
  refine ⟨?_, ?_, ?_, ?_, ?_, ?_⟩
  · rw [hb.cell (World.block_lt_of_cell? _ _ h0)]; exact h0
  · rw [hb.cell (World.block_lt_of_cell? _ _ h1)]; exact h1
  · rw [hb.cell (World.block_lt_of_cell? _ _ h2)]; exact h2
  · rw [hb.cell (World.block_lt_of_cell? _ _ h3)]; exact h3
  · rw [hb.cell (World.block_lt_of_cell? _ _ h4)]; exact h4
  · rw [hb.cell (World.block_lt_of_cell? _ _ h5)]; exact h5
theorem Rawts.below {w w' : World} {a : Option Addr} {L : List TT} (h : Rawts w a L) (hb : Below w.heap.size w w') : Rawts w' a L := fun i hi => by
  obtain ⟨b, off, e, h⟩ := h i hi
  exact ⟨b, off, e, h.below hb⟩
abbrev xpcells (x : Bool) (t : Int) (a : Option Addr) (n c : Nat) : Obj := .cells #[.bool x, .int .u8 t, .slice a n c] 111
abbrev xtcells (t : TT) : Obj := .cells #[.int .u8 t.1, .int .u8 t.2.1, .int .u8 t.2.2.1, .int .i64 t.2.2.2.1, .int .u64 (t.2.2.2.2.1 : Int), .string t.2.2.2.2.2] 165

/- a question in a block of its own, whole: it may be stored into -/
def Pdb (w : World) (g : Nat) (x : Bool) (t : Int) (a : Option Addr) (n c : Nat) : Prop := w.heap[g]? = some (.cells #[.bool x, .int .u8 t, .slice a n c] 45 (0, 0))
theorem Pdb.pdt {w : World} {g : Nat} {x : Bool} {t : Int} {a : Option Addr} {n c : Nat} (h : Pdb w g x t a n c) : Pdt w g x t a n c :=
  ⟨by rw [cell_of_row w g 0 _ _ _ h]; rfl, by rw [cell_of_row w g 1 _ _ _ h]; rfl, by rw [cell_of_row w g 2 _ _ _ h]; rfl⟩
theorem Pdb.free {w : World} {g : Nat} {x : Bool} {t : Int} {a : Option Addr} {n c : Nat} (h : Pdb w g x t a n c) (j : Nat) : w.frozen? ⟨g, j, none⟩ = false := by
  simp [World.frozen?, Pdb] at h ⊢
  simp [h]
theorem Pdb.below {B : Nat} {w w' : World} {g : Nat} {x : Bool} {t : Int} {a : Option Addr} {n c : Nat} (h : Pdb w g x t a n c) (hb : Below B w w') (hg : g < B) : Pdb w' g x t a n c := by
  unfold Pdb
  rw [hb.block g hg]
  exact h
theorem Pdb.lt {w : World} {g : Nat} {x : Bool} {t : Int} {a : Option Addr} {n c : Nat} (h : Pdb w g x t a n c) : g < w.heap.size := h.pdt.lt
theorem Pdb.next {w w' : World} {g : Nat} {x : Bool} {t : Int} {a : Option Addr} {n c : Nat} (h : Pdb w g x t a n c) (hb : Below w.heap.size w w') : Pdb w' g x t a n c := h.below hb h.lt
theorem Pdb.alloc (w : World) (x : Bool) (t : Int) (a : Option Addr) (n c : Nat) : Pdb (w.alloc (pcells x t a n c)) w.heap.size x t a n c := heap_alloc_new w _
theorem Pdb.set {w : World} {g : Nat} {x : Bool} {t : Int} {a : Option Addr} {n c : Nat} (h : Pdb w g x t a n c) (a' : Option Addr) (n' c' : Nat) : Pdb (w.setCell ⟨g, 2, none⟩ (.slice a' n' c')) g x t a' n' c' := by
  unfold Pdb
  rw [heap_setCell_same w g 2 _ _ _ h]
  rfl
theorem Pdb.other {w : World} {g : Nat} {x : Bool} {t : Int} {a : Option Addr} {n c : Nat} (h : Pdb w g x t a n c) (g' j : Nat) (v : Value) (hne : g ≠ g') : Pdb (w.setCell ⟨g', j, none⟩ v) g x t a n c := by
  unfold Pdb
  rw [heap_setCell_other w ⟨g', j, none⟩ g v hne]
  exact h

structure Rpd (w W : World) (x : Bool) (t : Int) (A : Option Addr) (k c : Nat) (L : List TT) : Prop where
  res : Pdb W (w.heap.size + 1) false 0 none 0 0
  loc : Pdb W (w.heap.size + 1 + 1) x t A k c
  own : OwnT W (w.heap.size + 3) (.slice A k c) L
  bel : Below w.heap.size w W
  big : w.heap.size + 3 ≤ W.heap.size
theorem Rpd.next {w W W' : World} {x : Bool} {t : Int} {A : Option Addr} {k c : Nat} {L : List TT} (h : Rpd w W x t A k c L) (hb : Below W.heap.size W W') : Rpd w W' x t A k c L :=
  ⟨h.res.next hb, h.loc.next hb, h.own.below hb, below_go h.bel hb, Nat.le_trans h.big hb.size⟩
theorem Rpd.start (w : World) (x : Bool) (t : Int) (o : Obj) : Rpd w (((w.alloc o).alloc (pcells false 0 none 0 0)).alloc (pcells x t none 0 0)) x t none 0 0 [] := by
  have h1 := (Pdb.alloc (w.alloc o) false 0 none 0 0).next (below_alloc _ (pcells x t none 0 0))
  have h2 := Pdb.alloc ((w.alloc o).alloc (pcells false 0 none 0 0)) x t none 0 0
  simp only [World.size_alloc] at h1 h2
  exact ⟨h1, h2, OwnT.nil _ _, below_go (below_go (below_alloc w _) (below_alloc _ _)) (below_alloc _ _), by simp⟩
/- the row grows, and is laid into the question -/
theorem Rpd.step {w W W' : World} {x : Bool} {t : Int} {A : Option Addr} {k c : Nat} {L : List TT} (h : Rpd w W x t A k c L) {A' : Option Addr} {k' c' : Nat} {L' : List TT} (ho : OwnT W' (w.heap.size + 3) (.slice A' k' c') L') (hb : Below (w.heap.size + 3) W W') :
    Rpd w (W'.setCell ⟨w.heap.size + 1 + 1, 2, none⟩ (.slice A' k' c')) x t A' k' c' L' :=
  ⟨(h.res.below hb (by omega)).other _ _ _ (by omega), (h.loc.below hb (by omega)).set _ _ _, ho.setCell _ _ (by omega) _, (h.bel.trans (hb.mono (by omega))).setCell (by show w.heap.size ≤ w.heap.size + 1 + 1; omega) _, by rw [World.size_setCell]; exact Nat.le_trans h.big hb.size⟩
theorem ttake_snoc (L : List TT) (j : Nat) (h : j < L.length) : L.take (j + 1) = L.take j ++ [L.getD j tz] := by
  rw [List.take_succ_eq_append_getElem h, List.getD_eq_getElem?_getD, List.getElem?_eq_getElem h]; rfl

theorem wp_appt2 {o : Oper} {a : Act} {K : Act → World → Prop} {Q : Exit → Act → World → Prop} (s x : Operand) (w : World)
    (hop : o.op = .call { callee := .builtin .append, args := #[s, x], argTypes := #[43, 43] })
    (B : Nat) (v : Value) (L : List TT) (hs : a.eval s = v) (ho : OwnT w B v L) (b off c : Nat) (t : TT) (hx : a.eval x = .slice (some ⟨b, off, none⟩) 1 c) (hb : Att w b off t)
    (k : Nat) (hk : L.length + 1 = k) (hlen : k ≤ 1000000) (hB : B ≤ w.heap.size)
    (h : ∀ A' c' w', OwnT w' B (.slice A' k c') (L ++ [t]) → w.grownBy w' v.ownBlock → Below B w w' → K (a.put o.dst (.slice A' k c')) w') : Oper.wp Tryz.prog o a w K Q := by
  obtain ⟨i, hi, hz, hs', hy⟩ := infoT
  obtain ⟨v', w', h1, h2, h3, _⟩ := run_append_own (P := Tryz.prog) w B 43 o.type 171 i (tOf tz) 6 48 Tryz.underlying43 hi hz hs' hy rfl (by omega) v L.length (tcls L) ho ⟨b, off, none⟩ 1 c (tcl t)
    rfl
    (fun j u hj => by
      have hjl : j < 6 := by
        rcases Nat.lt_or_ge j (tcl t).length with h | h
        · exact h
        · rw [List.getElem?_eq_none h] at hj; cases hj
      obtain ⟨c0, c1, c2, c3, c4, c5⟩ := hb
      rw [add_plain]
      rcases j with _ | _ | _ | _ | _ | _ | j
      · rw [Nat.add_zero, c0]; exact hj
      · rw [c1]; exact hj
      · rw [c2]; exact hj
      · rw [c3]; exact hj
      · rw [c4]; exact hj
      · rw [c5]; exact hj
      · omega)
    (fun u hu => tcls_one [t] u (by simpa [tcls] using hu))
    (by unfold maxLen; omega) (by omega) hB
  have hO : OwnT w' B v' (L ++ [t]) := by
    have e1 : (L ++ [t]).length = L.length + 1 := by simp
    have e2 : tcls (L ++ [t]) = tcls L ++ tcl t := by rw [tcls_app]; simp [tcls]
    unfold OwnT
    rw [e1, e2]
    exact h2
  have hBel : Below B w w' := (Below.refl _ _).grown h3 hB (fun k hk => (World.ownsRow.lt ho k hk).1)
  obtain ⟨A', c', rfl, hby⟩ := hO.form
  have ek : (L ++ [t]).length = k := by simp [hk]
  rw [ek] at hO h1
  unfold Oper.wp
  simp [execOp, hop, resolve, invoke, builtin, hs, hx, h1, Result.andThen]
  exact h A' c' w' hO h3 hBel
theorem step_appt2 {ops : Array Oper} {o : Oper} {a : Act} {K : Act → World → Prop} {Q : Exit → Act → World → Prop} {E : Prop} (w : World) (hgd : o.guard = none) (s x : Operand)
    (hop : o.op = .call { callee := .builtin .append, args := #[s, x], argTypes := #[43, 43] })
    (B : Nat) (v : Value) (L : List TT) (hs : a.eval s = v) (ho : OwnT w B v L) (b off c : Nat) (t : TT) (hx : a.eval x = .slice (some ⟨b, off, none⟩) 1 c) (hb : Att w b off t)
    (k : Nat) (hk : L.length + 1 = k) (hlen : k ≤ 1000000) (hB : B ≤ w.heap.size)
    (h : ∀ A' c' w', OwnT w' B (.slice A' k c') (L ++ [t]) → w.grownBy w' v.ownBlock → Below B w w' → K (a.put o.dst (.slice A' k c')) w') :
    if Region.wanted o (yielded ops a.tmps) = true then Oper.wp Tryz.prog o a w K Q else E := by
  have hw : Region.wanted o (yielded ops a.tmps) = true := by simp [Region.wanted, hgd]
  rw [if_pos hw]
  exact wp_appt2 s x w hop B v L hs ho b off c t hx hb k hk hlen hB h
theorem Att.one (w : World) (v : TT) : Att (w.alloc (tobj v)) w.heap.size 0 v := by refine ⟨?_, ?_, ?_, ?_, ?_, ?_⟩ <;> simp [go_sem]
abbrev Sx (W : World) (g : Nat) (f o k i : Int) (r : Nat) (s : ByteArray) : Prop :=
  W.cell? ⟨g, 0, none⟩ = some (.int .u8 f) ∧ W.cell? ⟨g, 1, none⟩ = some (.int .u8 o) ∧ W.cell? ⟨g, 2, none⟩ = some (.int .u8 k) ∧ W.cell? ⟨g, 3, none⟩ = some (.int .i64 i) ∧ W.cell? ⟨g, 4, none⟩ = some (.int .u64 (r : Int)) ∧ W.cell? ⟨g, 5, none⟩ = some (.string s)
theorem sx_start (w : World) (f o k i : Int) (r : Nat) (s : ByteArray) : Sx (w.alloc (xtcells (f, o, k, i, r, s))).drew w.heap.size f o k i r s := by refine ⟨?_, ?_, ?_, ?_, ?_, ?_⟩ <;> simp [go_sem]
theorem sx_lt {W : World} {g : Nat} {f o k i : Int} {r : Nat} {s : ByteArray} (h : Sx W g f o k i r s) : g < W.heap.size := World.block_lt_of_cell? _ _ h.1
theorem sx_same {W W' : World} {g : Nat} {f o k i : Int} {r : Nat} {s : ByteArray} (h : Sx W g f o k i r s) (e : ∀ j, W'.cell? ⟨g, j, none⟩ = W.cell? ⟨g, j, none⟩) : Sx W' g f o k i r s := by
  obtain ⟨h0, h1, h2, h3, h4, h5⟩ := h
  exact ⟨by rw [e]; exact h0, by rw [e]; exact h1, by rw [e]; exact h2, by rw [e]; exact h3, by rw [e]; exact h4, by rw [e]; exact h5⟩
theorem sx_below {W W' : World} {g : Nat} {f o k i : Int} {r : Nat} {s : ByteArray} (hb : Below W.heap.size W W') (h : Sx W g f o k i r s) : Sx W' g f o k i r s := sx_same h fun j => hb.cell (p := ⟨g, j, none⟩) (sx_lt h)
theorem sx_alloc {W : World} {ob : Obj} {g : Nat} {f o k i : Int} {r : Nat} {s : ByteArray} (h : Sx W g f o k i r s) : Sx (W.alloc ob) g f o k i r s := sx_below (below_alloc W ob) h
theorem sx_grown {W W' : World} {row : Option Nat} {g : Nat} {f o k i : Int} {r : Nat} {s : ByteArray} (hg : W.grownBy W' row) (hr : Hid (∀ k, row = some k → k < g)) (h : Sx W g f o k i r s) : Sx W' g f o k i r s :=
  sx_same h fun j => by
    have := hg.block g (sx_lt h) (fun e => by have := hr.out g e.symm; omega)
    unfold World.cell?
    simp only [this]
theorem sx_set {W : World} {g g' jj : Nat} {v : Value} {f o k i : Int} {r : Nat} {s : ByteArray} (hne : Hid (g' < g)) (h : Sx W g f o k i r s) : Sx (W.setCell ⟨g', jj, none⟩ v) g f o k i r s :=
  sx_same h fun j => by
    have := heap_setCell_other W ⟨g', jj, none⟩ g v (by have := hne.out; show g ≠ g'; omega)
    unfold World.cell?
    simp only [this]

set_option maxHeartbeats 2000000 in
theorem pred_any (x : Bool) (t : Int) (a : Option Addr) (n c : Nat) (L : List TT) (w : World) (hn : L.length = n) (hm : n ≤ maxLen) (hv : Rawts w a L) :
    Calls Tryz.prog 40 #[pv x t a n c] w fun e w' => ∃ A k c', e = .returned (pv x t A k c') ∧ (L.take 10).length = k ∧ OwnT w' w.heap.size (.slice A k c') (L.take 10) ∧ Below w.heap.size w w' := by
  have R0 := Lib.hid (Rpd.start w x t (xpcells x t a n c))
  have HN := Lib.hid hn
  have HV := Lib.hid hv
  have sf := run_store_float
  unfold maxLen at hm
  clear hn hv
  go_enter Tryz.func40, Tryz.ntmps40
  go_wp2
  go_loopw [14] (fun i W => ∃ (j : Nat) (A : Option Addr) (k c' : Nat), i = .int .i64 j ∧ j ≤ n ∧ k ≤ 10 ∧ Hid (Rpd w W x t A k c' (L.take (min j 10)) ∧ (L.take (min j 10)).length = k)) (fun i _ => n - (intOf i).toNat)
  case atStart => exact ⟨0, none, 0, 0, rfl, by omega, by omega, Lib.hid ⟨R0.out, rfl⟩⟩
  case round =>
    obtain ⟨j, A, k, c', rfl, hj, hk, H⟩ := hrel
    by_cases cj : j < n
    · have R1 := Lib.hid H.out.1
      have HK := Lib.hid H.out.2
      obtain ⟨b, off, rfl, c0, c1, c2, c3, c4, c5⟩ := (HV.out.below R1.out.bel) j (by have := HN.out; omega)
      have e1 := R1.out.loc.pdt.2.2
      have fr := R1.out.loc.free 2
      have zz : w.heap.size + 1 + 1 < wr.heap.size := by have := R1.out.big; omega
      obtain ⟨v, hv⟩ : ∃ v, L.getD j tz = v := ⟨_, rfl⟩
      rw [hv] at c0 c1 c2 c3 c4 c5
      by_cases c30 : j < 10
      · have TS := Lib.hid (show L.take (min (j + 1) 10) = L.take (min j 10) ++ [v] by
          rw [Nat.min_eq_left (by omega), Nat.min_eq_left (by omega), ttake_snoc L j (by have := HN.out; omega), hv])
        have K2 := Lib.hid (show (L.take (min j 10) ++ [v]).length = k + 1 by rw [List.length_append, HK.out]; rfl)
        clear hv H R0
        generalize L.take (min j 10) = M at R1 HK TS K2
        obtain ⟨f, o, q, m, r, s⟩ := v
        have RV := Lib.hid (raw_any q m r s)
        have SD := Lib.hid (sx_start wr f o q m r s)
        have RW := Lib.hid (show ∀ g, (Value.slice A k c').ownBlock = some g → g < wr.heap.size from fun g hg => (World.ownsRow.lt R1.out.own g hg).2)
        have NE : Hid (w.heap.size + 1 + 1 < wr.heap.size) := Lib.hid zz
        have KL := Lib.hid (show M.length + 1 = k + 1 by have := K2.out; simpa using this)
        clear hj
        go_wp2_with fail
        refine wp_region_noPanic ?_
        refine wp_region_held_drew (S := (fun W => W.cell? ⟨wr.heap.size, 0, none⟩ = some (.int .u8 f) ∧ W.cell? ⟨wr.heap.size, 1, none⟩ = some (.int .u8 o) ∧ W.cell? ⟨wr.heap.size, 2, none⟩ = some (.int .u8 q) ∧ W.cell? ⟨wr.heap.size, 3, none⟩ = some (.int .i64 m) ∧ W.cell? ⟨wr.heap.size, 4, none⟩ = some (.int .u64 (r : Int)) ∧ W.cell? ⟨wr.heap.size, 5, none⟩ = some (.string s))) (by kernel_rfl) (by exact SD.out) (fun hHeld0 => ?_)
        refine wpAnyH_take (i := 0) (v := ?_) rfl (by kernel_rfl) (by kernel_rfl) (by kernel_rfl) (fun _ _ _ h => h) (Or.inl ⟨by rfl, ?_⟩) hHeld0 ?_
        rotate_left
        · (intro W hSw; simp only [List.getElem_toArray, List.getElem_cons_zero]; (try dsimp only at hSw); go_simp; with_reducible rfl)
        simp only [List.getElem_toArray, List.getElem_cons_zero, Act.put, List.setIfInBounds_toArray, List.set_cons_zero, List.set_cons_succ]
        refine wpAnyH_take (i := 2) (v := ?_) rfl (by kernel_rfl) (by kernel_rfl) (by kernel_rfl) (fun _ _ _ h => h) (Or.inl ⟨by rfl, ?_⟩) hHeld0 ?_
        rotate_left
        · (intro W hSw; simp only [List.getElem_toArray, List.getElem_cons_succ, List.getElem_cons_zero]; (try dsimp only at hSw); go_simp; with_reducible rfl)
        simp only [List.getElem_toArray, List.getElem_cons_succ, List.getElem_cons_zero, Act.put, List.setIfInBounds_toArray, List.set_cons_zero, List.set_cons_succ]
        refine wpAnyH_take (i := 3) (v := ?_) rfl (by kernel_rfl) (by kernel_rfl) (by kernel_rfl) (fun _ _ _ h => h) (Or.inl ⟨by rfl, ?_⟩) hHeld0 ?_
        rotate_left
        · (intro W hSw; simp only [List.getElem_toArray, List.getElem_cons_succ, List.getElem_cons_zero]; (try dsimp only at hSw); go_simp; with_reducible rfl)
        simp only [List.getElem_toArray, List.getElem_cons_succ, List.getElem_cons_zero, Act.put, List.setIfInBounds_toArray, List.set_cons_zero, List.set_cons_succ]
        refine wpAnyH_take (i := 4) (v := ?_) rfl (by kernel_rfl) (by kernel_rfl) (by kernel_rfl) (fun _ _ _ h => h) (Or.inl ⟨by rfl, ?_⟩) hHeld0 ?_
        rotate_left
        · (intro W hSw; simp only [List.getElem_toArray, List.getElem_cons_succ, List.getElem_cons_zero]; (try dsimp only at hSw); go_simp; with_reducible rfl)
        simp only [List.getElem_toArray, List.getElem_cons_succ, List.getElem_cons_zero, Act.put, List.setIfInBounds_toArray, List.set_cons_zero, List.set_cons_succ]
        refine wpAnyH_take (i := 5) (v := ?_) rfl (by kernel_rfl) (by kernel_rfl) (by kernel_rfl) (fun _ _ _ h => h) (Or.inl ⟨by rfl, ?_⟩) hHeld0 ?_
        rotate_left
        · (intro W hSw; simp only [List.getElem_toArray, List.getElem_cons_succ, List.getElem_cons_zero]; (try dsimp only at hSw); go_simp; with_reducible rfl)
        simp only [List.getElem_toArray, List.getElem_cons_succ, List.getElem_cons_zero, Act.put, List.setIfInBounds_toArray, List.set_cons_zero, List.set_cons_succ]
        refine wpAnyH_take (i := 6) (v := ?_) rfl (by kernel_rfl) (by kernel_rfl) (by kernel_rfl) (fun _ _ _ h => h) (Or.inl ⟨by rfl, ?_⟩) hHeld0 ?_
        rotate_left
        · (intro W hSw; simp only [List.getElem_toArray, List.getElem_cons_succ, List.getElem_cons_zero]; (try dsimp only at hSw); go_simp; with_reducible rfl)
        simp only [List.getElem_toArray, List.getElem_cons_succ, List.getElem_cons_zero, Act.put, List.setIfInBounds_toArray, List.set_cons_zero, List.set_cons_succ]
        refine wpAnyH_take (i := 7) (v := ?_) rfl (by kernel_rfl) (by kernel_rfl) (by kernel_rfl) (fun _ _ _ h => h) (Or.inl ⟨by rfl, ?_⟩) hHeld0 ?_
        rotate_left
        · (intro W hSw; simp only [List.getElem_toArray, List.getElem_cons_succ, List.getElem_cons_zero]; (try dsimp only at hSw); go_simp; with_reducible rfl)
        simp only [List.getElem_toArray, List.getElem_cons_succ, List.getElem_cons_zero, Act.put, List.setIfInBounds_toArray, List.set_cons_zero, List.set_cons_succ]
        refine wpAnyH_ready (rs := [1, 8]) (by kernel_rfl) (by simp) ?_
        refine AllReadyH.cons rfl (fun K hK => ?_) (AllReadyH.cons rfl (fun K hK => ?_) AllReadyH.nil)
        · (try simp only [List.getElem_toArray, List.getElem_cons_succ, List.getElem_cons_zero])
          go_simp
          refine hK.out _ _ (by exact hHeld0) (fun hHeld1 => ?_)
          clear hK K hHeld0
          refine wpAnyH_ready (rs := [8]) (by kernel_rfl) (by simp) ?_
          refine AllReadyH.cons rfl (fun K hK => ?_) AllReadyH.nil
          (try simp only [List.getElem_toArray, List.getElem_cons_succ, List.getElem_cons_zero])
          go_simp
          go_wp2_with (go_at_call 74; refine (RV.out _).mono ?_; rintro e w2 ⟨rfl, b1⟩; have R2 := Lib.hid ((R1.out.next (below_alloc wr _)).next ((below_drewN _ _ 1).trans b1)); have e2 := R2.out.loc.pdt.2.2; have fr2 := R2.out.loc.free 2; have zz2 : w.heap.size + 1 + 1 < w2.heap.size := (by have := R2.out.big; omega))
          refine hK.out _ _ (by exact sx_below b1 hHeld1) (fun hHeld2 => ?_)
          clear hK K hHeld1
          refine wpAnyH_take (i := 9) (v := ?_) rfl (by kernel_rfl) (by kernel_rfl) (by kernel_rfl) (fun _ _ _ h => h) (Or.inl ⟨by rfl, ?_⟩) hHeld2 ?_
          rotate_left
          · (intro W hSw; simp only [List.getElem_toArray, List.getElem_cons_succ, List.getElem_cons_zero]; (try dsimp only at hSw); go_simp; with_reducible rfl)
          simp only [List.getElem_toArray, List.getElem_cons_succ, List.getElem_cons_zero, Act.put, List.setIfInBounds_toArray, List.set_cons_zero, List.set_cons_succ]
          refine wpAnyH_ready (rs := [10]) (by kernel_rfl) (by simp) ?_
          refine AllReadyH.cons rfl (fun K hK => ?_) AllReadyH.nil
          (try simp only [List.getElem_toArray, List.getElem_cons_succ, List.getElem_cons_zero])
          go_simp
          refine hK.out _ _ (by exact sx_alloc hHeld2) (fun hHeld3 => ?_)
          clear hK K hHeld2
          refine wpAnyH_ready (rs := [11]) (by kernel_rfl) (by simp) ?_
          refine AllReadyH.cons rfl (fun K hK => ?_) AllReadyH.nil
          refine step_appt2 _ (by rfl) (.tmp 22) (.tmp 31) (by rfl) (w.heap.size + 3) _ M (by rfl) (R2.out.own.below (below_alloc _ _)) _ 0 1 (f, o, q, m, r, s) (by rfl) (Att.one _ (f, o, q, m, r, s)) (k + 1) KL.out (by omega) (by have := R2.out.big; simp; omega) ?_; intro A3 c3 w3 hO3 hg3 hb3; have L3 := (R2.out.next (below_alloc _ _)).loc.below hb3 (by omega); have e3 := L3.pdt.2.2; have fr3 := L3.free 2; have R3 := Lib.hid ((R2.out.next (below_alloc _ _)).step hO3 hb3); clear L3 hO3 hb3
          refine hK.out _ _ (by exact sx_grown hg3 RW hHeld3) (fun hHeld4 => ?_)
          clear hK K hHeld3
          refine wpAnyH_take (i := 12) (v := ?_) rfl (by kernel_rfl) (by kernel_rfl) (by kernel_rfl) (fun _ _ _ h => h) (Or.inl ⟨by rfl, ?_⟩) hHeld4 ?_
          rotate_left
          · (intro W hSw; simp only [List.getElem_toArray, List.getElem_cons_succ, List.getElem_cons_zero]; (try dsimp only at hSw); go_simp; with_reducible rfl)
          simp only [List.getElem_toArray, List.getElem_cons_succ, List.getElem_cons_zero, Act.put, List.setIfInBounds_toArray, List.set_cons_zero, List.set_cons_succ]
          refine wpAnyH_ready (rs := [13]) (by kernel_rfl) (by simp) ?_
          refine AllReadyH.cons rfl (fun K hK => ?_) AllReadyH.nil
          (try simp only [List.getElem_toArray, List.getElem_cons_succ, List.getElem_cons_zero])
          go_simp
          refine hK.out _ _ (by exact sx_set NE hHeld4) (fun hHeld5 => ?_)
          clear hK K hHeld4
          refine wpAnyH_done (by kernel_rfl) ?_ _
          refine NoPanic.normal ?_
          clear hHeld5
          clear e2 fr2 zz2 e3 fr3 R2 c0 c1 c2 e1 fr zz R1 RV SD RW NE KL b1 hg3
          rw [← TS.out] at R3 K2
          go_wp2_with fail
          go_roundw
          case rel => exact ⟨j + 1, A3, k + 1, c3, by go_num, by omega, (by have := K2.out; have := List.length_take_le (min (j + 1) 10) L; omega), Lib.hid ⟨R3.out, K2.out⟩⟩
          case measure => simp [intOf]; omega
        · (try simp only [List.getElem_toArray, List.getElem_cons_succ, List.getElem_cons_zero])
          go_simp
          go_wp2_with (go_at_call 74; refine (RV.out _).mono ?_; rintro e w2 ⟨rfl, b1⟩; have R2 := Lib.hid ((R1.out.next (below_alloc wr _)).next ((below_drewN _ _ 1).trans b1)); have e2 := R2.out.loc.pdt.2.2; have fr2 := R2.out.loc.free 2; have zz2 : w.heap.size + 1 + 1 < w2.heap.size := (by have := R2.out.big; omega))
          refine hK.out _ _ (by exact sx_below b1 hHeld0) (fun hHeld1 => ?_)
          clear hK K hHeld0
          refine wpAnyH_take (i := 9) (v := ?_) rfl (by kernel_rfl) (by kernel_rfl) (by kernel_rfl) (fun _ _ _ h => h) (Or.inl ⟨by rfl, ?_⟩) hHeld1 ?_
          rotate_left
          · (intro W hSw; simp only [List.getElem_toArray, List.getElem_cons_succ, List.getElem_cons_zero]; (try dsimp only at hSw); go_simp; with_reducible rfl)
          simp only [List.getElem_toArray, List.getElem_cons_succ, List.getElem_cons_zero, Act.put, List.setIfInBounds_toArray, List.set_cons_zero, List.set_cons_succ]
          refine wpAnyH_ready (rs := [1, 10]) (by kernel_rfl) (by simp) ?_
          refine AllReadyH.cons rfl (fun K hK => ?_) (AllReadyH.cons rfl (fun K hK => ?_) AllReadyH.nil)
          · (try simp only [List.getElem_toArray, List.getElem_cons_succ, List.getElem_cons_zero])
            go_simp
            refine hK.out _ _ (by exact hHeld1) (fun hHeld2 => ?_)
            clear hK K hHeld1
            refine wpAnyH_ready (rs := [10]) (by kernel_rfl) (by simp) ?_
            refine AllReadyH.cons rfl (fun K hK => ?_) AllReadyH.nil
            (try simp only [List.getElem_toArray, List.getElem_cons_succ, List.getElem_cons_zero])
            go_simp
            refine hK.out _ _ (by exact sx_alloc hHeld2) (fun hHeld3 => ?_)
            clear hK K hHeld2
            refine wpAnyH_ready (rs := [11]) (by kernel_rfl) (by simp) ?_
            refine AllReadyH.cons rfl (fun K hK => ?_) AllReadyH.nil
            refine step_appt2 _ (by rfl) (.tmp 22) (.tmp 31) (by rfl) (w.heap.size + 3) _ M (by rfl) (R2.out.own.below (below_alloc _ _)) _ 0 1 (f, o, q, m, r, s) (by rfl) (Att.one _ (f, o, q, m, r, s)) (k + 1) KL.out (by omega) (by have := R2.out.big; simp; omega) ?_; intro A3 c3 w3 hO3 hg3 hb3; have L3 := (R2.out.next (below_alloc _ _)).loc.below hb3 (by omega); have e3 := L3.pdt.2.2; have fr3 := L3.free 2; have R3 := Lib.hid ((R2.out.next (below_alloc _ _)).step hO3 hb3); clear L3 hO3 hb3
            refine hK.out _ _ (by exact sx_grown hg3 RW hHeld3) (fun hHeld4 => ?_)
            clear hK K hHeld3
            refine wpAnyH_take (i := 12) (v := ?_) rfl (by kernel_rfl) (by kernel_rfl) (by kernel_rfl) (fun _ _ _ h => h) (Or.inl ⟨by rfl, ?_⟩) hHeld4 ?_
            rotate_left
            · (intro W hSw; simp only [List.getElem_toArray, List.getElem_cons_succ, List.getElem_cons_zero]; (try dsimp only at hSw); go_simp; with_reducible rfl)
            simp only [List.getElem_toArray, List.getElem_cons_succ, List.getElem_cons_zero, Act.put, List.setIfInBounds_toArray, List.set_cons_zero, List.set_cons_succ]
            refine wpAnyH_ready (rs := [13]) (by kernel_rfl) (by simp) ?_
            refine AllReadyH.cons rfl (fun K hK => ?_) AllReadyH.nil
            (try simp only [List.getElem_toArray, List.getElem_cons_succ, List.getElem_cons_zero])
            go_simp
            refine hK.out _ _ (by exact sx_set NE hHeld4) (fun hHeld5 => ?_)
            clear hK K hHeld4
            refine wpAnyH_done (by kernel_rfl) ?_ _
            refine NoPanic.normal ?_
            clear hHeld5
            clear e2 fr2 zz2 e3 fr3 R2 c0 c1 c2 e1 fr zz R1 RV SD RW NE KL b1 hg3
            rw [← TS.out] at R3 K2
            go_wp2_with fail
            go_roundw
            case rel => exact ⟨j + 1, A3, k + 1, c3, by go_num, by omega, (by have := K2.out; have := List.length_take_le (min (j + 1) 10) L; omega), Lib.hid ⟨R3.out, K2.out⟩⟩
            case measure => simp [intOf]; omega
          · (try simp only [List.getElem_toArray, List.getElem_cons_succ, List.getElem_cons_zero])
            go_simp
            refine hK.out _ _ (by exact sx_alloc hHeld1) (fun hHeld2 => ?_)
            clear hK K hHeld1
            refine wpAnyH_ready (rs := [1]) (by kernel_rfl) (by simp) ?_
            refine AllReadyH.cons rfl (fun K hK => ?_) AllReadyH.nil
            (try simp only [List.getElem_toArray, List.getElem_cons_succ, List.getElem_cons_zero])
            go_simp
            refine hK.out _ _ (by exact hHeld2) (fun hHeld3 => ?_)
            clear hK K hHeld2
            refine wpAnyH_ready (rs := [11]) (by kernel_rfl) (by simp) ?_
            refine AllReadyH.cons rfl (fun K hK => ?_) AllReadyH.nil
            refine step_appt2 _ (by rfl) (.tmp 22) (.tmp 31) (by rfl) (w.heap.size + 3) _ M (by rfl) (R2.out.own.below (below_alloc _ _)) _ 0 1 (f, o, q, m, r, s) (by rfl) (Att.one _ (f, o, q, m, r, s)) (k + 1) KL.out (by omega) (by have := R2.out.big; simp; omega) ?_; intro A3 c3 w3 hO3 hg3 hb3; have L3 := (R2.out.next (below_alloc _ _)).loc.below hb3 (by omega); have e3 := L3.pdt.2.2; have fr3 := L3.free 2; have R3 := Lib.hid ((R2.out.next (below_alloc _ _)).step hO3 hb3); clear L3 hO3 hb3
            refine hK.out _ _ (by exact sx_grown hg3 RW hHeld3) (fun hHeld4 => ?_)
            clear hK K hHeld3
            refine wpAnyH_take (i := 12) (v := ?_) rfl (by kernel_rfl) (by kernel_rfl) (by kernel_rfl) (fun _ _ _ h => h) (Or.inl ⟨by rfl, ?_⟩) hHeld4 ?_
            rotate_left
            · (intro W hSw; simp only [List.getElem_toArray, List.getElem_cons_succ, List.getElem_cons_zero]; (try dsimp only at hSw); go_simp; with_reducible rfl)
            simp only [List.getElem_toArray, List.getElem_cons_succ, List.getElem_cons_zero, Act.put, List.setIfInBounds_toArray, List.set_cons_zero, List.set_cons_succ]
            refine wpAnyH_ready (rs := [13]) (by kernel_rfl) (by simp) ?_
            refine AllReadyH.cons rfl (fun K hK => ?_) AllReadyH.nil
            (try simp only [List.getElem_toArray, List.getElem_cons_succ, List.getElem_cons_zero])
            go_simp
            refine hK.out _ _ (by exact sx_set NE hHeld4) (fun hHeld5 => ?_)
            clear hK K hHeld4
            refine wpAnyH_done (by kernel_rfl) ?_ _
            refine NoPanic.normal ?_
            clear hHeld5
            clear e2 fr2 zz2 e3 fr3 R2 c0 c1 c2 e1 fr zz R1 RV SD RW NE KL b1 hg3
            rw [← TS.out] at R3 K2
            go_wp2_with fail
            go_roundw
            case rel => exact ⟨j + 1, A3, k + 1, c3, by go_num, by omega, (by have := K2.out; have := List.length_take_le (min (j + 1) 10) L; omega), Lib.hid ⟨R3.out, K2.out⟩⟩
            case measure => simp [intOf]; omega
      · have TS := Lib.hid (show L.take (min (j + 1) 10) = L.take (min j 10) by rw [Nat.min_eq_right (by omega), Nat.min_eq_right (by omega)])
        clear hv H R0
        have R2 := Lib.hid (R1.out.next (below_alloc wr (xtcells v)))
        obtain ⟨f, o, q, m, r, s⟩ := v
        rw [← TS.out] at R2 HK
        go_wp2_with fail
        go_roundw
        case rel => exact ⟨j + 1, A, k, c', by go_num, by omega, by omega, Lib.hid ⟨R2.out, HK.out⟩⟩
        case measure => simp [intOf]; omega
    · obtain rfl : j = n := by omega
      have R1 := Lib.hid H.out.1
      have HK := Lib.hid H.out.2
      have TT' := Lib.hid (show L.take (min j 10) = L.take 10 by
        rcases Nat.lt_or_ge j 10 with h | h
        · rw [Nat.min_eq_left (by omega), List.take_of_length_le (by have := HN.out; omega), List.take_of_length_le (by have := HN.out; omega)]
        · rw [Nat.min_eq_right (by omega)])
      rw [TT'.out] at R1 HK
      obtain ⟨e0, e1, e2⟩ := R1.out.loc.pdt
      obtain ⟨f0, f1, f2⟩ := R1.out.res.pdt
      have g0 := R1.out.res.free 0
      have g1 := R1.out.res.free 1
      have g2 := R1.out.res.free 2
      have BB : Hid (Below w.heap.size w (((wr.setCell ⟨w.heap.size + 1, 0, none⟩ (.bool x)).setCell ⟨w.heap.size + 1, 1, none⟩ (.int .u8 t)).setCell ⟨w.heap.size + 1, 2, none⟩ (.slice A k c'))) := Lib.hid ((((R1.out.bel).setCell (by show w.heap.size ≤ w.heap.size + 1; omega) _).setCell (by show w.heap.size ≤ w.heap.size + 1; omega) _).setCell (by show w.heap.size ≤ w.heap.size + 1; omega) _)
      have OO := Lib.hid ((((R1.out.own.setCell (w.heap.size + 1) 0 (by omega) (.bool x)).setCell (w.heap.size + 1) 1 (by omega) (.int .u8 t)).setCell (w.heap.size + 1) 2 (by omega) (.slice A k c')).mono (show w.heap.size ≤ _ by omega))
      clear H R0 R1 TT'
      go_wp2_with fail
      exact bodyPost_ret (v := pv x t A k c') (by simp [results, Tryz.results40, go_sem, *]) rfl ⟨A, k, c', rfl, HK.out, OO.out, BB.out⟩

/- whether it is great -/
def pgsum (L : List TT) : Nat := (L.map fun t => min t.2.2.2.2.2.size 3000).sum
def pgreat (L : List TT) : Bool := decide (20 < L.length) || decide (3000 < L.length + pgsum L)
theorem pgsum_snoc (L : List TT) (j : Nat) (h : j < L.length) : pgsum (L.take (j + 1)) = pgsum (L.take j) + min (L.getD j tz).2.2.2.2.2.size 3000 := by
  unfold pgsum
  rw [ttake_snoc L j h, List.map_append, List.sum_append]; rfl
set_option maxHeartbeats 1000000 in
theorem pgreat_any (x : Bool) (t : Int) (a : Option Addr) (n c : Nat) (L : List TT) (w : World) (hn : L.length = n) (hm : n ≤ 1000) (hv : Tsts w a L) (hz : ∀ v ∈ L, v.2.2.2.2.2.size ≤ maxLen) :
    Calls Tryz.prog 41 #[pv x t a n c] w fun e w' => e = .returned (.bool (pgreat L)) ∧ Below w.heap.size w w' := by
  have E0 := Lib.hid (Pdt.alloc w x t a n c)
  have B0 := Lib.hid (below_alloc w (pcells x t a n c))
  have HN := Lib.hid hn
  have HV := Lib.hid hv
  have HZ := Lib.hid hz
  have Q := Lib.hid (show (decide (20 < n) || decide (3000 < n + pgsum L)) = pgreat L by unfold pgreat; rw [hn])
  obtain ⟨R, hR⟩ : ∃ R, pgreat L = R := ⟨_, rfl⟩
  rw [hR] at Q ⊢
  clear hn hv hz hR
  by_cases c40 : 20 < n
  · have u40 : (20 : Int) < (n : Int) := by omega
    rw [decide_eq_true c40, Bool.true_or] at Q
    go_enter Tryz.func41, Tryz.ntmps41
    go_wp2_with fail
    go_ret
    exact ⟨ret_bool Q.out, B0.out⟩
  · have u40 : ¬ (20 : Int) < (n : Int) := by omega
    rw [decide_eq_false c40, Bool.false_or] at Q
    clear c40
    go_enter Tryz.func41, Tryz.ntmps41
    go_wp2
    go_loopw [13, 3] (fun i s W => ∃ (j g : Nat), i = .int .i64 j ∧ s = .int .i64 ((n : Int) + (g : Int)) ∧ j ≤ n ∧ g ≤ j * 3000 ∧ Hid (Pdt W w.heap.size x t a n c ∧ Below w.heap.size w W ∧ pgsum (L.take j) = g)) (fun i _ _ => n - (intOf i).toNat)
    case atStart => exact ⟨0, 0, rfl, by simp, by omega, by omega, Lib.hid ⟨E0.out, B0.out, rfl⟩⟩
    case round =>
      obtain ⟨j, g, rfl, rfl, hj, hg, H⟩ := hrel
      obtain ⟨e0, e1, e2⟩ := H.out.1
      by_cases c1 : j < n
      · obtain ⟨b, off, rfl, c0, c1, c2, c3, c4, c5⟩ := (HV.out.below H.out.2.1) j (by have := HN.out; omega)
        have GS := Lib.hid (pgsum_snoc L j (by have := HN.out; omega))
        have hs := HZ.out _ (tgetD_mem L j (by have := HN.out; omega))
        rw [H.out.2.2] at GS
        generalize L.getD j tz = v at GS c0 c1 c2 c3 c4 c5 hs
        obtain ⟨f, o, k, m, r, s⟩ := v
        have B1 := Lib.hid H.out.2.1
        have E1 := Lib.hid H.out.1
        unfold maxLen at hs
        clear H
        have hmin : min (s.size : Int) 3000 = ((min s.size 3000 : Nat) : Int) := by omega
        obtain ⟨p, hp⟩ : ∃ p, min s.size 3000 = p := ⟨_, rfl⟩
        rw [hp] at hmin
        have hp2 : p ≤ 3000 := by omega
        have GS' : Hid (pgsum (L.take (j + 1)) = g + p) := Lib.hid (by rw [← hp]; exact GS.out)
        clear GS
        go_wp2_with fail
        go_roundw
        case rel => exact ⟨j + 1, g + p, by go_num, by go_num, by omega, by omega, Lib.hid ⟨E1.out, B1.out, GS'.out⟩⟩
        case measure => simp [intOf]; omega
      · obtain rfl : j = n := by omega
        have B1 := Lib.hid H.out.2.1
        have GS := Lib.hid H.out.2.2
        rw [List.take_of_length_le (by have := HN.out; omega)] at GS
        clear H
        go_wp2_with fail
        go_ret
        exact ⟨ret_bool (by rw [← Q.out, GS.out, Bool.eq_iff_iff]; simp; omega), B1.out⟩
end Go.Proofs.YtpnllbojifnopaaGreatDoor

/- Regions that draw their order and make memory of their own: what lies below a mark is as it was. -/
namespace Go.Proofs.YtpnllbojifnopaaGreatDoor
open Go Go.RowKit
set_option maxRecDepth 20000
/- all that lies below m is as it was in w1 -/
theorem mkS {m : Nat} {w1 W : World} (h : Below m w1 W) (z : m ≤ W.heap.size) : (∀ a j, a < m → W.cell? ⟨a, j, none⟩ = w1.cell? ⟨a, j, none⟩) ∧ Hid (Below m w1 W ∧ m ≤ W.heap.size) :=
  ⟨fun a j ha => h.cell (p := ⟨a, j, none⟩) ha, Lib.hid ⟨h, z⟩⟩
theorem sB {m : Nat} {w1 W : World} (h : (∀ a j, a < m → W.cell? ⟨a, j, none⟩ = w1.cell? ⟨a, j, none⟩) ∧ Hid (Below m w1 W ∧ m ≤ W.heap.size)) : Below m w1 W := h.2.out.1
theorem sZ {m : Nat} {w1 W : World} (h : (∀ a j, a < m → W.cell? ⟨a, j, none⟩ = w1.cell? ⟨a, j, none⟩) ∧ Hid (Below m w1 W ∧ m ≤ W.heap.size)) : m ≤ W.heap.size := h.2.out.2
theorem sCall {m : Nat} {w1 W W' : World} (hb : Below W.heap.size W W') (h : (∀ a j, a < m → W.cell? ⟨a, j, none⟩ = w1.cell? ⟨a, j, none⟩) ∧ Hid (Below m w1 W ∧ m ≤ W.heap.size)) :
    (∀ a j, a < m → W'.cell? ⟨a, j, none⟩ = w1.cell? ⟨a, j, none⟩) ∧ Hid (Below m w1 W' ∧ m ≤ W'.heap.size) :=
  mkS ((sB h).trans (hb.mono (sZ h))) (Nat.le_trans (sZ h) hb.size)
end Go.Proofs.YtpnllbojifnopaaGreatDoor

/- Rows of one's own, kept. -/
namespace Go.Proofs.YtpnllbojifnopaaGreatDoor
open Go Go.RowKit Pk Rl
set_option maxRecDepth 20000

theorem cell_set_ne (w : World) (g i : Nat) (x : Value) (r j : Nat) (h : r ≠ g) : (w.setCell ⟨g, i, none⟩ x).cell? ⟨r, j, none⟩ = w.cell? ⟨r, j, none⟩ := World.cell?_of_block (heap_setCell_other w ⟨g, i, none⟩ r x h)
theorem cell_alloc_lt (w : World) (o : Obj) (r j : Nat) (h : r < w.heap.size) : (w.alloc o).cell? ⟨r, j, none⟩ = w.cell? ⟨r, j, none⟩ := (below_alloc w o).cell (p := ⟨r, j, none⟩) h
theorem cell_drew (w : World) (p : Addr) : w.drew.cell? p = w.cell? p := rfl
theorem OwnV.keep {w : World} {B : Nat} {A : Option Addr} {k c : Nat} {L : List VV} (h : OwnV w B (.slice A k c) L) (F : World) (hF : ∀ r j, B ≤ r → r < w.heap.size → F.cell? ⟨r, j, none⟩ = w.cell? ⟨r, j, none⟩) : Vals F A L := by
  intro i hi
  obtain ⟨b, off, e, c0, c1, c2, c3⟩ := h.vals i hi
  have hB : B ≤ b := by
    rcases h.2 with ⟨h', _⟩ | ⟨g, cap, cur, h', hg, _⟩
    · injection h' with e1 _ _
      rw [e1] at e
      cases e
    · injection h' with e1 _ _
      rw [e1] at e
      injection e with e
      injection e with e
      omega
  have hb : b < w.heap.size := World.block_lt_of_cell? _ _ c0
  exact ⟨b, off, e, by rw [hF b _ hB hb]; exact c0, by rw [hF b _ hB hb]; exact c1, by rw [hF b _ hB hb]; exact c2, by rw [hF b _ hB hb]; exact c3⟩
theorem OwnT.keep {w : World} {B : Nat} {A : Option Addr} {k c : Nat} {L : List TT} (h : OwnT w B (.slice A k c) L) (F : World) (hF : ∀ r j, B ≤ r → r < w.heap.size → F.cell? ⟨r, j, none⟩ = w.cell? ⟨r, j, none⟩) : Tsts F A L := by
  intro i hi
  obtain ⟨b, off, e, c0, c1, c2, c3, c4, c5⟩ := h.vals i hi
  have hB : B ≤ b := by
    rcases h.2 with ⟨h', _⟩ | ⟨g, cap, cur, h', hg, _⟩
    · injection h' with e1 _ _
      rw [e1] at e
      cases e
    · injection h' with e1 _ _
      rw [e1] at e
      injection e with e
      injection e with e
      omega
  have hb : b < w.heap.size := World.block_lt_of_cell? _ _ c0
  exact ⟨b, off, e, by rw [hF b _ hB hb]; exact c0, by rw [hF b _ hB hb]; exact c1, by rw [hF b _ hB hb]; exact c2, by rw [hF b _ hB hb]; exact c3, by rw [hF b _ hB hb]; exact c4, by rw [hF b _ hB hb]; exact c5⟩
end Go.Proofs.YtpnllbojifnopaaGreatDoor
