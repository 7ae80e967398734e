/- The contract of event.Read. -/
import Derived.Test.YtjpdnojkgadklaaEvFront
import Derived.Deep.DeepCutAuto
namespace Go.Proofs.Ytjpdnojkgadklaa
open Go Go.RowKit Pk Rl
set_option maxRecDepth 20000

/- a logged event in a block of its own, whole: it may be stored into -/
def Lgb (w : World) (g p s a : Nat) (t : Int) (A : Option Addr) (k c : Nat) : Prop := w.heap[g]? = some (.cells #[.int .u32 (p : Int), .int .u64 (s : Int), .int .u64 (a : Int), .int .u8 t, .slice A k c] 48 (0, 0))
theorem Lgb.lgt {w : World} {g p s a : Nat} {t : Int} {A : Option Addr} {k c : Nat} (h : Lgb w g p s a t A k c) : Lgt w g p s a t A k c :=
  ⟨by rw [cell_of_row w g 0 _ _ _ h]; rfl, by rw [cell_of_row w g 1 _ _ _ h]; rfl, by rw [cell_of_row w g 2 _ _ _ h]; rfl, by rw [cell_of_row w g 3 _ _ _ h]; rfl, by rw [cell_of_row w g 4 _ _ _ h]; rfl⟩
theorem Lgb.free {w : World} {g p s a : Nat} {t : Int} {A : Option Addr} {k c : Nat} (h : Lgb w g p s a t A k c) (j : Nat) : w.frozen? ⟨g, j, none⟩ = false := by
  simp [World.frozen?, Lgb] at h ⊢
  simp [h]
theorem Lgb.lt {w : World} {g p s a : Nat} {t : Int} {A : Option Addr} {k c : Nat} (h : Lgb w g p s a t A k c) : g < w.heap.size := h.lgt.lt
theorem Lgb.next {w w' : World} {g p s a : Nat} {t : Int} {A : Option Addr} {k c : Nat} (h : Lgb w g p s a t A k c) (hb : Below w.heap.size w w') : Lgb w' g p s a t A k c := by
  unfold Lgb
  rw [hb.block g h.lt]
  exact h
theorem Lgb.alloc (w : World) (p s a : Nat) (t : Int) (A : Option Addr) (k c : Nat) : Lgb (w.alloc (lcells p s a t A k c)) w.heap.size p s a t A k c := heap_alloc_new w _
/- five stores into a block -/
abbrev set5 (w : World) (g : Nat) (x0 x1 x2 x3 x4 : Value) : World := ((((w.setCell ⟨g, 0, none⟩ x0).setCell ⟨g, 1, none⟩ x1).setCell ⟨g, 2, none⟩ x2).setCell ⟨g, 3, none⟩ x3).setCell ⟨g, 4, none⟩ x4
theorem below_set5 {B : Nat} {w W : World} (h : Below B w W) {g : Nat} (hg : B ≤ g) (x0 x1 x2 x3 x4 : Value) : Below B w (set5 W g x0 x1 x2 x3 x4) :=
  ((((h.setCell (p := ⟨g, 0, none⟩) hg x0).setCell (p := ⟨g, 1, none⟩) hg x1).setCell (p := ⟨g, 2, none⟩) hg x2).setCell (p := ⟨g, 3, none⟩) hg x3).setCell (p := ⟨g, 4, none⟩) hg x4
theorem own_set5 {B : Nat} {W : World} {v : Value} {L : List VV} (h : OwnV W B v L) {g : Nat} (hg : g < B) (x0 x1 x2 x3 x4 : Value) : OwnV (set5 W g x0 x1 x2 x3 x4) B v L :=
  ((((h.setCell g 0 hg x0).setCell g 1 hg x1).setCell g 2 hg x2).setCell g 3 hg x3).setCell g 4 hg x4
theorem Lgb.set {w : World} {g p s a : Nat} {t : Int} {A : Option Addr} {k c : Nat} (h : Lgb w g p s a t A k c) (t' : Int) (A' : Option Addr) (k' c' : Nat) : Lgb ((w.setCell ⟨g, 3, none⟩ (.int .u8 t')).setCell ⟨g, 4, none⟩ (.slice A' k' c')) g p s a t' A' k' c' := by
  have h1 := heap_setCell_same w g 3 _ _ (.int .u8 t') h
  unfold Lgb
  rw [heap_setCell_same _ g 4 _ _ _ h1]
  rfl
theorem Lgb.other {w : World} {g p s a : Nat} {t : Int} {A : Option Addr} {k c : Nat} (h : Lgb w g p s a t A k c) (g' j : Nat) (x : Value) (hne : g ≠ g') : Lgb (w.setCell ⟨g', j, none⟩ x) g p s a t A k c := by
  unfold Lgb
  rw [heap_setCell_other w ⟨g', j, none⟩ g x hne]
  exact h
abbrev got2 (p s a : Nat) (t : Int) (A : Option Addr) (k c : Nat) (E : Int) : Value := .tuple #[lg p s a t A k c, .int .i64 E]

set_option maxHeartbeats 1000000 in
theorem read_1 (b : Option Addr) (len cap : Nat) (l : List Int) (w : World) (P S T : Nat) (K : Int) (E : Nat) (hE : E ≠ 0) (hb : Byt w b l)
    (F : Hid (∀ w, Byt w b l → Calls Try.prog 39 #[.slice b len cap] w fun e w' => e = .returned (gotf P S T K (E : Int)) ∧ Below w.heap.size w w')) :
    Calls Try.prog 21 #[.slice b len cap] w fun e w' => e = .returned (got2 0 0 0 0 none 0 0 (E : Int)) ∧ Below w.heap.size w w' := by
  have B0 := Lib.hid (below_alloc w (lcells 0 0 0 0 none 0 0))
  have L0 := Lib.hid (Lgb.alloc w 0 0 0 0 none 0 0)
  have HB := Lib.hid hb
  clear hb
  have t1 : ((E : Int) == 0) = false := by simp; omega
  go_enter Try.func21, Try.ntmps21
  go_wp2_with fail
  refine (F.out _ (HB.out.below B0.out)).mono ?_
  rintro e w1 ⟨rfl, hbl⟩
  have L1 := Lib.hid (L0.out.next hbl)
  have B1 := Lib.hid (below_go B0.out hbl)
  have BB := Lib.hid (below_go (below_set5 B1.out (Nat.le_refl _) (.int .u32 0) (.int .u64 0) (.int .u64 0) (.int .u8 0) (.slice none 0 0)) (below_alloc _ (lcells P S T 0 none 0 0)))
  obtain ⟨r0, r1, r2, r3, r4⟩ := L1.out.lgt
  have y0 := L1.out.free 0
  have y1 := L1.out.free 1
  have y2 := L1.out.free 2
  have y3 := L1.out.free 3
  have y4 := L1.out.free 4
  have z2 : w.heap.size < w1.heap.size := L1.out.lt
  clear hbl B0 L0 F B1 L1
  go_wp2_with fail
  exact bodyPost_ret (v := got2 0 0 0 0 none 0 0 (E : Int)) (by simp [results, Try.results21, go_sem, *]) rfl ⟨rfl, BB.out⟩

set_option maxHeartbeats 1000000 in
theorem read_2 (b : Option Addr) (len cap : Nat) (l : List Int) (w : World) (P S T : Nat) (K : Int) (t : Int) (fs : List VV) (K2 : Int) (E : Nat) (hE : E ≠ 0) (hb : Byt w b l)
    (F : Hid (∀ w, Byt w b l → Calls Try.prog 39 #[.slice b len cap] w fun e w' => e = .returned (gotf P S T K 0) ∧ Below w.heap.size w w'))
    (G : Hid (∀ w, Byt w b l → Calls Try.prog 17 #[.slice b len cap, .int .i64 K] w fun e w' => ∃ A k c', e = .returned (got3 (ev t A k c') K2 (E : Int)) ∧ fs.length = k ∧ OwnV w' w.heap.size (.slice A k c') fs ∧ Below w.heap.size w w')) :
    Calls Try.prog 21 #[.slice b len cap] w fun e w' => e = .returned (got2 0 0 0 0 none 0 0 (E : Int)) ∧ Below w.heap.size w w' := by
  have B0 := Lib.hid (below_alloc w (lcells 0 0 0 0 none 0 0))
  have L0 := Lib.hid (Lgb.alloc w 0 0 0 0 none 0 0)
  have HB := Lib.hid hb
  clear hb
  have t1 : ((E : Int) == 0) = false := by simp; omega
  go_enter Try.func21, Try.ntmps21
  go_wp2_with fail
  refine (F.out _ (HB.out.below B0.out)).mono ?_
  rintro e w1 ⟨rfl, hbl⟩
  have B1 := Lib.hid (below_go (below_go B0.out hbl) (below_alloc w1 (lcells P S T 0 none 0 0)))
  have L1 := Lib.hid ((L0.out.next hbl).next (below_alloc w1 (lcells P S T 0 none 0 0)))
  have M1 := Lib.hid (Lgb.alloc w1 P S T 0 none 0 0)
  have Z1 := Lib.hid (show w.heap.size < w1.heap.size from (L0.out.next hbl).lt)
  clear hbl B0 L0 F
  go_wp2_with fail
  refine (G.out _ (HB.out.below B1.out)).mono ?_
  rintro e w2 ⟨A2, k2, c2, rfl, hk2, ho2, hbl⟩
  have B2 := Lib.hid (below_go B1.out hbl)
  have L2 := Lib.hid (L1.out.next hbl)
  have M2 := Lib.hid (M1.out.next hbl)
  have K2' := Lib.hid hk2
  have O2 := Lib.hid ho2
  clear hbl G hk2 ho2 L1 M1
  obtain ⟨r0, r1, r2, r3, r4⟩ := L2.out.lgt
  have y0 := L2.out.free 0
  have y1 := L2.out.free 1
  have y2 := L2.out.free 2
  have y3 := L2.out.free 3
  have y4 := L2.out.free 4
  have z2 : w.heap.size < w2.heap.size := L2.out.lt
  have BB := Lib.hid (below_go (below_set5 B2.out (Nat.le_refl _) (.int .u32 0) (.int .u64 0) (.int .u64 0) (.int .u8 0) (.slice none 0 0)) (below_alloc _ (ecells t A2 k2 c2)))
  clear B1 B2 L2 M2 O2 K2' Z1
  go_wp2_with fail
  exact bodyPost_ret (v := got2 0 0 0 0 none 0 0 (E : Int)) (by simp [results, Try.results21, go_sem, *]) rfl ⟨rfl, BB.out⟩

set_option maxHeartbeats 1000000 in
theorem read_3 (b : Option Addr) (len cap : Nat) (l : List Int) (w : World) (P S T : Nat) (K : Int) (t : Int) (fs : List VV) (K2 : Int) (hK : K2 < (len : Int)) (hb : Byt w b l)
    (F : Hid (∀ w, Byt w b l → Calls Try.prog 39 #[.slice b len cap] w fun e w' => e = .returned (gotf P S T K 0) ∧ Below w.heap.size w w'))
    (G : Hid (∀ w, Byt w b l → Calls Try.prog 17 #[.slice b len cap, .int .i64 K] w fun e w' => ∃ A k c', e = .returned (got3 (ev t A k c') K2 0) ∧ fs.length = k ∧ OwnV w' w.heap.size (.slice A k c') fs ∧ Below w.heap.size w w')) :
    Calls Try.prog 21 #[.slice b len cap] w fun e w' => e = .returned (got2 0 0 0 0 none 0 0 2) ∧ Below w.heap.size w w' := by
  have B0 := Lib.hid (below_alloc w (lcells 0 0 0 0 none 0 0))
  have L0 := Lib.hid (Lgb.alloc w 0 0 0 0 none 0 0)
  have HB := Lib.hid hb
  clear hb
  go_enter Try.func21, Try.ntmps21
  go_wp2_with fail
  refine (F.out _ (HB.out.below B0.out)).mono ?_
  rintro e w1 ⟨rfl, hbl⟩
  have B1 := Lib.hid (below_go (below_go B0.out hbl) (below_alloc w1 (lcells P S T 0 none 0 0)))
  have L1 := Lib.hid ((L0.out.next hbl).next (below_alloc w1 (lcells P S T 0 none 0 0)))
  have M1 := Lib.hid (Lgb.alloc w1 P S T 0 none 0 0)
  have Z1 := Lib.hid (show w.heap.size < w1.heap.size from (L0.out.next hbl).lt)
  clear hbl B0 L0 F
  go_wp2_with fail
  refine (G.out _ (HB.out.below B1.out)).mono ?_
  rintro e w2 ⟨A2, k2, c2, rfl, hk2, ho2, hbl⟩
  have B2 := Lib.hid (below_go B1.out hbl)
  have L2 := Lib.hid (L1.out.next hbl)
  have M2 := Lib.hid (M1.out.next hbl)
  have K2' := Lib.hid hk2
  have O2 := Lib.hid ho2
  clear hbl G hk2 ho2 L1 M1
  obtain ⟨r0, r1, r2, r3, r4⟩ := L2.out.lgt
  have y0 := L2.out.free 0
  have y1 := L2.out.free 1
  have y2 := L2.out.free 2
  have y3 := L2.out.free 3
  have y4 := L2.out.free 4
  have z2 : w.heap.size < w2.heap.size := L2.out.lt
  have BB := Lib.hid (below_go (below_set5 B2.out (Nat.le_refl _) (.int .u32 0) (.int .u64 0) (.int .u64 0) (.int .u8 0) (.slice none 0 0)) (below_alloc _ (ecells t A2 k2 c2)))
  clear B1 B2 L2 M2 O2 K2' Z1
  go_wp2_with fail
  exact bodyPost_ret (v := got2 0 0 0 0 none 0 0 2) (by simp [results, Try.results21, go_sem, *]) rfl ⟨rfl, BB.out⟩

set_option maxHeartbeats 2000000 in
theorem read_4 (b : Option Addr) (len cap : Nat) (l : List Int) (w : World) (P S T : Nat) (K : Int) (t : Int) (fs : List VV) (K2 : Int) (hK : ¬ K2 < (len : Int)) (hb : Byt w b l)
    (F : Hid (∀ w, Byt w b l → Calls Try.prog 39 #[.slice b len cap] w fun e w' => e = .returned (gotf P S T K 0) ∧ Below w.heap.size w w'))
    (G : Hid (∀ w, Byt w b l → Calls Try.prog 17 #[.slice b len cap, .int .i64 K] w fun e w' => ∃ A k c', e = .returned (got3 (ev t A k c') K2 0) ∧ fs.length = k ∧ OwnV w' w.heap.size (.slice A k c') fs ∧ Below w.heap.size w w')) :
    Calls Try.prog 21 #[.slice b len cap] w fun e w' => ∃ A k c', e = .returned (got2 P S T t A k c' 0) ∧ fs.length = k ∧ OwnV w' w.heap.size (.slice A k c') fs ∧ Below w.heap.size w w' := by
  have B0 := Lib.hid (below_alloc w (lcells 0 0 0 0 none 0 0))
  have L0 := Lib.hid (Lgb.alloc w 0 0 0 0 none 0 0)
  have HB := Lib.hid hb
  clear hb
  have tk : decide (K2 < (len : Int)) = false := by simpa using hK
  go_enter Try.func21, Try.ntmps21
  go_wp2_with fail
  refine (F.out _ (HB.out.below B0.out)).mono ?_
  rintro e w1 ⟨rfl, hbl⟩
  have B1 := Lib.hid (below_go (below_go B0.out hbl) (below_alloc w1 (lcells P S T 0 none 0 0)))
  have L1 := Lib.hid ((L0.out.next hbl).next (below_alloc w1 (lcells P S T 0 none 0 0)))
  have M1 := Lib.hid (Lgb.alloc w1 P S T 0 none 0 0)
  have Z1 := Lib.hid (show w.heap.size < w1.heap.size from (L0.out.next hbl).lt)
  clear hbl B0 L0 F
  go_wp2_with fail
  refine (G.out _ (HB.out.below B1.out)).mono ?_
  rintro e w2 ⟨A2, k2, c2, rfl, hk2, ho2, hbl⟩
  have B2 := Lib.hid (below_go B1.out hbl)
  have L2 := Lib.hid (L1.out.next hbl)
  have M2 := Lib.hid (M1.out.next hbl)
  have K2' := Lib.hid hk2
  have O2 := Lib.hid ho2
  clear hbl G hk2 ho2 L1 M1
  obtain ⟨r0, r1, r2, r3, r4⟩ := L2.out.lgt
  have y0 := L2.out.free 0
  have y1 := L2.out.free 1
  have y2 := L2.out.free 2
  have y3 := L2.out.free 3
  have y4 := L2.out.free 4
  have z2 : w.heap.size < w2.heap.size := L2.out.lt
  have WM := Lib.hid ((M2.out.set t A2 k2 c2).next (below_alloc _ (ecells t A2 k2 c2)))
  have WL := Lib.hid (((L2.out.other w1.heap.size 3 (.int .u8 t) (Nat.ne_of_lt Z1.out)).other w1.heap.size 4 (.slice A2 k2 c2) (Nat.ne_of_lt Z1.out)).next (below_alloc _ (ecells t A2 k2 c2)))
  have WB := Lib.hid (below_go ((B2.out.setCell (p := ⟨w1.heap.size, 3, none⟩) (Nat.le_of_lt Z1.out) (.int .u8 t)).setCell (p := ⟨w1.heap.size, 4, none⟩) (Nat.le_of_lt Z1.out) (.slice A2 k2 c2)) (below_alloc _ (ecells t A2 k2 c2)))
  have WO := Lib.hid ((((O2.out.setCell w1.heap.size 3 (by simp) (.int .u8 t)).setCell w1.heap.size 4 (by simp) (.slice A2 k2 c2)).below (below_alloc _ (ecells t A2 k2 c2))).mono (show w1.heap.size + 1 ≤ _ by simp))
  obtain ⟨m0, m1, m2, m3, m4⟩ := M2.out.lgt
  have u3 := M2.out.free 3
  have u4 := M2.out.free 4
  have z3 : w1.heap.size < w2.heap.size := M2.out.lt
  clear B1 B2 L2 M2 O2 r0 r1 r2 r3 r4 y0 y1 y2 y3 y4 m0 m1 m2 z2
  go_upto_region 9 with fail
  go_cut [5] from 35 to 36 (fun v wx => v = .int .i64 K ∧ Hid (Lgt wx w1.heap.size P S T t A2 k2 c2 ∧ Lgb wx w.heap.size 0 0 0 0 none 0 0 ∧ Below w.heap.size w wx ∧ OwnV wx (w1.heap.size + 1) (.slice A2 k2 c2) fs))
  case first =>
    go_wp2_with fail
    go_meet
    exact ⟨rfl, Lib.hid ⟨WM.out.lgt, WL.out, WB.out, WO.out⟩⟩
  case rest =>
  obtain ⟨rfl, HC⟩ := hcut
  clear WM WL WB WO m3 m4 u3 u4 z3
  obtain ⟨m0, m1, m2, m3, m4⟩ := HC.out.1
  obtain ⟨r0, r1, r2, r3, r4⟩ := HC.out.2.1.lgt
  have y0 := HC.out.2.1.free 0
  have y1 := HC.out.2.1.free 1
  have y2 := HC.out.2.1.free 2
  have y3 := HC.out.2.1.free 3
  have y4 := HC.out.2.1.free 4
  have BB := Lib.hid (below_set5 HC.out.2.2.1 (Nat.le_refl _) (.int .u32 (P : Int)) (.int .u64 (S : Int)) (.int .u64 (T : Int)) (.int .u8 t) (.slice A2 k2 c2))
  have OO := Lib.hid ((own_set5 HC.out.2.2.2 (Nat.lt_succ_of_lt Z1.out) (.int .u32 (P : Int)) (.int .u64 (S : Int)) (.int .u64 (T : Int)) (.int .u8 t) (.slice A2 k2 c2)).mono (Nat.le_of_lt (Nat.lt_succ_of_lt Z1.out)))
  clear HC Z1
  go_wp2_with fail
  exact bodyPost_ret (v := got2 P S T t A2 k2 c2 0) (by simp [results, Try.results21, go_sem, *]) rfl ⟨A2, k2, c2, rfl, K2'.out, OO.out, BB.out⟩
end Go.Proofs.Ytjpdnojkgadklaa
