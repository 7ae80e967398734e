/- Contracts, joined: PdGet, PdGet2, PdGet3. -/
import Derived.Test.YtilgoghnoeohnaaDoorPdPut
import Derived.Test.YtilgoghnoeohnaaDoorME
import Derived.BigRegion
/- What was put is got: pred.Get on a question's writing. -/
namespace Go.Proofs.YtilgoghnoeohnaaDoor
open Go Go.RowKit Pk Rl
set_option maxRecDepth 20000

abbrev nb (v : VV) : VV := (v.1, v.2.1, bt v.2.2.1, v.2.2.2)
theorem vg_mid (pre post : List Int) (k n : Int) (r : Nat) (s : ByteArray) (hmay : may k n r s = true) (h0 : -9223372036854775808 ≤ n) (h1 : n ≤ 9223372036854775807) (hr : r < 18446744073709551616) :
    vg (pre ++ (wv k n r s ++ post)) (pre.length : Int) = ((k, n, bt r, s), ((pre ++ wv k n r s).length : Int), 0) := by
  have hk : (pre ++ (wv k n r s ++ post)).getD pre.length 0 = k := by
    rw [List.getD_eq_getElem?_getD, List.getElem?_append_right (Nat.le_refl _), Nat.sub_self]
    simp [wv]
  have hlen : ¬ ((pre.length : Int) < 0 ∨ (((pre ++ (wv k n r s ++ post)).length : Nat) : Int) ≤ (pre.length : Int)) := by
    have : 1 ≤ (wv k n r s).length := by unfold wv; simp
    rw [List.length_append, List.length_append]
    omega
  have hp : ((pre.length : Nat) : Int) + 1 = ((pre ++ [k]).length : Int) := by simp
  unfold vg
  rw [if_neg hlen, Int.toNat_natCast, hk]
  have b0 : bt 0 = 0 := by decide
  rcases may_facts hmay with ⟨rfl, rfl, rfl, e⟩ | ⟨rfl, rfl, e⟩ | ⟨rfl, rfl, e⟩ | ⟨rfl, rfl, rfl, e⟩
  · rw [if_pos rfl, empty_of_size e, b0]
    simp [wv]
  · rw [if_neg (by omega), if_pos rfl]
    have hL : pre ++ (wv 1 n 0 s ++ post) = (pre ++ [1]) ++ (wrt (zig n) ++ post) := by simp [wv]
    obtain ⟨g1, g2, g3⟩ := got (pre ++ [1]) post (zig n) (zig_lt n h0 h1) _ hL _ hp
    rw [if_pos g3, g1, g2, sg_zig, empty_of_size e, b0, hp]
    simp [wv]
    omega
  · rw [if_neg (by omega), if_neg (by omega), if_pos rfl]
    have hL : pre ++ (wv 2 0 r s ++ post) = (pre ++ [2]) ++ (w8 (bt r) ++ post) := by simp [wv]
    obtain ⟨g1, g2, g3⟩ := gotReal (pre ++ [2]) post (bt r) (bt_lt r hr) (bt_bt r) _ hL _ hp
    rw [if_pos g3, g1, g2, empty_of_size e, hp]
    simp [wv, show (w8 (bt r)).length = 8 from rfl]
    omega
  · rw [if_neg (by omega), if_neg (by omega), if_neg (by omega), if_pos rfl]
    have hL : pre ++ (wv 3 0 0 s ++ post) = (pre ++ [3]) ++ (wrt s.size ++ (txt s ++ post)) := by simp [wv]
    obtain ⟨g1, g2, g3⟩ := gotText255 (pre ++ [3]) post s e _ hL _ hp
    rw [if_pos g3, g1, g2, str_txt, b0, hp]
    simp [wv, txt_length]
    omega

abbrev nt (t : TT) : TT := (t.1, t.2.1, nb t.2.2)
abbrev got4 (v : Value) (n p e : Int) : Value := .tuple #[v, .int .i64 n, .int .i64 p, .int .i64 e]
/- the front of a writing -/
set_option maxHeartbeats 1000000 in
theorem getFront_ok (b off len cap q n : Nat) (x : Bool) (t c : Int) (w : World) (hq : q < len) (hl : len ≤ 100000) (hn : n ≤ 4) (hc : c = 16 * (n : Int) + (if x then 1 else 0)) (hx : w.cell? ⟨b, off + q, none⟩ = some (.int .u8 c))
    (hy : x = false → q + 1 < len ∧ w.cell? ⟨b, off + (q + 1), none⟩ = some (.int .u8 t)) (h0 : x = true → t = 0) :
    Calls Tryd.prog 75 #[.slice (some ⟨b, off, none⟩) len cap, .int .i64 (q : Int)] w fun e w' => e = .returned (got4 (pv x t none 0 0) (n : Int) ((q : Int) + (if x then 1 else 2)) 0) ∧ Below w.heap.size w w' := by
  have hb := World.block_lt_of_cell? _ _ hx
  have B0 := Lib.hid (below_alloc w (pcells false 0 none 0 0))
  have tq : decide ((q : Int) < 0) = false := by simp
  have t2 : decide ((len : Int) ≤ (q : Int)) = false := by simp; omega
  cases x
  · simp only [Bool.false_eq_true, if_false, Int.add_zero] at hc
    obtain ⟨hq2, hy⟩ := hy rfl
    have a14 : bits .and .u8 c 14 = 0 := by
      subst hc
      obtain rfl | rfl | rfl | rfl | rfl : n = 0 ∨ n = 1 ∨ n = 2 ∨ n = 3 ∨ n = 4 := by omega
      all_goals decide
    have a1 : bits .and .u8 c 1 = 0 := by
      subst hc
      obtain rfl | rfl | rfl | rfl | rfl : n = 0 ∨ n = 1 ∨ n = 2 ∨ n = 3 ∨ n = 4 := by omega
      all_goals decide
    have aq : c / 16 = (n : Int) := by omega
    clear h0 hc
    go_enter Tryd.func75, Tryd.ntmps75
    go_wp2_with fail
    refine bodyPost_ret (v := got4 (pv false t none 0 0) (n : Int) ((q : Int) + 1 + 1) 0) (by simp [results, Tryd.results75, go_sem]) rfl ⟨?_, ((Below.refl w.heap.size w).alloc (Nat.le_refl _) _)⟩
    rw [show (q : Int) + 1 + 1 = (q : Int) + 2 by omega]
  · simp only [if_true] at hc
    have a14 : bits .and .u8 c 14 = 0 := by
      subst hc
      obtain rfl | rfl | rfl | rfl | rfl : n = 0 ∨ n = 1 ∨ n = 2 ∨ n = 3 ∨ n = 4 := by omega
      all_goals decide
    have a1 : bits .and .u8 c 1 = 1 := by
      subst hc
      obtain rfl | rfl | rfl | rfl | rfl : n = 0 ∨ n = 1 ∨ n = 2 ∨ n = 3 ∨ n = 4 := by omega
      all_goals decide
    have aq : c / 16 = (n : Int) := by omega
    obtain rfl := h0 rfl
    clear hy hc h0
    go_enter Tryd.func75, Tryd.ntmps75
    go_wp2_with fail
    refine bodyPost_ret (v := got4 (pv true 0 none 0 0) (n : Int) ((q : Int) + 1) 0) (by simp [results, Tryd.results75, go_sem]) rfl ⟨?_, ((Below.refl w.heap.size w).alloc (Nat.le_refl _) _)⟩
    simp
/- a test -/
set_option maxHeartbeats 4000000 in
theorem getTest_ok (b off len cap : Nat) (pre post : List Int) (v : TT) (w : World) (l : List Int) (hl : l.length = len) (hL : l = pre ++ (wt v ++ post)) (hm : len ≤ 100000) (hc : len ≤ cap) (hb : Byt w (some ⟨b, off, none⟩) l) (ho : Okt v) (hr : rgt v = true) :
    Calls Tryd.prog 76 #[.slice (some ⟨b, off, none⟩) len cap, .int .i64 (pre.length : Int)] w fun e w' => e = .returned (got3 (tOf (nt v)) ((pre ++ wt v).length : Int) 0) ∧ Below w.heap.size w w' := by
  have hsp : l = (pre ++ [v.1, v.2.1]) ++ (wvv v.2.2 ++ post) := by rw [hL]; simp [wt]
  have hlen : len = pre.length + 2 + (wvv v.2.2 ++ post).length := by rw [← hl, hsp, List.length_append, List.length_append]; rfl
  have g0 : l.getD pre.length 0 = v.1 := by rw [hsp, List.getD_eq_getElem?_getD, List.getElem?_append_left (by simp), List.getElem?_append_right (Nat.le_refl _)]; simp
  have g1 : l.getD (pre.length + 1) 0 = v.2.1 := by rw [hsp, List.getD_eq_getElem?_getD, List.getElem?_append_left (by simp), List.getElem?_append_right (by omega)]; simp
  obtain ⟨b1, o1, e1, x0⟩ := hb.1 pre.length (by omega)
  injection e1 with e1
  injection e1 with e1 e2
  subst e1 e2
  obtain ⟨b1, o1, e1, x1⟩ := hb.1 (pre.length + 1) (by omega)
  injection e1 with e1
  injection e1 with e1 e2
  subst e1 e2
  rw [g0] at x0
  rw [g1] at x1
  have VM := vg_mid (pre ++ [v.1, v.2.1]) post v.2.2.1 v.2.2.2.1 v.2.2.2.2.1 v.2.2.2.2.2 (rgt_may hr) ho.v.n0 ho.v.n1 ho.v.re
  have V := fun W hW => vget_any (some ⟨b, off, none⟩) len cap l ((pre ++ [v.1, v.2.1]).length : Int) W hl hm hc (by simp; omega) hW
  rw [hsp] at V
  have VM2 : vg ((pre ++ [v.1, v.2.1]) ++ (wvv v.2.2 ++ post)) ((pre ++ [v.1, v.2.1]).length : Int) = (nb v.2.2, ((pre ++ [v.1, v.2.1] ++ wvv v.2.2).length : Int), 0) := VM
  rw [VM2] at V
  have hend : ((pre ++ [v.1, v.2.1] ++ wvv v.2.2).length : Int) = ((pre ++ wt v).length : Int) := by simp [wt]
  rw [hend] at V
  have hp2 : ((pre ++ [v.1, v.2.1]).length : Int) = (pre.length : Int) + 2 := by simp
  rw [hp2] at V
  have HV := Lib.hid V
  have HB := Lib.hid (show ∀ W, Below w.heap.size w W → Byt W (some ⟨b, off, none⟩) ((pre ++ [v.1, v.2.1]) ++ (wvv v.2.2 ++ post)) from fun W h => by rw [← hsp]; exact hb.below h)
  have zb : b < w.heap.size := World.block_lt_of_cell? _ _ x0
  have i0 : (pre.length : Int) < (len : Int) := by omega
  have i1 : (pre.length : Int) + 1 < (len : Int) := by omega
  have hpl : pre.length + 2 ≤ len := by omega
  obtain ⟨E, hE⟩ : ∃ E : Int, ((pre ++ wt v).length : Int) = E := ⟨_, rfl⟩
  rw [hE] at HV ⊢
  obtain ⟨f, o, k, n, r, s⟩ := v
  generalize pre.length = q at *
  clear V VM VM2 hsp hL hlen g0 g1 hb hend hp2 hE ho hr
  have BA := Lib.hid (below_alloc w (tobj tz))
  have FA := Lib.hid (show ∀ j, (w.alloc (tobj tz)).frozen? ⟨w.heap.size, j, none⟩ = false from fun j => by simp [go_sem])
  have sf := run_store_float
  go_enter Tryd.func76, Tryd.ntmps76
  go_wp2_with fail
  refine (HV.out _ (HB.out _ BA.out)).mono ?_
  rintro e w2 ⟨rfl, hb2⟩
  have hw2 := below_go BA.out hb2
  have y0 := (hw2.cell (p := ⟨b, off + q, none⟩) zb).trans x0
  have y1 := (hw2.cell (p := ⟨b, off + (q + 1), none⟩) zb).trans x1
  obtain ⟨r0, r1, r2, r3, r4, r5⟩ := (Att.one w tz).below hb2
  have fz := fun j => (hb2.frozen (p := ⟨w.heap.size, j, none⟩) (by show w.heap.size < _; rw [World.size_alloc]; omega)).trans (FA.out j)
  have f0 := fz 0
  have f1 := fz 1
  have f2 := fz 2
  have f3 := fz 3
  have f4 := fz 4
  have f5 := fz 5
  have zz : w.heap.size < w2.heap.size := World.block_lt_of_cell? _ _ r0
  have zb2 : b < w2.heap.size := World.block_lt_of_cell? _ _ y0
  have BW := Lib.hid hw2
  clear fz HV HB BA FA x0 x1 hb2 hw2 zb
  go_wp2_with fail
  go_region
  go_wp2_with fail
  exact bodyPost_ret (v := got3 (tOf (f, o, k, n, bt r, s)) E 0) (by simp [results, Tryd.results76, go_sem, *]) rfl ⟨rfl, ((((((((BW.out.setCell (p := ⟨w.heap.size, 0, none⟩) (Nat.le_refl _) _).setCell (p := ⟨w.heap.size, 1, none⟩) (Nat.le_refl _) _).setCell (p := ⟨w.heap.size, 2, none⟩) (Nat.le_refl _) _).setCell (p := ⟨w.heap.size, 3, none⟩) (Nat.le_refl _) _).setCell (p := ⟨w.heap.size, 4, none⟩) (Nat.le_refl _) _).setCell (p := ⟨w.heap.size, 5, none⟩) (Nat.le_refl _) _).alloc (by simp only [World.size_setCell]; omega) _).drew)⟩

end Go.Proofs.YtilgoghnoeohnaaDoor

/- What was put is got: pred.Get whole. -/
namespace Go.Proofs.YtilgoghnoeohnaaDoor
open Go Go.RowKit Pk Rl
set_option maxRecDepth 20000

structure GrowP (w W : World) (r g B : Nat) (x : Bool) (t : Int) (A : Option Addr) (k c : Nat) (L : List TT) : Prop where
  res : Pdb W r false 0 none 0 0
  loc : Pdb W g x t A k c
  own : OwnT W B (.slice A k c) L
  bel : Below w.heap.size w W
  hr : r < B
  hg : g < B
  hrg : r ≠ g
  wr : w.heap.size ≤ r
  wg : w.heap.size ≤ g
  wB : w.heap.size ≤ B
  big : B ≤ W.heap.size
theorem GrowP.next {w W W' : World} {r g B : Nat} {x : Bool} {t : Int} {A : Option Addr} {k c : Nat} {L : List TT} (h : GrowP w W r g B x t A k c L) (hb : Below W.heap.size W W') : GrowP w W' r g B x t A k c L :=
  ⟨h.res.next hb, h.loc.next hb, h.own.below hb, below_go h.bel hb, h.hr, h.hg, h.hrg, h.wr, h.wg, h.wB, Nat.le_trans h.big hb.size⟩
theorem GrowP.step {w W W' : World} {r g B : Nat} {x : Bool} {t : Int} {A : Option Addr} {k c : Nat} {L : List TT} (h : GrowP w W r g B x t A k c L) {A' : Option Addr} {k' c' : Nat} {L' : List TT} (ho : OwnT W' B (.slice A' k' c') L') (hb : Below B W W') :
    GrowP w (W'.setCell ⟨g, 2, none⟩ (.slice A' k' c')) r g B x t A' k' c' L' :=
  ⟨(h.res.below hb h.hr).other _ _ _ h.hrg, (h.loc.below hb h.hg).set _ _ _, ho.setCell _ _ h.hg _, (h.bel.trans (hb.mono h.wB)).setCell h.wg _, h.hr, h.hg, h.hrg, h.wr, h.wg, h.wB, by rw [World.size_setCell]; exact Nat.le_trans h.big hb.size⟩
/- what is stored into the result -/
theorem GrowP.done {w W : World} {r g B : Nat} {x : Bool} {t : Int} {A : Option Addr} {k c : Nat} {L : List TT} (h : GrowP w W r g B x t A k c L) (u y z : Value) :
    OwnT (((W.setCell ⟨r, 0, none⟩ u).setCell ⟨r, 1, none⟩ y).setCell ⟨r, 2, none⟩ z) w.heap.size (.slice A k c) L ∧ Below w.heap.size w (((W.setCell ⟨r, 0, none⟩ u).setCell ⟨r, 1, none⟩ y).setCell ⟨r, 2, none⟩ z) :=
  ⟨(((h.own.setCell r 0 h.hr u).setCell r 1 h.hr y).setCell r 2 h.hr z).mono h.wB, ((h.bel.setCell (p := ⟨r, 0, none⟩) h.wr u).setCell (p := ⟨r, 1, none⟩) h.wr y).setCell (p := ⟨r, 2, none⟩) h.wr z⟩
theorem nt_ok {t : TT} (h : Okt t) : Okt (nt t) := ⟨h.f0, h.f1, h.o0, h.o1, ⟨h.v.k0, h.v.k1, h.v.n0, h.v.n1, bt_lt _ h.v.re⟩⟩
theorem nt_rgt (t : TT) : rgt (nt t) = rgt t := by
  have e : mayv (nt t).2.2 = mayv t.2.2 := by
    have := bt_zero t.2.2.2.2.1
    unfold mayv may
    show mayB _ _ (decide (bt t.2.2.2.2.1 = 0)) _ _ = _
    have e2 : decide (bt t.2.2.2.2.1 = 0) = decide (t.2.2.2.2.1 = 0) := by
      rw [← this, Bool.eq_iff_iff]; simp
    rw [e2]
  unfold rgt
  rw [e]
theorem pmay_nt (x : Bool) (t : Int) (L : List TT) : pmay x t (L.map nt) = pmay x t L := by
  unfold pmay
  rw [List.length_map, List.all_map]
  congr 1
  congr 1
  funext v
  exact nt_rgt v
theorem wpd_split (x : Bool) (t : Int) (L : List TT) (l : List Int) (j : Nat) (h : j < L.length) : l ++ wpd x t L = (l ++ fr0 x t L.length ++ wts (L.take j)) ++ (wt (L.getD j tz) ++ wts (L.drop (j + 1))) := by
  have : wts L = wts (L.take j) ++ (wt (L.getD j tz) ++ wts (L.drop (j + 1))) := by
    unfold wts
    conv => lhs; rw [← List.take_append_drop j L, List.flatMap_append, tdrop_cons L j h, List.flatMap_cons]
  rw [wpd, this]
  simp
theorem pmay_any0 {x : Bool} {t : Int} {L : List TT} (h : pmay x t L = true) : x = true → t = 0 := by
  intro hx
  subst hx
  unfold pmay at h
  simp only [Bool.and_eq_true, Bool.true_and, Bool.not_eq_true', decide_eq_false_iff_not, Decidable.not_not] at h
  exact h.1.2
end Go.Proofs.YtilgoghnoeohnaaDoor

/- What was put is got: pred.Get. -/
namespace Go.Proofs.YtilgoghnoeohnaaDoor
open Go Go.RowKit Pk Rl
set_option maxRecDepth 20000

set_option maxHeartbeats 8000000 in
theorem pget_ok (b off len cap : Nat) (l : List Int) (x : Bool) (t : Int) (n : Nat) (L : List TT) (w : World) (hlen : (l ++ wpd x t L).length = len) (hm : len ≤ 100000) (hc : len ≤ cap) (hb : Byt w (some ⟨b, off, none⟩) (l ++ wpd x t L))
    (hn : L.length = n) (hk : ∀ v ∈ L, Okt v) (hT : Tab w) (h : pmay x t L = true) :
    Calls Tryd.prog 62 #[.slice (some ⟨b, off, none⟩) len cap, .int .i64 (l.length : Int)] w fun e w' => ∃ A k c', e = .returned (got3 (pv x t A k c') (len : Int) 0) ∧ (L.map nt).length = k ∧ OwnT w' w.heap.size (.slice A k c') (L.map nt) ∧ Below w.heap.size w w' := by
  have h4 : n ≤ 4 := hn ▸ pmay_len h
  have hr := pmay_rgt' h
  obtain ⟨q, hq⟩ : ∃ q, l.length = q := ⟨_, rfl⟩
  rw [hq]
  obtain ⟨fl, hfl⟩ : ∃ fl, (fr0 x t n).length = fl := ⟨_, rfl⟩
  have hfl2 : (fl : Int) = if x then 1 else 2 := by rw [← hfl]; unfold fr0; cases x <;> rfl
  have hlen1 : q + fl + (wts L).length = len := by rw [← hlen, wpd, List.length_append, List.length_append, hn, hq, hfl]; omega
  have hfp : 1 ≤ fl ∧ fl ≤ 2 := by cases x <;> simp at hfl2 <;> omega
  have hg0 : (l ++ wpd x t L).getD q 0 = 16 * (n : Int) + (if x then 1 else 0) := by
    rw [List.getD_eq_getElem?_getD, List.getElem?_append_right (by omega), hq, Nat.sub_self, wpd, hn]
    unfold fr0
    cases x <;> simp
  have hg1 : x = false → (l ++ wpd x t L).getD (q + 1) 0 = t := fun hx => by
    subst hx
    rw [List.getD_eq_getElem?_getD, List.getElem?_append_right (by omega), hq, show q + 1 - q = 1 by omega, wpd, hn]
    simp [fr0]
  obtain ⟨b1, o1, e1, x0⟩ := hb.1 q (by omega)
  injection e1 with e1
  injection e1 with e1 e2
  subst e1 e2
  rw [hg0] at x0
  have B00 := below_alloc w (pcells false 0 none 0 0)
  have GF := Lib.hid (getFront_ok b off len cap q n x t _ (w.alloc (pcells false 0 none 0 0)) (by omega) hm h4 rfl ((B00.cell (World.block_lt_of_cell? _ _ x0)).trans x0) (fun hx => by
    have h2 : fl = 2 := by subst hx; simp at hfl2; omega
    obtain ⟨b1, o1, e1, x1⟩ := hb.1 (q + 1) (by omega)
    injection e1 with e1
    injection e1 with e1 e2
    subst e1 e2
    rw [hg1 hx] at x1
    exact ⟨by omega, (B00.cell (World.block_lt_of_cell? _ _ x1)).trans x1⟩) (pmay_any0 h))
  rw [← hfl2] at GF
  have HB := Lib.hid hb
  have HN := Lib.hid hn
  have GT := Lib.hid (fun j (hj : j < L.length) W (hW : Byt W (some ⟨b, off, none⟩) (l ++ wpd x t L)) => getTest_ok b off len cap (l ++ fr0 x t L.length ++ wts (L.take j)) (wts (L.drop (j + 1))) (L.getD j tz) W _ hlen (wpd_split x t L l j hj) hm hc hW (hk _ (tgetD_mem L j hj)) (hr _ (tgetD_mem L j hj)))
  have PL := Lib.hid (show ∀ j, (l ++ fr0 x t L.length ++ wts (L.take j)).length = q + fl + (wts (L.take j)).length from fun j => by rw [List.length_append, List.length_append, hn, hq, hfl])
  have PS := Lib.hid (show ∀ j, j < L.length → (l ++ fr0 x t L.length ++ wts (L.take j) ++ wt (L.getD j tz)).length = q + fl + (wts (L.take (j + 1))).length from fun j hj => by rw [List.append_assoc _ (wts _) _, ← wts_snoc L j hj, List.length_append, List.length_append, hn, hq, hfl])
  have PM := Lib.hid (fun A k c W (h1 : (L.map nt).length = k) h2 h3 => pmay_any x t A k c (L.map nt) W h1 (by rw [List.length_map, hn] at h1; omega) h2 (fun v hv => by obtain ⟨u, hu, rfl⟩ := List.mem_map.1 hv; exact nt_ok (hk u hu)) h3)
  rw [pmay_nt, h] at PM
  have HT := Lib.hid hT
  have WM := Lib.hid (show ∀ j, (wts (L.take j)).length ≤ 1300 from fun j => by
    have h1 := wts_len (L.take j) (fun v hv => hk v (List.mem_of_mem_take hv)) (fun v hv => hr v (List.mem_of_mem_take hv))
    have h3 := List.length_take_le' j L
    omega)
  have hqm : q ≤ 100000 := by omega
  have HL1 := Lib.hid hlen1
  have HB00 := Lib.hid B00
  clear hb x0 hg0 hg1 hlen hc hn hk hT h hr hfl hfl2 hq hlen1 B00
  have sf := run_store_float
  have R0 := Lib.hid (Pdb.alloc w false 0 none 0 0)
  go_enter Tryd.func62, Tryd.ntmps62
  go_wp2_with fail
  refine GF.out.mono ?_
  rintro e w2 ⟨rfl, hb2⟩
  have RR := Lib.hid (R0.out.next hb2)
  have B2 := Lib.hid (below_go HB00.out hb2)
  have G0 := Lib.hid (show GrowP w (w2.alloc (pcells x t none 0 0)) w.heap.size w2.heap.size (w2.heap.size + 1) x t none 0 0 [] from
    ⟨RR.out.next (below_alloc _ _), Pdb.alloc w2 x t none 0 0, OwnT.nil _ _, below_go B2.out (below_alloc _ _), by have := RR.out.lt; omega, by omega, by have := RR.out.lt; omega, by omega, by have := RR.out.lt; omega, by have := RR.out.lt; omega, by simp⟩)
  clear hb2 GF R0 RR HB00
  go_wp2_with fail
  go_loopw [27, 9] (fun i v W => ∃ (j p : Nat) (A : Option Addr) (k c' : Nat), i = .int .i64 j ∧ v = .int .i64 p ∧ j ≤ n ∧ k ≤ n ∧ Hid (GrowP w W w.heap.size w2.heap.size (w2.heap.size + 1) x t A k c' ((L.take j).map nt) ∧ ((L.take j).map nt).length = k ∧ p = q + fl + (wts (L.take j)).length)) (fun i _ _ => n - (intOf i).toNat)
  case atStart => exact ⟨0, q + fl, none, 0, 0, rfl, by simp, by omega, by omega, Lib.hid ⟨G0.out, rfl, by simp [wts]⟩⟩
  case round =>
    obtain ⟨j, p, A, k, c', rfl, rfl, hj, hk, H⟩ := hrel
    clear G0
    have G1 := Lib.hid H.out.1
    have K1 := Lib.hid H.out.2.1
    have P1 := Lib.hid H.out.2.2
    clear H
    by_cases hjn : j < n
    · have hjl : j < L.length := by have := HN.out; omega
      have V := GT.out j hjl wr (HB.out.below G1.out.bel)
      rw [PL.out j, PS.out j hjl, ← P1.out] at V
      have LT := Lib.hid (show (L.take (j + 1)).map nt = (L.take j).map nt ++ [nt (L.getD j tz)] by rw [ttake_snoc L j hjl, List.map_append]; rfl)
      have W1 := WM.out (j + 1)
      obtain ⟨p2, hp2⟩ : ∃ p2, q + fl + (wts (L.take (j + 1))).length = p2 := ⟨_, rfl⟩
      rw [hp2] at V
      have P2 := Lib.hid hp2
      have VH := Lib.hid V
      have hp3 : p2 ≤ 200000 := by omega
      generalize L.getD j tz = v at VH LT
      obtain ⟨f, o, qk, m, r, s⟩ := v
      have K2 := Lib.hid (show ((L.take j).map nt ++ [nt (f, o, qk, m, r, s)]).length = k + 1 by rw [List.length_append, K1.out]; rfl)
      generalize (L.take j).map nt = M at G1 K1 LT K2
      clear V hp2 W1
      go_wp2_with fail
      refine VH.out.mono ?_
      rintro e w3 ⟨rfl, hb3⟩
      have G2 := Lib.hid (G1.out.next hb3)
      have G3 := Lib.hid (G2.out.next (below_alloc w3 (tobj (nt (f, o, qk, m, r, s)))))
      have G4 := Lib.hid (G3.out.next (below_alloc _ (tobj (nt (f, o, qk, m, r, s)))))
      have e1 := G2.out.loc.pdt.2.2
      have z1 : w2.heap.size < w3.heap.size := G2.out.loc.lt
      have T1 := Lib.hid (Tsts.one (w3.alloc (tobj (nt (f, o, qk, m, r, s)))) (nt (f, o, qk, m, r, s)))
      rw [World.size_alloc] at T1
      clear hb3 VH G1
      go_wp2_with (at_builtin; refine wp_appt (.tmp 41) (.tmp 43) _ rfl rfl (w2.heap.size + 1) _ M rfl G4.out.own _ 1 1 [nt (f, o, qk, m, r, s)] rfl rfl T1.out (by intro h; cases h) (k + 1) K2.out (by omega) G4.out.big ?_; intro A5 c5 w5 hO5 hb5; have G5 := Lib.hid (G4.out.step hO5 hb5); have L5 := G4.out.loc.below hb5 (by omega); have y1 := L5.pdt.2.2; have y2 := L5.free 2; clear L5 hO5 hb5)
      clear y1 y2 G2 G3 G4 T1 e1 z1
      rw [← LT.out] at G5 K2
      go_roundw
      case rel => exact ⟨j + 1, p2, A5, k + 1, c5, by go_num, rfl, by omega, by (have := K2.out; have h3 := List.length_take_le' (j + 1) L; have h5 := List.length_take_le (j + 1) L; rw [List.length_map] at this; omega), Lib.hid ⟨G5.out, K2.out, P2.out.symm⟩⟩
      case measure => simp [intOf]; omega
    · obtain rfl : j = n := by omega
      rw [List.take_of_length_le (by have := HN.out; omega)] at G1 K1 P1
      have hpl : p = len := by have := P1.out; have := HL1.out; omega
      subst hpl
      have HT1 := Lib.hid (HT.out.below G1.out.bel)
      have PM1 := Lib.hid (PM.out A k c' wr K1.out G1.out.own.vals HT1.out)
      clear HB GT PL PS PM WM HL1 P1
      obtain ⟨e0, e1, e2⟩ := G1.out.loc.pdt
      go_wp2_with fail
      refine PM1.out.mono ?_
      rintro e w3 ⟨rfl, hb3⟩
      have G2 := Lib.hid (G1.out.next hb3)
      clear hb3 PM1 G1 e0 e1 e2
      obtain ⟨e0, e1, e2⟩ := G2.out.loc.pdt
      obtain ⟨r0, r1, r2⟩ := G2.out.res.pdt
      have f0 := G2.out.res.free 0
      have f1 := G2.out.res.free 1
      have f2 := G2.out.res.free 2
      have DD := Lib.hid (G2.out.done (.bool x) (.int .u8 t) (.slice A k c'))
      have z1 : w.heap.size < w3.heap.size := G2.out.res.lt
      clear G2
      go_wp2_with fail
      exact bodyPost_ret (v := got3 (pv x t A k c') (p : Int) 0) (by simp [results, Tryd.results62, go_sem, *]) rfl ⟨A, k, c', rfl, K1.out, DD.out.1, DD.out.2⟩
end Go.Proofs.YtilgoghnoeohnaaDoor
