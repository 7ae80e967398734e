/- What was put is got: pred.Get on a question's writing. -/
import Derived.Test.YtiddpoihhfphmaaDoorPdPut
import Derived.Test.YtiddpoihhfphmaaDoorPdR
import Derived.BigRegion
namespace Go.Proofs.YtiddpoihhfphmaaDoor
open Go Go.RowKit Pk Rl
set_option maxRecDepth 20000

abbrev nb (v : VV) : VV := (v.1, v.2.1, bt v.2.2.1, v.2.2.2)
theorem vg_mid (pre post : List Int) (k n : Int) (r : Nat) (s : ByteArray) (hmay : may k n r s = true) (h0 : -9223372036854775808 ≤ n) (h1 : n ≤ 9223372036854775807) (hr : r < 18446744073709551616) :
    vg (pre ++ (wv k n r s ++ post)) (pre.length : Int) = ((k, n, bt r, s), ((pre ++ wv k n r s).length : Int), 0) := by
  have hk : (pre ++ (wv k n r s ++ post)).getD pre.length 0 = k := by
    rw [List.getD_eq_getElem?_getD, List.getElem?_append_right (Nat.le_refl _), Nat.sub_self]
    simp [wv]
  have hlen : ¬ ((pre.length : Int) < 0 ∨ (((pre ++ (wv k n r s ++ post)).length : Nat) : Int) ≤ (pre.length : Int)) := by
    have : 1 ≤ (wv k n r s).length := by unfold wv; simp
    rw [List.length_append, List.length_append]
    omega
  have hp : ((pre.length : Nat) : Int) + 1 = ((pre ++ [k]).length : Int) := by simp
  unfold vg
  rw [if_neg hlen, Int.toNat_natCast, hk]
  have b0 : bt 0 = 0 := by decide
  rcases may_facts hmay with ⟨rfl, rfl, rfl, e⟩ | ⟨rfl, rfl, e⟩ | ⟨rfl, rfl, e⟩ | ⟨rfl, rfl, rfl, e⟩
  · rw [if_pos rfl, empty_of_size e, b0]
    simp [wv]
  · rw [if_neg (by omega), if_pos rfl]
    have hL : pre ++ (wv 1 n 0 s ++ post) = (pre ++ [1]) ++ (wrt (zig n) ++ post) := by simp [wv]
    obtain ⟨g1, g2, g3⟩ := got (pre ++ [1]) post (zig n) (zig_lt n h0 h1) _ hL _ hp
    rw [if_pos g3, g1, g2, sg_zig, empty_of_size e, b0, hp]
    simp [wv]
    omega
  · rw [if_neg (by omega), if_neg (by omega), if_pos rfl]
    have hL : pre ++ (wv 2 0 r s ++ post) = (pre ++ [2]) ++ (w8 (bt r) ++ post) := by simp [wv]
    obtain ⟨g1, g2, g3⟩ := gotReal (pre ++ [2]) post (bt r) (bt_lt r hr) (bt_bt r) _ hL _ hp
    rw [if_pos g3, g1, g2, empty_of_size e, hp]
    simp [wv, show (w8 (bt r)).length = 8 from rfl]
    omega
  · rw [if_neg (by omega), if_neg (by omega), if_neg (by omega), if_pos rfl]
    have hL : pre ++ (wv 3 0 0 s ++ post) = (pre ++ [3]) ++ (wrt s.size ++ (txt s ++ post)) := by simp [wv]
    obtain ⟨g1, g2, g3⟩ := gotText255 (pre ++ [3]) post s e _ hL _ hp
    rw [if_pos g3, g1, g2, str_txt, b0, hp]
    simp [wv, txt_length]
    omega

abbrev nt (t : TT) : TT := (t.1, t.2.1, nb t.2.2)
abbrev got4 (v : Value) (n p e : Int) : Value := .tuple #[v, .int .i64 n, .int .i64 p, .int .i64 e]
/- the front of a writing -/
set_option maxHeartbeats 1000000 in
theorem getFront_ok (b off len cap q n : Nat) (x : Bool) (t c : Int) (w : World) (hq : q < len) (hl : len ≤ 100000) (hn : n ≤ 4) (hc : c = 16 * (n : Int) + (if x then 1 else 0)) (hx : w.cell? ⟨b, off + q, none⟩ = some (.int .u8 c))
    (hy : x = false → q + 1 < len ∧ w.cell? ⟨b, off + (q + 1), none⟩ = some (.int .u8 t)) (h0 : x = true → t = 0) :
    Calls Tryd.prog 36 #[.slice (some ⟨b, off, none⟩) len cap, .int .i64 (q : Int)] w fun e w' => e = .returned (got4 (pv x t none 0 0) (n : Int) ((q : Int) + (if x then 1 else 2)) 0) ∧ Below w.heap.size w w' := by
  have hb := World.block_lt_of_cell? _ _ hx
  have B0 := Lib.hid (below_alloc w (pcells false 0 none 0 0))
  have tq : decide ((q : Int) < 0) = false := by simp
  have t2 : decide ((len : Int) ≤ (q : Int)) = false := by simp; omega
  cases x
  · simp only [Bool.false_eq_true, if_false, Int.add_zero] at hc
    obtain ⟨hq2, hy⟩ := hy rfl
    have a14 : bits .and .u8 c 14 = 0 := by
      subst hc
      obtain rfl | rfl | rfl | rfl | rfl : n = 0 ∨ n = 1 ∨ n = 2 ∨ n = 3 ∨ n = 4 := by omega
      all_goals decide
    have a1 : bits .and .u8 c 1 = 0 := by
      subst hc
      obtain rfl | rfl | rfl | rfl | rfl : n = 0 ∨ n = 1 ∨ n = 2 ∨ n = 3 ∨ n = 4 := by omega
      all_goals decide
    have aq : c / 16 = (n : Int) := by omega
    clear h0 hc
    go_enter Tryd.func36, Tryd.ntmps36
    go_wp2_with fail
    refine bodyPost_ret (v := got4 (pv false t none 0 0) (n : Int) ((q : Int) + 1 + 1) 0) (by simp [results, Tryd.results36, go_sem]) rfl ⟨?_, ((Below.refl w.heap.size w).alloc (Nat.le_refl _) _)⟩
    rw [show (q : Int) + 1 + 1 = (q : Int) + 2 by omega]
  · simp only [if_true] at hc
    have a14 : bits .and .u8 c 14 = 0 := by
      subst hc
      obtain rfl | rfl | rfl | rfl | rfl : n = 0 ∨ n = 1 ∨ n = 2 ∨ n = 3 ∨ n = 4 := by omega
      all_goals decide
    have a1 : bits .and .u8 c 1 = 1 := by
      subst hc
      obtain rfl | rfl | rfl | rfl | rfl : n = 0 ∨ n = 1 ∨ n = 2 ∨ n = 3 ∨ n = 4 := by omega
      all_goals decide
    have aq : c / 16 = (n : Int) := by omega
    obtain rfl := h0 rfl
    clear hy hc h0
    go_enter Tryd.func36, Tryd.ntmps36
    go_wp2_with fail
    refine bodyPost_ret (v := got4 (pv true 0 none 0 0) (n : Int) ((q : Int) + 1) 0) (by simp [results, Tryd.results36, go_sem]) rfl ⟨?_, ((Below.refl w.heap.size w).alloc (Nat.le_refl _) _)⟩
    simp
/- a test -/
set_option maxHeartbeats 4000000 in
theorem getTest_ok (b off len cap : Nat) (pre post : List Int) (v : TT) (w : World) (l : List Int) (hl : l.length = len) (hL : l = pre ++ (wt v ++ post)) (hm : len ≤ 100000) (hc : len ≤ cap) (hb : Byt w (some ⟨b, off, none⟩) l) (ho : Okt v) (hr : rgt v = true) :
    Calls Tryd.prog 37 #[.slice (some ⟨b, off, none⟩) len cap, .int .i64 (pre.length : Int)] w fun e w' => e = .returned (got3 (tOf (nt v)) ((pre ++ wt v).length : Int) 0) ∧ Below w.heap.size w w' := by
  have hsp : l = (pre ++ [v.1, v.2.1]) ++ (wvv v.2.2 ++ post) := by rw [hL]; simp [wt]
  have hlen : len = pre.length + 2 + (wvv v.2.2 ++ post).length := by rw [← hl, hsp, List.length_append, List.length_append]; rfl
  have g0 : l.getD pre.length 0 = v.1 := by rw [hsp, List.getD_eq_getElem?_getD, List.getElem?_append_left (by simp), List.getElem?_append_right (Nat.le_refl _)]; simp
  have g1 : l.getD (pre.length + 1) 0 = v.2.1 := by rw [hsp, List.getD_eq_getElem?_getD, List.getElem?_append_left (by simp), List.getElem?_append_right (by omega)]; simp
  obtain ⟨b1, o1, e1, x0⟩ := hb.1 pre.length (by omega)
  injection e1 with e1
  injection e1 with e1 e2
  subst e1 e2
  obtain ⟨b1, o1, e1, x1⟩ := hb.1 (pre.length + 1) (by omega)
  injection e1 with e1
  injection e1 with e1 e2
  subst e1 e2
  rw [g0] at x0
  rw [g1] at x1
  have VM := vg_mid (pre ++ [v.1, v.2.1]) post v.2.2.1 v.2.2.2.1 v.2.2.2.2.1 v.2.2.2.2.2 (rgt_may hr) ho.v.n0 ho.v.n1 ho.v.re
  have V := fun W hW => vget_any (some ⟨b, off, none⟩) len cap l ((pre ++ [v.1, v.2.1]).length : Int) W hl hm hc (by simp; omega) hW
  rw [hsp] at V
  have VM2 : vg ((pre ++ [v.1, v.2.1]) ++ (wvv v.2.2 ++ post)) ((pre ++ [v.1, v.2.1]).length : Int) = (nb v.2.2, ((pre ++ [v.1, v.2.1] ++ wvv v.2.2).length : Int), 0) := VM
  rw [VM2] at V
  have hend : ((pre ++ [v.1, v.2.1] ++ wvv v.2.2).length : Int) = ((pre ++ wt v).length : Int) := by simp [wt]
  rw [hend] at V
  have hp2 : ((pre ++ [v.1, v.2.1]).length : Int) = (pre.length : Int) + 2 := by simp
  rw [hp2] at V
  have HV := Lib.hid V
  have HB := Lib.hid (show ∀ W, Below w.heap.size w W → Byt W (some ⟨b, off, none⟩) ((pre ++ [v.1, v.2.1]) ++ (wvv v.2.2 ++ post)) from fun W h => by rw [← hsp]; exact hb.below h)
  have zb : b < w.heap.size := World.block_lt_of_cell? _ _ x0
  have i0 : (pre.length : Int) < (len : Int) := by omega
  have i1 : (pre.length : Int) + 1 < (len : Int) := by omega
  have hpl : pre.length + 2 ≤ len := by omega
  obtain ⟨E, hE⟩ : ∃ E : Int, ((pre ++ wt v).length : Int) = E := ⟨_, rfl⟩
  rw [hE] at HV ⊢
  obtain ⟨f, o, k, n, r, s⟩ := v
  generalize pre.length = q at *
  clear V VM VM2 hsp hL hlen g0 g1 hb hend hp2 hE ho hr
  have BA := Lib.hid (below_alloc w (tobj tz))
  have FA := Lib.hid (show ∀ j, (w.alloc (tobj tz)).frozen? ⟨w.heap.size, j, none⟩ = false from fun j => by simp [go_sem])
  have sf := run_store_float
  go_enter Tryd.func37, Tryd.ntmps37
  go_wp2_with fail
  refine (HV.out _ (HB.out _ BA.out)).mono ?_
  rintro e w2 ⟨rfl, hb2⟩
  have hw2 := below_go BA.out hb2
  have y0 := (hw2.cell (p := ⟨b, off + q, none⟩) zb).trans x0
  have y1 := (hw2.cell (p := ⟨b, off + (q + 1), none⟩) zb).trans x1
  obtain ⟨r0, r1, r2, r3, r4, r5⟩ := (Att.one w tz).below hb2
  have fz := fun j => (hb2.frozen (p := ⟨w.heap.size, j, none⟩) (by show w.heap.size < _; rw [World.size_alloc]; omega)).trans (FA.out j)
  have f0 := fz 0
  have f1 := fz 1
  have f2 := fz 2
  have f3 := fz 3
  have f4 := fz 4
  have f5 := fz 5
  have zz : w.heap.size < w2.heap.size := World.block_lt_of_cell? _ _ r0
  have zb2 : b < w2.heap.size := World.block_lt_of_cell? _ _ y0
  have BW := Lib.hid hw2
  clear fz HV HB BA FA x0 x1 hb2 hw2 zb
  go_wp2_with fail
  go_region
  go_wp2_with fail
  exact bodyPost_ret (v := got3 (tOf (f, o, k, n, bt r, s)) E 0) (by simp [results, Tryd.results37, go_sem, *]) rfl ⟨rfl, ((((((((BW.out.setCell (p := ⟨w.heap.size, 0, none⟩) (Nat.le_refl _) _).setCell (p := ⟨w.heap.size, 1, none⟩) (Nat.le_refl _) _).setCell (p := ⟨w.heap.size, 2, none⟩) (Nat.le_refl _) _).setCell (p := ⟨w.heap.size, 3, none⟩) (Nat.le_refl _) _).setCell (p := ⟨w.heap.size, 4, none⟩) (Nat.le_refl _) _).setCell (p := ⟨w.heap.size, 5, none⟩) (Nat.le_refl _) _).alloc (by simp only [World.size_setCell]; omega) _).drew)⟩

end Go.Proofs.YtiddpoihhfphmaaDoor
