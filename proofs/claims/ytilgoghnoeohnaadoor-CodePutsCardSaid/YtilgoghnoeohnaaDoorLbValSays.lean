/- Which value stands at a place, as a plain function; that what is put is got. Both Gets and both Puts, whole. -/
import Derived.Test.YtilgoghnoeohnaaDoorLbValGet
import Derived.Test.YtilgoghnoeohnaaDoorMC
import Derived.Test.YtilgoghnoeohnaaDoorLbValPut
import Derived.Test.YtilgoghnoeohnaaDoorLbValRPut
namespace Go.Proofs.YtilgoghnoeohnaaDoor
open Go Go.RowKit Pk Rl
set_option maxRecDepth 20000

abbrev wvv (v : VV) : List Int := wv v.1 v.2.1 v.2.2.1 v.2.2.2
abbrev gotv (x : VV × Int × Nat) : Value := got3 (vlOf x.1) x.2.1 (x.2.2 : Int)
def vg (l : List Int) (p : Int) : VV × Int × Nat :=
  if p < 0 ∨ (l.length : Int) ≤ p then (vz, 0, 3)
  else if l.getD p.toNat 0 = 0 then (vz, p + 1, 0)
  else if l.getD p.toNat 0 = 1 then (if gE l (p + 1) = 0 then ((1, sg (gN l (p + 1)), 0, ⟨#[]⟩), gK l (p + 1), 0) else (vz, 0, gE l (p + 1)))
  else if l.getD p.toNat 0 = 2 then (if rE l (p + 1) = 0 then ((2, 0, rB l (p + 1), ⟨#[]⟩), rK l (p + 1), 0) else (vz, 0, rE l (p + 1)))
  else if l.getD p.toNat 0 = 3 then (if tE l (p + 1) 255 = 0 then ((3, 0, 0, strOfNums (tL l (p + 1) 255)), tK l (p + 1) 255, 0) else (vz, 0, tE l (p + 1) 255))
  else (vz, 0, 11)

theorem getD_range (l : List Int) (q : Nat) (hq : q < l.length) (hr : ∀ c ∈ l, 0 ≤ c ∧ c < 256) : 0 ≤ l.getD q 0 ∧ l.getD q 0 < 256 :=
  hr _ (by rw [List.getD_eq_getElem?_getD, List.getElem?_eq_getElem hq]; exact List.getElem_mem _)
theorem vget_any (a : Option Addr) (len cap : Nat) (l : List Int) (p : Int) (w : World) (hl : l.length = len) (hm : len ≤ 100000) (hc : len ≤ cap) (h1 : p ≤ 9223372036854775807) (hb : Byt w a l) :
    Calls Tryd.prog 87 #[.slice a len cap, .int .i64 p] w fun e w' => e = .returned (gotv (vg l p)) ∧ Below w.heap.size w w' := by
  unfold vg
  by_cases c : p < 0 ∨ (l.length : Int) ≤ p
  · rw [if_pos c]
    exact vget_out a len cap p w (by rw [hl] at c; exact c)
  · rw [if_neg c]
    obtain ⟨q, rfl⟩ : ∃ q : Nat, p = (q : Int) := ⟨p.toNat, by omega⟩
    rw [Int.toNat_natCast]
    obtain ⟨b, off, rfl, hcell⟩ := hb.1 q (by omega)
    by_cases k0 : l.getD q 0 = 0
    · rw [if_pos k0]
      rw [k0] at hcell
      exact vget_0 b off len cap q w (by omega) hm hcell
    rw [if_neg k0]
    by_cases k1 : l.getD q 0 = 1
    · rw [if_pos k1]
      rw [k1] at hcell
      have G := fun w1 (hw : Below w.heap.size w w1) => getInt_any (some ⟨b, off, none⟩) len cap l ((q : Int) + 1) w1 hl hm hc (hb.below hw)
      by_cases e : gE l ((q : Int) + 1) = 0
      · rw [if_pos e]
        rw [e] at G
        exact vget_1 b off len cap q _ _ w (by omega) hm hcell (Lib.hid G)
      · rw [if_neg e]
        exact vget_1e b off len cap q _ _ _ w (by omega) hm hcell (Lib.hid G) (by simp; omega)
    rw [if_neg k1]
    by_cases k2 : l.getD q 0 = 2
    · rw [if_pos k2]
      rw [k2] at hcell
      have G := fun w1 (hw : Below w.heap.size w w1) => getReal_any (some ⟨b, off, none⟩) len cap l ((q : Int) + 1) w1 hl hm hc (by omega) (by omega) (hb.below hw)
      by_cases e : rE l ((q : Int) + 1) = 0
      · rw [if_pos e]
        rw [e] at G
        exact vget_2 b off len cap q _ _ w (by omega) hm hcell (Lib.hid G)
      · rw [if_neg e]
        exact vget_2e b off len cap q _ _ _ w (by omega) hm hcell (Lib.hid G) (by simp; omega)
    rw [if_neg k2]
    by_cases k3 : l.getD q 0 = 3
    · rw [if_pos k3]
      rw [k3] at hcell
      have G := fun w1 (hw : Below w.heap.size w w1) => getText_any (some ⟨b, off, none⟩) len cap l ((q : Int) + 1) 255 w1 hl hm hc (by omega) (by omega) (hb.below hw)
      by_cases e : tE l ((q : Int) + 1) 255 = 0
      · rw [if_pos e]
        rw [e] at G
        exact vget_3 b off len cap q _ _ w (by omega) hm hcell (Lib.hid G)
      · rw [if_neg e]
        exact vget_3e b off len cap q _ _ _ w (by omega) hm hcell (Lib.hid G) (by simp; omega)
    rw [if_neg k3]
    exact vget_x b off len cap q _ w (by omega) hm hcell (ne_beq k0) (ne_beq k1) (ne_beq k2) (ne_beq k3)
theorem vput_any (a : Option Addr) (len cap : Nat) (l : List Int) (k n : Int) (r : Nat) (s : ByteArray) (w : World) (hmay : may k n r s = true) (h0 : -9223372036854775808 ≤ n) (h1 : n ≤ 9223372036854775807) (hr : r < 18446744073709551616)
    (hl : l.length = len) (hm : len ≤ 140000) (hn : a = none → cap = 0) (hb : Byt w a l) :
    Calls Tryd.prog 70 #[.slice a len cap, vl k n r s] w fun e w' => ∃ A' k' c', e = .returned (.tuple #[.slice A' k' c', .int .i64 0]) ∧ (l ++ wv k n r s).length = k' ∧ Own w' w.heap.size (.slice A' k' c') (l ++ wv k n r s) ∧ Below w.heap.size w w' := by
  have M : Hid (∀ w, Calls Tryd.prog 79 #[vl k n r s] w fun e w' => e = .returned (.bool true) ∧ Below w.heap.size w w') := Lib.hid fun w => by rw [← hmay]; exact may_any k n r s hr w
  rcases may_facts hmay with ⟨rfl, _⟩ | ⟨rfl, _⟩ | ⟨rfl, _⟩ | ⟨rfl, _, _, hs⟩
  · exact vput_0 a len cap l n r s M w hl hm hn hb
  · exact vput_1 a len cap l n r s M h0 h1 w hl hm hn hb
  · exact vput_2 a len cap l n r s M hr w hl hm hn hb
  · exact vput_3 a len cap l n r s M (by omega) w hl hm hn hb
theorem rvput_any (a : Option Addr) (len cap : Nat) (l : List Int) (k n : Int) (r : Nat) (s : ByteArray) (w : World) (hmay : may k n r s = true) (h0 : -9223372036854775808 ≤ n) (h1 : n ≤ 9223372036854775807) (hr : r < 18446744073709551616)
    (hl : l.length = len) (hm : len ≤ 140000) (hn : a = none → cap = 0) (hb : Byt w a l) :
    Calls Tryd.prog 57 #[.slice a len cap, vl k n r s] w fun e w' => ∃ A' k' c', e = .returned (.tuple #[.slice A' k' c', .int .i64 0]) ∧ (l ++ wv k n r s).length = k' ∧ Own w' w.heap.size (.slice A' k' c') (l ++ wv k n r s) ∧ Below w.heap.size w w' := by
  have hk : 0 ≤ k := by rcases may_facts hmay with ⟨rfl, _⟩ | ⟨rfl, _⟩ | ⟨rfl, _⟩ | ⟨rfl, _⟩ <;> omega
  have M : Hid (∀ w, Calls Tryd.prog 71 #[vl k n r s] w fun e w' => e = .returned (.bool true) ∧ Below w.heap.size w w') := Lib.hid fun w => by rw [← hmay]; exact rmay_any k n r s hk w
  rcases may_facts hmay with ⟨rfl, _⟩ | ⟨rfl, _⟩ | ⟨rfl, _⟩ | ⟨rfl, _, _, hs⟩
  · exact rvput_0 a len cap l n r s M w hl hm hn hb
  · exact rvput_1 a len cap l n r s M h0 h1 w hl hm hn hb
  · exact rvput_2 a len cap l n r s M hr w hl hm hn hb
  · exact rvput_3 a len cap l n r s M (by omega) w hl hm hn hb

/- what is put is got -/
theorem empty_of_size {s : ByteArray} (h : s.size = 0) : s = ⟨#[]⟩ := by
  cases s with
  | mk d => exact congrArg _ (Array.eq_empty_of_size_eq_zero h)
theorem zig_sg (n : Nat) : zig (sg n) = n := by unfold zig sg; split <;> split <;> omega
theorem sg_bounds (n : Nat) (h : n < 18446744073709551616) : -9223372036854775808 ≤ sg n ∧ sg n ≤ 9223372036854775807 := by unfold sg; split <;> omega
theorem gotText255 (pre post : List Int) (s : ByteArray) (hs : s.size ≤ 255) (L : List Int) (hL : L = pre ++ (wrt s.size ++ (txt s ++ post))) (p : Int) (hp : p = (pre.length : Int)) :
    tL L p 255 = txt s ∧ tK L p 255 = p + ((wrt s.size).length : Int) + (s.size : Int) ∧ tE L p 255 = 0 := by
  obtain ⟨g1, g2, g3⟩ := got pre (txt s ++ post) s.size (by omega) L hL p hp
  have hlen : (L.length : Int) = (pre.length : Int) + ((wrt s.size).length : Int) + (s.size : Int) + (post.length : Int) := by
    rw [hL, List.length_append, List.length_append, List.length_append, txt_length]; omega
  have e : tE L p 255 = 0 := by
    unfold tE
    rw [g1, g2, g3, if_neg (by omega), if_neg (by omega), if_neg (by omega)]
  unfold tL tK
  rw [if_pos e, if_pos e, g1, g2]
  refine ⟨?_, rfl, e⟩
  rw [hp, show ((pre.length : Int) + ((wrt s.size).length : Int)).toNat = (pre ++ wrt s.size).length by rw [List.length_append]; omega, hL, ← List.append_assoc, List.drop_left, ← txt_length, List.take_left]
theorem vg_back (pre : List Int) (k n : Int) (r : Nat) (s : ByteArray) (hmay : may k n r s = true) (h0 : -9223372036854775808 ≤ n) (h1 : n ≤ 9223372036854775807) (hr : r < 18446744073709551616) :
    vg (pre ++ wv k n r s) (pre.length : Int) = ((k, n, bt r, s), ((pre ++ wv k n r s).length : Int), 0) := by
  have hk : (pre ++ wv k n r s).getD pre.length 0 = k := by
    rw [List.getD_eq_getElem?_getD, List.getElem?_append_right (Nat.le_refl _), Nat.sub_self]
    simp [wv]
  have hlen : ¬ ((pre.length : Int) < 0 ∨ (((pre ++ wv k n r s).length : Nat) : Int) ≤ (pre.length : Int)) := by
    have : 1 ≤ (wv k n r s).length := by unfold wv; simp
    rw [List.length_append]
    omega
  have hp : ((pre.length : Nat) : Int) + 1 = ((pre ++ [k]).length : Int) := by simp
  unfold vg
  rw [if_neg hlen, Int.toNat_natCast, hk]
  have b0 : bt 0 = 0 := by decide
  rcases may_facts hmay with ⟨rfl, rfl, rfl, e⟩ | ⟨rfl, rfl, e⟩ | ⟨rfl, rfl, e⟩ | ⟨rfl, rfl, rfl, e⟩
  · rw [if_pos rfl, empty_of_size e, b0]
    simp [wv]
  · rw [if_neg (by omega), if_pos rfl]
    have hL : pre ++ wv 1 n 0 s = (pre ++ [1]) ++ (wrt (zig n) ++ []) := by simp [wv]
    obtain ⟨g1, g2, g3⟩ := got (pre ++ [1]) [] (zig n) (zig_lt n h0 h1) _ hL _ hp
    rw [if_pos g3, g1, g2, sg_zig, empty_of_size e, b0, hp]
    rw [empty_of_size e] at hL
    rw [hL]
    simp
    omega
  · rw [if_neg (by omega), if_neg (by omega), if_pos rfl]
    have hL : pre ++ wv 2 0 r s = (pre ++ [2]) ++ (w8 (bt r) ++ []) := by simp [wv]
    obtain ⟨g1, g2, g3⟩ := gotReal (pre ++ [2]) [] (bt r) (bt_lt r hr) (bt_bt r) _ hL _ hp
    rw [if_pos g3, g1, g2, empty_of_size e, hp]
    rw [empty_of_size e] at hL
    rw [hL]
    simp [show (w8 (bt r)).length = 8 from rfl]
    omega
  · rw [if_neg (by omega), if_neg (by omega), if_neg (by omega), if_pos rfl]
    have hL : pre ++ wv 3 0 0 s = (pre ++ [3]) ++ (wrt s.size ++ (txt s ++ [])) := by simp [wv]
    obtain ⟨g1, g2, g3⟩ := gotText255 (pre ++ [3]) [] s e _ hL _ hp
    rw [if_pos g3, g1, g2, str_txt, b0, hp, hL]
    simp [txt_length]
    omega
end Go.Proofs.YtilgoghnoeohnaaDoor
