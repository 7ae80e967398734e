/- Values into bytes: a value's writing; the contract of the program's Put, kind by kind. -/
import Derived.Test.YtilgoghnoeohnaaDoorMB
import Derived.Test.YtilgoghnoeohnaaDoorLbConcat
import Derived.Test.YtilgoghnoeohnaaDoorLmPut
namespace Go.Proofs.YtilgoghnoeohnaaDoor
open Go Go.RowKit Pk Rl
set_option maxRecDepth 20000

/- a value's writing -/
def wv (k n : Int) (r : Nat) (s : ByteArray) : List Int := [k] ++ (if k = 1 then wrt (zig n) else if k = 2 then w8 (bt r) else if k = 3 then wrt s.size ++ txt s else [])


set_option maxHeartbeats 1000000 in
theorem vput_no (v : Value) (k n : Int) (r : Nat) (s : ByteArray)
    (M : Hid (∀ w, Calls Tryd.prog 79 #[vl k n r s] w fun e w' => e = .returned (.bool false) ∧ Below w.heap.size w w'))
    (w : World) :
    Calls Tryd.prog 70 #[v, vl k n r s] w fun e w' => e = .returned (.tuple #[.slice none 0 0, .int .i64 1]) ∧ Below w.heap.size w w' := by
  have B0 := Lib.hid ((Below.refl w.heap.size w).alloc (Nat.le_refl _) (vcells k n r s))
  go_enter Tryd.func70, Tryd.ntmps70
  go_wp2_with fail
  refine (M.out _).mono ?_
  rintro e w1 ⟨rfl, hb⟩
  have B1 := Lib.hid (B0.out.trans (hb.mono (by simp)))
  clear hb
  go_wp2_with fail
  go_ret2
  exact ⟨rfl, B1.out⟩

set_option maxHeartbeats 1000000 in
theorem vput_0 (a : Option Addr) (len cap : Nat) (l : List Int) (n : Int) (r : Nat) (s : ByteArray)
    (M : Hid (∀ w, Calls Tryd.prog 79 #[vl 0 n r s] w fun e w' => e = .returned (.bool true) ∧ Below w.heap.size w w'))
    (w : World) (hl : l.length = len) (hm : len ≤ 140000) (hn : a = none → cap = 0) (hb : Byt w a l) :
    Calls Tryd.prog 70 #[.slice a len cap, vl 0 n r s] w fun e w' => ∃ A' k' c', e = .returned (.tuple #[.slice A' k' c', .int .i64 0]) ∧ (l ++ wv 0 n r s).length = k' ∧ Own w' w.heap.size (.slice A' k' c') (l ++ wv 0 n r s) ∧ Below w.heap.size w w' := by
  have E := Lib.hid (show l ++ wv 0 n r s = l ++ [0] by simp [wv])
  rw [E.out]
  clear E
  have B0 := Lib.hid ((Below.refl w.heap.size w).alloc (Nat.le_refl _) (vcells 0 n r s))
  have A0 := Lib.hid (At4.alloc w 0 n r s)
  have HL := Lib.hid hl
  have HB := Lib.hid hb
  have HN := Lib.hid hn
  have HM := Lib.hid hm
  have C := Lib.hid (fun g a2 w hg c0 c1 hb hb2 hn hn2 => concat2_any g a len cap l a2 1 1 [0] w hg c0 c1 hl rfl hb hb2 hn hn2 (by omega) (by omega) (by omega))
  clear hl hb hn
  go_enter Tryd.func70, Tryd.ntmps70
  go_wp2_with fail
  refine (M.out _).mono ?_
  rintro e w1 ⟨rfl, hbl⟩
  have A1 := Lib.hid (A0.out.next hbl)
  have B1 := Lib.hid (B0.out.trans (hbl.mono (by simp)))
  clear hbl M B0 A0
  obtain ⟨c0, c1, c2, c3⟩ := A1.out
  go_wp2_with fail
  refine (C.out _ _ _ (by simp) (by simp [go_sem]) (by simp [go_sem]) (HB.out.below ((B1.out.alloc B1.out.size _).alloc (Nat.le_trans B1.out.size (by simp)) _)) ((Byt.one w1 0 ⟨by omega, by omega⟩).below ((Below.refl _ _).alloc (Nat.le_refl _) _)) HN.out (fun h => by cases h)).mono ?_
  rintro e w2 ⟨A2, k2, cp2, rfl, hk, ho, hbl⟩
  have hbl' := ((Below.refl w1.heap.size w1).alloc (Nat.le_refl _) (.cells #[.int .u8 0] 5)).alloc (by simp) (.cells #[.slice a len cap, .slice (some ⟨w1.heap.size, 0, none⟩) 1 1] 32) |>.trans (hbl.mono (by simp; omega))
  have A2' := Lib.hid (A1.out.next hbl')
  have B2 := Lib.hid (below_go B1.out hbl')
  have O2 := Lib.hid (ho.mono (show w.heap.size ≤ _ from Nat.le_trans B1.out.size (by simp; omega)))
  have K2 := Lib.hid hk
  have R2 := Lib.hid (range_snoc HB.out.2 (show 0 ≤ (0 : Int) ∧ (0 : Int) < 256 by omega))
  have hk2 : k2 = len + 1 := by rw [← hk, List.length_append, HL.out]; rfl
  clear hk ho hbl hbl' C c0 c1 c2 c3
  obtain ⟨c0, c1, c2, c3⟩ := A2'.out
  have hm2 : k2 ≤ 149000 := by have := HM.out; omega
  clear hk2 hm2
  go_wp2_with fail
  go_ret2
  exact ⟨A2, k2, cp2, rfl, K2.out, O2.out, B2.out⟩

set_option maxHeartbeats 1000000 in
theorem vput_1 (a : Option Addr) (len cap : Nat) (l : List Int) (n : Int) (r : Nat) (s : ByteArray)
    (M : Hid (∀ w, Calls Tryd.prog 79 #[vl 1 n r s] w fun e w' => e = .returned (.bool true) ∧ Below w.heap.size w w'))
    (h0 : -9223372036854775808 ≤ n) (h1 : n ≤ 9223372036854775807)
    (w : World) (hl : l.length = len) (hm : len ≤ 140000) (hn : a = none → cap = 0) (hb : Byt w a l) :
    Calls Tryd.prog 70 #[.slice a len cap, vl 1 n r s] w fun e w' => ∃ A' k' c', e = .returned (.tuple #[.slice A' k' c', .int .i64 0]) ∧ (l ++ wv 1 n r s).length = k' ∧ Own w' w.heap.size (.slice A' k' c') (l ++ wv 1 n r s) ∧ Below w.heap.size w w' := by
  have E := Lib.hid (show l ++ wv 1 n r s = l ++ [1] ++ wrt (zig n) by simp [wv])
  rw [E.out]
  clear E
  have B0 := Lib.hid ((Below.refl w.heap.size w).alloc (Nat.le_refl _) (vcells 1 n r s))
  have A0 := Lib.hid (At4.alloc w 1 n r s)
  have HL := Lib.hid hl
  have HB := Lib.hid hb
  have HN := Lib.hid hn
  have HM := Lib.hid hm
  have C := Lib.hid (fun g a2 w hg c0 c1 hb hb2 hn hn2 => concat2_any g a len cap l a2 1 1 [1] w hg c0 c1 hl rfl hb hb2 hn hn2 (by omega) (by omega) (by omega))
  clear hl hb hn
  go_enter Tryd.func70, Tryd.ntmps70
  go_wp2_with fail
  refine (M.out _).mono ?_
  rintro e w1 ⟨rfl, hbl⟩
  have A1 := Lib.hid (A0.out.next hbl)
  have B1 := Lib.hid (B0.out.trans (hbl.mono (by simp)))
  clear hbl M B0 A0
  obtain ⟨c0, c1, c2, c3⟩ := A1.out
  go_wp2_with fail
  refine (C.out _ _ _ (by simp) (by simp [go_sem]) (by simp [go_sem]) (HB.out.below ((B1.out.alloc B1.out.size _).alloc (Nat.le_trans B1.out.size (by simp)) _)) ((Byt.one w1 1 ⟨by omega, by omega⟩).below ((Below.refl _ _).alloc (Nat.le_refl _) _)) HN.out (fun h => by cases h)).mono ?_
  rintro e w2 ⟨A2, k2, cp2, rfl, hk, ho, hbl⟩
  have hbl' := ((Below.refl w1.heap.size w1).alloc (Nat.le_refl _) (.cells #[.int .u8 1] 5)).alloc (by simp) (.cells #[.slice a len cap, .slice (some ⟨w1.heap.size, 0, none⟩) 1 1] 32) |>.trans (hbl.mono (by simp; omega))
  have A2' := Lib.hid (A1.out.next hbl')
  have B2 := Lib.hid (below_go B1.out hbl')
  have O2 := Lib.hid (ho.mono (show w.heap.size ≤ _ from Nat.le_trans B1.out.size (by simp; omega)))
  have K2 := Lib.hid hk
  have R2 := Lib.hid (range_snoc HB.out.2 (show 0 ≤ (1 : Int) ∧ (1 : Int) < 256 by omega))
  have hk2 : k2 = len + 1 := by rw [← hk, List.length_append, HL.out]; rfl
  clear hk ho hbl hbl' C c0 c1 c2 c3
  obtain ⟨c0, c1, c2, c3⟩ := A2'.out
  have hm2 : k2 ≤ 149000 := by have := HM.out; omega
  have P := Lib.hid (putInt_any A2 k2 cp2 (l ++ [1]) n w2 K2.out (by omega) h0 h1 (O2.out.byt R2.out))
  clear hk2 hm2
  go_wp2_with fail
  refine P.out.mono ?_
  rintro e w3 ⟨A3, k3, cp3, rfl, hk, ho, hbl⟩
  have O3 := Lib.hid (ho.mono B2.out.size)
  have B3 := Lib.hid (below_go B2.out hbl)
  have K3 := Lib.hid hk
  clear ho hbl hk
  go_wp2_with fail
  go_ret2
  exact ⟨A3, k3, cp3, rfl, K3.out, O3.out, B3.out⟩

set_option maxHeartbeats 1000000 in
theorem vput_2 (a : Option Addr) (len cap : Nat) (l : List Int) (n : Int) (r : Nat) (s : ByteArray)
    (M : Hid (∀ w, Calls Tryd.prog 79 #[vl 2 n r s] w fun e w' => e = .returned (.bool true) ∧ Below w.heap.size w w'))
    (h0 : r < 18446744073709551616)
    (w : World) (hl : l.length = len) (hm : len ≤ 140000) (hn : a = none → cap = 0) (hb : Byt w a l) :
    Calls Tryd.prog 70 #[.slice a len cap, vl 2 n r s] w fun e w' => ∃ A' k' c', e = .returned (.tuple #[.slice A' k' c', .int .i64 0]) ∧ (l ++ wv 2 n r s).length = k' ∧ Own w' w.heap.size (.slice A' k' c') (l ++ wv 2 n r s) ∧ Below w.heap.size w w' := by
  have E := Lib.hid (show l ++ wv 2 n r s = l ++ [2] ++ w8 (bt r) by simp [wv])
  rw [E.out]
  clear E
  have B0 := Lib.hid ((Below.refl w.heap.size w).alloc (Nat.le_refl _) (vcells 2 n r s))
  have A0 := Lib.hid (At4.alloc w 2 n r s)
  have HL := Lib.hid hl
  have HB := Lib.hid hb
  have HN := Lib.hid hn
  have HM := Lib.hid hm
  have C := Lib.hid (fun g a2 w hg c0 c1 hb hb2 hn hn2 => concat2_any g a len cap l a2 1 1 [2] w hg c0 c1 hl rfl hb hb2 hn hn2 (by omega) (by omega) (by omega))
  clear hl hb hn
  go_enter Tryd.func70, Tryd.ntmps70
  go_wp2_with fail
  refine (M.out _).mono ?_
  rintro e w1 ⟨rfl, hbl⟩
  have A1 := Lib.hid (A0.out.next hbl)
  have B1 := Lib.hid (B0.out.trans (hbl.mono (by simp)))
  clear hbl M B0 A0
  obtain ⟨c0, c1, c2, c3⟩ := A1.out
  go_wp2_with fail
  refine (C.out _ _ _ (by simp) (by simp [go_sem]) (by simp [go_sem]) (HB.out.below ((B1.out.alloc B1.out.size _).alloc (Nat.le_trans B1.out.size (by simp)) _)) ((Byt.one w1 2 ⟨by omega, by omega⟩).below ((Below.refl _ _).alloc (Nat.le_refl _) _)) HN.out (fun h => by cases h)).mono ?_
  rintro e w2 ⟨A2, k2, cp2, rfl, hk, ho, hbl⟩
  have hbl' := ((Below.refl w1.heap.size w1).alloc (Nat.le_refl _) (.cells #[.int .u8 2] 5)).alloc (by simp) (.cells #[.slice a len cap, .slice (some ⟨w1.heap.size, 0, none⟩) 1 1] 32) |>.trans (hbl.mono (by simp; omega))
  have A2' := Lib.hid (A1.out.next hbl')
  have B2 := Lib.hid (below_go B1.out hbl')
  have O2 := Lib.hid (ho.mono (show w.heap.size ≤ _ from Nat.le_trans B1.out.size (by simp; omega)))
  have K2 := Lib.hid hk
  have R2 := Lib.hid (range_snoc HB.out.2 (show 0 ≤ (2 : Int) ∧ (2 : Int) < 256 by omega))
  have hk2 : k2 = len + 1 := by rw [← hk, List.length_append, HL.out]; rfl
  clear hk ho hbl hbl' C c0 c1 c2 c3
  obtain ⟨c0, c1, c2, c3⟩ := A2'.out
  have hm2 : k2 ≤ 149000 := by have := HM.out; omega
  have P := Lib.hid (putReal_any A2 k2 cp2 (l ++ [2]) r w2 K2.out (by omega) h0 (O2.out.byt R2.out))
  clear hk2 hm2
  go_wp2_with fail
  refine P.out.mono ?_
  rintro e w3 ⟨A3, k3, cp3, rfl, hk, ho, hbl⟩
  have O3 := Lib.hid (ho.mono B2.out.size)
  have B3 := Lib.hid (below_go B2.out hbl)
  have K3 := Lib.hid hk
  clear ho hbl hk
  go_wp2_with fail
  go_ret2
  exact ⟨A3, k3, cp3, rfl, K3.out, O3.out, B3.out⟩

set_option maxHeartbeats 1000000 in
theorem vput_3 (a : Option Addr) (len cap : Nat) (l : List Int) (n : Int) (r : Nat) (s : ByteArray)
    (M : Hid (∀ w, Calls Tryd.prog 79 #[vl 3 n r s] w fun e w' => e = .returned (.bool true) ∧ Below w.heap.size w w'))
    (h0 : s.size ≤ 40000)
    (w : World) (hl : l.length = len) (hm : len ≤ 140000) (hn : a = none → cap = 0) (hb : Byt w a l) :
    Calls Tryd.prog 70 #[.slice a len cap, vl 3 n r s] w fun e w' => ∃ A' k' c', e = .returned (.tuple #[.slice A' k' c', .int .i64 0]) ∧ (l ++ wv 3 n r s).length = k' ∧ Own w' w.heap.size (.slice A' k' c') (l ++ wv 3 n r s) ∧ Below w.heap.size w w' := by
  have E := Lib.hid (show l ++ wv 3 n r s = l ++ [3] ++ wrt s.size ++ txt s by simp [wv])
  rw [E.out]
  clear E
  have B0 := Lib.hid ((Below.refl w.heap.size w).alloc (Nat.le_refl _) (vcells 3 n r s))
  have A0 := Lib.hid (At4.alloc w 3 n r s)
  have HL := Lib.hid hl
  have HB := Lib.hid hb
  have HN := Lib.hid hn
  have HM := Lib.hid hm
  have C := Lib.hid (fun g a2 w hg c0 c1 hb hb2 hn hn2 => concat2_any g a len cap l a2 1 1 [3] w hg c0 c1 hl rfl hb hb2 hn hn2 (by omega) (by omega) (by omega))
  clear hl hb hn
  go_enter Tryd.func70, Tryd.ntmps70
  go_wp2_with fail
  refine (M.out _).mono ?_
  rintro e w1 ⟨rfl, hbl⟩
  have A1 := Lib.hid (A0.out.next hbl)
  have B1 := Lib.hid (B0.out.trans (hbl.mono (by simp)))
  clear hbl M B0 A0
  obtain ⟨c0, c1, c2, c3⟩ := A1.out
  go_wp2_with fail
  refine (C.out _ _ _ (by simp) (by simp [go_sem]) (by simp [go_sem]) (HB.out.below ((B1.out.alloc B1.out.size _).alloc (Nat.le_trans B1.out.size (by simp)) _)) ((Byt.one w1 3 ⟨by omega, by omega⟩).below ((Below.refl _ _).alloc (Nat.le_refl _) _)) HN.out (fun h => by cases h)).mono ?_
  rintro e w2 ⟨A2, k2, cp2, rfl, hk, ho, hbl⟩
  have hbl' := ((Below.refl w1.heap.size w1).alloc (Nat.le_refl _) (.cells #[.int .u8 3] 5)).alloc (by simp) (.cells #[.slice a len cap, .slice (some ⟨w1.heap.size, 0, none⟩) 1 1] 32) |>.trans (hbl.mono (by simp; omega))
  have A2' := Lib.hid (A1.out.next hbl')
  have B2 := Lib.hid (below_go B1.out hbl')
  have O2 := Lib.hid (ho.mono (show w.heap.size ≤ _ from Nat.le_trans B1.out.size (by simp; omega)))
  have K2 := Lib.hid hk
  have R2 := Lib.hid (range_snoc HB.out.2 (show 0 ≤ (3 : Int) ∧ (3 : Int) < 256 by omega))
  have hk2 : k2 = len + 1 := by rw [← hk, List.length_append, HL.out]; rfl
  clear hk ho hbl hbl' C c0 c1 c2 c3
  obtain ⟨c0, c1, c2, c3⟩ := A2'.out
  have hm2 : k2 ≤ 149000 := by have := HM.out; omega
  have P := Lib.hid (putText_any A2 k2 cp2 (l ++ [3]) s w2 K2.out (by omega) h0 (O2.out.byt R2.out))
  clear hk2 hm2
  go_wp2_with fail
  refine P.out.mono ?_
  rintro e w3 ⟨A3, k3, cp3, rfl, hk, ho, hbl⟩
  have O3 := Lib.hid (ho.mono B2.out.size)
  have B3 := Lib.hid (below_go B2.out hbl)
  have K3 := Lib.hid hk
  clear ho hbl hk
  go_wp2_with fail
  go_ret2
  exact ⟨A3, k3, cp3, rfl, K3.out, O3.out, B3.out⟩
theorem wv_range (k n : Int) (r : Nat) (s : ByteArray) (hk : 0 ≤ k ∧ k < 256) : ∀ c ∈ wv k n r s, 0 ≤ c ∧ c < 256 := by
  unfold wv
  refine range_app (fun c hc => by rw [List.mem_singleton] at hc; subst hc; exact hk) ?_
  split
  · exact wrt_range _
  · split
    · exact w8_range _
    · split
      · exact range_app (wrt_range _) (txt_range _)
      · simp
end Go.Proofs.YtilgoghnoeohnaaDoor
