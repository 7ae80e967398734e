/- Values into bytes: the contract of the document's Put, kind by kind. -/
import Derived.Test.YtilgoghnoeohnaaDoorLbValPut
import Derived.Test.YtilgoghnoeohnaaDoorLmRPut
namespace Go.Proofs.YtilgoghnoeohnaaDoor
open Go Go.RowKit Pk Rl
set_option maxRecDepth 20000

set_option maxHeartbeats 1000000 in
theorem rvput_no (v : Value) (k n : Int) (r : Nat) (s : ByteArray)
    (M : Hid (∀ w, Calls Tryd.prog 71 #[vl k n r s] w fun e w' => e = .returned (.bool false) ∧ Below w.heap.size w w'))
    (w : World) :
    Calls Tryd.prog 57 #[v, vl k n r s] w fun e w' => ∃ A c, e = .returned (.tuple #[.slice A 0 c, .int .i64 1]) ∧ Own w' w.heap.size (.slice A 0 c) [] ∧ Below w.heap.size w w' := by
  have B0 := Lib.hid ((Below.refl w.heap.size w).alloc (Nat.le_refl _) (vcells k n r s))
  go_enter Tryd.func57, Tryd.ntmps57
  go_wp2_with fail
  refine (M.out _).mono ?_
  rintro e w1 ⟨rfl, hb⟩
  have B1 := Lib.hid (B0.out.trans (hb.mono (by simp)))
  clear hb
  go_wp2_with fail
  go_ret2
  exact ⟨_, _, rfl, (Own.empty w1).mono B1.out.size, B1.out.alloc B1.out.size _⟩

set_option maxHeartbeats 1000000 in
theorem rvput_0 (a : Option Addr) (len cap : Nat) (l : List Int) (n : Int) (r : Nat) (s : ByteArray)
    (M : Hid (∀ w, Calls Tryd.prog 71 #[vl 0 n r s] w fun e w' => e = .returned (.bool true) ∧ Below w.heap.size w w'))
    (w : World) (hl : l.length = len) (hm : len ≤ 140000) (hn : a = none → cap = 0) (hb : Byt w a l) :
    Calls Tryd.prog 57 #[.slice a len cap, vl 0 n r s] w fun e w' => ∃ A' k' c', e = .returned (.tuple #[.slice A' k' c', .int .i64 0]) ∧ (l ++ wv 0 n r s).length = k' ∧ Own w' w.heap.size (.slice A' k' c') (l ++ wv 0 n r s) ∧ Below w.heap.size w w' := by
  have E := Lib.hid (show l ++ wv 0 n r s = l ++ [0] by simp [wv])
  rw [E.out]
  clear E
  have B0 := Lib.hid ((Below.refl w.heap.size w).alloc (Nat.le_refl _) (vcells 0 n r s))
  have A0 := Lib.hid (At4.alloc w 0 n r s)
  have HL := Lib.hid hl
  have HB := Lib.hid hb
  have HN := Lib.hid hn
  have HM := Lib.hid hm
  clear hl hb hn
  go_enter Tryd.func57, Tryd.ntmps57
  go_wp2_with fail
  refine (M.out _).mono ?_
  rintro e w1 ⟨rfl, hbl⟩
  have A1 := Lib.hid (A0.out.next hbl)
  have B1 := Lib.hid (B0.out.trans (hbl.mono (by simp)))
  clear hbl M B0 A0
  have z1 := World.block_lt_of_cell? _ _ A1.out.1
  have O1 := Lib.hid (Own.empty w1)
  have BE := Lib.hid ((Below.refl w1.heap.size w1).alloc (Nat.le_refl _) (.cells #[] 5))
  have K1 := Lib.hid (show ([] ++ l).length = len by rw [List.nil_append]; exact HL.out)
  have K2 := Lib.hid (show ([] ++ l ++ [0]).length = len + 1 by rw [List.nil_append, List.length_append, HL.out]; rfl)
  have R0 := Lib.hid (show ∀ c ∈ ([] : List Int), 0 ≤ c ∧ c < 256 by simp)
  have R1 := Lib.hid (show ∀ c ∈ [] ++ l, 0 ≤ c ∧ c < 256 by rw [List.nil_append]; exact HB.out.2)
  have R2 := Lib.hid (range_snoc HB.out.2 (show 0 ≤ (0 : Int) ∧ (0 : Int) < 256 by omega))
  go_wp2_with (first | (at_builtin; refine wp_app (.tmp 12) (.tmp 13) _ rfl rfl w1.heap.size _ [] rfl O1.out a len cap l rfl HL.out ((HB.out.below B1.out).below BE.out) HN.out R0.out len K1.out (by omega) BE.out.size ?_; intro A2 cB w2 hO2 _ hb2; have O2 := Lib.hid hO2; have B2 := Lib.hid (BE.out.trans hb2); have A2' := Lib.hid (A1.out.next B2.out); clear hO2 hb2 O1; obtain ⟨c0, c1, c2, c3⟩ := A2'.out; have z2 := B2.out.size) | (at_builtin; refine wp_app (.tmp 15) (.tmp 18) _ rfl rfl w1.heap.size _ ([] ++ l) rfl (O2.out.below ((Below.refl _ _).alloc (Nat.le_refl _) _)) _ 1 1 [0] rfl rfl (Byt.one w2 0 ⟨by omega, by omega⟩) (fun h => by cases h) R1.out (len + 1) K2.out (by omega) (Nat.le_trans z2 (by simp)) ?_; intro A3 cC w3 hO3 _ hb3; have O3 := Lib.hid hO3; have B3 := Lib.hid ((B2.out.alloc z2 _).trans hb3); have A3' := Lib.hid (A1.out.next B3.out); clear hO3 hb3 O2; clear c0 c1 c2 c3; obtain ⟨c0, c1, c2, c3⟩ := A3'.out))
  have BW := Lib.hid (below_go B1.out B3.out)
  have OW := Lib.hid (show Own w3 w.heap.size (.slice A3 (len + 1) cC) (l ++ [0]) from by have := O3.out.mono B1.out.size; rwa [List.nil_append] at this)
  have KW := Lib.hid (show (l ++ [0]).length = len + 1 by rw [List.length_append, HL.out]; rfl)
  go_wp2_with fail
  go_ret2
  exact ⟨A3, len + 1, cC, rfl, KW.out, OW.out, BW.out⟩

set_option maxHeartbeats 1000000 in
theorem rvput_1 (a : Option Addr) (len cap : Nat) (l : List Int) (n : Int) (r : Nat) (s : ByteArray)
    (M : Hid (∀ w, Calls Tryd.prog 71 #[vl 1 n r s] w fun e w' => e = .returned (.bool true) ∧ Below w.heap.size w w'))
    (h0 : -9223372036854775808 ≤ n) (h1 : n ≤ 9223372036854775807)
    (w : World) (hl : l.length = len) (hm : len ≤ 140000) (hn : a = none → cap = 0) (hb : Byt w a l) :
    Calls Tryd.prog 57 #[.slice a len cap, vl 1 n r s] w fun e w' => ∃ A' k' c', e = .returned (.tuple #[.slice A' k' c', .int .i64 0]) ∧ (l ++ wv 1 n r s).length = k' ∧ Own w' w.heap.size (.slice A' k' c') (l ++ wv 1 n r s) ∧ Below w.heap.size w w' := by
  have E := Lib.hid (show l ++ wv 1 n r s = l ++ [1] ++ wrt (zig n) by simp [wv])
  rw [E.out]
  clear E
  have B0 := Lib.hid ((Below.refl w.heap.size w).alloc (Nat.le_refl _) (vcells 1 n r s))
  have A0 := Lib.hid (At4.alloc w 1 n r s)
  have HL := Lib.hid hl
  have HB := Lib.hid hb
  have HN := Lib.hid hn
  have HM := Lib.hid hm
  clear hl hb hn
  go_enter Tryd.func57, Tryd.ntmps57
  go_wp2_with fail
  refine (M.out _).mono ?_
  rintro e w1 ⟨rfl, hbl⟩
  have A1 := Lib.hid (A0.out.next hbl)
  have B1 := Lib.hid (B0.out.trans (hbl.mono (by simp)))
  clear hbl M B0 A0
  have z1 := World.block_lt_of_cell? _ _ A1.out.1
  have O1 := Lib.hid (Own.empty w1)
  have BE := Lib.hid ((Below.refl w1.heap.size w1).alloc (Nat.le_refl _) (.cells #[] 5))
  have K1 := Lib.hid (show ([] ++ l).length = len by rw [List.nil_append]; exact HL.out)
  have K2 := Lib.hid (show ([] ++ l ++ [1]).length = len + 1 by rw [List.nil_append, List.length_append, HL.out]; rfl)
  have R0 := Lib.hid (show ∀ c ∈ ([] : List Int), 0 ≤ c ∧ c < 256 by simp)
  have R1 := Lib.hid (show ∀ c ∈ [] ++ l, 0 ≤ c ∧ c < 256 by rw [List.nil_append]; exact HB.out.2)
  have R2 := Lib.hid (range_snoc HB.out.2 (show 0 ≤ (1 : Int) ∧ (1 : Int) < 256 by omega))
  go_wp2_with (first | (at_builtin; refine wp_app (.tmp 12) (.tmp 13) _ rfl rfl w1.heap.size _ [] rfl O1.out a len cap l rfl HL.out ((HB.out.below B1.out).below BE.out) HN.out R0.out len K1.out (by omega) BE.out.size ?_; intro A2 cB w2 hO2 _ hb2; have O2 := Lib.hid hO2; have B2 := Lib.hid (BE.out.trans hb2); have A2' := Lib.hid (A1.out.next B2.out); clear hO2 hb2 O1; obtain ⟨c0, c1, c2, c3⟩ := A2'.out; have z2 := B2.out.size) | (at_builtin; refine wp_app (.tmp 15) (.tmp 18) _ rfl rfl w1.heap.size _ ([] ++ l) rfl (O2.out.below ((Below.refl _ _).alloc (Nat.le_refl _) _)) _ 1 1 [1] rfl rfl (Byt.one w2 1 ⟨by omega, by omega⟩) (fun h => by cases h) R1.out (len + 1) K2.out (by omega) (Nat.le_trans z2 (by simp)) ?_; intro A3 cC w3 hO3 _ hb3; have O3 := Lib.hid hO3; have B3 := Lib.hid ((B2.out.alloc z2 _).trans hb3); have A3' := Lib.hid (A1.out.next B3.out); clear hO3 hb3 O2; clear c0 c1 c2 c3; obtain ⟨c0, c1, c2, c3⟩ := A3'.out))
  have BW := Lib.hid (below_go B1.out B3.out)
  have OW := Lib.hid (show Own w3 w.heap.size (.slice A3 (len + 1) cC) (l ++ [1]) from by have := O3.out.mono B1.out.size; rwa [List.nil_append] at this)
  have KW := Lib.hid (show (l ++ [1]).length = len + 1 by rw [List.length_append, HL.out]; rfl)
  have P := Lib.hid (rputInt_any A3 (len + 1) cC (l ++ [1]) n w3 KW.out (by omega) OW.out.capz h0 h1 (OW.out.byt R2.out))
  go_wp2_with fail
  refine P.out.mono ?_
  rintro e w4 ⟨A4, k4, c4, rfl, hk, ho, hbl⟩
  have O4 := Lib.hid (ho.mono BW.out.size)
  have B4 := Lib.hid (below_go BW.out hbl)
  have K4 := Lib.hid hk
  clear ho hbl hk
  go_wp2_with fail
  go_ret2
  exact ⟨A4, k4, c4, rfl, K4.out, O4.out, B4.out⟩

set_option maxHeartbeats 1000000 in
theorem rvput_2 (a : Option Addr) (len cap : Nat) (l : List Int) (n : Int) (r : Nat) (s : ByteArray)
    (M : Hid (∀ w, Calls Tryd.prog 71 #[vl 2 n r s] w fun e w' => e = .returned (.bool true) ∧ Below w.heap.size w w'))
    (h0 : r < 18446744073709551616)
    (w : World) (hl : l.length = len) (hm : len ≤ 140000) (hn : a = none → cap = 0) (hb : Byt w a l) :
    Calls Tryd.prog 57 #[.slice a len cap, vl 2 n r s] w fun e w' => ∃ A' k' c', e = .returned (.tuple #[.slice A' k' c', .int .i64 0]) ∧ (l ++ wv 2 n r s).length = k' ∧ Own w' w.heap.size (.slice A' k' c') (l ++ wv 2 n r s) ∧ Below w.heap.size w w' := by
  have E := Lib.hid (show l ++ wv 2 n r s = l ++ [2] ++ w8 (bt r) by simp [wv])
  rw [E.out]
  clear E
  have B0 := Lib.hid ((Below.refl w.heap.size w).alloc (Nat.le_refl _) (vcells 2 n r s))
  have A0 := Lib.hid (At4.alloc w 2 n r s)
  have HL := Lib.hid hl
  have HB := Lib.hid hb
  have HN := Lib.hid hn
  have HM := Lib.hid hm
  clear hl hb hn
  go_enter Tryd.func57, Tryd.ntmps57
  go_wp2_with fail
  refine (M.out _).mono ?_
  rintro e w1 ⟨rfl, hbl⟩
  have A1 := Lib.hid (A0.out.next hbl)
  have B1 := Lib.hid (B0.out.trans (hbl.mono (by simp)))
  clear hbl M B0 A0
  have z1 := World.block_lt_of_cell? _ _ A1.out.1
  have O1 := Lib.hid (Own.empty w1)
  have BE := Lib.hid ((Below.refl w1.heap.size w1).alloc (Nat.le_refl _) (.cells #[] 5))
  have K1 := Lib.hid (show ([] ++ l).length = len by rw [List.nil_append]; exact HL.out)
  have K2 := Lib.hid (show ([] ++ l ++ [2]).length = len + 1 by rw [List.nil_append, List.length_append, HL.out]; rfl)
  have R0 := Lib.hid (show ∀ c ∈ ([] : List Int), 0 ≤ c ∧ c < 256 by simp)
  have R1 := Lib.hid (show ∀ c ∈ [] ++ l, 0 ≤ c ∧ c < 256 by rw [List.nil_append]; exact HB.out.2)
  have R2 := Lib.hid (range_snoc HB.out.2 (show 0 ≤ (2 : Int) ∧ (2 : Int) < 256 by omega))
  go_wp2_with (first | (at_builtin; refine wp_app (.tmp 12) (.tmp 13) _ rfl rfl w1.heap.size _ [] rfl O1.out a len cap l rfl HL.out ((HB.out.below B1.out).below BE.out) HN.out R0.out len K1.out (by omega) BE.out.size ?_; intro A2 cB w2 hO2 _ hb2; have O2 := Lib.hid hO2; have B2 := Lib.hid (BE.out.trans hb2); have A2' := Lib.hid (A1.out.next B2.out); clear hO2 hb2 O1; obtain ⟨c0, c1, c2, c3⟩ := A2'.out; have z2 := B2.out.size) | (at_builtin; refine wp_app (.tmp 15) (.tmp 18) _ rfl rfl w1.heap.size _ ([] ++ l) rfl (O2.out.below ((Below.refl _ _).alloc (Nat.le_refl _) _)) _ 1 1 [2] rfl rfl (Byt.one w2 2 ⟨by omega, by omega⟩) (fun h => by cases h) R1.out (len + 1) K2.out (by omega) (Nat.le_trans z2 (by simp)) ?_; intro A3 cC w3 hO3 _ hb3; have O3 := Lib.hid hO3; have B3 := Lib.hid ((B2.out.alloc z2 _).trans hb3); have A3' := Lib.hid (A1.out.next B3.out); clear hO3 hb3 O2; clear c0 c1 c2 c3; obtain ⟨c0, c1, c2, c3⟩ := A3'.out))
  have BW := Lib.hid (below_go B1.out B3.out)
  have OW := Lib.hid (show Own w3 w.heap.size (.slice A3 (len + 1) cC) (l ++ [2]) from by have := O3.out.mono B1.out.size; rwa [List.nil_append] at this)
  have KW := Lib.hid (show (l ++ [2]).length = len + 1 by rw [List.length_append, HL.out]; rfl)
  have P := Lib.hid (rputReal_any A3 (len + 1) cC (l ++ [2]) r w3 KW.out (by omega) OW.out.capz h0 (OW.out.byt R2.out))
  go_wp2_with fail
  refine P.out.mono ?_
  rintro e w4 ⟨A4, k4, c4, rfl, hk, ho, hbl⟩
  have O4 := Lib.hid (ho.mono BW.out.size)
  have B4 := Lib.hid (below_go BW.out hbl)
  have K4 := Lib.hid hk
  clear ho hbl hk
  go_wp2_with fail
  go_ret2
  exact ⟨A4, k4, c4, rfl, K4.out, O4.out, B4.out⟩

set_option maxHeartbeats 1000000 in
theorem rvput_3 (a : Option Addr) (len cap : Nat) (l : List Int) (n : Int) (r : Nat) (s : ByteArray)
    (M : Hid (∀ w, Calls Tryd.prog 71 #[vl 3 n r s] w fun e w' => e = .returned (.bool true) ∧ Below w.heap.size w w'))
    (h0 : s.size ≤ 40000)
    (w : World) (hl : l.length = len) (hm : len ≤ 140000) (hn : a = none → cap = 0) (hb : Byt w a l) :
    Calls Tryd.prog 57 #[.slice a len cap, vl 3 n r s] w fun e w' => ∃ A' k' c', e = .returned (.tuple #[.slice A' k' c', .int .i64 0]) ∧ (l ++ wv 3 n r s).length = k' ∧ Own w' w.heap.size (.slice A' k' c') (l ++ wv 3 n r s) ∧ Below w.heap.size w w' := by
  have E := Lib.hid (show l ++ wv 3 n r s = l ++ [3] ++ wrt s.size ++ txt s by simp [wv])
  rw [E.out]
  clear E
  have B0 := Lib.hid ((Below.refl w.heap.size w).alloc (Nat.le_refl _) (vcells 3 n r s))
  have A0 := Lib.hid (At4.alloc w 3 n r s)
  have HL := Lib.hid hl
  have HB := Lib.hid hb
  have HN := Lib.hid hn
  have HM := Lib.hid hm
  clear hl hb hn
  go_enter Tryd.func57, Tryd.ntmps57
  go_wp2_with fail
  refine (M.out _).mono ?_
  rintro e w1 ⟨rfl, hbl⟩
  have A1 := Lib.hid (A0.out.next hbl)
  have B1 := Lib.hid (B0.out.trans (hbl.mono (by simp)))
  clear hbl M B0 A0
  have z1 := World.block_lt_of_cell? _ _ A1.out.1
  have O1 := Lib.hid (Own.empty w1)
  have BE := Lib.hid ((Below.refl w1.heap.size w1).alloc (Nat.le_refl _) (.cells #[] 5))
  have K1 := Lib.hid (show ([] ++ l).length = len by rw [List.nil_append]; exact HL.out)
  have K2 := Lib.hid (show ([] ++ l ++ [3]).length = len + 1 by rw [List.nil_append, List.length_append, HL.out]; rfl)
  have R0 := Lib.hid (show ∀ c ∈ ([] : List Int), 0 ≤ c ∧ c < 256 by simp)
  have R1 := Lib.hid (show ∀ c ∈ [] ++ l, 0 ≤ c ∧ c < 256 by rw [List.nil_append]; exact HB.out.2)
  have R2 := Lib.hid (range_snoc HB.out.2 (show 0 ≤ (3 : Int) ∧ (3 : Int) < 256 by omega))
  go_wp2_with (first | (at_builtin; refine wp_app (.tmp 12) (.tmp 13) _ rfl rfl w1.heap.size _ [] rfl O1.out a len cap l rfl HL.out ((HB.out.below B1.out).below BE.out) HN.out R0.out len K1.out (by omega) BE.out.size ?_; intro A2 cB w2 hO2 _ hb2; have O2 := Lib.hid hO2; have B2 := Lib.hid (BE.out.trans hb2); have A2' := Lib.hid (A1.out.next B2.out); clear hO2 hb2 O1; obtain ⟨c0, c1, c2, c3⟩ := A2'.out; have z2 := B2.out.size) | (at_builtin; refine wp_app (.tmp 15) (.tmp 18) _ rfl rfl w1.heap.size _ ([] ++ l) rfl (O2.out.below ((Below.refl _ _).alloc (Nat.le_refl _) _)) _ 1 1 [3] rfl rfl (Byt.one w2 3 ⟨by omega, by omega⟩) (fun h => by cases h) R1.out (len + 1) K2.out (by omega) (Nat.le_trans z2 (by simp)) ?_; intro A3 cC w3 hO3 _ hb3; have O3 := Lib.hid hO3; have B3 := Lib.hid ((B2.out.alloc z2 _).trans hb3); have A3' := Lib.hid (A1.out.next B3.out); clear hO3 hb3 O2; clear c0 c1 c2 c3; obtain ⟨c0, c1, c2, c3⟩ := A3'.out))
  have BW := Lib.hid (below_go B1.out B3.out)
  have OW := Lib.hid (show Own w3 w.heap.size (.slice A3 (len + 1) cC) (l ++ [3]) from by have := O3.out.mono B1.out.size; rwa [List.nil_append] at this)
  have KW := Lib.hid (show (l ++ [3]).length = len + 1 by rw [List.length_append, HL.out]; rfl)
  have P := Lib.hid (rputText_any A3 (len + 1) cC (l ++ [3]) s w3 KW.out (by omega) OW.out.capz h0 (OW.out.byt R2.out))
  go_wp2_with fail
  refine P.out.mono ?_
  rintro e w4 ⟨A4, k4, c4, rfl, hk, ho, hbl⟩
  have O4 := Lib.hid (ho.mono BW.out.size)
  have B4 := Lib.hid (below_go BW.out hbl)
  have K4 := Lib.hid hk
  clear ho hbl hk
  go_wp2_with fail
  go_ret2
  exact ⟨A4, k4, c4, rfl, K4.out, O4.out, B4.out⟩
end Go.Proofs.YtilgoghnoeohnaaDoor
