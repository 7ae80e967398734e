/- slices.Contains of whole numbers; den.Happens. -/
import Derived.Test.YtccjflioaajgiaaGreatDoorNC
namespace Go.Proofs.YtccjflioaajgiaaGreatDoor
open Go Go.RowKit Go.Maps Pk Rl
set_option maxRecDepth 20000

def has (L : List Nat) (v : Int) : Bool := L.any fun x => decide (v = (x : Int))
theorem has_take (L : List Nat) (k : Nat) (h : k < L.length) (v : Int) : has (L.take (k + 1)) v = (has (L.take k) v || decide (v = ((L.getD k 0 : Nat) : Int))) := by
  unfold has
  rw [take_snoc_n L k h, List.any_append]; simp
theorem has_in {L : List Nat} {v : Int} {k : Nat} (h : k < L.length) (e : v = ((L.getD k 0 : Nat) : Int)) : has L v = true := by
  unfold has
  rw [List.any_eq_true]
  exact ⟨_, ngetD_mem_n L k h, by simp [e]⟩
set_option maxHeartbeats 2000000 in
theorem idxn_any (A : Option Addr) (n c : Nat) (L : List Nat) (v : Int) (w : World) (hn : L.length = n) (hm : n ≤ 1000000) (hi : Its w A L) :
    Calls Tryz.prog 66 #[.slice A n c, .int .i64 v] w fun e w' => (∃ r, e = .returned (.int .i64 r) ∧ decide (0 ≤ r) = has L v) ∧ Below w.heap.size w w' := by
  have HI := Lib.hid hi
  have HN := Lib.hid hn
  clear hi hn
  go_enter Tryz.func66, Tryz.ntmps66
  go_wp2_with fail
  go_loopw [8] (fun t W => ∃ k : Nat, k ≤ n ∧ t = .int .i64 (k : Int) ∧ Hid (has (L.take k) v = false ∧ Below w.heap.size w W)) (fun t _ => n - (intOf t).toNat)
  case atStart => exact ⟨0, Nat.zero_le _, rfl, Lib.hid ⟨rfl, Below.refl _ _⟩⟩
  case round =>
    obtain ⟨k, hk, rfl, I⟩ := hrel
    by_cases hlt : k < n
    · have hlt2 : (k : Int) < (n : Int) := by omega
      obtain ⟨b, off, rfl, h0, _⟩ := HI.out k (by rw [HN.out]; exact hlt)
      have g0 := Ck.of_below I.out.2 _ _ _ h0
      have HT := Lib.hid (has_take L k (by rw [HN.out]; exact hlt) v)
      have HH := Lib.hid (fun e => has_in (L := L) (v := v) (k := k) (by rw [HN.out]; exact hlt) e)
      generalize L.getD k 0 = x at g0 HT HH
      clear h0
      by_cases e : v = (x : Int)
      · have R1 := Lib.hid (HH.out e)
        have e1 : (v == (x : Int)) = true := by simp [e]
        have BW := Lib.hid I.out.2
        clear e I
        go_wp2_with fail
        go_ret
        exact ⟨⟨_, rfl, by rw [R1.out, decide_eq_true (by omega)]⟩, BW.out⟩
      · have R1 : Hid (has (L.take (k + 1)) v = false) := Lib.hid (by rw [HT.out, I.out.1, decide_eq_false e]; rfl)
        have e1 : (v == (x : Int)) = false := by simp [e]
        have BW := Lib.hid I.out.2
        clear e I
        go_wp2_with fail
        exact ⟨⟨k + 1, by omega, by go_num, Lib.hid ⟨R1.out, BW.out⟩⟩, by simp [intOf]; omega⟩
    · obtain rfl : k = n := by omega
      have R1 : Hid (has L v = false) := Lib.hid (by have := I.out.1; rwa [List.take_of_length_le (by rw [HN.out]; exact Nat.le_refl _)] at this)
      have BW := Lib.hid I.out.2
      clear I
      go_wp2_with fail
      go_ret
      exact ⟨⟨_, rfl, by rw [R1.out]; rfl⟩, BW.out⟩
theorem contn_any (A : Option Addr) (n c : Nat) (L : List Nat) (v : Int) (w : World) (hn : L.length = n) (hm : n ≤ 1000000) (hi : Its w A L) :
    Calls Tryz.prog 37 #[.slice A n c, .int .i64 v] w fun e w' => e = .returned (.bool (has L v)) ∧ Below w.heap.size w w' := by
  have C := Lib.hid (idxn_any A n c L v w hn hm hi)
  clear hn hi
  go_enter Tryz.func37, Tryz.ntmps37
  go_wp2_with fail
  refine C.out.mono ?_
  rintro e w2 ⟨⟨r, rfl, hr⟩, hb⟩
  have HR := Lib.hid hr
  have BB := Lib.hid hb
  clear hr hb C
  go_wp2_with fail
  go_ret
  exact ⟨by rw [← HR.out]; rfl, BB.out⟩
def hpv (L : List Nd) (W : Nat) (R : List Lg) (i j : Int) : Bool := decide (dme L W R = 0) && (decide (0 ≤ i) && decide (i < (R.length : Int)) && has (pm L W R i.toNat) j)
set_option maxHeartbeats 8000000 in
theorem dhappens_any (nA : Option Addr) (nN nC : Nat) (L : List Nd) (W : Nat) (rA : Option Addr) (rN rC : Nat) (R : List Lg) (i j : Int) (w : World) (hP : Pt w nA nN nC L) (hR : Lr w rA R) (hn : R.length = rN) (hm2 : rN ≤ 900) (hW : W < 18446744073709551616) (hT : Tab w) :
    Calls Tryz.prog 18 #[ptv nA nN nC (W : Int), .slice rA rN rC, .int .i64 i, .int .i64 j] w fun e w' => e = .returned (.bool (hpv L W R i j)) ∧ Below w.heap.size w w' := by
  obtain ⟨w1, hw1⟩ : ∃ X, w.alloc (ptobj nA nN nC (W : Int)) = X := ⟨_, rfl⟩
  have b1 : Below w.heap.size w w1 := hw1 ▸ bal w _
  have k0 : w1.cell? ⟨w.heap.size, 0, none⟩ = some (.slice nA nN nC) := by rw [← hw1]; simp [go_sem]
  have k1 : w1.cell? ⟨w.heap.size, 1, none⟩ = some (.int .u64 (W : Int)) := by rw [← hw1]; simp [go_sem]
  have K0 := Lib.hid k0
  have K1 := Lib.hid k1
  have B1 := Lib.hid b1
  have C1 := Lib.hid (Ck.of_below b1)
  have TM := Lib.hid (tmay_any nA nN nC L (W : Int) w1 (hP.ck C1.out) (hT.ck C1.out))
  have DM := Lib.hid (fun X (hX : Below w1.heap.size w1 X) => dmay_any rA rN rC R X ((hR.ck C1.out).ck (Ck.of_below hX)) hn (by omega))
  have SO := Lib.hid (fun (h0 : mp L (W : Int) = 0) (hd : dm 0 R = true) X (hX : Below w1.heap.size w1 X) => searchOf_any nA nN nC L W rA rN rC R X ((hP.ck C1.out).ck (Ck.of_below hX)) (by rw [← hP.len]; have := (mp_zero h0).1; omega) ((hR.ck C1.out).ck (Ck.of_below hX)) hn hm2 (dm_all hd).2 hW ((hT.ck C1.out).ck (Ck.of_below hX)))
  have HN := Lib.hid hP.len
  subst hn
  obtain ⟨h, hh⟩ : ∃ z, hpv L W R i j = z := ⟨_, rfl⟩
  have HH := Lib.hid hh
  rw [hh]
  clear hP hR hT b1 hh
  obtain ⟨m, hm⟩ : ∃ z, mp L (W : Int) = z := ⟨_, rfl⟩
  have HM := Lib.hid hm
  rw [hm] at TM
  clear hm
  go_enter Tryz.func18, Tryz.ntmps18
  go_wp2_with fail
  refine TM.out.mono ?_
  rintro e w2 ⟨rfl, hb⟩
  have B2 := Lib.hid hb
  have e0 := Ck.of_below hb _ _ _ K0.out
  have e1 := Ck.of_below hb _ _ _ K1.out
  clear hb TM
  by_cases h0 : m = 0
  case neg =>
    have h1 : (m != 0) = true := by simp [h0]
    have H0 : Hid (h = false) := Lib.hid (by
      rw [← HH.out]
      unfold hpv dme
      rw [HM.out, if_neg h0, decide_eq_false h0]; rfl)
    obtain rfl := H0.out
    have BB := Lib.hid (B1.out.trans (B2.out.mono B1.out.size))
    clear H0 HH
    go_wp2_with fail
    go_ret
    exact ⟨rfl, BB.out⟩
  subst h0
  have D3 := Lib.hid (DM.out _ B2.out)
  obtain ⟨dv, hdv⟩ : ∃ z, dm 0 R = z := ⟨_, rfl⟩
  have HD := Lib.hid hdv
  rw [hdv] at D3
  clear hdv DM
  go_wp2_with fail
  refine D3.out.mono ?_
  rintro e w3 ⟨rfl, hb⟩
  have B3 := Lib.hid (below_go B2.out hb)
  have BB := Lib.hid (B1.out.trans (B3.out.mono B1.out.size))
  have e0 := Ck.of_below B3.out _ _ _ K0.out
  have e1 := Ck.of_below B3.out _ _ _ K1.out
  clear hb D3 B2
  cases dv
  case false =>
    have H0 : Hid (h = false) := Lib.hid (by
      rw [← HH.out]
      unfold hpv dme
      rw [HM.out, if_pos rfl, HD.out]; rfl)
    obtain rfl := H0.out
    clear H0 HH
    go_wp2_with fail
    go_ret
    exact ⟨rfl, BB.out⟩
  have HV : Hid (h = (decide (0 ≤ i) && decide (i < (R.length : Int)) && has (pm L W R i.toNat) j)) := Lib.hid (by
    rw [← HH.out]
    unfold hpv dme
    rw [HM.out, if_pos rfl, HD.out]; rfl)
  by_cases hi0 : i < 0
  · have H0 : Hid (h = false) := Lib.hid (by rw [HV.out, decide_eq_false (p := 0 ≤ i) (by omega)]; rfl)
    obtain rfl := H0.out
    clear H0 HH HV
    go_wp2_with fail
    go_ret
    exact ⟨rfl, BB.out⟩
  by_cases hi1 : (R.length : Int) ≤ i
  · have H0 : Hid (h = false) := Lib.hid (by rw [HV.out, decide_eq_false (p := i < (R.length : Int)) (by omega)]; simp)
    obtain rfl := H0.out
    clear H0 HH HV
    go_wp2_with fail
    go_ret
    exact ⟨rfl, BB.out⟩
  obtain ⟨k, rfl⟩ := Int.eq_ofNat_of_zero_le (show 0 ≤ i by omega)
  have H0 : Hid (h = has (pm L W R k) j) := Lib.hid (by rw [HV.out, decide_eq_true (p := (0 : Int) ≤ (k : Int)) (by omega), decide_eq_true (p := (k : Int) < (R.length : Int)) (by omega), Int.toNat_natCast]; rfl)
  have KL : Hid (k < R.length) := Lib.hid (by omega)
  obtain rfl := H0.out
  clear H0 HH HV
  have hnN : Hid (0 < L.length) := Lib.hid (by
    have := mp_zero HM.out
    have h2 : L.length ≠ 0 := fun e => this.2 (List.eq_nil_of_length_eq_zero e)
    omega)
  have SO3 := Lib.hid (SO.out HM.out HD.out _ B3.out)
  clear SO
  go_wp2_with fail
  refine SO3.out.mono ?_
  rintro e w4 ⟨⟨s, rfl, mm, pA, pC, oA, oC, hS, hmm⟩, hb⟩
  have h8 := ends_any ⟨s, mm, nA, nC, L, pA, pC, rA, rC, R, oA, oC, W⟩ 0 k hnN.out KL.out w4 hS
  have E8 : Hid (Calls Tryz.prog 30 #[.pointer (some ⟨s, 0, none⟩), .int .i64 0, .int .i64 (k : Int)] w4 fun e w' => (∃ v, e = .returned v ∧ Sl w' v (pm L W R k)) ∧ Sgo ⟨s, mm, nA, nC, L, pA, pC, rA, rC, R, oA, oC, W⟩ w4 w') := Lib.hid h8
  have B4 := Lib.hid (below_go BB.out hb)
  have MM : Hid (w.heap.size ≤ mm) := Lib.hid (by have := BB.out.size; omega)
  have PL := Lib.hid (pm_len L W R k hm2)
  clear hS hmm hb h8 SO3 e0 e1
  go_wp2_with fail
  refine E8.out.mono ?_
  rintro e w5 ⟨⟨v, rfl, A5, c5, rfl, _, hIt⟩, hgo⟩
  have CC := Lib.hid (contn_any A5 (pm L W R k).length c5 (pm L W R k) j w5 rfl (by have := PL.out; omega) hIt)
  have B5 : Hid (Below w.heap.size w w5) := Lib.hid (B4.out.trans (Keep.below hgo.keep (fun j hj => by rw [hj]; exact MM.out) B4.out.size))
  clear hIt hgo E8
  go_wp2_with fail
  refine CC.out.mono ?_
  rintro e w6 ⟨rfl, hb⟩
  have B6 := Lib.hid (below_go B5.out hb)
  clear hb
  go_wp2_with fail
  go_ret
  exact ⟨rfl, B6.out⟩
end Go.Proofs.YtccjflioaajgiaaGreatDoor
