/- PackOnly: the walk of the statement's own function. -/
import Derived.Test.YtclbhnmgpljboaaPkBack
import Derived.Deep.RegionHeld
import Derived.Deep.DeepCutAuto
import Derived.BigQuiet
import Derived.Deep.QuietTactic
namespace Go.Proofs.Ytclbhnmgpljboaa
open Go Go.RowKit Pk Rl

theorem f_get (l : List Int) (p : Int) (hr : ∀ c ∈ l, 0 ≤ c ∧ c < 256) (h : gE l p = 0) : ∃ q K : Nat, p = (q : Int) ∧ gK l p = (K : Int) ∧ q < K ∧ K ≤ l.length ∧ (l.drop q).take (K - q) = wrt (gN l p) ∧ gN l p < 18446744073709551616 := by
  obtain ⟨o1, o2, o3, o4, o5⟩ := g_ok l p hr h
  refine ⟨p.toNat, (gK l p).toNat, by omega, by omega, by omega, by omega, ?_, o5⟩
  rw [← o4]
  congr 1
  omega

theorem below_drewN (B : Nat) (w : World) (n : Nat) : Below B w (w.drewN n) := ⟨rfl, rfl, rfl, Nat.le_refl _, fun _ _ => rfl⟩
theorem f_text (l : List Int) (p m : Int) (hr : ∀ c ∈ l, 0 ≤ c ∧ c < 256) (hlen : l.length ≤ 2000) (h : tE l p m = 0) : ∃ q K : Nat, p = (q : Int) ∧ tK l p m = (K : Int) ∧ q < K ∧ K ≤ l.length ∧ (l.drop q).take (K - q) = wrt (strOfNums (tL l p m)).size ++ txt (strOfNums (tL l p m)) ∧ (strOfNums (tL l p m)).size ≤ 2000 := by
  have hg : gE l p = 0 := by
    by_cases c : gE l p = 0
    · exact c
    · unfold tE at h; rw [if_pos c] at h; exact h
  have c3 : ¬ (l.length : Int) - gK l p < (gN l p : Int) := by
    intro c
    unfold tE at h
    rw [if_neg (by omega)] at h
    split at h
    · omega
    · omega
  obtain ⟨q, K, rfl, e1, k1, k2, k3, k4⟩ := f_get l p hr hg
  have eL : tL l (q : Int) m = (l.drop K).take (gN l q) := by unfold tL; rw [if_pos h, e1]; rfl
  have eK : tK l (q : Int) m = ((K + gN l q : Nat) : Int) := by unfold tK; rw [if_pos h, e1]; omega
  have hr2 : ∀ c ∈ tL l (q : Int) m, 0 ≤ c ∧ c < 256 := fun c hc => by rw [eL] at hc; exact hr c (List.mem_of_mem_drop (List.mem_of_mem_take hc))
  have es : (strOfNums (tL l (q : Int) m)).size = gN l q := by rw [← txt_length, txt_str _ hr2, eL, cut_len _ _ _ (by omega)]
  refine ⟨q, K + gN l q, rfl, eK, by omega, by omega, ?_, by omega⟩
  rw [es, txt_str _ hr2, eL, ← k3]
  conv => lhs; rw [show K + gN l q - q = (K - q) + gN l q by omega, List.take_add, List.drop_drop, show q + (K - q) = K by omega]
theorem f_real (l : List Int) (p : Int) (hr : ∀ c ∈ l, 0 ≤ c ∧ c < 256) (h : rE l p = 0) : ∃ q : Nat, p = (q : Int) ∧ rK l p = ((q + 8 : Nat) : Int) ∧ q + 8 ≤ l.length ∧ (l.drop q).take 8 = w8 (bt (rB l p)) ∧ rB l p < 18446744073709551616 := by
  have c1 : ¬ (p < 0 ∨ (l.length : Int) < p + 8) := by
    intro c
    unfold rE at h
    rw [if_pos c] at h
    omega
  have c2 : bt (rR l p) = rR l p := by
    unfold rE at h
    rw [if_neg c1] at h
    split at h
    · assumption
    · omega
  have e : rB l p = rR l p := by unfold rB; rw [if_pos h]
  refine ⟨p.toNat, by omega, by unfold rK; rw [if_pos h]; omega, by omega, ?_, by rw [e]; exact rR_lt l p hr⟩
  rw [e, c2]
  unfold rR
  rw [w8_be _ (by rw [List.length_take, List.length_drop]; omega) (fun c hc => hr c (List.mem_of_mem_drop (List.mem_of_mem_take hc)))]

set_option maxHeartbeats 2000000 in
set_option maxRecDepth 100000 in
theorem only_walk (a : Option Addr) (len cap : Nat) (l : List Int) (p : Int) (w : World) (hl : l.length = len) (hx : len ≤ maxLen) (hc : len ≤ cap) (h0 : -9223372036854775808 ≤ p) (h1 : p ≤ 9223372036854775807) (hb : Byt w a l) :
    Calls Try.prog 6 #[.slice a len cap, .int .i64 p] w fun e w' => e = .returned (.bool true) ∧ Below w.heap.size w w' := by
  unfold maxLen at hx
  by_cases h5 : 2000 < len
  · clear hl hb
    go_enter Try.func6, Try.ntmps6
    go_wp2_with fail
    refine (fixed_any _).mono ?_
    rintro e w1 ⟨rfl, hb⟩
    have B1 := Lib.hid hb
    clear hb
    go_wp2
    go_ret
    exact ⟨rfl, B1.out⟩
  · have hd : decide ((2000 : Int) < (len : Int)) = false := by simp; omega
    have G1 := Lib.hid (fun w (hb : Byt w a l) => get_any a len cap l p w hl (by omega) hc hb)
    have F1 := Lib.hid (fun h => f_get l p hb.2 h)
    have P1 := Lib.hid (fun n hn w => put_any none 0 0 [] n w rfl (by omega) hn (Byt.nil w))
    have G2 := Lib.hid (fun w (hb : Byt w a l) => getText_any a len cap l p 5000 w hl (by omega) hc (by omega) (by omega) hb)
    have F2 := Lib.hid (fun h => f_text l p 5000 hb.2 (by omega) h)
    have P3 := Lib.hid (fun s hs w => putText_any none 0 0 [] s w rfl (by omega) hs (Byt.nil w))
    have G3 := Lib.hid (fun w (hb : Byt w a l) => getReal_any a len cap l p w hl (by omega) hc h0 h1 hb)
    have F3 := Lib.hid (fun h => f_real l p hb.2 h)
    have P5 := Lib.hid (fun r hr w => putReal_any none 0 0 [] r w rfl (by omega) hr (Byt.nil w))
    generalize strOfNums (tL l p 5000) = ts at G2 F2
    generalize tK l p 5000 = tk at G2 F2
    generalize tE l p 5000 = te at G2 F2
    generalize rB l p = rb at G3 F3
    generalize rK l p = rk at G3 F3
    generalize rE l p = re at G3 F3
    have HB := Lib.hid hb
    have HL := Lib.hid hl
    have HN := Lib.hid hx
    clear hl hb hx
    generalize gN l p = gn at G1 F1
    generalize gK l p = gk at G1 F1
    generalize gE l p = ge at G1 F1
    go_enter Try.func6, Try.ntmps6
    go_wp2_with fail
    refine (G1.out _ HB.out).mono ?_
    rintro e w' ⟨rfl, rfl⟩
    go_upto_region 4 with fail
    go_cut [52] from 25 to 52 (fun v wx => v = .bool false ∧ Below w.heap.size w wx)
    case first =>
      by_cases c : ge = 0
      · obtain ⟨q, K, rfl, rfl, k1, k2, k3, k4⟩ := F1.out c
        subst c
        rw [HL.out] at k2
        obtain ⟨b, off, rfl, _⟩ := HB.out.1 0 (by rw [HL.out]; omega)
        have hcq : (cap = q) = False := by simp; omega
        have t1 : decide (len < K) = false := by simp; omega
        have t2 : decide ((q : Int) < 0) = false := by simp
        have t3 : decide (K < q) = false := by simp; omega
        have t4 : K ≤ cap := by omega
        have t5 : q ≤ K := by omega
        have P2 := Lib.hid (fun w => P1.out gn k4 w)
        have C1 := Lib.hid (fun w' (hbl : Below w.heap.size w w') => run_str w' (some ⟨b, off + q, none⟩) (K - q) (cap - q) (wrt gn) (by rw [← k3]; exact cut_len l q (K - q) (by rw [HL.out]; omega)) (by rw [← k3]; exact byt_cut (HB.out.below hbl) q (K - q) (by rw [HL.out]; omega)))
        have R1 := Lib.hid (wrt_range gn)
        clear k3 P1 F1
        generalize wrt gn = q1 at P2 C1 R1
        go_region_held (fun W => (convert 22 9 (.slice (some ⟨b, off + q, none⟩) (K - q) (cap - q))).run Try.prog W = .ok (.string (strOfNums q1)) W ∧ Below w.heap.size w W)
          (first | assumption | exact ⟨C1.out _ (Below.refl _ _).drew, (Below.refl _ _).drew⟩ | exact ⟨C1.out _ (by assumption), by assumption⟩)
          (first
            | (go_at_call 9; (with_reducible refine (P2.out _).mono ?_); rintro e w1 ⟨A', k', c', rfl, hk, ho, hbl⟩; have s1 := ho.str R1.out hk; have hbw := ((Below.refl w.heap.size w).drew).trans hbl; clear hk ho hbl))
        all_goals (go_wp2_with fail; go_meet; exact ⟨rfl, hbw⟩)
      · have hz : ((ge : Int) == 0) = false := by simp; omega
        go_quiet (fail)
        go_wp2_with fail
        go_meet
        exact ⟨rfl, below_drewN _ _ _⟩
    case rest =>
    obtain ⟨rfl, hbw⟩ := hcut
    have B1 := Lib.hid hbw
    clear hbw G1 F1
    go_wp2_with fail
    refine (G2.out _ (HB.out.below B1.out)).mono ?_
    rintro e w' ⟨rfl, rfl⟩
    have HY1 := Lib.hid (HB.out.below B1.out)
    go_upto_region 7 with fail
    go_cut [87] from 60 to 87 (fun v wx => v = .bool false ∧ Below wc.heap.size wc wx)
    case first =>
      by_cases c : te = 0
      · obtain ⟨q, K, rfl, rfl, k1, k2, k3, k4⟩ := F2.out c
        subst c
        rw [HL.out] at k2
        obtain ⟨b, off, rfl, _⟩ := HB.out.1 0 (by rw [HL.out]; omega)
        have hcq : (cap = q) = False := by simp; omega
        have t1 : decide (len < K) = false := by simp; omega
        have t2 : decide ((q : Int) < 0) = false := by simp
        have t3 : decide (K < q) = false := by simp; omega
        have t4 : K ≤ cap := by omega
        have t5 : q ≤ K := by omega
        have P2 := Lib.hid (fun w => P3.out ts (by omega) w)
        rw [List.nil_append] at P2
        have C1 := Lib.hid (fun w' (hbl : Below wc.heap.size wc w') => run_str w' (some ⟨b, off + q, none⟩) (K - q) (cap - q) (wrt ts.size ++ txt ts) (by rw [← k3]; exact cut_len l q (K - q) (by rw [HL.out]; omega)) (by rw [← k3]; exact byt_cut (HY1.out.below hbl) q (K - q) (by rw [HL.out]; omega)))
        have R1 := Lib.hid (range_app (wrt_range ts.size) (txt_range ts))
        clear k3 k4 P1 P3 P5 F2 F3 G3
        generalize wrt ts.size ++ txt ts = q1 at P2 C1 R1
        go_region_held (fun W => (convert 22 9 (.slice (some ⟨b, off + q, none⟩) (K - q) (cap - q))).run Try.prog W = .ok (.string (strOfNums q1)) W ∧ Below wc.heap.size wc W)
          (first | assumption | exact ⟨C1.out _ (Below.refl _ _).drew, (Below.refl _ _).drew⟩ | exact ⟨C1.out _ (by assumption), by assumption⟩)
          (first
            | (go_at_call 11; (with_reducible refine (P2.out _).mono ?_); rintro e w1 ⟨A', k', c', rfl, hk, ho, hbl⟩; have s1 := ho.str R1.out hk; have hbw := ((Below.refl wc.heap.size wc).drew).trans hbl; clear hk ho hbl))
        all_goals (go_wp2_with fail; go_meet; exact ⟨rfl, hbw⟩)
      · have hz : ((te : Int) == 0) = false := by simp; omega
        go_quiet (fail)
        go_wp2_with fail
        go_meet
        exact ⟨rfl, below_drewN _ _ _⟩
    case rest =>
    obtain ⟨rfl, hbw⟩ := hcut
    have B2 := Lib.hid (B1.out.trans (hbw.mono B1.out.size))
    clear hbw G2 F2 HY1
    go_wp2_with fail
    refine (G3.out _ (HB.out.below B2.out)).mono ?_
    rintro e w' ⟨rfl, rfl⟩
    have HY2 := Lib.hid (HB.out.below B2.out)
    go_upto_region 10 with fail
    go_cut [122] from 95 to 122 (fun v wx => v = .bool false ∧ Below wc.heap.size wc wx)
    case first =>
      by_cases c : re = 0
      · obtain ⟨q, rfl, k0, k2, k3, k4⟩ := F3.out c
        obtain ⟨K, hK⟩ : ∃ K : Nat, K = q + 8 := ⟨_, rfl⟩
        rw [← hK] at k0
        subst k0
        subst c
        rw [HL.out] at k2
        obtain ⟨b, off, rfl, _⟩ := HB.out.1 0 (by rw [HL.out]; omega)
        have hcq : (cap = q) = False := by simp; omega
        have t1 : decide (len < K) = false := by simp; omega
        have t2 : decide ((q : Int) < 0) = false := by simp
        have t3 : decide (K < q) = false := by simp; omega
        have t4 : K ≤ cap := by omega
        have t5 : q ≤ K := by omega
        have P2 := Lib.hid (fun w => P5.out rb k4 w)
        rw [List.nil_append] at P2
        have C1 := Lib.hid (fun w' (hbl : Below wc.heap.size wc w') => run_str w' (some ⟨b, off + q, none⟩) (K - q) (cap - q) (w8 (bt rb)) (by rw [← k3, show K - q = 8 by omega]; exact cut_len l q 8 (by rw [HL.out]; omega)) (by rw [← k3]; exact byt_cut (HY2.out.below hbl) q 8 (by rw [HL.out]; omega)))
        have R1 := Lib.hid (w8_range (bt rb))
        clear k3 k4 P1 P3 P5 F3 hK
        generalize w8 (bt rb) = q1 at P2 C1 R1
        go_region_held (fun W => (convert 22 9 (.slice (some ⟨b, off + q, none⟩) (K - q) (cap - q))).run Try.prog W = .ok (.string (strOfNums q1)) W ∧ Below wc.heap.size wc W)
          (first | assumption | exact ⟨C1.out _ (Below.refl _ _).drew, (Below.refl _ _).drew⟩ | exact ⟨C1.out _ (by assumption), by assumption⟩)
          (first
            | (go_at_call 12; (with_reducible refine (P2.out _).mono ?_); rintro e w1 ⟨A', k', c', rfl, hk, ho, hbl⟩; have s1 := ho.str R1.out hk; have hbw := ((Below.refl wc.heap.size wc).drew).trans hbl; clear hk ho hbl))
        all_goals (go_wp2_with fail; go_meet; exact ⟨rfl, hbw⟩)
      · have hz : ((re : Int) == 0) = false := by simp; omega
        go_quiet (fail)
        go_wp2_with fail
        go_meet
        exact ⟨rfl, below_drewN _ _ _⟩
    case rest =>
    obtain ⟨rfl, hbw⟩ := hcut
    have B3 := Lib.hid (B2.out.trans (hbw.mono B2.out.size))
    clear hbw G3 F3 HY2
    go_wp2_with fail
    refine (fixed_any _).mono ?_
    rintro e w1 ⟨rfl, hb⟩
    have B4 := Lib.hid (B3.out.trans (hb.mono B3.out.size))
    clear hb
    go_wp2
    go_ret
    exact ⟨rfl, B4.out⟩
end Go.Proofs.Ytclbhnmgpljboaa
