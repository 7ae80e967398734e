/- Moving down in a heap. -/
import Derived.Test.YtnomegopjdgbjaaDuUp
namespace Go.Proofs.Ytnomegopjdgbjaa
open Go Go.RowKit
set_option maxRecDepth 20000

theorem dn_of {n i i0 : Nat} {L : List E} (h : (i = i0 ∧ DnOk n L i0) ∨ (i0 < i ∧ Dn2 n L i)) : DnOk n L i := by
  rcases h with ⟨rfl, h⟩ | ⟨_, h⟩
  · exact h
  · exact h.dn
theorem dn_fin {n i i0 : Nat} {L : List E} (h : (i = i0 ∧ DnOk n L i0) ∨ (i0 < i ∧ Dn2 n L i)) (hc : ∀ k, 0 < k → k < n → par k = i → lt (g L k) (g L i) = false) :
    (decide (i0 < i) = true → Hp n L) ∧ (decide (i0 < i) = false → UpOk n L i0) := by
  rcases h with ⟨rfl, h⟩ | ⟨h1, h⟩
  · exact ⟨fun e => by simp at e, fun _ => dn_end h hc⟩
  · exact ⟨fun _ => dn2_end h hc, fun e => by simp at e; omega⟩
set_option maxHeartbeats 8000000 in
theorem down_any {w W : World} {d m : Nat} {v : Value} {N n : Nat} {L L1 : List E} (h : Hs w W d m v N n L L1) (i0 : Nat) (hu : DnOk n L1 i0) (hj : i0 < n) (hn : n ≤ L.length) (hlen : L.length ≤ 100000) (hN : N ≤ 100000) :
    Calls Try.prog 27 #[.iface 65 (.pointer (some ⟨d, 0, none⟩)), .int .i64 (i0 : Int), .int .i64 (n : Int)] W fun e w' => ∃ b L2, e = .returned (.bool b) ∧ Hs w w' d m v N n L L2 ∧ (b = true → Hp n L2) ∧ (b = false → UpOk n L2 i0) := by
  have HH := Lib.hid h
  have HU := Lib.hid hu
  clear h hu
  go_enter Try.func27, Try.ntmps27
  go_wp2_with fail
  go_loopw [7] (fun s wr => ∃ (i : Nat) (L2 : List E), s = .int .i64 i ∧ i < n ∧ i0 ≤ i ∧ Hid (Hs w wr d m v N n L L2 ∧ ((i = i0 ∧ DnOk n L2 i0) ∨ (i0 < i ∧ Dn2 n L2 i)))) (fun s _ => n - (intOf s).toNat)
  case atStart => exact ⟨i0, L1, rfl, hj, Nat.le_refl _, HH.out, .inl ⟨rfl, HU.out⟩⟩
  case round =>
    obtain ⟨i, L2, rfl, hi, hii, H⟩ := hrel
    have X0 := Lib.hid H.out.1
    have H3 := Lib.hid H.out.2
    clear H HH HU
    by_cases c1 : 2 * i + 1 < n
    · have t1 : (2 : Int) * (i : Int) + 1 < (n : Int) := by omega
      have e1 : ((2 * i + 1 : Nat) : Int) = 2 * (i : Int) + 1 := by omega
      have e2 : ((2 * i + 2 : Nat) : Int) = 2 * (i : Int) + 2 := by omega
      by_cases c2 : 2 * i + 2 < n
      · have t2 : (2 : Int) * (i : Int) + 2 < (n : Int) := by omega
        have C1 := Lib.hid (X0.out.less (2 * i + 2) (2 * i + 1) (by omega) (by omega))
        cases hc : lt (g L2 (2 * i + 2)) (g L2 (2 * i + 1))
        · rw [hc] at C1
          have PAR := Lib.hid (par_left i)
          have LE := Lib.hid (least_left (n := n) (fun _ => hc))
          clear hc
          cases hc2 : lt (g L2 (2 * i + 1)) (g L2 i)
          · have C2 := Lib.hid (fun W (hW : Hs w W d m v N n L L2) => hW.less (2 * i + 1) i (by omega) (by omega))
            rw [hc2] at C2
            have FIN := Lib.hid (dn_fin H3.out (kids_end hc2 LE.out))
            clear hc2 LE H3
            go_wp2_with fail
            refine (C1.out).mono ?_
            rintro e w1 ⟨rfl, h1⟩
            have X1 := Lib.hid h1
            clear h1 C1 X0
            go_wp2_with fail
            refine (C2.out _ X1.out).mono ?_
            rintro e w2 ⟨rfl, h2⟩
            have X2 := Lib.hid h2
            clear h2 C2 X1
            go_wp2_with fail
            go_ret
            exact ⟨_, L2, rfl, X2.out, FIN.out⟩
          · have C2 := Lib.hid (fun W (hW : Hs w W d m v N n L L2) => hW.less (2 * i + 1) i (by omega) (by omega))
            rw [hc2] at C2
            have C3 := Lib.hid (fun W (hW : Hs w W d m v N n L L2) => hW.swap i (2 * i + 1) hn hi (by omega) (by omega) hlen hN)
            have STEP := Lib.hid (dn_step (dn_of H3.out) (PAR.out) (by omega) (by omega) (by rw [X0.out.len]; exact hn) hc2 LE.out)
            clear hc2 LE H3
            go_wp2_with fail
            refine (C1.out).mono ?_
            rintro e w1 ⟨rfl, h1⟩
            have X1 := Lib.hid h1
            clear h1 C1 X0
            go_wp2_with fail
            refine (C2.out _ X1.out).mono ?_
            rintro e w2 ⟨rfl, h2⟩
            have X2 := Lib.hid h2
            clear h2 C2 X1
            go_wp2_with fail
            refine (C3.out _ X2.out).mono ?_
            rintro e w3 ⟨rfl, h3⟩
            have X3 := Lib.hid h3
            clear h3 C3 X2
            go_wp2_with fail
            go_roundw
            case rel => exact ⟨2 * i + 1, swp L2 i (2 * i + 1), by go_num, by omega, by omega, X3.out, .inr ⟨by omega, STEP.out⟩⟩
            case measure => simp [intOf]; omega
        · rw [hc] at C1
          have PAR := Lib.hid (par_right i)
          have LE := Lib.hid (least_right (n := n) hc)
          clear hc
          cases hc2 : lt (g L2 (2 * i + 2)) (g L2 i)
          · have C2 := Lib.hid (fun W (hW : Hs w W d m v N n L L2) => hW.less (2 * i + 2) i (by omega) (by omega))
            rw [hc2] at C2
            have FIN := Lib.hid (dn_fin H3.out (kids_end hc2 LE.out))
            clear hc2 LE H3
            go_wp2_with fail
            refine (C1.out).mono ?_
            rintro e w1 ⟨rfl, h1⟩
            have X1 := Lib.hid h1
            clear h1 C1 X0
            go_wp2_with fail
            refine (C2.out _ X1.out).mono ?_
            rintro e w2 ⟨rfl, h2⟩
            have X2 := Lib.hid h2
            clear h2 C2 X1
            go_wp2_with fail
            go_ret
            exact ⟨_, L2, rfl, X2.out, FIN.out⟩
          · have C2 := Lib.hid (fun W (hW : Hs w W d m v N n L L2) => hW.less (2 * i + 2) i (by omega) (by omega))
            rw [hc2] at C2
            have C3 := Lib.hid (fun W (hW : Hs w W d m v N n L L2) => hW.swap i (2 * i + 2) hn hi (by omega) (by omega) hlen hN)
            have STEP := Lib.hid (dn_step (dn_of H3.out) (PAR.out) (by omega) (by omega) (by rw [X0.out.len]; exact hn) hc2 LE.out)
            clear hc2 LE H3
            go_wp2_with fail
            refine (C1.out).mono ?_
            rintro e w1 ⟨rfl, h1⟩
            have X1 := Lib.hid h1
            clear h1 C1 X0
            go_wp2_with fail
            refine (C2.out _ X1.out).mono ?_
            rintro e w2 ⟨rfl, h2⟩
            have X2 := Lib.hid h2
            clear h2 C2 X1
            go_wp2_with fail
            refine (C3.out _ X2.out).mono ?_
            rintro e w3 ⟨rfl, h3⟩
            have X3 := Lib.hid h3
            clear h3 C3 X2
            go_wp2_with fail
            go_roundw
            case rel => exact ⟨2 * i + 2, swp L2 i (2 * i + 2), by go_num, by omega, by omega, X3.out, .inr ⟨by omega, STEP.out⟩⟩
            case measure => simp [intOf]; omega
      · have t2 : (n : Int) ≤ (2 : Int) * (i : Int) + 2 := by omega
        have PAR := Lib.hid (par_left i)
        have LE := Lib.hid (least_left (n := n) (L := L2) (i := i) (fun e => absurd e c2))
        cases hc2 : lt (g L2 (2 * i + 1)) (g L2 i)
        · have C2 := Lib.hid (fun W (hW : Hs w W d m v N n L L2) => hW.less (2 * i + 1) i (by omega) (by omega))
          rw [hc2] at C2
          have FIN := Lib.hid (dn_fin H3.out (kids_end hc2 LE.out))
          clear hc2 LE H3
          go_wp2_with fail
          have X1 := X0
          clear X0
          refine (C2.out _ X1.out).mono ?_
          rintro e w2 ⟨rfl, h2⟩
          have X2 := Lib.hid h2
          clear h2 C2 X1
          go_wp2_with fail
          go_ret
          exact ⟨_, L2, rfl, X2.out, FIN.out⟩
        · have C2 := Lib.hid (fun W (hW : Hs w W d m v N n L L2) => hW.less (2 * i + 1) i (by omega) (by omega))
          rw [hc2] at C2
          have C3 := Lib.hid (fun W (hW : Hs w W d m v N n L L2) => hW.swap i (2 * i + 1) hn hi (by omega) (by omega) hlen hN)
          have STEP := Lib.hid (dn_step (dn_of H3.out) (PAR.out) (by omega) (by omega) (by rw [X0.out.len]; exact hn) hc2 LE.out)
          clear hc2 LE H3
          go_wp2_with fail
          have X1 := X0
          clear X0
          refine (C2.out _ X1.out).mono ?_
          rintro e w2 ⟨rfl, h2⟩
          have X2 := Lib.hid h2
          clear h2 C2 X1
          go_wp2_with fail
          refine (C3.out _ X2.out).mono ?_
          rintro e w3 ⟨rfl, h3⟩
          have X3 := Lib.hid h3
          clear h3 C3 X2
          go_wp2_with fail
          go_roundw
          case rel => exact ⟨2 * i + 1, swp L2 i (2 * i + 1), by go_num, by omega, by omega, X3.out, .inr ⟨by omega, STEP.out⟩⟩
          case measure => simp [intOf]; omega
    · have t1 : (n : Int) ≤ (2 : Int) * (i : Int) + 1 := by omega
      have FIN := Lib.hid (dn_fin H3.out (kids_none (by omega)))
      clear H3
      go_wp2_with fail
      go_ret
      exact ⟨_, L2, rfl, X0.out, FIN.out⟩
end Go.Proofs.Ytnomegopjdgbjaa
