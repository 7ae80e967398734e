/- The heap's Fix, Push and Remove. -/
import Derived.Test.YtnomegopjdgbjaaDuDown
namespace Go.Proofs.Ytnomegopjdgbjaa
open Go Go.RowKit
set_option maxRecDepth 20000

abbrev ptr (d : Nat) : Value := .pointer (some ⟨d, 0, none⟩)
abbrev ipt (d : Nat) : Value := .iface 65 (.pointer (some ⟨d, 0, none⟩))
abbrev agg (e : E) : Value := .agg #[.int .u64 (e.1 : Int), .int .u64 (e.2 : Int)]
set_option maxHeartbeats 4000000 in
theorem fix_any {w : World} {d m : Nat} {v : Value} {N : Nat} {L : List E} {M : Nat → Option Nat} (h : Du w d m v L N M) (hp : Pos M L) (i : Nat) (hu : DnOk L.length L i) (hi : i < L.length) (hlen : L.length ≤ 100000) (hN : N ≤ 100000) :
    Calls Try.prog 24 #[ipt d, .int .i64 (i : Int)] w fun e w' => e = .returned (.tuple #[]) ∧ ∃ L2, Hs w w' d m v N L.length L L2 ∧ Hp L.length L2 := by
  have H0 := Lib.hid (Hs.refl h hp L.length)
  have C1 := Lib.hid H0.out.klen
  have C2 := Lib.hid (down_any H0.out i hu hi (Nat.le_refl _) hlen hN)
  clear h hp hu H0
  go_enter Try.func24, Try.ntmps24
  go_wp2_with fail
  refine C1.out.mono ?_
  rintro e w1 ⟨rfl, rfl⟩
  clear C1
  go_wp2_with fail
  refine C2.out.mono ?_
  rintro e w2 ⟨b, L2, rfl, h2, h3, h4⟩
  have H2 := Lib.hid h2
  clear h2 C2
  cases b
  · have C3 := Lib.hid (up_any H2.out i (h4 rfl) hi (Nat.le_refl _) hlen hN)
    clear h3 h4
    go_wp2_with fail
    refine C3.out.mono ?_
    rintro e w3 ⟨rfl, L3, h5, h6⟩
    have H5 := Lib.hid h5
    have H6 := Lib.hid h6
    clear h5 h6 C3
    go_wp2_with fail
    go_end0
    exact ⟨rfl, L3, H5.out, H6.out⟩
  · have H3 := Lib.hid (h3 rfl)
    clear h3 h4
    go_wp2_with fail
    go_end0
    exact ⟨rfl, L2, H2.out, H3.out⟩
set_option maxHeartbeats 4000000 in
theorem hpush_any {w : World} {d m : Nat} {v : Value} {N : Nat} {L : List E} {M : Nat → Option Nat} (h : Du w d m v L N M) (hp : Pos M L) (k a : Nat) (hk : k < 18446744073709551616) (ha : a < 18446744073709551616) (hM : M k = none) (hh : Hp L.length L) (hlen : L.length ≤ 90000) (hN : N ≤ 90000) :
    Calls Try.prog 25 #[ipt d, .iface 61 (.agg #[.int .u64 (k : Int), .int .u64 (a : Int)])] w fun e w' => e = .returned (.tuple #[]) ∧
      ∃ v' L2 M2, Du w' d m v' L2 (N + 1) M2 ∧ Pos M2 L2 ∧ L2.Perm (L ++ [(k, a)]) ∧ Hp L2.length L2 ∧ Keep (Fp d m v) w w' ∧ (∀ x, v'.ownBlock = some x → v.ownBlock = some x ∨ w.heap.size ≤ x) := by
  have C1 := Lib.hid (push_any h k a hk ha hM (by omega) (by omega))
  have HP := Lib.hid (hp.push (k, a) hM)
  have HU := Lib.hid (app_up (k, a) hh)
  clear h hp hM hh
  have el : (L ++ [(k, a)]).length = L.length + 1 := by simp
  have EL := Lib.hid el
  clear el
  go_enter Try.func25, Try.ntmps25
  go_wp2_with fail
  refine C1.out.mono ?_
  rintro e w1 ⟨rfl, v', h1, h2, h3⟩
  have H0 := Lib.hid (Hs.refl h1 HP.out (L.length + 1))
  have K1 := Lib.hid h2
  have V1 := Lib.hid h3
  have C2 := Lib.hid H0.out.klen
  rw [EL.out] at C2
  have C3 := Lib.hid (up_any H0.out L.length HU.out (by omega) (by rw [EL.out]; omega) (by rw [EL.out]; omega) (by omega))
  clear h1 h2 h3 C1 H0 HU HP
  generalize L.length = n at *
  have e1 : ((n + 1 : Nat) : Int) = (n : Int) + 1 := by omega
  go_wp2_with fail
  refine C2.out.mono ?_
  rintro e w2 ⟨rfl, rfl⟩
  clear C2
  go_wp2_with fail
  refine C3.out.mono ?_
  rintro e w3 ⟨rfl, L2, h4, h5⟩
  have H4 := Lib.hid h4
  have H5 := Lib.hid h5
  clear h4 h5 C3
  go_wp2_with fail
  go_end0
  obtain ⟨M2, a1, a2⟩ := H4.out.du
  refine ⟨rfl, v', L2, M2, a1, a2, H4.out.perm, by rw [H4.out.len, EL.out]; exact H5.out, K1.out.trans H4.out.keep (fun x hx e => ?_), V1.out⟩
  rcases e with e | e | e
  · exact .inl e
  · exact .inr (.inl e)
  · rcases V1.out x e with c | c
    · exact .inr (.inr c)
    · omega
/- what is popped behind a way through the heap -/
theorem popped {w W : World} {d m : Nat} {v : Value} {N n : Nat} {L L1 L2 : List E} (h : Hs w W d m v N n L1 L2) (hh : Hp n L2) (hl : L1.length = n + 1) (hn : n ≤ 100000) (hp : L1.Perm L) {w0 : World} (hk : Keep (Fp d m v) w0 w) :
    Calls Try.prog 46 #[ptr d] W fun e w' => e = .returned (.iface 61 (agg (g L1 n))) ∧
      ∃ v' L3 M3, Du w' d m v' L3 N M3 ∧ Pos M3 (L3 ++ [g L1 n]) ∧ (L3 ++ [g L1 n]).Perm L ∧ Hp L3.length L3 ∧ Keep (Fp d m v) w0 w' ∧ v'.ownBlock = v.ownBlock := by
  obtain ⟨M, h1, h2⟩ := h.du
  have hl2 : L2.length = n + 1 := by rw [h.len, hl]
  have hg : g L2 n = g L1 n := h.beyond n (Nat.le_refl _)
  have hs := split_last hl2
  rw [hg] at hs
  refine (pop_any h1 n hl2 hn).mono ?_
  rintro e w' ⟨rfl, v', a1, a2, a3⟩
  rw [hg]
  refine ⟨rfl, v', L2.take n, M, a1, by rw [← hs]; exact h2, by rw [← hs]; exact h.perm.trans hp, hh.take (by omega), (hk.tr h.keep).tr a2, a3⟩
set_option maxHeartbeats 4000000 in
theorem hremove_any {w : World} {d m : Nat} {v : Value} {N : Nat} {L : List E} {M : Nat → Option Nat} (h : Du w d m v L N M) (hp : Pos M L) (i n : Nat) (hl : L.length = n + 1) (hi : i ≤ n) (hh : Hp L.length L) (hlen : n ≤ 90000) (hN : N ≤ 90000) :
    Calls Try.prog 26 #[ipt d, .int .i64 (i : Int)] w fun e w' => e = .returned (.iface 61 (agg (g L i))) ∧
      ∃ v' L3 M3, Du w' d m v' L3 N M3 ∧ Pos M3 (L3 ++ [g L i]) ∧ (L3 ++ [g L i]).Perm L ∧ Hp L3.length L3 ∧ Keep (Fp d m v) w w' ∧ v'.ownBlock = v.ownBlock := by
  have C1 := Lib.hid (klen_any h)
  rw [hl] at C1 hh
  have e1 : ((n + 1 : Nat) : Int) = (n : Int) + 1 := by omega
  by_cases c : i = n
  · subst c
    have C2 := Lib.hid (popped (Hs.refl h hp i) (hh.mono (by omega)) hl (by omega) (List.Perm.refl _) (Keep.refl _ _))
    have HL := Lib.hid hl
    clear h hp hh hl
    generalize g L i = x at *
    go_enter Try.func26, Try.ntmps26
    go_wp2_with fail
    refine C1.out.mono ?_
    rintro e w1 ⟨rfl, rfl⟩
    clear C1
    go_wp2_with fail
    refine C2.out.mono ?_
    rintro e w2 ⟨rfl, h2⟩
    have H2 := Lib.hid h2
    clear h2 C2
    go_wp2_with fail
    go_ret
    exact ⟨rfl, H2.out⟩
  · have hi' : i < n := by omega
    have hne : ¬ ((n : Int) = (i : Int)) := by omega
    have C2 := Lib.hid ((Hs.refl h hp (n + 1)).swap i n (by omega) (by omega) (by omega) c (by omega) (by omega))
    have HD := Lib.hid (swp_dn hh hi' (by omega))
    have hsl : (swp L i n).length = n + 1 := by rw [swp_len, hl]
    have hsg : g (swp L i n) n = g L i := by rw [g_swp L i n (by omega) (by omega), if_pos rfl]
    have HSP := Lib.hid (swp_perm L i n (by omega) (by omega))
    have HL := Lib.hid hl
    have HSL := Lib.hid hsl
    have HSG := Lib.hid hsg
    clear h hp hh hl hsl hsg c
    generalize swp L i n = L1 at *
    generalize g L i = x at *
    go_enter Try.func26, Try.ntmps26
    go_wp2_with fail
    refine C1.out.mono ?_
    rintro e w1 ⟨rfl, rfl⟩
    clear C1
    go_wp2_with fail
    refine C2.out.mono ?_
    rintro e w2 ⟨rfl, h2⟩
    obtain ⟨M1, b1, b2⟩ := h2.du
    have K2 := Lib.hid h2.keep
    have H3 := Lib.hid (Hs.refl b1 b2 n)
    have C3 := Lib.hid (down_any H3.out i HD.out hi' (by rw [HSL.out]; omega) (by rw [HSL.out]; omega) (by omega))
    clear h2 b1 b2 C2 H3 HD
    go_wp2_with fail
    refine C3.out.mono ?_
    rintro e w3 ⟨b, L2, rfl, h3, h4, h5⟩
    cases b
    · have C4 := Lib.hid (up_any h3 i (h5 rfl) hi' (by rw [HSL.out]; omega) (by rw [HSL.out]; omega) (by omega))
      clear h3 h4 h5 C3
      go_wp2_with fail
      refine C4.out.mono ?_
      rintro e w4 ⟨rfl, L3, h6, h7⟩
      have C5 := Lib.hid (popped h6 h7 HSL.out (by omega) HSP.out K2.out)
      rw [HSG.out] at C5
      clear h6 h7 C4
      go_wp2_with fail
      refine C5.out.mono ?_
      rintro e w5 ⟨rfl, h8⟩
      have H8 := Lib.hid h8
      clear h8 C5
      go_wp2_with fail
      go_ret
      exact ⟨rfl, H8.out⟩
    · have C5 := Lib.hid (popped h3 (h4 rfl) HSL.out (by omega) HSP.out K2.out)
      rw [HSG.out] at C5
      clear h3 h4 h5 C3
      go_wp2_with fail
      refine C5.out.mono ?_
      rintro e w5 ⟨rfl, h8⟩
      have H8 := Lib.hid h8
      clear h8 C5
      go_wp2_with fail
      go_ret
      exact ⟨rfl, H8.out⟩
end Go.Proofs.Ytnomegopjdgbjaa
