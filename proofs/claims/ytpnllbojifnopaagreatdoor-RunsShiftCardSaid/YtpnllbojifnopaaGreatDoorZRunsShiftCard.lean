/- RunsShift holds: for any pattern by its questions' values' bits, any row of events and any two shifts the statement's function returns true, and what is handed in reads as before; the tables pred.sayings and math/bits.deBruijn32tab are as the program's text lays them (tied). No other conditions. -/
import Derived.Test.YtpnllbojifnopaaGreatDoorZAuV
import Derived.Test.YtpnllbojifnopaaGreatDoorZDnHl
import Derived.Test.YtpnllbojifnopaaGreatDoorZRnV
import Derived.Test.YtpnllbojifnopaaGreatDoorTie
import Derived.Test.YtpnllbojifnopaaGreatDoorCards
import Derived.SevenTiedAt
namespace Go.Proofs.YtpnllbojifnopaaGreatDoor
open Go Go.ChangeShapes Go.WideShapes Go.ChangeAt Go.WideMaps Go.WideElems Go.RowKit
set_option maxRecDepth 100000 in
theorem rshift_lifted (os : Os) (started : os.Started) (H : Type) (enc : TypeId × Value → H) :
    ReturnsInHanded {} Tryz.checked os 10 .any (fun w args => (Rows.runsShiftSpec.pre enc Tryz.prog Tryz.f10 [] false w args ∧ laidMetH Tryz.prog LD w) ∧ sizedMet enc Tryz.prog Tryz.f10 (OpenSpec.ofChange Rows.runsShiftSpec) false w args)
      (Rows.runsShiftSpec.post enc Tryz.prog Tryz.f10 false true false false) := by
  refine returnsInHanded_of_change_and (C := Tryz.checked) (X := fun w _ => laidMetH Tryz.prog LD w) (fun _ _ _ hh h => h.of_heap hh) own started (by kernel_rfl) Tryz.func10
    (ChangeSpec.witness_shaped (enc := enc) (C := Tryz.checked) (os := os) (X := fun w _ => laidMetH Tryz.prog LD w) false (World.doorLaid Tryz.prog 400 os) #[.agg #[.slice none 0 0, .int .u64 0], .slice none 0 0, .int .u32 0, .int .u32 0] 8 rfl (World.shaped_of_RefB (by kernel_rfl) (by kernel_rfl)) (by kernel_rfl) (by kernel_rfl) (by kernel_rfl) (door_met2 os _)) ?_
  intro W base args ds gs before hval0 hW _ _ hL _
  have hval : ∀ (j : Nat) t v, Tryz.f10.params[j]? = some t → args[j]? = some v → Value.okWide Tryz.prog W .any base t v := hval0
  have hW' := hW
  obtain ⟨p, q, hA0, hV, rfl, hfz, hnd⟩ := hW
  have hA : DataW.TrodAll enc Tryz.prog W 0 (fun _ => true) true Tryz.f10.params.toList args.toList ds p := hA0
  rw [Tryz.params10] at hA hval
  obtain ⟨v0, vs0, d0, ds0, p0, q0, hargs, rfl, rfl, h0, r0⟩ := trodAll_cons hA
  obtain ⟨v1, vs1, d1, ds1, p1, q1, rfl, rfl, rfl, h1, r1⟩ := trodAll_cons r0
  obtain ⟨v2, vs2, d2, ds2, p2, q2, rfl, rfl, rfl, h2, r2⟩ := trodAll_cons r1
  obtain ⟨v3, vs3, d3, ds3, p3, q3, rfl, rfl, rfl, h3, r3⟩ := trodAll_cons r2
  obtain ⟨rfl, rfl, rfl⟩ := trodAll_nil r3
  obtain rfl : args = #[v0, v1, v2, v3] := by cases args; simp_all
  obtain ⟨rfl, rfl⟩ := trodVars_none hV
  obtain ⟨a0, n0, c0, L0, u0, rfl, hn0, hm0, hx0, hz0, hu0⟩ := traw_of (hval 0 25 v0 rfl rfl) h0
  have k0 := h0
  have lt0 : ∀ x ∈ p0, x.block < W.heap.size := by obtain ⟨m, hm⟩ := k0; exact DataW.trod_lt m _ _ _ hm
  obtain ⟨a1, len1, cap1, rfl⟩ := okWide_slice Tryz.underlying51 (hval 1 51 v1 rfl rfl)
  have k1 := h1
  have lt1 : ∀ x ∈ p1, x.block < W.heap.size := by obtain ⟨m, hm⟩ := k1; exact DataW.trod_lt m _ _ _ hm
  obtain ⟨H1, hn1, hm1, hx1⟩ := hrow_of h1
  obtain ⟨x2, rfl, rfl, rfl, w2⟩ := open_int Tryz.underlying33 (hval 2 33 v2 rfl rfl) h2
  have b2 := bounds_u32 w2
  obtain ⟨y2, rfl⟩ := Int.eq_ofNat_of_zero_le b2.1
  have hy2 : y2 < 4294967296 := by omega
  obtain ⟨x3, rfl, rfl, rfl, w3⟩ := open_int Tryz.underlying33 (hval 3 33 v3 rfl rfl) h3
  have b3 := bounds_u32 w3
  obtain ⟨y3, rfl⟩ := Int.eq_ofNat_of_zero_le b3.1
  have hy3 : y3 < 4294967296 := by omega
  clear hA0 hval0
  refine (shift_int a0 n0 c0 L0 u0 a1 len1 cap1 H1 y2 y3 hy2 hy3 W hn0 hm0 hx0 hz0 hu0.1 (by have := hu0.2; omega) (laid_tab hL) (laid_tab5 hL) hx1 hn1 hm1).mono fun e W' ⟨he, bel⟩ => ?_
  subst he
  exact ⟨_, rfl, _, _, _, [], _, [], hW', trodAll_mk1 (shut_bool Tryz.underlying4 _), (trodAll_cons_mk (Below.trod laidOut (by kernel_rfl) (of_decide_eq_true (by kernel_rfl)) k0 bel lt0) (trodAll_cons_mk (Below.trod laidOut (by kernel_rfl) (of_decide_eq_true (by kernel_rfl)) k1 bel lt1) (trodAll_cons_mk (shut_int Tryz.underlying33 w2) (trodAll_cons_mk (shut_int Tryz.underlying33 w3) trodAll_mk0)))), rfl, bel.frame _, fun h => by cases h⟩
theorem rshift_holds : Rows.RunsShiftSaid :=
  OpenClaim.holds_of_wide 10 Tryz.f10 rfl rfl rfl rfl rfl rfl rfl ⟨rfl, rfl, rfl, rfl, rfl⟩ rfl rfl rfl rfl rfl (by kernel_rfl) Tryz.func10 (by kernel_rfl)
    (of_decide_eq_true (by kernel_rfl)) (by unfold Func.isWrapper; first | (rw [if_pos (by decide +kernel)]; kernel_rfl) | (rw [if_neg (by decide +kernel)]; exact ⟨rfl, rfl⟩))
    (fun os started H enc _ => rshift_lifted os started H enc)
theorem rshift_card : Rows.RunsShiftCardSaid :=
  Claim7.holds_tied_plain_at .later [] [.data, .data] true (true, "fd676aec514b47362fe7df2f59b327f570fa4adb86a7e34c67dd65200df3a6aa") false
    rshift_holds (fun _ h => by cases h) (by kernel_rfl) (fun _ h => by cases h) runsShift_row_tie rfl ⟨rfl, rfl⟩ (by kernel_rfl) rfl
    (fun f fn hf hfn => by
      obtain rfl : f = 10 := Option.some.inj ((show Tryz.prog.funcNamed "equerry/equerrylaw15.RunsShift" = some 10 by kernel_rfl).symm.trans hf) |>.symm
      obtain rfl : fn = Tryz.f10 := (Option.some.inj (Tryz.func10.symm.trans hfn)).symm
      exact ⟨by kernel_rfl, fun j t ht => by
        rw [Tryz.params10] at ht
        have hm : t ∈ [25, 51, 33, 33] := by simpa using Array.mem_of_getElem? ht
        have hall : ([25, 51, 33, 33].all fun u => !Tryz.prog.wantsStandIn u) = true := by kernel_rfl
        exact (show Tryz.prog.wantsStandIn t = false by simpa using List.all_eq_true.1 hall t hm)⟩)
    (by kernel_rfl)
#print axioms rshift_card
end Go.Proofs.YtpnllbojifnopaaGreatDoor
