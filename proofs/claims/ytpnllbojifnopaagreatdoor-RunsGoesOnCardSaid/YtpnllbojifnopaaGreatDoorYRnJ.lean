/- The chapter's example. -/
import Derived.Test.YtpnllbojifnopaaGreatDoorYRnI
namespace Go.Proofs.YtpnllbojifnopaaGreatDoor
open Go Go.RowKit Go.Maps Pk Rl
set_option maxRecDepth 20000
def trs : Nat → List Ru
  | 0 => []
  | 1 => [⟨0, 0, 1⟩]
  | _ => [⟨0, 0, 1⟩, ⟨1, 1, 1⟩]
def ttp : Nat → Int
  | 2 => 2
  | _ => 1
structure Tw (w W : World) (d : Nat) (i : Nat) : Prop where
  f : ∃ w0 e Ps Es R, Eb w0 W d e Ps Es R ∧ Ps.map vq = [(false, 1, []), (false, 2, [])] ∧ Es.map ve = [(0, 1, false, vq qz)] ∧ e.fl = false ∧ e.next = i ∧ e.last ≤ i ∧ e.a = 1 ∧ e.b = 2 ∧ e.win = 10 ∧ (i < 3 → R = trs i)
  bel : Below w.heap.size w W
  far : w.heap.size ≤ d
theorem Tw.next {w W W' : World} {d i : Nat} (h : Tw w W d i) (hb : Below W.heap.size W W') : Tw w W' d i := by
  obtain ⟨w0, e, Ps, Es, R, h1, h2⟩ := h.f
  exact ⟨⟨w0, e, Ps, Es, R, h1.next' hb, h2⟩, below_go h.bel hb, h.far⟩
theorem lok_lt (W : World) (i : Nat) (t : Int) (hi : i < 1000) : Lok W (lt_ i t) := ⟨rfl, by show 0 ≤ 1000; omega, Vals.nil _ _, by simp, by show i < 18446744073709551616; omega⟩
theorem tw_feed {w W : World} {d i : Nat} (h : Tw w W d i) (hi : i < 3) :
    Calls Tryz.prog 28 #[.pointer (some ⟨d, 0, none⟩), lval (lt_ i (ttp i))] W fun en W' => (∃ A' c', en = .returned (.tuple #[.slice A' (if i = 2 then 2 else 0) c', .int .i64 0])) ∧ Tw w W' d (i + 1) ∧ Keep (· = d) W W' := by
  obtain ⟨w0, e, Ps, Es, R, h1, hP, hE, hf, hn, hl, ha, hb, hw, hR⟩ := h.f
  have hR := hR hi
  have e0 : fcode e (lt_ i (ttp i)) = 0 := by
    unfold fcode
    rw [if_neg (by rw [hf]; decide), if_neg (by rw [hn]; omega), if_neg]
    rw [show emay (lt_ i (ttp i)).E = true from (by decide : emay [] = true)]
    simp
    exact ⟨hl, by omega⟩
  have key : (feR Ps Es e.a e.win e.next R (lt_ i (ttp i))).length ≤ 64 ∧ (feM Ps Es e.a e.b e.win e.next R (lt_ i (ttp i))).length = (if i = 2 then 2 else 0) ∧ (i + 1 < 3 → feR Ps Es e.a e.win e.next R (lt_ i (ttp i)) = trs (i + 1)) := by
    rw [ha, hb, hw, hn, hR]
    have : i = 0 ∨ i = 1 ∨ i = 2 := by omega
    rcases this with rfl | rfl | rfl
    · have := two_fed1 hP hE
      exact ⟨by show (feR Ps Es 1 10 0 [] (lt_ 0 1)).length ≤ 64; rw [this.1]; decide, by show (feM Ps Es 1 2 10 0 [] (lt_ 0 1)).length = _; rw [this.2]; rfl, fun _ => this.1⟩
    · have := two_fed2 hP hE
      exact ⟨by show (feR Ps Es 1 10 1 [⟨0, 0, 1⟩] (lt_ 1 1)).length ≤ 64; rw [this.1]; decide, by show (feM Ps Es 1 2 10 1 [⟨0, 0, 1⟩] (lt_ 1 1)).length = _; rw [this.2]; rfl, fun _ => this.1⟩
    · have := two_fed3 hP hE
      exact ⟨by show (feR Ps Es 1 10 2 [⟨0, 0, 1⟩, ⟨1, 1, 1⟩] (lt_ 2 2)).length ≤ 64; rw [this.1]; decide, by show (feM Ps Es 1 2 10 2 [⟨0, 0, 1⟩, ⟨1, 1, 1⟩] (lt_ 2 2)).length = _; rw [this.2]; rfl, fun h => by omega⟩
  refine (feed_any w0 W d e Ps Es R (lt_ i (ttp i)) h1 (lok_lt W i _ (by omega))).mono fun en W' hh => ?_
  rcases hh with ⟨h2, _⟩ | ⟨_, h2, _⟩ | ⟨_, _, A, c, A', c', h2, h3, h4, _⟩
  · exact absurd e0 h2
  · omega
  · exact ⟨⟨A', c', by rw [h2, key.2.1]⟩, ⟨⟨w0, _, Ps, Es, _, h4, hP, hE, rfl, by show e.next + 1 = i + 1; omega, by show i ≤ i + 1; omega, ha, hb, hw, key.2.2⟩, keep_bel h.bel h.far h3, h.far⟩, h3⟩
set_option maxHeartbeats 4000000 in
theorem rfixed_any (w : World) (hT : Tab w) (hT5 : Tab5 w) : Calls Tryz.prog 25 #[] w fun e w' => e = .returned (.bool true) ∧ Below w.heap.size w w' := by
  have C0 := Lib.hid (two_any w)
  have C1 := Lib.hid (fun A W (hW : Below w.heap.size w W) (hN : Nds W A two) => new_any A 3 3 two 10 0 W (pln_two.pt rfl (by omega) (by omega) hN) (hT.below hW) (hT5.below hW))
  have HT := Lib.hid hT
  clear hT hT5
  go_enter Tryz.func25, Tryz.ntmps25
  go_wp2_with fail
  refine C0.out.mono ?_
  rintro e w2 ⟨⟨g, rfl, hN⟩, hb⟩
  have B2 := Lib.hid hb
  have K1 := Lib.hid (C1.out (some ⟨g, 0, none⟩) w2 hb hN)
  clear hb hN C0 C1
  go_wp2_with fail
  refine K1.out.mono ?_
  rintro e w3 hh
  have hcv : cov two ((10 : Nat) : Int) = ⟨0, 1, 2, [(false, 1, []), (false, 2, [])], [(0, 1, false, vq qz)]⟩ := cov_two
  rw [hcv] at hh
  rcases hh with ⟨h0, _⟩ | ⟨_, h0, _⟩ | ⟨_, _, d, Ap, kp, cp, Ae, ke, ce, Ps, Es, w0, rfl, hd, HH, hb⟩
  · exact absurd rfl h0
  · omega
  obtain ⟨hE, hC, ⟨hP, hEs⟩, hb0, hb1, hd0⟩ := HH.out
  simp only at hE hP hEs
  have hlp : kp = 2 := by rw [← hC.lp]; have := congrArg List.length hP; simpa using this
  have hle : ke = 1 := by rw [← hC.le]; have := congrArg List.length hEs; simpa using this
  have T3 : Hid (Tw w w3 d 0) := Lib.hid ⟨⟨w0, _, Ps, Es, [], ⟨hC, HT.out.below (below_go B2.out hb0), hb1, hd0, by show kp ≤ 32; omega, by show ke ≤ 64; omega, by show 1 < 4294967296; omega, by show 2 < 4294967296; omega, by show 10 < 18446744073709551616; omega, by
      obtain ⟨_, g, rfl⟩ := two_rows hP hEs
      intro x hx
      rw [List.mem_singleton] at hx
      subst hx
      exact ⟨by show 0 < 32; omega, by show 1 < 32; omega⟩, by show 0 ≤ 1099511627776; omega, by show 0 ≤ 1099511627776; omega, hE, Rus.nil _ _, rfl, by show 0 ≤ 64; omega, fun r hr => by cases hr⟩, hP, hEs, rfl, rfl, Nat.le_refl _, rfl, rfl, rfl, fun _ => rfl⟩, below_go B2.out hb, Nat.le_trans B2.out.size hd⟩
  clear K1 B2 HH hE hC hP hEs hb0 hb1 hd0 hb hcv hd HT
  go_upto_region 5 with fail
  have n4 := below_alloc w3 (.cells #[.int .u8 1, .int .u8 1, .int .u8 2] 5)
  have K4 : Hid (Tw w (w3.alloc (.cells #[.int .u8 1, .int .u8 1, .int .u8 2] 5)) d 0 ∧ (w3.alloc (.cells #[.int .u8 1, .int .u8 1, .int .u8 2] 5)).heap[w3.heap.size]? = some (.cells #[.int .u8 1, .int .u8 1, .int .u8 2] 5) ∧ w3.heap.size ≠ d) := Lib.hid ⟨T3.out.next n4, heap_alloc_new _ _, by
    obtain ⟨_, _, _, _, _, h1, _⟩ := T3.out.f
    have := h1.eb.lt
    omega⟩
  clear n4 T3
  go_upto_region 6 with fail
  generalize w3.alloc (.cells #[.int .u8 1, .int .u8 1, .int .u8 2] 5) = w4 at K4 ⊢
  generalize w3.heap.size = g3 at K4 ⊢
  go_loopw [3, 21] (fun v3 v21 W => ∃ (i : Nat), v3 = .int .i64 (if i = 3 then 2 else 0) ∧ v21 = .int .i64 (i : Int) ∧ i ≤ 3 ∧ Hid (Tw w W d i ∧ W.heap[g3]? = some (.cells #[.int .u8 1, .int .u8 1, .int .u8 2] 5) ∧ g3 ≠ d)) (fun _ v21 _ => 3 - (intOf v21).toNat)
  case atStart => exact ⟨0, rfl, rfl, by omega, Lib.hid K4.out⟩
  case round =>
    obtain ⟨i, rfl, rfl, hi, H⟩ := hrel
    have HG : Hid (g3 < wr.heap.size ∧ wr.heap[g3]? = some (.cells #[.int .u8 1, .int .u8 1, .int .u8 2] 5) ∧ g3 ≠ d) := Lib.hid ⟨(Array.getElem?_eq_some_iff.1 H.out.2.1).1, H.out.2.1, H.out.2.2⟩
    have h3 : i = 0 ∨ i = 1 ∨ i = 2 ∨ i = 3 := by omega
    rcases h3 with rfl | rfl | rfl | rfl
    · have FC := Lib.hid (tw_feed (i := 0) H.out.1 (by omega))
      have q0 : wr.cell? ⟨g3, 0, none⟩ = some (.int .u8 1) := by rw [cell_of_row _ _ _ _ _ _ H.out.2.1]; rfl
      have wi : IntKind.u64.wrap 0 = 0 := by decide
      clear H
      go_wp2_with fail
      refine FC.out.mono ?_
      rintro e W5 ⟨⟨A', c', rfl⟩, T5, hk⟩
      have K5 : Hid (Tw w W5 d 1 ∧ W5.heap[g3]? = some (.cells #[.int .u8 1, .int .u8 1, .int .u8 2] 5) ∧ g3 ≠ d) := Lib.hid ⟨T5, by rw [hk.block g3 HG.out.1 HG.out.2.2]; exact HG.out.2.1, HG.out.2.2⟩
      clear FC T5 hk q0 wi HG
      go_wp2_with fail
      exact ⟨⟨1, rfl, rfl, by omega, Lib.hid K5.out⟩, by decide⟩
    · have FC := Lib.hid (tw_feed (i := 1) H.out.1 (by omega))
      have q0 : wr.cell? ⟨g3, 1, none⟩ = some (.int .u8 1) := by rw [cell_of_row _ _ _ _ _ _ H.out.2.1]; rfl
      have wi : IntKind.u64.wrap 1 = 1 := by decide
      clear H
      go_wp2_with fail
      refine FC.out.mono ?_
      rintro e W5 ⟨⟨A', c', rfl⟩, T5, hk⟩
      have K5 : Hid (Tw w W5 d 2 ∧ W5.heap[g3]? = some (.cells #[.int .u8 1, .int .u8 1, .int .u8 2] 5) ∧ g3 ≠ d) := Lib.hid ⟨T5, by rw [hk.block g3 HG.out.1 HG.out.2.2]; exact HG.out.2.1, HG.out.2.2⟩
      clear FC T5 hk q0 wi HG
      go_wp2_with fail
      exact ⟨⟨2, rfl, rfl, by omega, Lib.hid K5.out⟩, by decide⟩
    · have FC := Lib.hid (tw_feed (i := 2) H.out.1 (by omega))
      have q0 : wr.cell? ⟨g3, 2, none⟩ = some (.int .u8 2) := by rw [cell_of_row _ _ _ _ _ _ H.out.2.1]; rfl
      have wi : IntKind.u64.wrap 2 = 2 := by decide
      clear H
      go_wp2_with fail
      refine FC.out.mono ?_
      rintro e W5 ⟨⟨A', c', rfl⟩, T5, hk⟩
      have K5 : Hid (Tw w W5 d 3 ∧ W5.heap[g3]? = some (.cells #[.int .u8 1, .int .u8 1, .int .u8 2] 5) ∧ g3 ≠ d) := Lib.hid ⟨T5, by rw [hk.block g3 HG.out.1 HG.out.2.2]; exact HG.out.2.1, HG.out.2.2⟩
      clear FC T5 hk q0 wi HG
      go_wp2_with fail
      exact ⟨⟨3, rfl, rfl, by omega, Lib.hid K5.out⟩, by decide⟩
    · have T3 := Lib.hid H.out.1
      clear H HG K4
      obtain ⟨w0, e, Ps, Es, R, h1, _, _, _, hn, _⟩ := T3.out.f
      have NC := Lib.hid (next_any d e wr h1.eb)
      rw [hn] at NC
      clear h1 hn
      go_wp2_with fail
      refine NC.out.mono ?_
      rintro en W6 ⟨rfl, hb⟩
      have B6 := Lib.hid (T3.out.next hb).bel
      clear NC T3 hb
      go_wp2_with fail
      go_ret
      exact ⟨rfl, B6.out⟩
end Go.Proofs.YtpnllbojifnopaaGreatDoor
