/- The first steps of opening. -/
import Derived.Test.YtcodihgjfhoepaaGreatDoorSgE
namespace Go.Proofs.YtcodihgjfhoepaaGreatDoor
open Go Go.RowKit Crc Pk
set_option maxRecDepth 20000

structure Qo (L : Lg) : Prop where
  nums : ∀ n ∈ L.st, n ≤ 1000
  len : L.st.length ≤ 1002
  recs : ∀ r ∈ L.rc, Rng r ∧ r.length ≤ 65536
  many : L.rc.length ≤ 50000
theorem Qo.go {L : Lg} (h : Qo L) (b : Bool) : Qo (L.go b) := ⟨h.nums, h.len, h.recs, h.many⟩
section
variable {B : Nat} {w w' : World} {d m : Nat} {V V' : ByteArray → Value} {S T : St} {g : Nat} {nm : ByteArray} {most : Nat} {sv rv sv' rv' : Value} {P P' : Nat → Prop} {L L' : Lg}
set_option maxHeartbeats 1000000 in
theorem draft_any (h : Lo Qo B w d m V S g nm most sv rv P L) : Calls Tryz.prog 41 #[ptr g] w (LAo Qo B w d m V S g nm most sv rv P (drp S (fT nm)) (delS S (fT nm)) L) := by
  have F := Lib.hid (file_any h ⟨#[116]⟩ (by decide))
  have D := Lib.hid (drop_any h (fT nm) (fT_small h.cf.nm))
  obtain ⟨n, hn⟩ : ∃ n, drp S (fT nm) = n := ⟨_, rfl⟩
  rw [hn] at D ⊢
  clear h hn
  go_enter Tryz.func41, Tryz.ntmps41
  go_wp2_with fail
  refine F.out.mono ?_
  rintro e w1 ⟨rfl, rfl⟩
  go_wp2_with fail
  refine D.out.mono ?_
  rintro e w2 ⟨rfl, ha⟩
  have HA := Lib.hid ha
  clear ha D F
  go_wp2_with fail
  go_ret
  exact ⟨rfl, HA.out⟩
/- what a step of opening leaves -/
def FO (B : Nat) (w : World) (d m : Nat) (V : ByteArray → Value) (S : St) (g : Nat) (nm : ByteArray) (most : Nat) (rv : Value) (P : Nat → Prop) (n : Nat) (T : St) (L1 : Lg) (e : Ending) (w' : World) : Prop :=
  e = .returned (.int .i64 (n : Int)) ∧ ∃ V' sv' rv' P' L', Lo Qo B w' d m V' T g nm most sv' rv' P' L' ∧ Keep (Mu d m V S.fs g rv) w w' ∧ (∀ x, Mu d m V' T.fs g rv' x → Mu d m V S.fs g rv x ∨ w.heap.size ≤ x) ∧ (∀ x, P' x → P x ∨ w.heap.size ≤ x) ∧ (n = 0 → L' = L1)
theorem Lo.starts {Q : Lg → Prop} (h : Lo Q B w d m V S g nm most sv rv P L) (s5 : Value) (l : List Nat) (hst : OwnU w s5 l) (hq : Q ⟨l, L.rc, L.sz, L.sf, L.gn⟩) :
    Lo Q B (w.setCell ⟨g, 3, none⟩ s5) d m V S g nm most s5 rv P ⟨l, L.rc, L.sz, L.sf, L.gn⟩ := by
  have hb1 := block_set w g 3 s5 _ _ _ h.blk
  exact h.turn (Keep.set (fun x => x = g) _ ⟨g, 3, none⟩ _ rfl) (by rw [hb1]; rfl) hst h.rc h.far hq (fun x e => h.from_ x (.inr (.inr e)))
theorem OwnU.one (w : World) (n : Nat) : OwnU (w.alloc (.cells #[.int .u64 (n : Int)] 30)) (.slice (some ⟨w.heap.size, 0, none⟩) 1 1) [n] := by
  refine ⟨by simp, .inr ⟨w.heap.size, 1, #[.int .u64 (n : Int)], rfl, Nat.zero_le _, ?_, by simp, by unfold maxLen; omega, rfl, by simp [uv]⟩⟩
  show (w.heap.push _)[w.heap.size]? = _
  simp
set_option maxHeartbeats 4000000 in
theorem find_new (h : Lo Qo B w d m V S g nm most sv rv P L) (hu : S.up = true) (hf : fnd S.fs (fM nm) = none) :
    Calls Tryz.prog 42 #[ptr g] w (FO B w d m V S g nm most rv P (tel nm [0] S).1 (tel nm [0] S).2 ⟨[0], L.rc, L.sz, L.sf, L.gn⟩) := by
  have c0 := h.c0
  have HH := Lib.hid h
  have F := Lib.hid (fun W (hb : Below w.heap.size w W) => file_any (h.below hb) ⟨#[109]⟩ (by decide))
  have R := Lib.hid (fun W (hb : Below w.heap.size w W) => read_none (h.below hb).dk (fM nm) (big_of (fM_small h.cf.nm) (by omega)) hu hf)
  have q1 : Qo ⟨[0], L.rc, L.sz, L.sf, L.gn⟩ := ⟨fun n hn => by rw [List.mem_singleton.1 hn]; omega, by simp, h.wf.recs, h.wf.many⟩
  have Q1 := Lib.hid q1
  obtain ⟨t, hT⟩ : ∃ t, tel nm [0] S = t := ⟨_, rfl⟩
  have TT := Lib.hid hT
  rw [hT]
  clear h hu hf q1 hT
  go_enter Tryz.func42, Tryz.ntmps42
  go_wp2_with fail
  go_cut [3, 4] from 8 to 16 (fun s v w' => s = .slice none 0 0 ∧ v = .int .i64 8 ∧ Hid (Below w.heap.size w w'))
  case first =>
    go_region_law (first
      | (go_simp; go_at_call 64; refine (F.out _ (below_drewN _ _ _)).mono ?_; rintro e wq ⟨rfl, rfl⟩)
      | (go_simp; go_at_call 65; refine (R.out _ (below_drewN _ _ _)).mono ?_; rintro e w2 ⟨rfl, hb⟩; have RES := Lib.hid ((below_drewN w.heap.size w 1).trans hb); clear hb))
    all_goals
      go_wp2_with fail
      go_meet
      exact ⟨rfl, rfl, RES⟩
  case rest =>
  obtain ⟨rfl, rfl, HC⟩ := hcut
  obtain ⟨w2, hw2⟩ : ∃ w2, w2 = wc := ⟨_, rfl⟩
  subst hw2
  have B2 := Lib.hid (show Below w.heap.size w (w2.alloc (.cells #[.int .u64 0] 30)) from HC.out.trans ((below_alloc w2 _).mono HC.out.size))
  have H2 := Lib.hid (HH.out.below B2.out)
  have c3 := H2.out.c3
  have f3 := H2.out.free 3
  have gl := H2.out.glt
  have O2 := Lib.hid (show OwnU (w2.alloc (.cells #[.int .u64 0] 30)) (.slice (some ⟨w2.heap.size, 0, none⟩) 1 1) [0] from OwnU.one w2 0)
  have H3 := Lib.hid (H2.out.starts (.slice (some ⟨w2.heap.size, 0, none⟩) 1 1) [0] O2.out Q1.out)
  have K3 : Hid (Keep (Mu d m V S.fs g rv) w ((w2.alloc (.cells #[.int .u64 0] 30)).setCell ⟨g, 3, none⟩ (.slice (some ⟨w2.heap.size, 0, none⟩) 1 1))) := Lib.hid ((Keep.of_below _ B2.out).tr (Keep.set _ _ ⟨g, 3, none⟩ _ (.inr (.inl rfl))))
  have TE := Lib.hid (tell_o H3.out Q1.out.go (some ⟨w2.heap.size, 0, none⟩) 1 1 [0] rfl (by omega) H3.out.st.us (Nat.le_refl _) (by simp))
  rw [TT.out] at TE
  clear HC R F
  go_wp2_with fail
  refine TE.out.mono ?_
  rintro e w5 ⟨b, hb, rfl, V5, h5, k5, m5⟩
  have HB := Lib.hid hb
  have H5 := Lib.hid h5
  have K5 : Hid (Keep (Mu d m V S.fs g rv) w w5) := Lib.hid (K3.out.tr k5)
  have M5 : Hid (∀ x, Mu d m V5 t.2.fs g rv x → Mu d m V S.fs g rv x ∨ w.heap.size ≤ x) := Lib.hid (fun x hx => (m5 x hx).imp id (fun e => Nat.le_trans K3.out.size e))
  clear hb h5 k5 m5 TE
  go_wp2_with fail
  go_ret
  refine ⟨rfl, V5, _, rv, P, _, H5.out, K5.out, M5.out, fun x hx => .inl hx, fun h0 => ?_⟩
  rcases HB.out with h | h
  · rw [h]; rfl
  · rw [h0] at h; exact absurd h (by decide)
set_option maxHeartbeats 4000000 in
theorem find_old (h : Lo Qo B w d m V S g nm most sv rv P L) (hu : S.up = true) (f : Fl) (hf : fnd S.fs (fM nm) = some f) (l : List Nat) (hb : f.bs = fr (man l)) (h1 : 1 ≤ l.length) (hup : l.Pairwise (· < ·)) (hn : ∀ x ∈ l, x ≤ 1000) :
    Calls Tryz.prog 42 #[ptr g] w (FO B w d m V S g nm most rv P 0 S ⟨l, L.rc, L.sz, L.sf, L.gn⟩) := by
  have c0 := h.c0
  have HH := Lib.hid h
  have h2 := up_len hup hn
  have hrm := h.dk.ok.room
  have hus := h.dk.ok.used
  have hml := usd_mem (fnd_mem hf).1
  rw [hb] at hml
  have F := Lib.hid (fun W (hb : Below w.heap.size w W) => file_any (h.below hb) ⟨#[109]⟩ (by decide))
  have R := Lib.hid (fun W (hb : Below w.heap.size w W) => read_some (h.below hb).dk (fM nm) (big_of (fM_small h.cf.nm) (by omega)) hu f hf)
  rw [hb] at R
  obtain ⟨n, hnn⟩ : ∃ n, (fr (man l)).length = n := ⟨_, rfl⟩
  rw [hnn] at R
  have q1 : Qo ⟨l, L.rc, L.sz, L.sf, L.gn⟩ := ⟨hn, by show l.length ≤ 1002; omega, h.wf.recs, h.wf.many⟩
  have Q1 := Lib.hid q1
  have TO := Lib.hid (fun (W : World) (hbw : Below w.heap.size w W) (A : Option Addr) (c : Nat) (hby : Byt W A (fr (man l))) (hc : n ≤ c) (hz : A = none → c = 0) => told_any W (h.tb.up hbw) A n c l hnn hby hc hz h1 (by omega) hup (fun x hx => by have := hn x hx; omega))
  have RG := Lib.hid (fr_rng (man l) (man_rng l))
  have NN := Lib.hid hnn
  clear h hu hf q1 hb h1 hup hn h2 hnn hrm hus hml
  go_enter Tryz.func42, Tryz.ntmps42
  go_wp2_with fail
  go_cut [3, 4] from 8 to 16 (fun s v w' => v = .int .i64 0 ∧ ∃ A c, s = .slice A n c ∧ Hid (Own w' w.heap.size (.slice A n c) (fr (man l)) ∧ Below w.heap.size w w'))
  case first =>
    go_region_law (first
      | (go_simp; go_at_call 64; refine (F.out _ (below_drewN _ _ _)).mono ?_; rintro e wq ⟨rfl, rfl⟩)
      | (go_simp; go_at_call 65; refine (R.out _ (below_drewN _ _ _)).mono ?_; rintro e w2 ⟨A2, c2, rfl, o2, hb⟩; have RES := Lib.hid (And.intro o2 ((below_drewN w.heap.size w 1).trans hb)); clear o2 hb))
    all_goals
      go_wp2_with fail
      go_meet
      exact ⟨rfl, A2, c2, rfl, RES⟩
  case rest =>
  obtain ⟨rfl, A2, c2, rfl, HC⟩ := hcut
  obtain ⟨w2, hw2⟩ : ∃ w2, w2 = wc := ⟨_, rfl⟩
  subst hw2
  have B2 := Lib.hid HC.out.2
  have T2 := Lib.hid (TO.out w2 B2.out A2 c2 (HC.out.1.byt RG.out) (Own.le HC.out.1 NN.out) (fun e => by have := HC.out.1; rw [e] at this; exact Own.capz this rfl))
  clear HC R F TO
  go_wp2_with fail
  refine T2.out.mono ?_
  rintro e w3 ⟨v, rfl, o3, n3, b3⟩
  have B3 := Lib.hid (B2.out.trans (b3.mono B2.out.size))
  have H3 := Lib.hid (HH.out.below B3.out)
  have O3 := Lib.hid o3
  obtain ⟨A3, c3', hv, z1, z2, z3, z4⟩ := o3.form
  clear z1 z2 z3 z4
  have c3 := H3.out.c3
  have f3 := H3.out.free 3
  have gl := H3.out.glt
  have H4 := Lib.hid (H3.out.starts v l O3.out Q1.out)
  have K4 : Hid (Keep (Mu d m V S.fs g rv) w (w3.setCell ⟨g, 3, none⟩ v)) := Lib.hid ((Keep.of_below _ B3.out).tr (Keep.set _ _ ⟨g, 3, none⟩ _ (.inr (.inl rfl))))
  subst hv
  clear n3 b3 o3 T2
  go_wp2_with fail
  go_ret
  exact ⟨rfl, V, _, rv, P, _, H4.out, K4.out, fun x hx => .inl hx, fun x hx => .inl hx, fun _ => rfl⟩
end
end Go.Proofs.YtcodihgjfhoepaaGreatDoor
