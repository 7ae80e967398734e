/- The search's look: where the pattern of a node happens from a place. -/
import Derived.Test.YtccjflioaajgiaaGreatDoorMN
import Derived.Deep.DeepCutAuto
import Derived.Deep.RegionHeld3
import Derived.BigRegion
namespace Go.Proofs.YtccjflioaajgiaaGreatDoor
open Go Go.RowKit Go.Maps Pk Rl
set_option maxRecDepth 20000

theorem spl_count {l : List Nd} {ps : List (List Nd)} (h : spl l = some ps) : ps.length ≤ l.length := by
  generalize hk : l.length = k
  induction k using Nat.strongRecOn generalizing l ps with
  | _ k ih =>
    by_cases hl : l = []
    · subst hl; rw [spl_nil] at h; injection h with h; subst h; simp
    · rw [spl_cons l hl] at h
      by_cases hf : frn l = []
      · rw [if_pos hf] at h; cases h
      · rw [if_neg hf] at h
        obtain ⟨qs, hq, rfl⟩ := Option.map_eq_some_iff.1 h
        have hlt := drop_lt l hl hf
        have := ih _ (by omega) hq rfl
        rw [List.length_cons]
        omega
theorem pts_count (l : List Nd) : (pts l).length ≤ l.length := by
  unfold pts
  rcases hs : spl (frn l).tail with _ | ps
  · simp
  · have h1 := spl_count hs
    have h2 := frn_len l
    rw [List.length_tail] at h1
    show ps.length ≤ _
    omega
/- what the Rep's region loads -/
abbrev Kj (S : Sea) (w2 W : World) (h : Nat) (k t1 t2 sz : Int) (x1 y x2 : Bool) (a1 a2 : Option Addr) (n1 c1 n2 c2 LO H : Nat) : Prop := W.cell? ⟨h, 0, none⟩ = some (.int .u8 k) ∧ W.cell? ⟨h, 1, none⟩ = some (.bool x1) ∧ W.cell? ⟨h, 2, none⟩ = some (.int .u8 t1) ∧ W.cell? ⟨h, 3, none⟩ = some (.slice a1 n1 c1) ∧ W.cell? ⟨h, 4, none⟩ = some (.bool y) ∧ W.cell? ⟨h, 5, none⟩ = some (.bool x2) ∧ W.cell? ⟨h, 6, none⟩ = some (.int .u8 t2) ∧ W.cell? ⟨h, 7, none⟩ = some (.slice a2 n2 c2) ∧ W.cell? ⟨h, 8, none⟩ = some (.int .u8 (LO : Int)) ∧ W.cell? ⟨h, 9, none⟩ = some (.int .u8 (H : Int)) ∧ W.cell? ⟨h, 10, none⟩ = some (.int .i64 sz) ∧ Hid (Sgo S w2 W)
theorem kj_go {S : Sea} {w2 W W' : World} {h : Nat} {k t1 t2 sz : Int} {x1 y x2 : Bool} {a1 a2 : Option Addr} {n1 c1 n2 c2 LO H : Nat} (g : Sgo S W W') (K : Kj S w2 W h k t1 t2 sz x1 y x2 a1 a2 n1 c1 n2 c2 LO H) : Kj S w2 W' h k t1 t2 sz x1 y x2 a1 a2 n1 c1 n2 c2 LO H := by
  obtain ⟨h0, h1, h2, h3, h4, h5, h6, h7, h8, h9, h10, hs⟩ := K
  have k := g.ck hs.out.sch.is
  exact ⟨k _ _ _ h0, k _ _ _ h1, k _ _ _ h2, k _ _ _ h3, k _ _ _ h4, k _ _ _ h5, k _ _ _ h6, k _ _ _ h7, k _ _ _ h8, k _ _ _ h9, k _ _ _ h10, Lib.hid (hs.out.trans g)⟩
theorem kj_below {S : Sea} {w2 W W' : World} {h : Nat} {k t1 t2 sz : Int} {x1 y x2 : Bool} {a1 a2 : Option Addr} {n1 c1 n2 c2 LO H : Nat} (g : Below W.heap.size W W') (K : Kj S w2 W h k t1 t2 sz x1 y x2 a1 a2 n1 c1 n2 c2 LO H) : Kj S w2 W' h k t1 t2 sz x1 y x2 a1 a2 n1 c1 n2 c2 LO H :=
  kj_go ((Sgo.refl K.2.2.2.2.2.2.2.2.2.2.2.out.sch).below g) K
/- what a One's region loads -/
abbrev Kq (wr W : World) (h s rb ro rN rC a : Nat) (x1 : Bool) (t1 : Int) (a1 : Option Addr) (n1 c1 : Nat) (et : Int) (ea : Option Addr) (en ec : Nat) : Prop :=
  W.cell? ⟨h, 1, none⟩ = some (.bool x1) ∧ W.cell? ⟨h, 2, none⟩ = some (.int .u8 t1) ∧ W.cell? ⟨h, 3, none⟩ = some (.slice a1 n1 c1) ∧ W.cell? ⟨s, 2, none⟩ = some (.slice (some ⟨rb, ro, none⟩) rN rC) ∧
  W.cell? ⟨rb, ro + a * 5 + 3, none⟩ = some (.int .u8 et) ∧ W.cell? ⟨rb, ro + a * 5 + 4, none⟩ = some (.slice ea en ec) ∧ Hid (Below wr.heap.size wr W)
theorem kq_next {wr W W' : World} {h s rb ro rN rC a : Nat} {x1 : Bool} {t1 : Int} {a1 : Option Addr} {n1 c1 : Nat} {et : Int} {ea : Option Addr} {en ec : Nat} (hb : Below W.heap.size W W') (K : Kq wr W h s rb ro rN rC a x1 t1 a1 n1 c1 et ea en ec) : Kq wr W' h s rb ro rN rC a x1 t1 a1 n1 c1 et ea en ec := by
  have k := Ck.of_below hb
  obtain ⟨h2, h3, h4, h5, h6, h7, h8⟩ := K
  exact ⟨k _ _ _ h2, k _ _ _ h3, k _ _ _ h4, k _ _ _ h5, k _ _ _ h6, k _ _ _ h7, Lib.hid (h8.out.trans (hb.mono h8.out.size))⟩
set_option maxHeartbeats 8000000 in
theorem look_any (S : Sea) (n i : Nat) (w : World) (hS : Sch S w) (hn : n < S.L.length) (hi : i < S.R.length) (IH : Hid (∀ p ∈ pos S.L n, ∀ b, b < S.R.length → Ih S p b)) :
    Calls Tryz.prog 51 #[.pointer (some ⟨S.s, 0, none⟩), .int .i64 (n : Int), .int .i64 (i : Int)] w fun e w' => (∃ v, e = .returned v ∧ Sl w' v (S.en n i)) ∧ Sgo S w w' := by
  obtain ⟨b, off, eA, hat, hnok⟩ := hS.st.node n hn
  obtain ⟨pb, po, u, eP, hcp, A9, c9, rfl, h9, i9⟩ := hS.st.part n hn
  have g0 := hS.st.c0
  have g1 := hS.st.c1
  rw [eA] at g0
  rw [eP] at g1
  have HS := Lib.hid hS
  have HK := Lib.hid hnok
  have HP := Lib.hid (show Sl w (.slice A9 (pos S.L n).length c9) (pos S.L n) from ⟨A9, c9, rfl, h9, i9⟩)
  have EN := Lib.hid (S.en_eq hS.st.few n i hn)
  have hfew := hS.st.few
  generalize S.L.getD n nz = nd at hat HK EN
  clear hS hnok h9 i9
  obtain ⟨H, hH⟩ : ∃ H : Nat, nd.hi = (H : Int) := ⟨nd.hi.toNat, by have := HK.out.h0; omega⟩
  obtain ⟨LO, hLO⟩ : ∃ LO : Nat, nd.lo = (LO : Int) := ⟨nd.lo.toNat, by have := HK.out.l0; omega⟩
  have hH2 : H < 256 := by have := HK.out.h1; omega
  have hLO2 : LO < 256 := by have := HK.out.l1; omega
  obtain ⟨kk, ⟨x1, t1, a1, n1, c1, L1⟩, y, ⟨x2, t2, a2, n2, c2, L2⟩, lo, hi', sz⟩ := nd
  simp only at hH hLO
  subst hH hLO
  obtain ⟨f0, f1, f2, f3, f4, f5, f6, f7, f8, f9, f10⟩ := hat
  simp only at f0 f1 f2 f3 f4 f5 f6 f7 f8 f9 f10
  have ck : ∀ b j v, w.cell? ⟨b, j, none⟩ = some v → (w.alloc (nobj nz)).drew.cell? ⟨b, j, none⟩ = some v := fun b j v h => Ck.of_below (bal w (nobj nz)) b j v h
  have k0 := ck _ _ _ g0
  have k1 := ck _ _ _ g1
  have k2 := ck _ _ _ hcp
  have q0 := ck _ _ _ f0
  have q1 := ck _ _ _ f1
  have q2 := ck _ _ _ f2
  have q3 := ck _ _ _ f3
  have q4 := ck _ _ _ f4
  have q5 := ck _ _ _ f5
  have q6 := ck _ _ _ f6
  have q7 := ck _ _ _ f7
  have q8 := ck _ _ _ f8
  have q9 := ck _ _ _ f9
  have q10 := ck _ _ _ f10
  have ck2 : ∀ o b j v, w.cell? ⟨b, j, none⟩ = some v → (w.alloc o).drew.cell? ⟨b, j, none⟩ = some v := fun o b j v h => Ck.of_below (bal w o) b j v h
  have m1 := fun o => ck2 o _ _ _ g1
  have m2 := fun o => ck2 o _ _ _ hcp
  clear ck ck2 k1 k2
  have B2 : Below w.heap.size w (w.alloc (nobj ⟨kk, ⟨x1, t1, a1, n1, c1, L1⟩, y, ⟨x2, t2, a2, n2, c2, L2⟩, LO, H, sz⟩)).drew := (bal w _).drew
  have A2 : Atn (w.alloc (nobj ⟨kk, ⟨x1, t1, a1, n1, c1, L1⟩, y, ⟨x2, t2, a2, n2, c2, L2⟩, LO, H, sz⟩)).drew w.heap.size 0 ⟨kk, ⟨x1, t1, a1, n1, c1, L1⟩, y, ⟨x2, t2, a2, n2, c2, L2⟩, LO, H, sz⟩ := Atn.alloc w _
  have A3 := Lib.hid A2
  have B3 := Lib.hid B2
  clear A2 B2
  go_enter Tryz.func51, Tryz.ntmps51
  go_wp2_with fail
  go_region
  have HW : Hid (∃ W, (w.alloc (nobj ⟨kk, ⟨x1, t1, a1, n1, c1, L1⟩, y, ⟨x2, t2, a2, n2, c2, L2⟩, LO, H, sz⟩)).drew = W) := Lib.hid ⟨_, rfl⟩
  obtain ⟨w2, hw2⟩ := HW.out
  clear m1 m2 q0 q1 q2 q3 q4 q5 q6 q7 q8 q9 q10 f0 f1 f2 f3 f4 f5 f6 f7 f8 f9 f10 HW
  rw [hw2] at A3 B3 ⊢
  clear hw2
  have S2 := Lib.hid (HS.out.below B3.out)
  have N2 := Lib.hid (HK.out.ck (Ck.of_below B3.out))
  have P2 := Lib.hid (HP.out.below B3.out)
  have K2 := Lib.hid (Keep.of_below (· = S.m) B3.out)
  have PL : Hid ((pos S.L n).length ≤ 50) := Lib.hid (by
    have e : (pos S.L n).length = (pts (S.L.drop n)).length := stp_len _ _
    have e2 := pts_count (S.L.drop n)
    rw [List.length_drop] at e2
    omega)
  obtain ⟨z0, z1, z2, z3, z4, z5, z6, z7, z8, z9, z10⟩ := A3.out
  simp only [Nat.zero_add] at z0 z1 z2 z3 z4 z5 z6 z7 z8 z9 z10
  have hpl : (pos S.L n).length ≤ 50 := PL.out
  by_cases h2 : kk = 2
  · subst h2
    have EN2 : Hid (S.en n i = _) := Lib.hid (EN.out.trans (if_pos rfl))
    have C := Lib.hid (chain_any S ⟨2, ⟨x1, t1, a1, n1, c1, L1⟩, y, ⟨x2, t2, a2, n2, c2, L2⟩, LO, H, sz⟩ (pos S.L n) A9 _ c9 (pos S.L n).length i w2 S2.out N2.out hi (by obtain ⟨_, _, e, _, h⟩ := P2.out; injection e with e1 _ _; subst e1; exact h) rfl (by omega) (by omega) IH)
    rw [← EN2.out] at C
    go_wp2_with fail
    refine C.out.mono ?_
    rintro e w3 ⟨⟨v, rfl, hs⟩, hg⟩
    have R2 := Lib.hid (show (∃ u, Ending.returned v = .returned u ∧ Sl w3 u (S.en n i)) ∧ Sgo S w w3 from ⟨⟨v, rfl, hs⟩, ⟨hg.sch, K2.out.tr hg.keep⟩⟩)
    clear hs hg
    go_wp2_with fail
    go_ret
    exact R2.out
  have e2 : (kk == 2) = false := by simp; omega
  by_cases h3 : kk = 3
  · subst h3
    have EN2 : Hid (S.en n i = _) := Lib.hid (EN.out.trans ((if_neg (by decide)).trans (if_pos rfl)))
    have C := Lib.hid (either_any S (pos S.L n) A9 _ c9 i w2 S2.out hi (by obtain ⟨_, _, e, _, h⟩ := P2.out; injection e with e1 _ _; subst e1; exact h) rfl (by omega) (Lib.hid fun p hp => IH.out p hp i hi))
    rw [← EN2.out] at C
    go_wp2_with fail
    refine C.out.mono ?_
    rintro e w3 ⟨⟨v, rfl, hs⟩, hg⟩
    have R2 := Lib.hid (show (∃ u, Ending.returned v = .returned u ∧ Sl w3 u (S.en n i)) ∧ Sgo S w w3 from ⟨⟨v, rfl, hs⟩, ⟨hg.sch, K2.out.tr hg.keep⟩⟩)
    clear hs hg
    go_wp2_with fail
    go_ret
    exact R2.out
  have e3 : (kk == 3) = false := by simp; omega
  by_cases h4 : kk = 4
  · subst h4
    have EN2 : Hid (S.en n i = rng (S.ov i) (anyc S.R.length (gd (hq S.R) ⟨4, ⟨x1, t1, a1, n1, c1, L1⟩, y, ⟨x2, t2, a2, n2, c2, L2⟩, LO, H, sz⟩) (S.rs (repn H (pos S.L n))) LO i)) := Lib.hid (EN.out.trans ((if_neg (by decide)).trans ((if_neg (by decide)).trans (if_pos rfl))))
    have wH : Hid (IntKind.i64.wrap (H : Int) = (H : Int)) := Lib.hid (by rw [IntKind.wrap_i64]; omega)
    have wL : Hid (IntKind.i64.wrap (LO : Int) = (LO : Int)) := Lib.hid (by rw [IntKind.wrap_i64]; omega)
    have RP := Lib.hid (fun W (hK : Kj S w2 W w.heap.size 4 t1 t2 sz x1 y x2 a1 a2 n1 c1 n2 c2 LO H) => (by
      have hW := hK.2.2.2.2.2.2.2.2.2.2.2.out
      have h8 := repeat_any A9 _ c9 (pos S.L n) H W rfl (by omega) (by omega) (by obtain ⟨_, _, e, _, h⟩ := P2.out.ci (hW.ci S2.out.is); injection e with e1 _ _; subst e1; exact h) (by obtain ⟨_, _, e, h, _⟩ := P2.out; injection e with _ _ e3; subst e3; exact h.2)
      rwa [show Value.int .i64 (H : Int) = .int .i64 (IntKind.i64.wrap (H : Int)) by rw [wH.out]] at h8))
    have LR : Hid ((repn H (pos S.L n)).length ≤ 100000) := Lib.hid (by
      rw [repn_len]
      have : H * (pos S.L n).length ≤ 255 * 50 := Nat.mul_le_mul (by omega) hpl
      omega)
    have CH := Lib.hid (fun W (hK : Kj S w2 W w.heap.size 4 t1 t2 sz x1 y x2 a1 a2 n1 c1 n2 c2 LO H) A3 c3 (hA : Its W A3 (repn H (pos S.L n))) => (by
      have hW := hK.2.2.2.2.2.2.2.2.2.2.2.out
      have h8 := chain_any S ⟨4, ⟨x1, t1, a1, n1, c1, L1⟩, y, ⟨x2, t2, a2, n2, c2, L2⟩, LO, H, sz⟩ (repn H (pos S.L n)) A3 _ c3 LO i W hW.sch (N2.out.ck (hW.ck S2.out.is)) hi hA rfl LR.out (by omega) (Lib.hid fun p hp => IH.out p (repn_mem hp))
      rwa [show Value.int .i64 (LO : Int) = .int .i64 (IntKind.i64.wrap (LO : Int)) by rw [wL.out]] at h8))
    rw [← EN2.out] at CH
    generalize repn H (pos S.L n) = RR at RP LR CH
    have K0 : Hid (Kj S w2 w2.drew w.heap.size 4 t1 t2 sz x1 y x2 a1 a2 n1 c1 n2 c2 LO H) := Lib.hid (kj_below (Below.refl _ _).drew ⟨z0, z1, z2, z3, z4, z5, z6, z7, z8, z9, z10, Lib.hid (Sgo.refl S2.out)⟩)
    go_wp2_with fail
    go_region_held3 (fun W => W.cell? ⟨w.heap.size, 0, none⟩ = some (.int .u8 4) ∧ W.cell? ⟨w.heap.size, 1, none⟩ = some (.bool x1) ∧ W.cell? ⟨w.heap.size, 2, none⟩ = some (.int .u8 t1) ∧ W.cell? ⟨w.heap.size, 3, none⟩ = some (.slice a1 n1 c1) ∧ W.cell? ⟨w.heap.size, 4, none⟩ = some (.bool y) ∧ W.cell? ⟨w.heap.size, 5, none⟩ = some (.bool x2) ∧ W.cell? ⟨w.heap.size, 6, none⟩ = some (.int .u8 t2) ∧ W.cell? ⟨w.heap.size, 7, none⟩ = some (.slice a2 n2 c2) ∧ W.cell? ⟨w.heap.size, 8, none⟩ = some (.int .u8 (LO : Int)) ∧ W.cell? ⟨w.heap.size, 9, none⟩ = some (.int .u8 (H : Int)) ∧ W.cell? ⟨w.heap.size, 10, none⟩ = some (.int .i64 sz) ∧ Hid (Sgo S w2 W))
      (first | (with_reducible assumption) | (with_reducible exact K0.out))
      (first
        | (go_at_call 78; (with_reducible refine Calls.mono (RP.out _ ?_) ?_); (with_reducible assumption); rintro e w3 ⟨⟨v, rfl, A3', c3, rfl, h03, i3⟩, b3⟩; have I4 := Lib.hid i3; have KK : Kj S w2 w3 w.heap.size 4 t1 t2 sz x1 y x2 a1 a2 n1 c1 n2 c2 LO H := (by refine kj_below b3 ?_; with_reducible assumption))
        | (go_at_call 76; (with_reducible refine Calls.mono (CH.out _ ?_ _ _ I4.out) ?_); (with_reducible assumption); rintro e w4 ⟨⟨v, rfl, hs⟩, hg⟩; have KK : Kj S w2 w4 w.heap.size 4 t1 t2 sz x1 y x2 a1 a2 n1 c1 n2 c2 LO H := (by refine kj_go hg ?_; with_reducible assumption); have V4 := Lib.hid hs))
    rename_i hHeld
    have R2 := Lib.hid (show (∃ u, Ending.returned v = .returned u ∧ Sl w4 u (S.en n i)) ∧ Sgo S w w4 from ⟨⟨v, rfl, V4.out⟩, ⟨hHeld.2.2.2.2.2.2.2.2.2.2.2.out.sch, K2.out.tr hHeld.2.2.2.2.2.2.2.2.2.2.2.out.keep⟩⟩)
    clear hHeld KK V4 I4
    go_wp2_with fail
    go_ret
    exact R2.out
  · have e4 : (kk == 4) = false := by simp; omega
    obtain ⟨rb, ro, er, hev, _⟩ := S2.out.st.event i hi
    have y2 := S2.out.st.c2
    rw [er] at y2
    obtain ⟨_, _, _, v3, v4⟩ := hev
    have EN2 : Hid (S.en n i = if hq S.R ⟨x1, t1, a1, n1, c1, L1⟩ i then [i] else []) := Lib.hid (by
      rw [EN.out, if_neg h2, if_neg h3, if_neg h4]
      exact rng_self (S.ov i) i S.R.length (S.ov_gt i hi) hi _)
    have C := Lib.hid (fun W (K : Kq w2 W w.heap.size S.s rb ro S.R.length S.rC i x1 t1 a1 n1 c1 (S.R.getD i lz).t (S.R.getD i lz).a (S.R.getD i lz).n (S.R.getD i lz).c) => Sch.holds (S2.out.below K.2.2.2.2.2.2.out).st ⟨x1, t1, a1, n1, c1, L1⟩ (N2.out.p.ck (Ck.of_below K.2.2.2.2.2.2.out)) i hi)
    have K0 : Hid (Kq w2 w2.drew w.heap.size S.s rb ro S.R.length S.rC i x1 t1 a1 n1 c1 (S.R.getD i lz).t (S.R.getD i lz).a (S.R.getD i lz).n (S.R.getD i lz).c) := Lib.hid (kq_next (Below.refl _ _).drew ⟨z1, z2, z3, y2, v3, v4, Lib.hid (Below.refl _ _)⟩)
    generalize hq S.R ⟨x1, t1, a1, n1, c1, L1⟩ i = bq at EN2 C
    generalize S.R.getD i lz = ev at v3 v4 C K0
    go_wp2_with fail
    go_region_held3 (fun W => W.cell? ⟨w.heap.size, 1, none⟩ = some (.bool x1) ∧ W.cell? ⟨w.heap.size, 2, none⟩ = some (.int .u8 t1) ∧ W.cell? ⟨w.heap.size, 3, none⟩ = some (.slice a1 n1 c1) ∧ W.cell? ⟨S.s, 2, none⟩ = some (.slice (some ⟨rb, ro, none⟩) S.R.length S.rC) ∧ W.cell? ⟨rb, ro + i * 5 + 3, none⟩ = some (.int .u8 ev.t) ∧ W.cell? ⟨rb, ro + i * 5 + 4, none⟩ = some (.slice ev.a ev.n ev.c) ∧ Hid (Below w2.heap.size w2 W))
      (first | (with_reducible assumption) | (with_reducible exact K0.out) | (with_reducible exact kq_next b1 (by assumption)))
      (first | (go_at_call 79; (with_reducible refine Calls.mono (C.out _ ?_) ?_); (with_reducible assumption); rintro e w' ⟨rfl, b1⟩))
    rename_i hHeld
    have B4 := Lib.hid hHeld.2.2.2.2.2.2.out
    clear hHeld
    rename World => w4
    have S4 := Lib.hid (S2.out.below B4.out)
    have K4 := Lib.hid (K2.out.tr (Keep.of_below _ B4.out))
    cases bq
    · have EN3 : Hid (S.en n i = []) := Lib.hid (EN2.out.trans (if_neg (by decide)))
      go_wp2_with fail
      go_ret
      exact ⟨⟨_, rfl, by rw [EN3.out]; exact Sl.nil _⟩, ⟨S4.out, K4.out⟩⟩
    · have EN3 : Hid (S.en n i = [i]) := Lib.hid (EN2.out.trans (if_pos rfl))
      have BB := Lib.hid (bal w4 (.cells #[.int .i64 (i : Int)] 3))
      have SS : Hid (Sl (w4.alloc (.cells #[.int .i64 (i : Int)] 3)) (.slice (some ⟨w4.heap.size, 0, none⟩) 1 1) [i]) := Lib.hid (by
        refine ⟨_, _, rfl, ⟨(fun h => by cases h), Nat.le_refl _⟩, fun j hj => ⟨_, 0, rfl, ?_, ?_⟩⟩
        · obtain rfl : j = 0 := by simpa using hj
          simp [go_sem]
        · exact ⟨#[.int .i64 (i : Int)], (0, 0), heap_alloc_new w4 _⟩)
      have R3 := Lib.hid (show Sgo S w (w4.alloc (.cells #[.int .i64 (i : Int)] 3)) from ⟨S4.out.below BB.out, K4.out.tr (Keep.of_below _ BB.out)⟩)
      go_wp2_with fail
      go_ret
      exact ⟨⟨_, rfl, by rw [EN3.out]; exact SS.out⟩, R3.out⟩
end Go.Proofs.YtccjflioaajgiaaGreatDoor
