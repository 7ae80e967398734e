/- Contracts, joined: AcV, AcL. -/
import Derived.Test.YtpnllbojifnopaaGreatDoorYWK
import Derived.Lib.SliceRun
namespace Go.Proofs.YtpnllbojifnopaaGreatDoor
open Go Go.RowKit Pk Rl
set_option maxRecDepth 20000
structure AV where
  m : Int
  a : Nat
  b : Nat
  P : List VQ
  E : List EV
def cov (L : List Nd) (win : Int) : AV :=
  if mp L win ≠ 0 then ⟨mp L win, 0, 0, [], []⟩
  else if 64 < (wed 33 L (cnt 33 L)).length then ⟨12, 0, 0, [], []⟩
  else ⟨0, (au 33 L 0).1, (au 33 L 0).2.1, (au 33 L 0).2.2.1, wed 33 L (cnt 33 L)⟩
theorem lt_pow_of {x m : Nat} (h : ∀ i, x.testBit i = true → i < m) : x < 2 ^ m := by
  apply Nat.lt_pow_two_of_testBit
  intro i hi
  cases hb : x.testBit i
  · rfl
  · have := h i hb; omega
theorem wed_len {L : List Nd} (T : Top L) : (wed 33 L (cnt 33 L)).length = (au 33 L 0).2.2.2.length := by
  refine List.Perm.length_eq ?_
  have h1 : (wed 33 L (cnt 33 L)).Nodup := lo_nodup (wed_lo ..)
  have h2 : (au 33 L 0).2.2.2.Nodup := (au_ok 33 L T.fm T.fr 0).nd.imp fun {a b} h e => h (by rw [e]; exact ⟨rfl, rfl⟩)
  refine (List.perm_ext_iff_of_nodup h1 h2).2 fun e => ?_
  rw [wed_mem, we_au 33 L T.fm T.fr 0 (by have := T.cn; omega)]
  refine ⟨fun h => h.2.2, fun h => ⟨?_, ?_, h⟩⟩
  all_goals
    have := (au_ok 33 L T.fm T.fr 0).er e ((we_au 33 L T.fm T.fr 0 (by have := T.cn; omega) e).2 h)
    rw [(au_cn 33 L T.fm T.fr).p 0] at this
    omega
theorem dk_symm {a b : EV} (h : Dk a b) : Dk b a := fun e => h ⟨e.1.symm, e.2.symm⟩
theorem kyl_wed {L : List Nd} (T : Top L) {Es : List Ed} (hp : (Es.map ve).Perm (au 33 L 0).2.2.2) (hk : Kyl Es) : Es.map ve = wed 33 L (cnt 33 L) := by
  refine wed_au 33 L T.fm T.fr T.cn _ hp ?_
  have nd : (Es.map ve).Pairwise Dk := (hp.pairwise_iff (fun h => dk_symm h)).2 (au_ok 33 L T.fm T.fr 0).nd
  rw [List.pairwise_map] at nd ⊢
  rw [List.pairwise_iff_getElem] at nd ⊢
  intro i j hi hj hij
  have h1 := hk i j (by omega) hj
  have h2 := nd i j hi hj hij
  have e1 : Es.getD i ed0 = Es[i] := by rw [List.getD_eq_getElem?_getD, List.getElem?_eq_getElem hi]; rfl
  have e2 : Es.getD j ed0 = Es[j] := by rw [List.getD_eq_getElem?_getD, List.getElem?_eq_getElem hj]; rfl
  rw [e1, e2] at h1
  unfold Dk ve at h2
  unfold Lo ve
  simp only at h1 h2 ⊢
  omega
structure Cz (W : World) (B : Nat) (Ap : Option Addr) (kp cp : Nat) (Ae : Option Addr) (ke ce : Nat) (Ps : List Qu) (Es : List Ed) : Prop where
  rp : OwnQ' W B (.slice Ap kp cp) Ps
  re : OwnE W B (.slice Ae ke ce) Es
  lp : Ps.length = kp
  le : Es.length = ke
  qp : ∀ q ∈ Ps, Qm W B q
  qe : ∀ d ∈ Es, Qm W B d.g
theorem Cz.nil (W : World) (B : Nat) : Cz W B none 0 0 none 0 0 [] [] := ⟨World.ownsRow_nil _ _ 45 3, World.ownsRow_nil _ _ 47 6, rfl, rfl, by simp, by simp⟩
theorem Cz.below {W W' : World} {B : Nat} {Ap : Option Addr} {kp cp : Nat} {Ae : Option Addr} {ke ce : Nat} {Ps : List Qu} {Es : List Ed} (h : Cz W B Ap kp cp Ae ke ce Ps Es) (hb : Below W.heap.size W W') : Cz W' B Ap kp cp Ae ke ce Ps Es :=
  ⟨OwnQ'.below h.rp hb, row_same h.re (fun g cur _ hh => by rw [hb.block g (Array.getElem?_eq_some_iff.1 hh).1]; exact hh), h.lp, h.le, fun q hq => (h.qp q hq).below hb, fun d hd => (h.qe d hd).below hb⟩
def CvX (V : AV) (w : World) (e : Ending) (w' : World) : Prop := ∃ Ap kp cp Ae ke ce Ps Es B, e = .returned (.tuple #[autv Ap kp cp V.a V.b Ae ke ce, .int .i64 V.m]) ∧ Hid (Cz w' B Ap kp cp Ae ke ce Ps Es ∧ Ps.map vq = V.P ∧ Es.map ve = V.E ∧ w.heap.size ≤ B) ∧ Below w.heap.size w w'
theorem cv_any (A : Option Addr) (n c : Nat) (L : List Nd) (win : Int) (w : World) (hP : Pt w A n c L) (hT : Tab w) (hT5 : Tab5 w) :
    Calls Tryz.prog 14 #[ptv A n c win] w fun e w' => CvX (cov L win) w e w' := by
  by_cases h0 : mp L win = 0
  · have T := mp_top h0
    refine (comp_yes A n c L win w hP hT hT5 h0).mono fun e w' h => ?_
    rcases h with ⟨hb, he, bel⟩ | ⟨hs, r, Ap, kp, cp, Ae, ke, ce, Ps, Es, he, hMi, hPs, hEs, hKy, hr, bel⟩
    · have e : cov L win = ⟨12, 0, 0, [], []⟩ := by unfold cov; rw [if_neg (by omega), if_pos (by rw [wed_len T]; exact hb)]
      rw [e]
      exact ⟨_, _, _, _, _, _, [], [], w.heap.size, he, Lib.hid ⟨Cz.nil _ _, rfl, rfl, Nat.le_refl _⟩, bel⟩
    · have e : cov L win = ⟨0, (au 33 L 0).1, (au 33 L 0).2.1, (au 33 L 0).2.2.1, wed 33 L (cnt 33 L)⟩ := by unfold cov; rw [if_neg (by omega), if_neg (by rw [wed_len T]; omega)]
      rw [e]
      exact ⟨Ap, kp, cp, Ae, ke, ce, Ps, Es, r + 1, he, Lib.hid ⟨⟨hMi.rp, hMi.re, hMi.lp, hMi.le, hMi.qp, hMi.qe⟩, hPs, kyl_wed T hEs hKy, by omega⟩, bel⟩
  · refine (comp_no A n c L win w hP hT h0).mono fun e w' h => ?_
    have e : cov L win = ⟨mp L win, 0, 0, [], []⟩ := by unfold cov; rw [if_pos h0]
    rw [e]
    exact ⟨_, _, _, _, _, _, [], [], w.heap.size, h.1, Lib.hid ⟨Cz.nil _ _, rfl, rfl, Nat.le_refl _⟩, h.2⟩
structure Cr (W : World) (Ap : Option Addr) (kp : Nat) (Ae : Option Addr) (ke : Nat) (Ps : List Qu) (Es : List Ed) : Prop where
  rp : Qrow W Ap Ps
  re : Erow W Ae Es
  lp : Ps.length = kp
  le : Es.length = ke
  qp : ∀ q ∈ Ps, Qok W q
  qe : ∀ d ∈ Es, Qok W d.g
theorem Cr.below {W W' : World} {Ap : Option Addr} {kp : Nat} {Ae : Option Addr} {ke : Nat} {Ps : List Qu} {Es : List Ed} (h : Cr W Ap kp Ae ke Ps Es) (hb : Below W.heap.size W W') : Cr W' Ap kp Ae ke Ps Es :=
  ⟨h.rp.below hb, h.re.below hb, h.lp, h.le, fun q hq => (h.qp q hq).below hb, fun d hd => (h.qe d hd).below hb⟩
theorem Cz.read {W : World} {B : Nat} {Ap : Option Addr} {kp cp : Nat} {Ae : Option Addr} {ke ce : Nat} {Ps : List Qu} {Es : List Ed} (h : Cz W B Ap kp cp Ae ke ce Ps Es) : Cr W Ap kp Ae ke Ps Es :=
  ⟨OwnQ'.row h.rp, OwnE.row h.re, h.lp, h.le, fun q hq => (h.qp q hq).qok, fun d hd => (h.qe d hd).qok⟩
theorem Cr.nil (W : World) : Cr W none 0 none 0 [] [] := ⟨fun i hi => absurd hi (by simp), fun i hi => absurd hi (by simp), rfl, rfl, by simp, by simp⟩
theorem cov_few {L : List Nd} {win : Int} : (cov L win).P.length ≤ 32 ∧ (cov L win).E.length ≤ 64 := by
  unfold cov
  split
  · simp
  · split
    · simp
    · rename_i h0 h1
      have T := mp_top (show mp L win = 0 by omega)
      simp only
      rw [(au_cn 33 L T.fm T.fr).p 0]
      exact ⟨T.cn, by omega⟩
end Go.Proofs.YtpnllbojifnopaaGreatDoor
namespace Go.Proofs.YtpnllbojifnopaaGreatDoor
open Go Go.RowKit Pk Rl
set_option maxRecDepth 20000
structure Sc (B : Nat) (w w' : World) : Prop where
  bel : Below B w w'
  old : ∀ (x : Nat) (o : Obj), w.heap[x]? = some o → (∀ cur, o ≠ .cells cur 171 (0, 0)) → w'.heap[x]? = some o
  tst : ∀ (x : Nat) (cur : Array Value), w.heap[x]? = some (.cells cur 171 (0, 0)) → ∃ cur', w'.heap[x]? = some (.cells cur' 171 (0, 0)) ∧ cur'.size = cur.size
theorem Sc.refl (B : Nat) (w : World) : Sc B w w := ⟨Below.refl _ _, fun _ _ h _ => h, fun _ cur h => ⟨cur, h, rfl⟩⟩
def Tc (w : World) (B : Nat) (q : Qu) : Prop := q.n = 0 ∨ ∃ g cur, q.a = some ⟨g, 0, none⟩ ∧ B ≤ g ∧ w.heap[g]? = some (.cells cur 171 (0, 0)) ∧ q.n * 6 ≤ cur.size
theorem Tc.sc {w w' : World} {B B' : Nat} {q : Qu} (h : Tc w B q) (hs : Sc B' w w') : Tc w' B q := by
  rcases h with h0 | ⟨g, cur, e, hg, hh, hz⟩
  · exact .inl h0
  · obtain ⟨cur', h1, h2⟩ := hs.tst g cur hh
    exact .inr ⟨g, cur', e, hg, h1, by omega⟩
end Go.Proofs.YtpnllbojifnopaaGreatDoor
