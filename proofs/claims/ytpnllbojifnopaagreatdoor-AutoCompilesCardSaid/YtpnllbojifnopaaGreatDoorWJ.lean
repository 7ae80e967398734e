/- Contracts, joined: WiA, WiL, WiE, WiO, WiC, WiD, WiP. -/
import Derived.Test.YtpnllbojifnopaaGreatDoorAK
import Derived.Test.YtpnllbojifnopaaGreatDoorMW
import Derived.Test.YtpnllbojifnopaaGreatDoorAuP
/- The document's wide trees in memory; first places. -/
namespace Go.Proofs.YtpnllbojifnopaaGreatDoor
open Go Go.RowKit Pk Rl
set_option maxRecDepth 20000

abbrev wOfT (n : Nd) (pl : Nat) (A : Option Addr) (m C : Nat) : Value := .agg #[.int .u8 n.k, .bool n.p.x, .int .u8 n.p.t, .slice n.p.a n.p.n n.p.c, .bool n.y, .bool n.g.x, .int .u8 n.g.t, .slice n.g.a n.g.n n.g.c, .int .u8 n.lo, .int .u8 n.hi, .int .i64 n.s, .int .i64 (pl : Int), .slice A m C]
abbrev wobjT (n : Nd) (pl : Nat) (A : Option Addr) (m C : Nat) : Obj := .cells #[.int .u8 n.k, .bool n.p.x, .int .u8 n.p.t, .slice n.p.a n.p.n n.p.c, .bool n.y, .bool n.g.x, .int .u8 n.g.t, .slice n.g.a n.g.n n.g.c, .int .u8 n.lo, .int .u8 n.hi, .int .i64 n.s, .int .i64 (pl : Int), .slice A m C] 127
def Wdb (w : World) (g : Nat) (n : Nd) (pl : Nat) (A : Option Addr) (m C : Nat) : Prop := w.heap[g]? = some (wobjT n pl A m C)
theorem Wdb.cells {w : World} {g : Nat} {n : Nd} {pl : Nat} {A : Option Addr} {m C : Nat} (h : Wdb w g n pl A m C) : Atn w g 0 n ∧ w.cell? ⟨g, 11, none⟩ = some (.int .i64 (pl : Int)) ∧ w.cell? ⟨g, 12, none⟩ = some (.slice A m C) := by
  refine ⟨⟨?_, ?_, ?_, ?_, ?_, ?_, ?_, ?_, ?_, ?_, ?_⟩, ?_, ?_⟩ <;> (rw [cell_of_row w g _ _ _ _ h]; rfl)
theorem Wdb.lt {w : World} {g : Nat} {n : Nd} {pl : Nat} {A : Option Addr} {m C : Nat} (h : Wdb w g n pl A m C) : g < w.heap.size := World.block_lt_of_cell? _ _ h.cells.2.2
theorem Wdb.below {B : Nat} {w w' : World} {g : Nat} {n : Nd} {pl : Nat} {A : Option Addr} {m C : Nat} (h : Wdb w g n pl A m C) (hb : Below B w w') (hg : g < B) : Wdb w' g n pl A m C := by unfold Wdb; rw [hb.block g hg]; exact h
theorem Wdb.start (w : World) (n : Nd) (pl : Nat) (A : Option Addr) (m C : Nat) : Wdb (w.alloc (wobjT n pl A m C)) w.heap.size n pl A m C := heap_alloc_new w _
/- the parts of one -/
def wch (k : Nat) (q : List Nd × Nat) : List (List Nd × Nat) := if (q.1.headD nz).k = 1 then [] else wp k q.1 q.2
def wpl (q : List Nd × Nat) : Nat := if (q.1.headD nz).k = 1 then q.2 else 0
/- a row of them: so deep, in such blocks -/
def Wds : Nat → World → (Nat → Prop) → Option Addr → List (List Nd × Nat) → Prop
  | 0, _, _, _, qs => qs = []
  | k + 1, w, F, a, qs => ∀ i, i < qs.length → ∃ b off A C, a = some ⟨b, off, none⟩ ∧ F b ∧ Atn w b (off + i * 13) ((qs.getD i d0).1.headD nz) ∧ w.cell? ⟨b, off + i * 13 + 11, none⟩ = some (.int .i64 (wpl (qs.getD i d0) : Int)) ∧ w.cell? ⟨b, off + i * 13 + 12, none⟩ = some (.slice A (wch k (qs.getD i d0)).length C) ∧ Wds k w F A (wch k (qs.getD i d0))
theorem Wds.same {k : Nat} : ∀ {w w' : World} {F G : Nat → Prop} {a : Option Addr} {qs : List (List Nd × Nat)}, Wds k w F a qs → (∀ b, F b → w'.heap[b]? = w.heap[b]?) → (∀ b, F b → G b) → Wds k w' G a qs := by
  induction k with
  | zero => intro w w' F G a qs h _ _; exact h
  | succ k ih =>
    intro w w' F G a qs h e g i hi
    obtain ⟨b, off, A, C, ha, hF, hat, h1, h2, h3⟩ := h i hi
    have hc : ∀ j, w'.cell? ⟨b, j, none⟩ = w.cell? ⟨b, j, none⟩ := fun j => by simp only [World.cell?, e b hF]
    exact ⟨b, off, A, C, ha, g b hF, hat.same hc, by rw [hc]; exact h1, by rw [hc]; exact h2, ih h3 e g⟩
theorem Wds.below {k : Nat} {w w' : World} {F : Nat → Prop} {a : Option Addr} {qs : List (List Nd × Nat)} (h : Wds k w F a qs) (hb : Below w.heap.size w w') (hF : ∀ b, F b → b < w.heap.size) : Wds k w' F a qs :=
  h.same (fun b hf => hb.block b (hF b hf)) (fun _ hf => hf)
theorem Wds.nil (k : Nat) (w : World) (F : Nat → Prop) (a : Option Addr) : Wds k w F a [] := by
  cases k with
  | zero => rfl
  | succ k => exact fun i hi => absurd hi (by simp)
/- a row of which a function tells -/
def KW (G : World → Nd → Nat → Option Addr → Nat → Nat → List Nd × Nat → Prop) (w : World) (A : Option Addr) (qs : List (List Nd × Nat)) : Prop :=
  ∀ i, i < qs.length → ∃ b off n, ∃ pl : Nat, ∃ A' m' C', A = some ⟨b, off, none⟩ ∧ b < w.heap.size ∧ Atn w b (off + i * 13) n ∧ w.cell? ⟨b, off + i * 13 + 11, none⟩ = some (.int .i64 (pl : Int)) ∧ w.cell? ⟨b, off + i * 13 + 12, none⟩ = some (.slice A' m' C') ∧ ∀ W, Below w.heap.size w W → G W n pl A' m' C' (qs.getD i d0)
abbrev GFi (f : List Nd × Nat → Bool) (x : Nat) (W : World) (n : Nd) (pl : Nat) (A : Option Addr) (m C : Nat) (q : List Nd × Nat) : Prop :=
  Calls Tryz.prog 49 #[wOfT n pl A m C, .int .i64 (x : Int)] W fun e w' => e = .returned (.bool (f q)) ∧ Below W.heap.size W w'
abbrev fic (f : List Nd × Nat → Bool) (nd : Nd) (Q : List (List Nd × Nat)) (j : Nat) : Bool := f (Q.getD j d0) && (decide (j = 0) || decide (nd.k = 3))
def fir (f : List Nd × Nat → Bool) (nd : Nd) (pl : Nat) (Q : List (List Nd × Nat)) (x : Nat) : Bool := if nd.k = 1 then decide (pl = x) else (List.range Q.length).any (fic f nd Q)
theorem any_none {N : Nat} {G : Nat → Bool} (h : ∀ j, j < N → G j = false) : (List.range N).any G = false := by
  rw [List.any_eq_false]
  intro j hj
  rw [h j (List.mem_range.1 hj)]
  decide
theorem any_one {N j : Nat} {G : Nat → Bool} (hj : j < N) (h : G j = true) : (List.range N).any G = true := List.any_eq_true.2 ⟨j, List.mem_range.2 hj, h⟩
theorem none_snoc {i : Nat} {G : Nat → Bool} (h : ∀ j, j < i → G j = false) (hi : G i = false) : ∀ j, j < i + 1 → G j = false := fun j hj => by
  rcases Nat.lt_or_ge j i with c | c
  · exact h j c
  · have : j = i := by omega
    rw [this]; exact hi
set_option maxHeartbeats 2000000 in
theorem rfirst1_any (f : List Nd × Nat → Bool) (nd : Nd) (pl : Nat) (A : Option Addr) (C : Nat) (Q : List (List Nd × Nat)) (x : Nat) (w : World) (hq : Q.length ≤ 1000) (hK : KW (GFi f x) w A Q) (q0 : List Nd × Nat) :
    GFi (fun _ => fir f nd pl Q x) x w nd pl A Q.length C q0 := by
  unfold GFi
  have HK := Lib.hid hK
  clear hK
  obtain ⟨q, hq2⟩ : ∃ q, Q.length = q := ⟨_, rfl⟩
  obtain ⟨r, hr⟩ : ∃ r, fir f nd pl Q x = r := ⟨_, rfl⟩
  rw [hr]
  rw [hq2] at hq ⊢
  have HQ := Lib.hid hq2
  have HR := Lib.hid hr
  have B0 := Lib.hid (below_alloc w (wobjT nd pl A q C))
  have T0 := Lib.hid (Wdb.start w nd pl A q C)
  clear hq2 hr
  by_cases h1 : nd.k = 1
  · have i1 : (nd.k == 1) = true := by rw [h1]; rfl
    have H1 := Lib.hid h1
    clear h1
    go_enter Tryz.func49, Tryz.ntmps49
    go_wp2_with fail
    go_ret
    refine ⟨ret_bool ?_, B0.out⟩
    rw [← HR.out]
    unfold fir
    rw [if_pos H1.out, Bool.eq_iff_iff]
    simp <;> omega
  · have i1 : (nd.k == 1) = false := by simp [h1]
    have H1 := Lib.hid h1
    clear h1
    go_enter Tryz.func49, Tryz.ntmps49
    go_wp2_with fail
    go_loopw [17] (fun v17 W => ∃ (i : Nat), v17 = .int .i64 (i : Int) ∧ i ≤ q ∧ Hid ((∀ j, j < i → fic f nd Q j = false) ∧ Below w.heap.size w W ∧ Wdb W w.heap.size nd pl A q C)) (fun v17 _ => q - (intOf v17).toNat)
    case atStart => exact ⟨0, rfl, by omega, Lib.hid ⟨fun j hj => absurd hj (by omega), B0.out, T0.out⟩⟩
    case round =>
      obtain ⟨i, rfl, hi, H⟩ := hrel
      have HM := Lib.hid H.out.1
      have B1 := Lib.hid H.out.2.1
      have T1 := Lib.hid H.out.2.2
      have hcT := T1.out.cells.2.2
      have hcK := T1.out.cells.1.1
      clear H B0 T0
      by_cases ci : i < q
      · obtain ⟨b, off, ⟨nk, ⟨px, pt, pa, pn, pc, pL⟩, ny, ⟨gx, gt, ga, gn, gc, gL⟩, nlo, nhi, ns⟩, pl', A', m', C', rfl, hb0, hat, hcp, hcell, hG⟩ := HK.out i (by have := HQ.out; omega)
        have hat1 := hat.below B1.out hb0
        obtain ⟨k0, k1, k2, k3, k4, k5, k6, k7, k8, k9, k10⟩ := hat1
        have k11 : wr.cell? ⟨b, off + i * 13 + 11, none⟩ = some (.int .i64 (pl' : Int)) := (B1.out.cell (p := ⟨b, off + i * 13 + 11, none⟩) hb0).trans hcp
        have k12 : wr.cell? ⟨b, off + i * 13 + 12, none⟩ = some (.slice A' m' C') := (B1.out.cell (p := ⟨b, off + i * 13 + 12, none⟩) hb0).trans hcell
        have I := Lib.hid (hG wr B1.out)
        obtain ⟨z, hz⟩ : ∃ z, f (Q.getD i d0) = z := ⟨_, rfl⟩
        have HZ := Lib.hid hz
        have I2 : Hid (Calls Tryz.prog 49 #[wOfT ⟨nk, ⟨px, pt, pa, pn, pc, pL⟩, ny, ⟨gx, gt, ga, gn, gc, gL⟩, nlo, nhi, ns⟩ pl' A' m' C', .int .i64 (x : Int)] wr fun e w' => e = .returned (.bool z) ∧ Below wr.heap.size wr w') := Lib.hid (by have := I.out; unfold GFi at this; rw [hz] at this; exact this)
        clear hz I hG hat hcell hcp
        go_wp2_with fail
        refine I2.out.mono ?_
        rintro e w3 ⟨rfl, hb⟩
        have B3 := Lib.hid (below_go B1.out hb)
        have T3 := Lib.hid (T1.out.below hb T1.out.lt)
        clear hb I2 B1 T1 hcT hcK k0 k1 k2 k3 k4 k5 k6 k7 k8 k9 k10 k11 k12
        have hcT := T3.out.cells.2.2
        have hcK := T3.out.cells.1.1
        cases z
        · have NS := Lib.hid (none_snoc HM.out (show fic f nd Q i = false by unfold fic; rw [HZ.out]; rfl))
          go_wp2_with fail
          go_roundw
          case rel => exact ⟨i + 1, by go_num, by omega, Lib.hid ⟨NS.out, B3.out, T3.out⟩⟩
          case measure => simp [intOf]; omega
        · by_cases c0 : i = 0
          · have j1 : ((i : Int) == 0) = true := by simp [c0]
            have ER : r = true := by rw [← HR.out]; unfold fir; rw [if_neg H1.out]; exact any_one (by have := HQ.out; omega) (show fic f nd Q i = true by unfold fic; rw [HZ.out, decide_eq_true c0]; rfl)
            subst ER
            go_wp2_with fail
            go_ret
            exact ⟨rfl, B3.out⟩
          · have j1 : ((i : Int) == 0) = false := by simp [c0]
            by_cases h3 : nd.k = 3
            · have j3 : (nd.k == 3) = true := by rw [h3]; rfl
              have ER : r = true := by rw [← HR.out]; unfold fir; rw [if_neg H1.out]; exact any_one (by have := HQ.out; omega) (show fic f nd Q i = true by unfold fic; rw [HZ.out, decide_eq_true h3, Bool.or_true]; rfl)
              subst ER
              go_wp2_with fail
              go_ret
              exact ⟨rfl, B3.out⟩
            · have j3 : (nd.k == 3) = false := by simp [h3]
              have NS := Lib.hid (none_snoc HM.out (show fic f nd Q i = false by unfold fic; rw [HZ.out, decide_eq_false h3, decide_eq_false c0]; rfl))
              go_wp2_with fail
              go_roundw
              case rel => exact ⟨i + 1, by go_num, by omega, Lib.hid ⟨NS.out, B3.out, T3.out⟩⟩
              case measure => simp [intOf]; omega
      · obtain rfl : i = q := by omega
        have ER : r = false := by rw [← HR.out]; unfold fir; rw [if_neg H1.out, HQ.out]; exact any_none HM.out
        subst ER
        go_wp2_with fail
        go_ret
        exact ⟨rfl, B1.out⟩
theorem wps_mem {l p : List Nd} (h : p ∈ wps l) : p ∈ pts l := by
  unfold wps at h
  split at h
  · obtain ⟨q, hq, hp⟩ := List.mem_flatten.1 h
    rw [(List.mem_replicate.1 hq).2] at hp
    exact hp
  · exact h
theorem wps_len {k : Nat} {l : List Nd} (h : fmd (k + 1) l = true) (hl : l.length ≤ 100) : (wps l).length ≤ 1000 := by
  have hp := pts_len l
  unfold wps
  split
  · rename_i h4
    unfold fmd at h
    rw [Bool.and_eq_true] at h
    obtain ⟨m1, m2, m3, m4⟩ := kd_rep h.2 h4
    obtain ⟨p0, hp0⟩ : ∃ p, pts l = [p] := List.length_eq_one_iff.1 m1
    rw [hp0, List.length_flatten, List.map_replicate, List.sum_replicate_nat]
    simp only [List.length_singleton]
    omega
  · omega
/- what hangs a tree well -/
structure Wt (k : Nat) (l : List Nd) : Prop where
  fm : fmd (k + 1) l = true
  fr : frn l = l
  len : l.length ≤ 100
theorem wch_len {k : Nat} {l : List Nd} (h : Wt k l) (n : Nat) : (wch k (l, n)).length ≤ 1000 := by
  unfold wch
  split
  · simp
  · rw [bs_len]; exact wps_len h.fm h.len
theorem Wt.sub {k : Nat} {l : List Nd} (h : Wt (k + 1) l) (n i : Nat) (hi : i < (wch (k + 1) (l, n)).length) : Wt k ((wch (k + 1) (l, n)).getD i d0).1 := by
  unfold wch at hi ⊢
  split at hi
  · simp at hi
  · rename_i h1
    rw [if_neg h1]
    rw [bs_len] at hi
    obtain ⟨g1, _, _⟩ := bs_get (cnt (k + 1)) (wps l) n i hi
    rcases kw_of h.fm with ⟨h2, _⟩ | ⟨_, K⟩
    · exact absurd h2 h1
    · have hp := pts_mem _ (wps_mem g1)
      have := h.len
      show Wt k ((bs (cnt (k + 1)) n (wps l)).getD i d0).1
      exact ⟨(K.sub _ g1).1, (K.sub _ g1).2, by omega⟩
theorem fir_wf (k : Nat) (l : List Nd) (n x : Nat) : fir (fun q => wf k q.1 q.2 x) (l.headD nz) (wpl (l, n)) (wch k (l, n)) x = wf (k + 1) l n x := by
  have e : wf (k + 1) l n x = if (l.headD nz).k = 1 then decide (n = x) else (List.range (wp k l n).length).any fun j => wf k ((wp k l n).getD j d0).1 ((wp k l n).getD j d0).2 x && (decide (j = 0) || decide ((l.headD nz).k = 3)) := rfl
  rw [e]
  unfold fir wpl wch
  by_cases h : (l.headD nz).k = 1
  · simp only [if_pos h]
  · simp only [if_neg h]
theorem rfirst_any (k : Nat) : ∀ (A : Option Addr) (C : Nat) (l : List Nd) (n x : Nat) (F : Nat → Prop) (w : World) (q0 : List Nd × Nat), Wt k l → Wds k w F A (wch k (l, n)) → (∀ b, F b → b < w.heap.size) → GFi (fun _ => wf (k + 1) l n x) x w (l.headD nz) (wpl (l, n)) A (wch k (l, n)).length C q0 := by
  induction k with
  | zero =>
    intro A C l n x F w q0 hl hT hF
    rw [← fir_wf]
    refine rfirst1_any _ _ _ _ _ _ _ _ (wch_len hl n) (fun i hi => ?_) d0
    have h0 : wch 0 (l, n) = [] := hT
    rw [h0] at hi
    simp at hi
  | succ k ih =>
    intro A C l n x F w q0 hl hT hF
    rw [← fir_wf]
    refine rfirst1_any _ _ _ _ _ _ _ _ (wch_len hl n) (fun i hi => ?_) d0
    obtain ⟨b, off, A', C', ha, hFb, hat, hp, hc, hk2⟩ := hT i hi
    refine ⟨b, off, _, _, A', _, C', ha, hF b hFb, hat, hp, hc, fun W hW => ?_⟩
    exact ih A' C' _ _ x F W d0 (hl.sub n i hi) (hk2.below hW hF) (fun b hb => Nat.lt_of_lt_of_le (hF b hb) hW.size)
end Go.Proofs.YtpnllbojifnopaaGreatDoor

/- The document's wide trees: last places. -/
namespace Go.Proofs.YtpnllbojifnopaaGreatDoor
open Go Go.RowKit Pk Rl
set_option maxRecDepth 20000

abbrev GLa (f : List Nd × Nat → Bool) (x : Nat) (W : World) (n : Nd) (pl : Nat) (A : Option Addr) (m C : Nat) (q : List Nd × Nat) : Prop :=
  Calls Tryz.prog 50 #[wOfT n pl A m C, .int .i64 (x : Int)] W fun e w' => e = .returned (.bool (f q)) ∧ Below W.heap.size W w'
def wen (nd : Nd) (m j : Nat) : Bool := decide (j + 1 = m) || (decide (nd.k = 3) || (decide (nd.k = 4) && decide (nd.lo ≤ (j : Int) + 1)))
def lac (f : List Nd × Nat → Bool) (nd : Nd) (Q : List (List Nd × Nat)) (j : Nat) : Bool := wen nd Q.length j && f (Q.getD j d0)
def lar (f : List Nd × Nat → Bool) (nd : Nd) (pl : Nat) (Q : List (List Nd × Nat)) (x : Nat) : Bool := if nd.k = 1 then decide (pl = x) else (List.range Q.length).any (lac f nd Q)
set_option maxHeartbeats 4000000 in
theorem rlast1_any (f : List Nd × Nat → Bool) (nd : Nd) (pl : Nat) (A : Option Addr) (C : Nat) (Q : List (List Nd × Nat)) (x : Nat) (w : World) (hq : Q.length ≤ 1000) (hl0 : 0 ≤ nd.lo) (hl1 : nd.lo < 256) (hK : KW (GLa f x) w A Q) (q0 : List Nd × Nat) :
    GLa (fun _ => lar f nd pl Q x) x w nd pl A Q.length C q0 := by
  unfold GLa
  have HK := Lib.hid hK
  clear hK
  obtain ⟨q, hq2⟩ : ∃ q, Q.length = q := ⟨_, rfl⟩
  obtain ⟨r, hr⟩ : ∃ r, lar f nd pl Q x = r := ⟨_, rfl⟩
  rw [hr]
  rw [hq2] at hq ⊢
  have HQ := Lib.hid hq2
  have HR := Lib.hid hr
  have B0 := Lib.hid (below_alloc w (wobjT nd pl A q C))
  have T0 := Lib.hid (Wdb.start w nd pl A q C)
  clear hq2 hr
  by_cases h1 : nd.k = 1
  · have i1 : (nd.k == 1) = true := by rw [h1]; rfl
    have H1 := Lib.hid h1
    clear h1
    go_enter Tryz.func50, Tryz.ntmps50
    go_wp2_with fail
    go_ret
    refine ⟨ret_bool ?_, B0.out⟩
    rw [← HR.out]
    unfold lar
    rw [if_pos H1.out, Bool.eq_iff_iff]
    simp <;> omega
  · have i1 : (nd.k == 1) = false := by simp [h1]
    have H1 := Lib.hid h1
    clear h1
    go_enter Tryz.func50, Tryz.ntmps50
    go_wp2_with fail
    go_loopw [18] (fun v18 W => ∃ (i : Nat), v18 = .int .i64 (i : Int) ∧ i ≤ q ∧ Hid ((∀ j, j < i → lac f nd Q j = false) ∧ Below w.heap.size w W ∧ Wdb W w.heap.size nd pl A q C)) (fun v18 _ => q - (intOf v18).toNat)
    case atStart => exact ⟨0, rfl, by omega, Lib.hid ⟨fun j hj => absurd hj (by omega), B0.out, T0.out⟩⟩
    case round =>
      obtain ⟨i, rfl, hi, H⟩ := hrel
      have HM := Lib.hid H.out.1
      have B1 := Lib.hid H.out.2.1
      have T1 := Lib.hid H.out.2.2
      have hcT := T1.out.cells.2.2
      have hcK := T1.out.cells.1.1
      have hcL := T1.out.cells.1.2.2.2.2.2.2.2.2.1
      clear H B0 T0
      by_cases ci : i < q
      · obtain ⟨b, off, ⟨nk, ⟨px, pt, pa, pn, pc, pL⟩, ny, ⟨gx, gt, ga, gn, gc, gL⟩, nlo, nhi, ns⟩, pl', A', m', C', rfl, hb0, hat, hcp, hcell, hG⟩ := HK.out i (by have := HQ.out; omega)
        have hat1 := hat.below B1.out hb0
        obtain ⟨k0, k1, k2, k3, k4, k5, k6, k7, k8, k9, k10⟩ := hat1
        have k11 : wr.cell? ⟨b, off + i * 13 + 11, none⟩ = some (.int .i64 (pl' : Int)) := (B1.out.cell (p := ⟨b, off + i * 13 + 11, none⟩) hb0).trans hcp
        have k12 : wr.cell? ⟨b, off + i * 13 + 12, none⟩ = some (.slice A' m' C') := (B1.out.cell (p := ⟨b, off + i * 13 + 12, none⟩) hb0).trans hcell
        have I := Lib.hid (hG wr B1.out)
        obtain ⟨z, hz⟩ : ∃ z, f (Q.getD i d0) = z := ⟨_, rfl⟩
        have HZ := Lib.hid hz
        have I2 : Hid (Calls Tryz.prog 50 #[wOfT ⟨nk, ⟨px, pt, pa, pn, pc, pL⟩, ny, ⟨gx, gt, ga, gn, gc, gL⟩, nlo, nhi, ns⟩ pl' A' m' C', .int .i64 (x : Int)] wr fun e w' => e = .returned (.bool z) ∧ Below wr.heap.size wr w') := Lib.hid (by have := I.out; unfold GLa at this; rw [hz] at this; exact this)
        clear hz I hG hat hcell hcp
        by_cases ce : i + 1 = q
        · have j0 : ((i : Int) == (q : Int) - 1) = true := by simp; omega
          have CE := Lib.hid (decide_eq_true ce)
          clear ce
          by_cases c3 : nd.k = 3
          · have j3 : (nd.k == 3) = true := by rw [c3]; rfl
            have C3 := Lib.hid (decide_eq_true c3)
            clear c3
            have EW : Hid (wen nd Q.length i = true) := Lib.hid (by unfold wen; rw [HQ.out]; rw [C3.out, Bool.true_or, Bool.or_true])
            go_wp2_with fail
            refine I2.out.mono ?_
            rintro e w3 ⟨rfl, hb⟩
            have B3 := Lib.hid (below_go B1.out hb)
            have T3 := Lib.hid (T1.out.below hb T1.out.lt)
            clear hb I2 B1 T1 hcT hcK hcL k0 k1 k2 k3 k4 k5 k6 k7 k8 k9 k10 k11 k12
            cases z
            · have NS := Lib.hid (none_snoc HM.out (show lac f nd Q i = false by unfold lac; rw [HZ.out, Bool.and_false]))
              go_wp2_with fail
              go_roundw
              case rel => exact ⟨i + 1, by go_num, by omega, Lib.hid ⟨NS.out, B3.out, T3.out⟩⟩
              case measure => simp [intOf]; omega
            · have ER : r = true := by rw [← HR.out]; unfold lar; rw [if_neg H1.out]; exact any_one (by have := HQ.out; omega) (show lac f nd Q i = true by unfold lac; rw [HZ.out, EW.out]; rfl)
              subst ER
              go_wp2_with fail
              go_ret
              exact ⟨rfl, B3.out⟩
          · have j3 : (nd.k == 3) = false := by simp [c3]
            have C3 := Lib.hid (decide_eq_false c3)
            clear c3
            by_cases c4 : nd.k = 4
            · have j4 : (nd.k == 4) = true := by rw [c4]; rfl
              have C4 := Lib.hid (decide_eq_true c4)
              clear c4
              by_cases cl : nd.lo ≤ (i : Int) + 1
              · have CL := Lib.hid (decide_eq_true cl)
                have EW : Hid (wen nd Q.length i = true) := Lib.hid (by unfold wen; rw [HQ.out]; rw [C4.out, CL.out, Bool.true_and, Bool.or_true, Bool.or_true])
                go_wp2_with fail
                refine I2.out.mono ?_
                rintro e w3 ⟨rfl, hb⟩
                have B3 := Lib.hid (below_go B1.out hb)
                have T3 := Lib.hid (T1.out.below hb T1.out.lt)
                clear hb I2 B1 T1 hcT hcK hcL k0 k1 k2 k3 k4 k5 k6 k7 k8 k9 k10 k11 k12
                cases z
                · have NS := Lib.hid (none_snoc HM.out (show lac f nd Q i = false by unfold lac; rw [HZ.out, Bool.and_false]))
                  go_wp2_with fail
                  go_roundw
                  case rel => exact ⟨i + 1, by go_num, by omega, Lib.hid ⟨NS.out, B3.out, T3.out⟩⟩
                  case measure => simp [intOf]; omega
                · have ER : r = true := by rw [← HR.out]; unfold lar; rw [if_neg H1.out]; exact any_one (by have := HQ.out; omega) (show lac f nd Q i = true by unfold lac; rw [HZ.out, EW.out]; rfl)
                  subst ER
                  go_wp2_with fail
                  go_ret
                  exact ⟨rfl, B3.out⟩
              · have CL := Lib.hid (decide_eq_false cl)
                have EW : Hid (wen nd Q.length i = true) := Lib.hid (by unfold wen; rw [HQ.out]; rw [CE.out, Bool.true_or])
                go_wp2_with fail
                refine I2.out.mono ?_
                rintro e w3 ⟨rfl, hb⟩
                have B3 := Lib.hid (below_go B1.out hb)
                have T3 := Lib.hid (T1.out.below hb T1.out.lt)
                clear hb I2 B1 T1 hcT hcK hcL k0 k1 k2 k3 k4 k5 k6 k7 k8 k9 k10 k11 k12
                cases z
                · have NS := Lib.hid (none_snoc HM.out (show lac f nd Q i = false by unfold lac; rw [HZ.out, Bool.and_false]))
                  go_wp2_with fail
                  go_roundw
                  case rel => exact ⟨i + 1, by go_num, by omega, Lib.hid ⟨NS.out, B3.out, T3.out⟩⟩
                  case measure => simp [intOf]; omega
                · have ER : r = true := by rw [← HR.out]; unfold lar; rw [if_neg H1.out]; exact any_one (by have := HQ.out; omega) (show lac f nd Q i = true by unfold lac; rw [HZ.out, EW.out]; rfl)
                  subst ER
                  go_wp2_with fail
                  go_ret
                  exact ⟨rfl, B3.out⟩
            · have j4 : (nd.k == 4) = false := by simp [c4]
              have C4 := Lib.hid (decide_eq_false c4)
              clear c4
              have EW : Hid (wen nd Q.length i = true) := Lib.hid (by unfold wen; rw [HQ.out]; rw [CE.out, Bool.true_or])
              go_wp2_with fail
              refine I2.out.mono ?_
              rintro e w3 ⟨rfl, hb⟩
              have B3 := Lib.hid (below_go B1.out hb)
              have T3 := Lib.hid (T1.out.below hb T1.out.lt)
              clear hb I2 B1 T1 hcT hcK hcL k0 k1 k2 k3 k4 k5 k6 k7 k8 k9 k10 k11 k12
              cases z
              · have NS := Lib.hid (none_snoc HM.out (show lac f nd Q i = false by unfold lac; rw [HZ.out, Bool.and_false]))
                go_wp2_with fail
                go_roundw
                case rel => exact ⟨i + 1, by go_num, by omega, Lib.hid ⟨NS.out, B3.out, T3.out⟩⟩
                case measure => simp [intOf]; omega
              · have ER : r = true := by rw [← HR.out]; unfold lar; rw [if_neg H1.out]; exact any_one (by have := HQ.out; omega) (show lac f nd Q i = true by unfold lac; rw [HZ.out, EW.out]; rfl)
                subst ER
                go_wp2_with fail
                go_ret
                exact ⟨rfl, B3.out⟩
        · have j0 : ((i : Int) == (q : Int) - 1) = false := by simp; omega
          have CE := Lib.hid (decide_eq_false ce)
          clear ce
          by_cases c3 : nd.k = 3
          · have j3 : (nd.k == 3) = true := by rw [c3]; rfl
            have C3 := Lib.hid (decide_eq_true c3)
            clear c3
            have EW : Hid (wen nd Q.length i = true) := Lib.hid (by unfold wen; rw [HQ.out]; rw [C3.out, Bool.true_or, Bool.or_true])
            go_wp2_with fail
            refine I2.out.mono ?_
            rintro e w3 ⟨rfl, hb⟩
            have B3 := Lib.hid (below_go B1.out hb)
            have T3 := Lib.hid (T1.out.below hb T1.out.lt)
            clear hb I2 B1 T1 hcT hcK hcL k0 k1 k2 k3 k4 k5 k6 k7 k8 k9 k10 k11 k12
            cases z
            · have NS := Lib.hid (none_snoc HM.out (show lac f nd Q i = false by unfold lac; rw [HZ.out, Bool.and_false]))
              go_wp2_with fail
              go_roundw
              case rel => exact ⟨i + 1, by go_num, by omega, Lib.hid ⟨NS.out, B3.out, T3.out⟩⟩
              case measure => simp [intOf]; omega
            · have ER : r = true := by rw [← HR.out]; unfold lar; rw [if_neg H1.out]; exact any_one (by have := HQ.out; omega) (show lac f nd Q i = true by unfold lac; rw [HZ.out, EW.out]; rfl)
              subst ER
              go_wp2_with fail
              go_ret
              exact ⟨rfl, B3.out⟩
          · have j3 : (nd.k == 3) = false := by simp [c3]
            have C3 := Lib.hid (decide_eq_false c3)
            clear c3
            by_cases c4 : nd.k = 4
            · have j4 : (nd.k == 4) = true := by rw [c4]; rfl
              have C4 := Lib.hid (decide_eq_true c4)
              clear c4
              by_cases cl : nd.lo ≤ (i : Int) + 1
              · have CL := Lib.hid (decide_eq_true cl)
                have EW : Hid (wen nd Q.length i = true) := Lib.hid (by unfold wen; rw [HQ.out]; rw [C4.out, CL.out, Bool.true_and, Bool.or_true, Bool.or_true])
                go_wp2_with fail
                refine I2.out.mono ?_
                rintro e w3 ⟨rfl, hb⟩
                have B3 := Lib.hid (below_go B1.out hb)
                have T3 := Lib.hid (T1.out.below hb T1.out.lt)
                clear hb I2 B1 T1 hcT hcK hcL k0 k1 k2 k3 k4 k5 k6 k7 k8 k9 k10 k11 k12
                cases z
                · have NS := Lib.hid (none_snoc HM.out (show lac f nd Q i = false by unfold lac; rw [HZ.out, Bool.and_false]))
                  go_wp2_with fail
                  go_roundw
                  case rel => exact ⟨i + 1, by go_num, by omega, Lib.hid ⟨NS.out, B3.out, T3.out⟩⟩
                  case measure => simp [intOf]; omega
                · have ER : r = true := by rw [← HR.out]; unfold lar; rw [if_neg H1.out]; exact any_one (by have := HQ.out; omega) (show lac f nd Q i = true by unfold lac; rw [HZ.out, EW.out]; rfl)
                  subst ER
                  go_wp2_with fail
                  go_ret
                  exact ⟨rfl, B3.out⟩
              · have CL := Lib.hid (decide_eq_false cl)
                have NS := Lib.hid (none_snoc HM.out (show lac f nd Q i = false by unfold lac wen; rw [HQ.out]; rw [CE.out, C3.out, CL.out, Bool.and_false]; rfl))
                go_wp2_with fail
                go_roundw
                case rel => exact ⟨i + 1, by go_num, by omega, Lib.hid ⟨NS.out, B1.out, T1.out⟩⟩
                case measure => simp [intOf]; omega
            · have j4 : (nd.k == 4) = false := by simp [c4]
              have C4 := Lib.hid (decide_eq_false c4)
              clear c4
              have NS := Lib.hid (none_snoc HM.out (show lac f nd Q i = false by unfold lac wen; rw [HQ.out]; rw [CE.out, C3.out, C4.out]; rfl))
              go_wp2_with fail
              go_roundw
              case rel => exact ⟨i + 1, by go_num, by omega, Lib.hid ⟨NS.out, B1.out, T1.out⟩⟩
              case measure => simp [intOf]; omega
      · obtain rfl : i = q := by omega
        have ER : r = false := by rw [← HR.out]; unfold lar; rw [if_neg H1.out, HQ.out]; exact any_none HM.out
        subst ER
        go_wp2_with fail
        go_ret
        exact ⟨rfl, B1.out⟩
theorem lar_wl (k : Nat) (l : List Nd) (n x : Nat) : lar (fun q => wl k q.1 q.2 x) (l.headD nz) (wpl (l, n)) (wch k (l, n)) x = wl (k + 1) l n x := by
  have e : wl (k + 1) l n x = if (l.headD nz).k = 1 then decide (n = x) else (List.range (wp k l n).length).any fun j => wend l (wp k l n).length j && wl k ((wp k l n).getD j d0).1 ((wp k l n).getD j d0).2 x := rfl
  rw [e]
  unfold lar wpl wch
  by_cases h : (l.headD nz).k = 1
  · simp only [if_pos h]
  · simp only [if_neg h]
    rfl
/- bounds of a node's numbers -/
def Lob (l : List Nd) : Prop := ∀ v ∈ l, 0 ≤ v.lo ∧ v.lo < 256
theorem Wt.ne {k : Nat} {l : List Nd} (h : Wt k l) : l ≠ [] := fmd_ne h.fm
theorem lob_head {l : List Nd} (h : Lob l) (hn : l ≠ []) : 0 ≤ (l.headD nz).lo ∧ (l.headD nz).lo < 256 := by
  obtain ⟨v, r, rfl⟩ := List.exists_cons_of_ne_nil hn
  exact h v (List.mem_cons_self ..)
theorem wch_sub {k : Nat} {l : List Nd} (n i : Nat) (hi : i < (wch k (l, n)).length) : ∀ v ∈ ((wch k (l, n)).getD i d0).1, v ∈ l := by
  unfold wch at hi ⊢
  split at hi
  · simp at hi
  · rename_i h1
    rw [if_neg h1]
    rw [bs_len] at hi
    obtain ⟨g1, _, _⟩ := bs_get (cnt k) (wps l) n i hi
    exact (pts_mem _ (wps_mem g1)).2.2.2
theorem rlast_any (k : Nat) : ∀ (A : Option Addr) (C : Nat) (l : List Nd) (n x : Nat) (F : Nat → Prop) (w : World) (q0 : List Nd × Nat), Wt k l → Lob l → Wds k w F A (wch k (l, n)) → (∀ b, F b → b < w.heap.size) → GLa (fun _ => wl (k + 1) l n x) x w (l.headD nz) (wpl (l, n)) A (wch k (l, n)).length C q0 := by
  induction k with
  | zero =>
    intro A C l n x F w q0 hl hb hT hF
    rw [← lar_wl]
    have hb2 := lob_head hb hl.ne
    refine rlast1_any _ _ _ _ _ _ _ _ (wch_len hl n) hb2.1 hb2.2 (fun i hi => ?_) d0
    have h0 : wch 0 (l, n) = [] := hT
    rw [h0] at hi
    simp at hi
  | succ k ih =>
    intro A C l n x F w q0 hl hb hT hF
    rw [← lar_wl]
    have hb2 := lob_head hb hl.ne
    refine rlast1_any _ _ _ _ _ _ _ _ (wch_len hl n) hb2.1 hb2.2 (fun i hi => ?_) d0
    obtain ⟨b, off, A', C', ha, hFb, hat, hp, hc, hk2⟩ := hT i hi
    refine ⟨b, off, _, _, A', _, C', ha, hF b hFb, hat, hp, hc, fun W hW => ?_⟩
    exact ih A' C' _ _ x F W d0 (hl.sub n i hi) (fun v hv => hb v (wch_sub n i hi v hv)) (hk2.below hW hF) (fun b hb => Nat.lt_of_lt_of_le (hF b hb) hW.size)
end Go.Proofs.YtpnllbojifnopaaGreatDoor

/- The document's wide trees: edges. -/
namespace Go.Proofs.YtpnllbojifnopaaGreatDoor
open Go Go.RowKit Pk Rl
set_option maxRecDepth 20000

abbrev GEd (g : List Nd × Nat → Option Nd) (x y : Nat) (W : World) (n : Nd) (pl : Nat) (A : Option Addr) (m C : Nat) (q : List Nd × Nat) : Prop :=
  Calls Tryz.prog 51 #[wOfT n pl A m C, .int .i64 (x : Int), .int .i64 (y : Int)] W fun e w' => e = .returned (.tuple #[nOf ((g q).getD nz), .bool (g q).isSome]) ∧ Below W.heap.size W w'
def wec (g : List Nd × Nat → Option Nd) (fl ff : List Nd × Nat → Bool) (nd : Nd) (Q : List (List Nd × Nat)) (j : Nat) : Option Nd :=
  (g (Q.getD j d0)).or (if nd.k ≠ 3 ∧ 0 < j ∧ fl (Q.getD (j - 1) d0) = true ∧ ff (Q.getD j d0) = true then some nd else none)
theorem find_none {α : Type} {N : Nat} {G : Nat → Option α} (h : ∀ j, j < N → G j = none) : (List.range N).findSome? G = none := by
  rw [List.findSome?_eq_none_iff]
  intro j hj
  exact h j (List.mem_range.1 hj)
theorem find_first {α : Type} {N i : Nat} {G : Nat → Option α} {v : α} (h : ∀ j, j < i → G j = none) (hi : i < N) (hv : G i = some v) : (List.range N).findSome? G = some v := by
  rw [List.range_eq_range', show N = i + (N - i) by omega, ← List.range'_append_1, List.findSome?_append, ← List.range_eq_range', find_none h, show N - i = (N - i - 1) + 1 by omega, List.range'_succ, List.findSome?_cons]
  simp [hv]
theorem no_snoc {α : Type} {i : Nat} {G : Nat → Option α} (h : ∀ j, j < i → G j = none) (hi : G i = none) : ∀ j, j < i + 1 → G j = none := fun j hj => by
  rcases Nat.lt_or_ge j i with c | c
  · exact h j c
  · have : j = i := by omega
    rw [this]; exact hi
theorem NB.free {w : World} {g : Nat} {nd : Nd} (h : NB w g nd) (j : Nat) : w.frozen? ⟨g, j, none⟩ = false := by
  simp [World.frozen?, NB] at h ⊢
  simp [h]
abbrev GAl (g : List Nd × Nat → Option Nd) (fl ff : List Nd × Nat → Bool) (x y : Nat) (W : World) (n : Nd) (pl : Nat) (A : Option Addr) (m C : Nat) (q : List Nd × Nat) : Prop :=
  GEd g x y W n pl A m C q ∧ GLa fl x W n pl A m C q ∧ GFi ff y W n pl A m C q
set_option maxHeartbeats 8000000 in
theorem redge1_any (g : List Nd × Nat → Option Nd) (fl ff : List Nd × Nat → Bool) (nd : Nd) (pl : Nat) (A : Option Addr) (C : Nat) (Q : List (List Nd × Nat)) (x y : Nat) (w : World) (hq : Q.length ≤ 1000) (hK : KW (GAl g fl ff x y) w A Q) (q0 : List Nd × Nat) :
    GEd (fun _ => (List.range Q.length).findSome? (wec g fl ff nd Q)) x y w nd pl A Q.length C q0 := by
  unfold GEd
  have HK := Lib.hid hK
  clear hK
  obtain ⟨q, hq2⟩ : ∃ q, Q.length = q := ⟨_, rfl⟩
  rw [hq2] at hq ⊢
  obtain ⟨r, hr⟩ : ∃ r, (List.range q).findSome? (wec g fl ff nd Q) = r := ⟨_, rfl⟩
  rw [hr]
  have HQ := Lib.hid hq2
  have HR := Lib.hid hr
  obtain ⟨w1, hw1⟩ : ∃ X, (w.alloc (wobjT nd pl A q C)).alloc (nobj nz) = X := ⟨_, rfl⟩
  have B0 := Lib.hid (hw1 ▸ below_go (below_alloc w (wobjT nd pl A q C)) (below_alloc _ (nobj nz)) : Below w.heap.size w w1)
  have T0 := Lib.hid (hw1 ▸ (Wdb.start w nd pl A q C).below (below_alloc _ (nobj nz)) (Wdb.start w nd pl A q C).lt : Wdb w1 w.heap.size nd pl A q C)
  have N0 := Lib.hid (show NB w1 (w.heap.size + 1) nz by rw [← hw1, ← World.size_alloc w (wobjT nd pl A q C)]; exact heap_alloc_new _ _)
  have hcT := T0.out.cells.2.2
  clear hq2 hr
  go_enter Tryz.func51, Tryz.ntmps51
  go_upto_region 1 with fail
  clear hw1
  go_wp2_with fail
  go_loopw [14] (fun v14 W => ∃ (i : Nat), v14 = .int .i64 (i : Int) ∧ i ≤ q ∧ Hid ((∀ j, j < i → wec g fl ff nd Q j = none) ∧ Below w.heap.size w W ∧ Wdb W w.heap.size nd pl A q C ∧ NB W (w.heap.size + 1) nz)) (fun v14 _ => q - (intOf v14).toNat)
  case atStart => exact ⟨0, rfl, by omega, Lib.hid ⟨fun j hj => absurd hj (by omega), B0.out, T0.out, N0.out⟩⟩
  case round =>
    obtain ⟨i, rfl, hi, H⟩ := hrel
    have HM := Lib.hid H.out.1
    have B1 := Lib.hid H.out.2.1
    have T1 := Lib.hid H.out.2.2.1
    have N1 := Lib.hid H.out.2.2.2
    have hcT := T1.out.cells.2.2
    clear H B0 T0 N0
    by_cases ci : i < q
    · obtain ⟨b, off, ⟨nk, ⟨px, pt, pa, pn, pc, pL⟩, ny, ⟨gx, gt, ga, gn, gc, gL⟩, nlo, nhi, ns⟩, pl', A', m', C', rfl, hb0, hat, hcp, hcell, hG⟩ := HK.out i (by have := HQ.out; omega)
      have GG := Lib.hid hG
      have CK := Lib.hid (show ∀ W, Below w.heap.size w W → W.cell? ⟨b, off + i * 13, none⟩ = some (.int .u8 nk) ∧ W.cell? ⟨b, off + i * 13 + 1, none⟩ = some (.bool px) ∧ W.cell? ⟨b, off + i * 13 + 2, none⟩ = some (.int .u8 pt) ∧ W.cell? ⟨b, off + i * 13 + 3, none⟩ = some (.slice pa pn pc) ∧ W.cell? ⟨b, off + i * 13 + 4, none⟩ = some (.bool ny) ∧ W.cell? ⟨b, off + i * 13 + 5, none⟩ = some (.bool gx) ∧ W.cell? ⟨b, off + i * 13 + 6, none⟩ = some (.int .u8 gt) ∧ W.cell? ⟨b, off + i * 13 + 7, none⟩ = some (.slice ga gn gc) ∧ W.cell? ⟨b, off + i * 13 + 8, none⟩ = some (.int .u8 nlo) ∧ W.cell? ⟨b, off + i * 13 + 9, none⟩ = some (.int .u8 nhi) ∧ W.cell? ⟨b, off + i * 13 + 10, none⟩ = some (.int .i64 ns) ∧ W.cell? ⟨b, off + i * 13 + 11, none⟩ = some (.int .i64 (pl' : Int)) ∧ W.cell? ⟨b, off + i * 13 + 12, none⟩ = some (.slice A' m' C') from fun W hW => by
        obtain ⟨k0, k1, k2, k3, k4, k5, k6, k7, k8, k9, k10⟩ := hat.below hW hb0
        exact ⟨k0, k1, k2, k3, k4, k5, k6, k7, k8, k9, k10, (hW.cell (p := ⟨b, off + i * 13 + 11, none⟩) hb0).trans hcp, (hW.cell (p := ⟨b, off + i * 13 + 12, none⟩) hb0).trans hcell⟩)
      obtain ⟨k0, k1, k2, k3, k4, k5, k6, k7, k8, k9, k10, k11, k12⟩ := CK.out wr B1.out
      obtain ⟨z, hz⟩ : ∃ z, g (Q.getD i d0) = z := ⟨_, rfl⟩
      have HZ := Lib.hid hz
      have I2 : Hid (Calls Tryz.prog 51 #[wOfT ⟨nk, ⟨px, pt, pa, pn, pc, pL⟩, ny, ⟨gx, gt, ga, gn, gc, gL⟩, nlo, nhi, ns⟩ pl' A' m' C', .int .i64 (x : Int), .int .i64 (y : Int)] wr fun e w' => e = .returned (.tuple #[nOf (z.getD nz), .bool z.isSome]) ∧ Below wr.heap.size wr w') := Lib.hid (by have := (hG wr B1.out).1; unfold GEd at this; rw [hz] at this; exact this)
      clear hz hG hat hcell hcp
      rcases z with _ | v
      · obtain ⟨vz, hvz⟩ : ∃ vz : Nd, nz = vz := ⟨_, rfl⟩
        have I3 : Hid (Calls Tryz.prog 51 #[wOfT ⟨nk, ⟨px, pt, pa, pn, pc, pL⟩, ny, ⟨gx, gt, ga, gn, gc, gL⟩, nlo, nhi, ns⟩ pl' A' m' C', .int .i64 (x : Int), .int .i64 (y : Int)] wr fun e w' => e = .returned (.tuple #[nOf vz, .bool false]) ∧ Below wr.heap.size wr w') := Lib.hid (hvz ▸ I2.out)
        clear I2 hvz
        go_wp2_with fail
        refine I3.out.mono ?_
        rintro e w3 ⟨rfl, hb⟩
        have B4 := Lib.hid (below_go (below_go B1.out hb) (below_alloc _ (nobj vz)))
        have T4 := Lib.hid ((T1.out.below hb T1.out.lt).below (below_alloc _ (nobj vz)) (Nat.lt_of_lt_of_le T1.out.lt hb.size))
        have N4 := Lib.hid ((N1.out.next hb).next (below_alloc _ (nobj vz)))
        clear hb I3 B1 T1 N1 hcT k0 k1 k2 k3 k4 k5 k6 k7 k8 k9 k10 k11 k12
        go_upto_region 7 with fail
        generalize w3.alloc (nobj vz) = w4 at B4 T4 N4 ⊢
        generalize w3.heap.size = g3
        have hcT := T4.out.cells.2.2
        have hcK := T4.out.cells.1.1
        by_cases h3 : nd.k = 3
        · have j3 : (nd.k != 3) = false := by simp [h3]
          have NS := Lib.hid (no_snoc HM.out (show wec g fl ff nd Q i = none by unfold wec; rw [HZ.out, if_neg (fun c => c.1 h3)]; rfl))
          go_wp2_with fail
          go_roundw
          case rel => exact ⟨i + 1, by go_num, by omega, Lib.hid ⟨NS.out, B4.out, T4.out, N4.out⟩⟩
          case measure => simp [intOf]; omega
        · have j3 : (nd.k != 3) = true := by simp [h3]
          have H3 := Lib.hid h3
          clear h3
          rcases i with _ | p
          · have NS := Lib.hid (no_snoc HM.out (show wec g fl ff nd Q 0 = none by unfold wec; rw [HZ.out, if_neg (fun c => absurd c.2.1 (by omega))]; rfl))
            go_wp2_with fail
            go_roundw
            case rel => exact ⟨0 + 1, by go_num, by omega, Lib.hid ⟨NS.out, B4.out, T4.out, N4.out⟩⟩
            case measure => simp [intOf]; omega
          · obtain ⟨b', off', ⟨mk, ⟨qx, qt, qa, qn, qc, qL⟩, my, ⟨hx, ht, ha, hn, hc, hL⟩, mlo, mhi, ms⟩, pl2, A2, m2, C2, hab, hb0', hat, hcp, hcell, hG⟩ := HK.out p (by have := HQ.out; omega)
            injection hab with hab
            injection hab with hab1 hab2
            subst hab1 hab2
            obtain ⟨c0, c1, c2, c3, c4, c5, c6, c7, c8, c9, c10⟩ := hat.below B4.out hb0
            have c11 := (B4.out.cell (p := ⟨b, off + p * 13 + 11, none⟩) hb0).trans hcp
            have c12 := (B4.out.cell (p := ⟨b, off + p * 13 + 12, none⟩) hb0).trans hcell
            obtain ⟨zl, hzl⟩ : ∃ zl, fl (Q.getD p d0) = zl := ⟨_, rfl⟩
            have HL := Lib.hid hzl
            have I4 : Hid (Calls Tryz.prog 50 #[wOfT ⟨mk, ⟨qx, qt, qa, qn, qc, qL⟩, my, ⟨hx, ht, ha, hn, hc, hL⟩, mlo, mhi, ms⟩ pl2 A2 m2 C2, .int .i64 (x : Int)] w4 fun e w' => e = .returned (.bool zl) ∧ Below w4.heap.size w4 w') := Lib.hid (by have := (hG w4 B4.out).2.1; unfold GLa at this; rw [hzl] at this; exact this)
            clear hzl hG hat hcell hcp
            have hp1 : (p : Int) + 1 - 1 = (p : Int) := by omega
            have hpq : (p : Int) < (q : Int) := by omega
            have hpq' : p < q := by omega
            have n3 : decide ((0 : Int) < (p : Int) + 1) = true := decide_eq_true (by omega)
            have n3' : decide (0 < p + 1) = true := by simp
            have hwp : IntKind.i64.wrap (p : Int) = (p : Int) := by rw [IntKind.wrap_i64]; omega
            go_wp2_with fail
            refine I4.out.mono ?_
            rintro e w5 ⟨rfl, hb5⟩
            have B5 := Lib.hid (below_go B4.out hb5)
            have T5 := Lib.hid (T4.out.below hb5 T4.out.lt)
            have N5 := Lib.hid (N4.out.next hb5)
            clear hb5 I4 B4 T4 N4 hcT hcK c0 c1 c2 c3 c4 c5 c6 c7 c8 c9 c10 c11 c12
            have hcT := T5.out.cells.2.2
            cases zl
            · have NS := Lib.hid (no_snoc HM.out (show wec g fl ff nd Q (p + 1) = none by unfold wec; rw [HZ.out, if_neg (fun c => by have := c.2.2.1; rw [Nat.add_sub_cancel, HL.out] at this; cases this)]; rfl))
              go_wp2_with fail
              go_roundw
              case rel => exact ⟨p + 1 + 1, by go_num, by omega, Lib.hid ⟨NS.out, B5.out, T5.out, N5.out⟩⟩
              case measure => simp [intOf]; omega
            · obtain ⟨k0, k1, k2, k3, k4, k5, k6, k7, k8, k9, k10, k11, k12⟩ := CK.out w5 B5.out
              obtain ⟨zf, hzf⟩ : ∃ zf, ff (Q.getD (p + 1) d0) = zf := ⟨_, rfl⟩
              have HF := Lib.hid hzf
              have I5 : Hid (Calls Tryz.prog 49 #[wOfT ⟨nk, ⟨px, pt, pa, pn, pc, pL⟩, ny, ⟨gx, gt, ga, gn, gc, gL⟩, nlo, nhi, ns⟩ pl' A' m' C', .int .i64 (y : Int)] w5 fun e w' => e = .returned (.bool zf) ∧ Below w5.heap.size w5 w') := Lib.hid (by have := (GG.out w5 B5.out).2.2; unfold GFi at this; rw [hzf] at this; exact this)
              clear hzf
              go_wp2_with fail
              refine I5.out.mono ?_
              rintro e w6 ⟨rfl, hb6⟩
              have B6 := Lib.hid (below_go B5.out hb6)
              have T6 := Lib.hid (T5.out.below hb6 T5.out.lt)
              have N6 := Lib.hid (N5.out.next hb6)
              clear hb6 I5 B5 T5 N5 hcT k0 k1 k2 k3 k4 k5 k6 k7 k8 k9 k10 k11 k12
              cases zf
              · have NS := Lib.hid (no_snoc HM.out (show wec g fl ff nd Q (p + 1) = none by unfold wec; rw [HZ.out, if_neg (fun c => by have := c.2.2.2; rw [HF.out] at this; cases this)]; rfl))
                go_wp2_with fail
                go_roundw
                case rel => exact ⟨p + 1 + 1, by go_num, by omega, Lib.hid ⟨NS.out, B6.out, T6.out, N6.out⟩⟩
                case measure => simp [intOf]; omega
              · have ER : r = some nd := by rw [← HR.out]; exact find_first HM.out (by omega) (show wec g fl ff nd Q (p + 1) = some nd by unfold wec; rw [HZ.out, if_pos ⟨H3.out, by omega, by rw [Nat.add_sub_cancel]; exact HL.out, HF.out⟩]; rfl)
                subst ER
                obtain ⟨t0, t1, t2, t3, t4, t5, t6, t7, t8, t9, t10⟩ := T6.out.cells.1
                obtain ⟨s0, s1, s2, s3, s4, s5, s6, s7, s8, s9, s10⟩ := N6.out.atn
                have hfr := N6.out.free
                go_wp2_with fail
                exact bodyPost_ret (v := .tuple #[nOf nd, .bool true]) (by simp [results, Tryz.results51, go_sem, *]) rfl ⟨rfl, by (repeat (with_reducible refine Below.setCell ?_ (by exact Nat.le_succ _) _)); exact B6.out⟩
      · have I3 : Hid (Calls Tryz.prog 51 #[wOfT ⟨nk, ⟨px, pt, pa, pn, pc, pL⟩, ny, ⟨gx, gt, ga, gn, gc, gL⟩, nlo, nhi, ns⟩ pl' A' m' C', .int .i64 (x : Int), .int .i64 (y : Int)] wr fun e w' => e = .returned (.tuple #[nOf v, .bool true]) ∧ Below wr.heap.size wr w') := Lib.hid I2.out
        clear I2
        have ER : r = some v := by rw [← HR.out]; exact find_first HM.out ci (show wec g fl ff nd Q i = some v by unfold wec; rw [HZ.out]; rfl)
        subst ER
        go_wp2_with fail
        refine I3.out.mono ?_
        rintro e w3 ⟨rfl, hb⟩
        have B4 := Lib.hid (below_go (below_go B1.out hb) (below_alloc _ (nobj v)))
        have N4 := Lib.hid ((N1.out.next hb).next (below_alloc _ (nobj v)))
        have V4 := Lib.hid (NB.alloc w3 v)
        clear hb I3 B1 T1 N1 hcT k0 k1 k2 k3 k4 k5 k6 k7 k8 k9 k10 k11 k12
        go_upto_region 6 with fail
        generalize w3.alloc (nobj v) = w4 at B4 V4 N4 ⊢
        generalize w3.heap.size = g3 at V4 ⊢
        obtain ⟨s0, s1, s2, s3, s4, s5, s6, s7, s8, s9, s10⟩ := N4.out.atn
        obtain ⟨t0, t1, t2, t3, t4, t5, t6, t7, t8, t9, t10⟩ := V4.out.atn
        have hfr := N4.out.free
        go_wp2_with fail
        exact bodyPost_ret (v := .tuple #[nOf v, .bool true]) (by simp [results, Tryz.results51, go_sem, *]) rfl ⟨rfl, by (repeat (with_reducible refine Below.setCell ?_ (by exact Nat.le_succ _) _)); exact B4.out⟩
    · obtain rfl : i = q := by omega
      have ER : r = none := by rw [← HR.out]; exact find_none HM.out
      subst ER
      obtain ⟨s0, s1, s2, s3, s4, s5, s6, s7, s8, s9, s10⟩ := N1.out.atn
      have hfr := N1.out.free
      go_wp2_with fail
      exact bodyPost_ret (v := .tuple #[nOf nz, .bool false]) (by simp [results, Tryz.results51, go_sem, *]) rfl ⟨rfl, by (repeat (with_reducible refine Below.setCell ?_ (by exact Nat.le_succ _) _)); exact B1.out⟩
theorem wer_we (k : Nat) (l : List Nd) (n x y : Nat) : (List.range (wch k (l, n)).length).findSome? (wec (fun q => we k q.1 q.2 x y) (fun q => wl k q.1 q.2 x) (fun q => wf k q.1 q.2 y) (l.headD nz) (wch k (l, n))) = we (k + 1) l n x y := by
  have e : we (k + 1) l n x y = if (l.headD nz).k = 1 then none else (List.range (wp k l n).length).findSome? fun j =>
      (we k ((wp k l n).getD j d0).1 ((wp k l n).getD j d0).2 x y).or
        (if (l.headD nz).k ≠ 3 ∧ 0 < j ∧ wl k ((wp k l n).getD (j - 1) d0).1 ((wp k l n).getD (j - 1) d0).2 x = true ∧ wf k ((wp k l n).getD j d0).1 ((wp k l n).getD j d0).2 y = true then some (l.headD nz) else none) := rfl
  rw [e]
  unfold wch
  by_cases h : (l.headD nz).k = 1
  · simp only [if_pos h]
    rfl
  · simp only [if_neg h]
    rfl
theorem redge_any (k : Nat) : ∀ (A : Option Addr) (C : Nat) (l : List Nd) (n x y : Nat) (F : Nat → Prop) (w : World) (q0 : List Nd × Nat), Wt k l → Lob l → Wds k w F A (wch k (l, n)) → (∀ b, F b → b < w.heap.size) → GEd (fun _ => we (k + 1) l n x y) x y w (l.headD nz) (wpl (l, n)) A (wch k (l, n)).length C q0 := by
  induction k with
  | zero =>
    intro A C l n x y F w q0 hl hb hT hF
    rw [← wer_we]
    refine redge1_any _ _ _ _ _ _ _ _ _ _ _ (wch_len hl n) (fun i hi => ?_) d0
    have h0 : wch 0 (l, n) = [] := hT
    rw [h0] at hi
    simp at hi
  | succ k ih =>
    intro A C l n x y F w q0 hl hb hT hF
    rw [← wer_we]
    refine redge1_any _ _ _ _ _ _ _ _ _ _ _ (wch_len hl n) (fun i hi => ?_) d0
    obtain ⟨b, off, A', C', ha, hFb, hat, hp, hc, hk2⟩ := hT i hi
    refine ⟨b, off, _, _, A', _, C', ha, hF b hFb, hat, hp, hc, fun W hW => ?_⟩
    have hF' : ∀ b, F b → b < W.heap.size := fun b hb => Nat.lt_of_lt_of_le (hF b hb) hW.size
    have hb' : Lob ((wch (k + 1) (l, n)).getD i d0).1 := fun v hv => hb v (wch_sub n i hi v hv)
    exact ⟨ih A' C' _ _ x y F W d0 (hl.sub n i hi) hb' (hk2.below hW hF) hF', rlast_any k A' C' _ _ x F W d0 (hl.sub n i hi) hb' (hk2.below hW hF) hF', rfirst_any k A' C' _ _ y F W d0 (hl.sub n i hi) (hk2.below hW hF) hF'⟩
end Go.Proofs.YtpnllbojifnopaaGreatDoor

/- The document's wide trees: rows of one's own. -/
namespace Go.Proofs.YtpnllbojifnopaaGreatDoor
open Go Go.RowKit Pk Rl
set_option maxRecDepth 20000

abbrev Wi := Nd × Nat × Option Addr × Nat × Nat
abbrev wiz : Wi := (nz, 0, none, 0, 0)
def wcl (x : Wi) : List Value := ncl x.1 ++ [.int .i64 (x.2.1 : Int), .slice x.2.2.1 x.2.2.2.1 x.2.2.2.2]
def wcls (X : List Wi) : List Value := X.flatMap wcl
theorem wcl_len (x : Wi) : (wcl x).length = 13 := rfl
theorem wcls_len (X : List Wi) : (wcls X).length = X.length * 13 := by
  induction X with
  | nil => rfl
  | cons v X ih => show (wcl v ++ wcls X).length = _; rw [List.length_append, ih, List.length_cons, wcl_len]; omega
theorem wcls_app (X Y : List Wi) : wcls (X ++ Y) = wcls X ++ wcls Y := by unfold wcls; rw [List.flatMap_append]
theorem wcls_get (X : List Wi) (i : Nat) (hi : i < X.length) (j : Nat) (hj : j < 13) : (wcls X)[i * 13 + j]? = (wcl (X.getD i wiz))[j]? := by
  induction X generalizing i with
  | nil => simp at hi
  | cons v X ih =>
    show (wcl v ++ wcls X)[i * 13 + j]? = _
    have h4 := wcl_len v
    rcases i with _ | i
    · rw [List.getElem?_append_left (by omega)]; simp
    · rw [List.getElem?_append_right (by omega), h4, show (i + 1) * 13 + j - 13 = i * 13 + j by omega, ih i (by simpa using hi)]; simp
theorem wcls_one (X : List Wi) : ∀ u ∈ wcls X, u.oneCell' = true := by
  intro u hu
  obtain ⟨v, _, h⟩ := List.mem_flatMap.1 hu
  simp only [wcl, ncl, List.cons_append, List.nil_append, List.mem_cons, List.not_mem_nil, or_false] at h
  rcases h with rfl | rfl | rfl | rfl | rfl | rfl | rfl | rfl | rfl | rfl | rfl | rfl | rfl <;> rfl
def Wkid (k : Nat) (w : World) (B : Nat) (v : Value) (p : List Nd × Nat) (x : Wi) : Prop :=
  x.1 = p.1.headD nz ∧ x.2.1 = wpl p ∧ x.2.2.2.1 = (wch k p).length ∧ Wds k w (fun b => B ≤ b ∧ b < w.heap.size ∧ v.ownBlock ≠ some b) x.2.2.1 (wch k p)
def OwnW (k : Nat) (w : World) (B : Nat) (v : Value) (D : List (List Nd × Nat)) : Prop :=
  ∃ X, X.length = D.length ∧ w.ownsRow B 127 13 v D.length (wcls X) ∧ ∀ i, i < D.length → Wkid k w B v (D.getD i d0) (X.getD i wiz)
theorem rowW_below {w w' : World} {B n : Nat} {v : Value} {cs : List Value} (h : w.ownsRow B 127 13 v n cs) (hb : Below w.heap.size w w') : w'.ownsRow B 127 13 v n cs := by
  refine ⟨h.1, ?_⟩
  rcases h.2 with h0 | ⟨g, cap, cur, hv, hg, hh, r⟩
  · exact .inl h0
  · refine .inr ⟨g, cap, cur, hv, hg, ?_, r⟩
    rw [hb.block g ?_]
    · exact hh
    · rcases Nat.lt_or_ge g w.heap.size with h1 | h1
      · exact h1
      · rw [Array.getElem?_eq_none h1] at hh; cases hh
theorem rowW_set {w : World} {B n : Nat} {v : Value} {cs : List Value} (h : w.ownsRow B 127 13 v n cs) (g j : Nat) (hg : g < B) (x : Value) : (w.setCell ⟨g, j, none⟩ x).ownsRow B 127 13 v n cs := by
  refine ⟨h.1, ?_⟩
  rcases h.2 with h0 | ⟨r, cap, cur, hv, hr, hh, t⟩
  · exact .inl h0
  · refine .inr ⟨r, cap, cur, hv, hr, ?_, t⟩
    rw [heap_setCell_other w ⟨g, j, none⟩ r x (by show r ≠ g; omega)]
    exact hh
theorem Wkid.mono {k : Nat} {w w' : World} {B : Nat} {v : Value} {p : List Nd × Nat} {x : Wi} (h : Wkid k w B v p x) (e : ∀ b, B ≤ b → b < w.heap.size → v.ownBlock ≠ some b → w'.heap[b]? = w.heap[b]?) (hs : w.heap.size ≤ w'.heap.size) : Wkid k w' B v p x :=
  ⟨h.1, h.2.1, h.2.2.1, h.2.2.2.same (fun b hb => e b hb.1 hb.2.1 hb.2.2) (fun b hb => ⟨hb.1, by omega, hb.2.2⟩)⟩
theorem OwnW.below {k : Nat} {w w' : World} {B : Nat} {v : Value} {D : List (List Nd × Nat)} (h : OwnW k w B v D) (hb : Below w.heap.size w w') : OwnW k w' B v D := by
  obtain ⟨X, h1, h2, h3⟩ := h
  exact ⟨X, h1, rowW_below h2 hb, fun i hi => (h3 i hi).mono (fun b _ h _ => hb.block b h) hb.size⟩
theorem OwnW.set {k : Nat} {w : World} {B : Nat} {v : Value} {D : List (List Nd × Nat)} (h : OwnW k w B v D) (g j : Nat) (hg : g < B) (x : Value) : OwnW k (w.setCell ⟨g, j, none⟩ x) B v D := by
  obtain ⟨X, h1, h2, h3⟩ := h
  exact ⟨X, h1, rowW_set h2 g j hg x, fun i hi => (h3 i hi).mono (fun b hB _ _ => heap_setCell_other w ⟨g, j, none⟩ b x (by show b ≠ g; omega)) (by simp)⟩
theorem OwnW.nil (k : Nat) (w : World) (B : Nat) : OwnW k w B (.slice none 0 0) [] := ⟨[], rfl, World.ownsRow_nil w B 127 13, fun i hi => absurd hi (by simp)⟩
theorem xgetD_app {α : Type} (X : List α) (x d : α) (i : Nat) (h : i < X.length) : (X ++ [x]).getD i d = X.getD i d := by
  simp [List.getD_eq_getElem?_getD, List.getElem?_append_left h]
theorem xgetD_last {α : Type} (X : List α) (x d : α) : (X ++ [x]).getD X.length d = x := by simp [List.getD_eq_getElem?_getD]
theorem OwnW.form {k : Nat} {w : World} {B : Nat} {v : Value} {D : List (List Nd × Nat)} (h : OwnW k w B v D) : ∃ A c, v = .slice A D.length c ∧ Wds (k + 1) w (fun b => B ≤ b ∧ b < w.heap.size) A D := by
  obtain ⟨X, h1, h2, h3⟩ := h
  rcases h2.2 with ⟨rfl, h0⟩ | ⟨g, cap, cur, rfl, hg, hh, _⟩
  · have : D = [] := List.eq_nil_of_length_eq_zero h0
    subst this
    exact ⟨none, 0, rfl, Wds.nil _ _ _ _⟩
  · have hlt : g < w.heap.size := by
      rcases Nat.lt_or_ge g w.heap.size with h1 | h1
      · exact h1
      · rw [Array.getElem?_eq_none h1] at hh; cases hh
    refine ⟨_, _, rfl, fun i hi => ?_⟩
    have key : ∀ j u, j < 13 → (wcl (X.getD i wiz))[j]? = some u → w.cell? ⟨g, 0 + i * 13 + j, none⟩ = some u := fun j u hj hu => by
      have := World.ownsRow.cells h2 (g := g) rfl (i * 13 + j) u (by rw [wcls_get X i (by omega) j hj]; exact hu)
      rwa [add_plain, ← Nat.add_assoc] at this
    obtain ⟨k1, k2, k3, k4⟩ := h3 i hi
    refine ⟨g, 0, (X.getD i wiz).2.2.1, (X.getD i wiz).2.2.2.2, rfl, ⟨hg, hlt⟩, ?_, ?_, ?_, k4.same (fun _ _ => rfl) (fun b hb => ⟨hb.1, hb.2.1⟩)⟩
    · rw [← k1]
      exact ⟨key 0 _ (by omega) rfl, key 1 _ (by omega) rfl, key 2 _ (by omega) rfl, key 3 _ (by omega) rfl, key 4 _ (by omega) rfl, key 5 _ (by omega) rfl, key 6 _ (by omega) rfl, key 7 _ (by omega) rfl, key 8 _ (by omega) rfl, key 9 _ (by omega) rfl, key 10 _ (by omega) rfl⟩
    · rw [← k2]
      exact key 11 _ (by omega) rfl
    · rw [← k3]
      exact key 12 _ (by omega) rfl
theorem infoW : ∃ i, Tryz.prog.info? 127 = some i ∧ i.zero = some (wOfT nz 0 none 0 0) ∧ i.size = 13 ∧ i.bytes = 128 :=
  ⟨(Tryz.prog.info? 127).get (by kernel_rfl), by kernel_rfl, by kernel_rfl, by kernel_rfl, by kernel_rfl⟩
theorem wp_appw {ops : Array Oper} {rest : List Oper} {o : Oper} {a : Act} {Q : Exit → Act → World → Prop} (s x : Operand) (w : World) (hgd : o.guard = none)
    (hop : o.op = .call { callee := .builtin .append, args := #[s, x], argTypes := #[125, 125] })
    (k : Nat) (B : Nat) (v : Value) (D : List (List Nd × Nat)) (hs : a.eval s = v) (ho : OwnW k w B v D) (g : Nat) (hx : a.eval x = .slice (some ⟨g, 0, none⟩) 1 1) (p : List Nd × Nat) (nd : Nd) (pl : Nat) (A : Option Addr) (mm C : Nat)
    (hc : w.heap[g]? = some (wobjT nd pl A mm C)) (hk : Wkid k w B v p (nd, pl, A, mm, C))
    (hlen : D.length ≤ 100000) (hB : B ≤ w.heap.size) (m : Nat) (hm : D.length + 1 = m)
    (h : ∀ A' c' w', OwnW k w' B (.slice A' m c') (D ++ [p]) → Below B w w' → wpList Tryz.prog ops Q rest (a.put o.dst (.slice A' m c')) w') : wpList Tryz.prog ops Q (o :: rest) a w := by
  refine wpList_plain hgd fun K hK => ?_
  obtain ⟨i, hi, hz, hsz, hy⟩ := infoW
  obtain ⟨X, h1, h2, h3⟩ := ho
  obtain ⟨v', w', hrun, r2, r3, _, r5⟩ := run_append_own_at (P := Tryz.prog) w B 125 o.type 127 i (wOfT nz 0 none 0 0) 13 128 Tryz.underlying125 hi hz hsz hy rfl (by omega) v D.length (wcls X) h2 ⟨g, 0, none⟩ 1 1 (wcl (nd, pl, A, mm, C)) rfl
    (fun j u hj => by
      have hjl : j < 13 := by
        rcases Nat.lt_or_ge j (wcl (nd, pl, A, mm, C)).length with h | h
        · exact h
        · rw [List.getElem?_eq_none h] at hj; cases hj
      rw [add_plain, cell_of_row w g _ _ _ _ hc, ← hj]
      rcases j with _ | _ | _ | _ | _ | _ | _ | _ | _ | _ | _ | _ | _ | j
      all_goals first | rfl | omega)
    (fun u hu => wcls_one [(nd, pl, A, mm, C)] u (by simpa [wcls] using hu)) (by unfold maxLen; omega) (by omega) hB
  have hO : OwnW k w' B v' (D ++ [p]) := by
    refine ⟨X ++ [(nd, pl, A, mm, C)], by simp [h1], by rw [List.length_append, wcls_app]; simpa [wcls] using r2, fun j hj => ?_⟩
    have old : ∀ q x, Wkid k w B v q x → Wkid k w' B v' q x := fun q x hq =>
      ⟨hq.1, hq.2.1, hq.2.2.1, hq.2.2.2.same (fun b hb => r3.block b hb.2.1 (Ne.symm hb.2.2)) (fun b hb => ⟨hb.1, by have := r3.size; omega, by
        rcases r5 with e | e
        · rw [e]; exact hb.2.2
        · rw [e]; intro e2; injection e2 with e2; omega⟩)⟩
    rw [List.length_append, List.length_singleton] at hj
    by_cases hjl : j < D.length
    · rw [xgetD_app D p d0 j hjl, xgetD_app X _ wiz j (by omega)]
      exact old _ _ (h3 j hjl)
    · obtain rfl : j = D.length := by omega
      rw [xgetD_last, ← h1, xgetD_last]
      exact old _ _ hk
  obtain ⟨A', c', rfl, _⟩ := hO.form
  have ek : (D ++ [p]).length = m := by rw [List.length_append, List.length_singleton, hm]
  rw [ek] at hO hrun
  unfold Oper.wp
  simp [execOp, hop, resolve, invoke, builtin, hs, hx, hrun, Result.andThen]
  exact hK _ _ (h A' c' w' hO ((Below.refl _ _).grown r3 hB (fun k hk => (World.ownsRow.lt h2 k hk).1)))
theorem Wdb.set {w : World} {g : Nat} {n : Nd} {pl : Nat} {A : Option Addr} {m C : Nat} (h : Wdb w g n pl A m C) (A' : Option Addr) (m' C' : Nat) : Wdb (w.setCell ⟨g, 12, none⟩ (.slice A' m' C')) g n pl A' m' C' := by
  unfold Wdb
  rw [heap_setCell_same w g 12 _ _ _ h]
  rfl
theorem Wdb.free {w : World} {g : Nat} {n : Nd} {pl : Nat} {A : Option Addr} {m C : Nat} (h : Wdb w g n pl A m C) (j : Nat) : w.frozen? ⟨g, j, none⟩ = false := by
  simp [World.frozen?, Wdb] at h ⊢
  simp [h]
/- a part that is new -/
theorem Wkid.new {k : Nat} {w w' : World} {B : Nat} {v : Value} {D : List (List Nd × Nat)} (hO : OwnW k w B v D) (hB : B ≤ w.heap.size) {p : List Nd × Nat} {A : Option Addr} (C : Nat) (hT : Wds k w' (fun b => w.heap.size ≤ b ∧ b < w'.heap.size) A (wch k p)) : Wkid k w' B v p (p.1.headD nz, wpl p, A, (wch k p).length, C) := by
  obtain ⟨X, h1, h2, h3⟩ := hO
  refine ⟨rfl, rfl, rfl, hT.same (fun _ _ => rfl) (fun b hb => ⟨by omega, hb.2, fun e => ?_⟩)⟩
  have := (World.ownsRow.lt h2 b e).2
  omega
end Go.Proofs.YtpnllbojifnopaaGreatDoor

/- The document's widen. -/
namespace Go.Proofs.YtpnllbojifnopaaGreatDoor
open Go Go.RowKit Pk Rl
set_option maxRecDepth 20000

theorem bs_snoc (c : List Nd → Nat) (ps : List (List Nd)) (p : List Nd) : ∀ n, bs c n (ps ++ [p]) = bs c n ps ++ [(p, n + (ps.map c).sum)] := by
  induction ps with
  | nil => intro n; rfl
  | cons q ps ih =>
    intro n
    show (q, n) :: bs c (n + c q) (ps ++ [p]) = ((q, n) :: bs c (n + c q) ps) ++ [(p, n + (c q + (ps.map c).sum))]
    rw [ih, Nat.add_assoc]
    rfl
/- what widen answers -/
def Wn (k : Nat) (w : World) (l : List Nd) (n : Nat) (e : Ending) (w' : World) : Prop :=
  ∃ A C, e = .returned (.tuple #[wOfT (l.headD nz) (wpl (l, n)) A (wch k (l, n)).length C, .int .i64 ((n + cnt (k + 1) l : Nat) : Int)]) ∧ Wds k w' (fun b => w.heap.size ≤ b ∧ b < w'.heap.size) A (wch k (l, n)) ∧ Below w.heap.size w w'
abbrev GWn (k : Nat) (W : World) (nd : Nd) (A : Option Addr) (m C : Nat) (p : List Nd) : Prop := ∀ n : Nat, n + cnt (k + 1) p ≤ 32 → Calls Tryz.prog 47 #[tOfT nd A m C, .int .i64 (n : Int)] W fun e w' => Wn k W p n e w'
set_option maxHeartbeats 4000000 in
theorem widen_leaf (k : Nat) (A : Option Addr) (m C : Nat) (l : List Nd) (w : World) (h1 : (l.headD nz).k = 1) : GWn k w (l.headD nz) A m C l := by
  intro n hn
  have HN := Lib.hid (show wch k (l, n) = [] ∧ wpl (l, n) = n ∧ cnt (k + 1) l = 1 from ⟨by unfold wch; rw [if_pos h1], by unfold wpl; rw [if_pos h1], by show (if (l.headD nz).k = 1 then 1 else _) = _; rw [if_pos h1]⟩)
  obtain ⟨nd, hnd⟩ : ∃ nd, l.headD nz = nd := ⟨_, rfl⟩
  have HD := Lib.hid hnd
  rw [hnd] at h1 ⊢
  clear hnd
  have i1 : (nd.k == 1) = true := by rw [h1]; rfl
  clear h1
  go_enter Tryz.func47, Tryz.ntmps47
  go_wp2_with fail
  exact bodyPost_ret (v := .tuple #[wOfT nd n none 0 0, .int .i64 ((n : Int) + 1)]) (by simp [results, Tryz.results47, go_sem, *]) rfl ⟨none, 0, by rw [HD.out, HN.out.1, HN.out.2.1, HN.out.2.2]; rfl, by rw [HN.out.1]; exact Wds.nil _ _ _ _, below_go (below_go (below_alloc w _) (below_alloc _ _)) (below_alloc _ _)⟩
/- while a tree is widened -/
structure Bw (k : Nat) (w W : World) (nd : Nd) (Ta : Option Addr) (Tm Tc : Nat) (A : Option Addr) (m c : Nat) (D : List (List Nd × Nat)) : Prop where
  tb : Trb W w.heap.size nd Ta Tm Tc
  res : Wdb W (w.heap.size + 1) nz 0 none 0 0
  box : Wdb W (w.heap.size + 2) nd 0 A m c
  own : OwnW k W (w.heap.size + 3) (.slice A m c) D
  bel : Below w.heap.size w W
  big : w.heap.size + 3 ≤ W.heap.size
  len : D.length = m
theorem Bw.next {k : Nat} {w W W' : World} {nd : Nd} {Ta : Option Addr} {Tm Tc : Nat} {A : Option Addr} {m c : Nat} {D : List (List Nd × Nat)} (h : Bw k w W nd Ta Tm Tc A m c D) (hb : Below W.heap.size W W') : Bw k w W' nd Ta Tm Tc A m c D :=
  ⟨h.tb.below hb (by have := h.big; omega), h.res.below hb (by have := h.big; omega), h.box.below hb (by have := h.big; omega), h.own.below hb, below_go h.bel hb, Nat.le_trans h.big hb.size, h.len⟩
theorem Bw.start (k : Nat) (w : World) (nd : Nd) (Ta : Option Addr) (Tm Tc : Nat) : Bw k w (((w.alloc (tobjT nd Ta Tm Tc)).alloc (wobjT nz 0 none 0 0)).alloc (wobjT nd 0 none 0 0)) nd Ta Tm Tc none 0 0 [] := by
  have h0 := ((Trb.start w nd Ta Tm Tc).below (below_alloc _ (wobjT nz 0 none 0 0)) (by simp)).below (below_alloc _ (wobjT nd 0 none 0 0)) (by simp; omega)
  have h1 := (Wdb.start (w.alloc (tobjT nd Ta Tm Tc)) nz 0 none 0 0).below (below_alloc _ (wobjT nd 0 none 0 0)) (by simp)
  have h2 := Wdb.start ((w.alloc (tobjT nd Ta Tm Tc)).alloc (wobjT nz 0 none 0 0)) nd 0 none 0 0
  rw [World.size_alloc] at h1
  rw [World.size_alloc, World.size_alloc] at h2
  exact ⟨h0, h1, h2, OwnW.nil _ _ _, below_go (below_go (below_alloc w _) (below_alloc _ _)) (below_alloc _ _), by simp, rfl⟩
theorem Bw.step {k : Nat} {w W W' : World} {nd : Nd} {Ta : Option Addr} {Tm Tc : Nat} {A : Option Addr} {m c : Nat} {D : List (List Nd × Nat)} (h : Bw k w W nd Ta Tm Tc A m c D) {A' : Option Addr} {m' c' : Nat} {D' : List (List Nd × Nat)} (hO : OwnW k W' (w.heap.size + 3) (.slice A' m' c') D') (hb : Below (w.heap.size + 3) W W') (hl : D'.length = m') :
    Bw k w (W'.setCell ⟨w.heap.size + 2, 12, none⟩ (.slice A' m' c')) nd Ta Tm Tc A' m' c' D' := by
  refine ⟨?_, ?_, (h.box.below hb (by omega)).set _ _ _, hO.set _ _ (by omega) _, (h.bel.trans (hb.mono (by omega))).setCell (by show w.heap.size ≤ w.heap.size + 2; omega) _, by rw [World.size_setCell]; exact Nat.le_trans h.big hb.size, hl⟩
  · have := h.tb.below hb (by omega)
    unfold Trb at this ⊢
    rw [heap_setCell_other W' ⟨w.heap.size + 2, 12, none⟩ _ _ (by show w.heap.size ≠ w.heap.size + 2; omega)]
    exact this
  · have := h.res.below hb (by omega)
    unfold Wdb at this ⊢
    rw [heap_setCell_other W' ⟨w.heap.size + 2, 12, none⟩ _ _ (by show w.heap.size + 1 ≠ w.heap.size + 2; omega)]
    exact this
/- how far: so many times all parts, and so many parts -/
def rps (R : List (List Nd)) (t i : Nat) : List (List Nd) := (List.replicate t R).flatten ++ R.take i
theorem rps_next (R : List (List Nd)) (t i : Nat) (hi : i < R.length) : rps R t (i + 1) = rps R t i ++ [R.getD i []] := by
  unfold rps
  rw [ptake_snoc R i hi, List.append_assoc]
theorem rps_round (R : List (List Nd)) (t : Nat) : rps R t R.length = rps R (t + 1) 0 := by
  unfold rps
  rw [List.replicate_succ', List.flatten_append, List.take_length]
  simp
theorem rps_split (R : List (List Nd)) (T t i : Nat) (ht : t < T) : ∃ S, (List.replicate T R).flatten = rps R t i ++ S := by
  refine ⟨R.drop i ++ (List.replicate (T - t - 1) R).flatten, ?_⟩
  unfold rps
  rw [List.append_assoc, ← List.append_assoc (R.take i), List.take_append_drop]
  conv => lhs; rw [show T = t + ((T - t - 1) + 1) by omega, ← List.replicate_append_replicate, List.flatten_append, List.replicate_succ, List.flatten_cons]
theorem rps_sum (R : List (List Nd)) (c : List Nd → Nat) (T t i M : Nat) (ht : t < T) (hi : i < R.length) (hM : ((List.replicate T R).flatten.map c).sum = M) : ((rps R t i).map c).sum + c (R.getD i []) ≤ M := by
  obtain ⟨S, hS⟩ := rps_split R T t (i + 1) ht
  rw [← hM, hS, rps_next R t i hi, List.map_append, List.map_append, List.sum_append, List.sum_append]
  simp
theorem rps_len (R : List (List Nd)) (T t i : Nat) (ht : t < T) : (rps R t i).length ≤ T * R.length := by
  obtain ⟨S, hS⟩ := rps_split R T t i ht
  have h1 : (List.replicate T R).flatten.length = T * R.length := by rw [List.length_flatten, List.map_replicate, List.sum_replicate_nat]
  rw [hS, List.length_append] at h1
  omega
theorem rps_end (R : List (List Nd)) (T : Nat) : rps R T 0 = (List.replicate T R).flatten := by unfold rps; simp
structure Bx (k : Nat) (w W : World) (nd : Nd) (R : List (List Nd)) (Ta : Option Addr) (Tc : Nat) (n t i s : Nat) (A : Option Addr) (m c : Nat) (D : List (List Nd × Nat)) : Prop where
  b : Bw k w W nd Ta R.length Tc A m c D
  d : D = bs (cnt (k + 1)) n (rps R t i)
  s : s = n + ((rps R t i).map (cnt (k + 1))).sum
def WnX (k : Nat) (w : World) (nd : Nd) (n M : Nat) (PS : List (List Nd)) (e : Ending) (w' : World) : Prop := ∃ A' m' C', e = .returned (.tuple #[wOfT nd 0 A' m' C', .int .i64 ((n + M : Nat) : Int)]) ∧ m' = (bs (cnt (k + 1)) n PS).length ∧ Wds (k + 1) w' (fun b => w.heap.size ≤ b ∧ b < w'.heap.size) A' (bs (cnt (k + 1)) n PS) ∧ Below w.heap.size w w'
theorem Bx.turn {k : Nat} {w W : World} {nd : Nd} {R : List (List Nd)} {Ta : Option Addr} {Tc : Nat} {n t s : Nat} {A : Option Addr} {m c : Nat} {D : List (List Nd × Nat)} (h : Bx k w W nd R Ta Tc n t R.length s A m c D) : Bx k w W nd R Ta Tc n (t + 1) 0 s A m c D :=
  ⟨h.b, by rw [← rps_round]; exact h.d, by rw [← rps_round]; exact h.s⟩

set_option maxHeartbeats 8000000 in
theorem widen_rep (k : Nat) (nd : Nd) (A : Option Addr) (C : Nat) (R : List (List Nd)) (n : Nat) (w : World) (h1 : nd.k ≠ 1) (h4 : nd.k = 4) (T : Nat) (hT : nd.hi = (T : Int)) (hT8 : T ≤ 8) (hq : R.length ≤ 1000) (M : Nat) (hM : ((List.replicate T R).flatten.map (cnt (k + 1))).sum = M) (hn : n + M ≤ 32) (hK : KD (GWn k) w A R) :
    Calls Tryz.prog 47 #[tOfT nd A R.length C, .int .i64 (n : Int)] w (WnX k w nd n M (List.replicate T R).flatten) := by
  have RE := Lib.hid (rps_end R T)
  have RS := Lib.hid (fun t i ht hi => rps_sum R (cnt (k + 1)) T t i M ht hi hM)
  have RL := Lib.hid (fun t i ht => rps_len R T t i ht)
  rw [← rps_end] at hM ⊢
  have HM := Lib.hid hM
  have HK := Lib.hid hK
  have B0 := Lib.hid (show Bx k w _ nd R A C n 0 0 n none 0 0 [] from ⟨Bw.start k w nd A R.length C, rfl, rfl⟩)
  obtain ⟨q, hq2⟩ : ∃ q, R.length = q := ⟨_, rfl⟩
  rw [hq2] at hq ⊢
  have HQ := Lib.hid hq2
  rw [hq2] at B0
  clear hq2 hM hK
  obtain ⟨nk, ⟨px, pt, pa, pn, pc, pL⟩, ny, ⟨gx, gt, ga, gn, gc, gL⟩, nlo, nhi, ns⟩ := nd
  obtain rfl : nhi = (T : Int) := hT
  have i4 : (nk == 4) = true := by simp only at h4; rw [h4]; rfl
  have i1 : (nk == 1) = false := by simp only at h1; simp [h1]
  clear h1 h4
  have hnM : n ≤ 32 := by omega
  go_enter Tryz.func47, Tryz.ntmps47
  go_upto_region 8 with fail
  generalize (((w.alloc (tobjT ⟨nk, ⟨px, pt, pa, pn, pc, pL⟩, ny, ⟨gx, gt, ga, gn, gc, gL⟩, nlo, (T : Int), ns⟩ A q C)).alloc (wobjT nz 0 none 0 0)).alloc (wobjT ⟨nk, ⟨px, pt, pa, pn, pc, pL⟩, ny, ⟨gx, gt, ga, gn, gc, gL⟩, nlo, (T : Int), ns⟩ 0 none 0 0)) = w1 at B0 ⊢
  go_wp2_with fail
  go_loopw [1, 8] (fun v1 v8 W => ∃ (s t : Nat) (A' : Option Addr) (m c : Nat) (D : List (List Nd × Nat)), v1 = .int .i64 (s : Int) ∧ v8 = .int .i64 (t : Int) ∧ t ≤ T ∧ s ≤ 32 ∧ Hid (Bx k w W ⟨nk, ⟨px, pt, pa, pn, pc, pL⟩, ny, ⟨gx, gt, ga, gn, gc, gL⟩, nlo, (T : Int), ns⟩ R A C n t 0 s A' m c D)) (fun _ v8 _ => T - (intOf v8).toNat)
  case atStart => exact ⟨n, 0, none, 0, 0, [], rfl, rfl, by omega, by omega, B0⟩
  case round =>
    obtain ⟨s, t, A', m, c, D, rfl, rfl, ht, hs32, H⟩ := hrel
    clear B0
    by_cases ct : t < T
    · have hcT := H.out.b.tb.cells.2
      rw [HQ.out] at hcT
      go_wp2_with fail
      go_loopw [1, 40] (fun v1 v40 W => ∃ (s i : Nat) (A' : Option Addr) (m c : Nat) (D : List (List Nd × Nat)), v1 = .int .i64 (s : Int) ∧ v40 = .int .i64 (i : Int) ∧ i ≤ q ∧ s ≤ 32 ∧ Hid (Bx k w W ⟨nk, ⟨px, pt, pa, pn, pc, pL⟩, ny, ⟨gx, gt, ga, gn, gc, gL⟩, nlo, (T : Int), ns⟩ R A C n t i s A' m c D)) (fun _ v40 _ => q - (intOf v40).toNat)
      case atStart => exact ⟨s, 0, A', m, c, D, rfl, rfl, by omega, hs32, H⟩
      case round =>
        obtain ⟨s, i, A', m, c, D, rfl, rfl, hi, hs32, H⟩ := hrel
        clear hcT
        have hcT := H.out.b.tb.cells.2
        rw [HQ.out] at hcT
        by_cases ci : i < q
        · obtain ⟨b, off, ⟨mk, ⟨qx, qt, qa, qn, qc, qL⟩, my, ⟨hx, ht', ha, hn', hc, hL⟩, mlo, mhi, ms⟩, A2, m2, C2, rfl, hb0, hat, hcell, hG⟩ := HK.out i (by have := HQ.out; omega)
          have hb1 : b < wr.heap.size := Nat.lt_of_lt_of_le hb0 H.out.b.bel.size
          obtain ⟨k0, k1, k2, k3, k4, k5, k6, k7, k8, k9, k10⟩ := hat.below H.out.b.bel hb0
          have k11 : wr.cell? ⟨b, off + i * 12 + 11, none⟩ = some (.slice A2 m2 C2) := (H.out.b.bel.cell (p := ⟨b, off + i * 12 + 11, none⟩) hb0).trans hcell
          obtain ⟨p, hp⟩ : ∃ p, R.getD i [] = p := ⟨_, rfl⟩
          rw [hp] at hG
          have RN := Lib.hid (show rps R t (i + 1) = rps R t i ++ [p] by rw [rps_next R t i (by have := HQ.out; omega), hp])
          have SB := Lib.hid (show ((rps R t i).map (cnt (k + 1))).sum + cnt (k + 1) p ≤ M by rw [← hp]; exact RS.out t i ct (by have := HQ.out; omega))
          have LB := Lib.hid (show (rps R t i).length ≤ T * q by rw [← HQ.out]; exact RL.out t i ct)
          have SS := Lib.hid H.out.s
          obtain ⟨z, hz⟩ : ∃ z, s + cnt (k + 1) p = z := ⟨_, rfl⟩
          have HZ := Lib.hid hz
          have I2 : Hid (Calls Tryz.prog 47 #[tOfT ⟨mk, ⟨qx, qt, qa, qn, qc, qL⟩, my, ⟨hx, ht', ha, hn', hc, hL⟩, mlo, mhi, ms⟩ A2 m2 C2, .int .i64 (s : Int)] wr fun e w' => ∃ nd4 pl4 A4 m4 C4, e = .returned (.tuple #[wOfT nd4 pl4 A4 m4 C4, .int .i64 (z : Int)]) ∧ Hid (nd4 = p.headD nz ∧ pl4 = wpl (p, s) ∧ m4 = (wch k (p, s)).length ∧ Wds k w' (fun b => wr.heap.size ≤ b ∧ b < w'.heap.size) A4 (wch k (p, s))) ∧ Below wr.heap.size wr w') := Lib.hid ((hG wr H.out.b.bel s (by have := SB.out; have := SS.out; omega)).mono fun e w' h => by
            obtain ⟨A4, C4, h1, h2, h3⟩ := h
            rw [hz] at h1
            exact ⟨_, _, A4, _, C4, h1, Lib.hid ⟨rfl, rfl, rfl, h2⟩, h3⟩)
          have hz32 : z ≤ 32 := by have := SB.out; have := SS.out; omega
          clear hz hp hG hat hcell hb0 hb1
          go_wp2_with fail
          refine I2.out.mono ?_
          rintro e w4 ⟨nd4, pl4, A4, m4, C4, rfl, HT, hb⟩
          clear I2 k0 k1 k2 k3 k4 k5 k6 k7 k8 k9 k10 k11 hcT
          have K4 := Lib.hid (H.out.b.next hb)
          obtain ⟨t1, t2, t3, t4⟩ := HT.out
          have KN := Lib.hid (Wkid.new H.out.b.own H.out.b.big C4 t4)
          rw [← t3, ← t2] at KN
          have KN' : Hid (Wkid k w4 (w.heap.size + 3) (.slice A' m c) (p, s) (nd4, pl4, A4, m4, C4)) := Lib.hid (by rw [t1]; exact KN.out)
          clear t1 t2 t3 t4 KN HT
          have SZ4 : w.heap.size + 3 ≤ w4.heap.size := K4.out.big
          have HO6 : Hid (OwnW k ((w4.alloc (wobjT nd4 pl4 A4 m4 C4)).alloc (wobjT nd4 pl4 A4 m4 C4)) (w.heap.size + 3) (.slice A' m c) D) := Lib.hid (((K4.out.next (below_alloc _ _)).next (below_alloc _ _)).own)
          have H6 : Hid (((w4.alloc (wobjT nd4 pl4 A4 m4 C4)).alloc (wobjT nd4 pl4 A4 m4 C4)).heap[w4.heap.size + 1]? = some (wobjT nd4 pl4 A4 m4 C4)) := Lib.hid (by
            have := heap_alloc_new (w4.alloc (wobjT nd4 pl4 A4 m4 C4)) (wobjT nd4 pl4 A4 m4 C4)
            rwa [World.size_alloc] at this)
          have KD6 : Hid (Wkid k ((w4.alloc (wobjT nd4 pl4 A4 m4 C4)).alloc (wobjT nd4 pl4 A4 m4 C4)) (w.heap.size + 3) (.slice A' m c) (p, s) (nd4, pl4, A4, m4, C4)) :=
            Lib.hid (KN'.out.mono (fun b _ hb2 _ => (below_go (below_alloc w4 _) (below_alloc _ _)).block b hb2) (by simp; omega))
          have K6 := Lib.hid ((K4.out.next (below_alloc _ (wobjT nd4 pl4 A4 m4 C4))).next (below_alloc _ (wobjT nd4 pl4 A4 m4 C4)))
          have DL := Lib.hid (show D.length = m from K4.out.len)
          have M2 := Lib.hid (show m ≤ 8000 by
            have h1 := DL.out
            rw [H.out.d, bs_len] at h1
            have h2 := LB.out
            have h3 : T * q ≤ 8 * 1000 := Nat.mul_le_mul (by omega) hq
            omega)
          have DD := Lib.hid (show D ++ [(p, s)] = bs (cnt (k + 1)) n (rps R t (i + 1)) by rw [RN.out, bs_snoc, ← H.out.d, ← SS.out])
          have SD := Lib.hid (show z = n + ((rps R t (i + 1)).map (cnt (k + 1))).sum by
            rw [RN.out, List.map_append, List.sum_append, ← HZ.out, SS.out, Nat.add_assoc]
            simp)
          have c12 := K4.out.box.cells.2.2
          have lt12 := K4.out.box.lt
          clear hb KN' H SS LB SB RN HZ
          go_wp2_with (at_builtin; refine wp_appw (.tmp 54) (.tmp 56) _ (by rfl) (by rfl) k (w.heap.size + 3) _ D (by rfl) HO6.out (w4.heap.size + 1) (by rfl) (p, s) nd4 pl4 A4 m4 C4 H6.out KD6.out (by have := M2.out; have := DL.out; omega) (by simp; omega) (m + 1) (by rw [DL.out]) ?_; intro A7 c7 w7 hO7 hb7; have K7 := Lib.hid (K6.out.step hO7 hb7 (by rw [List.length_append, DL.out]; rfl)); have f7 := ((K6.out.box.below hb7 (by omega)).free 12); have lt7 := ((K6.out.box.below hb7 (by omega)).lt); have cc7 := ((K6.out.box.below hb7 (by omega)).cells.2.2))
          go_roundw
          case rel => exact ⟨z, i + 1, A7, m + 1, c7, D ++ [(p, s)], rfl, by go_num, by omega, hz32, Lib.hid ⟨K7.out, DD.out, SD.out⟩⟩
          case measure => simp [intOf]; omega
        · obtain rfl : i = q := by omega
          go_wp2_with fail
          exact ⟨⟨s, t + 1, A', m, c, D, rfl, by go_num, by omega, hs32, Lib.hid (by have h := H.out; rw [← HQ.out] at h; exact h.turn)⟩, by simp [intOf]; omega⟩
    · obtain rfl : t = T := by omega
      obtain ⟨⟨f0, f1, f2, f3, f4, f5, f6, f7, f8, f9, f10⟩, f11, f12⟩ := H.out.b.box.cells
      obtain ⟨⟨j0, j1, j2, j3, j4, j5, j6, j7, j8, j9, j10⟩, j11, j12⟩ := H.out.b.res.cells
      have hfr := H.out.b.res.free
      obtain ⟨A9, c9, e9, T9⟩ := H.out.b.own.form
      injection e9 with e91 e92 e93
      subst e91
      rw [H.out.d] at T9
      have T10 := Lib.hid T9
      have BE := Lib.hid H.out.b.bel
      have SE := Lib.hid (show s = n + M by rw [H.out.s, HM.out])
      have ME := Lib.hid (show m = (bs (cnt (k + 1)) n (rps R t 0)).length by rw [← H.out.b.len, ← H.out.d])
      clear e92 e93 T9 H
      go_wp2_with fail
      refine bodyPost_ret (v := .tuple #[wOfT ⟨nk, ⟨px, pt, pa, pn, pc, pL⟩, ny, ⟨gx, gt, ga, gn, gc, gL⟩, nlo, (t : Int), ns⟩ 0 A' m c, .int .i64 (s : Int)]) (by simp [results, Tryz.results47, go_sem, *]) rfl ⟨A', m, c, by rw [SE.out], ME.out, ?_, by (repeat (with_reducible refine Below.setCell ?_ (by exact Nat.le_succ _) _)); exact BE.out⟩
      refine T10.out.same (fun b hb => ?_) (fun b hb => ⟨by omega, ?_⟩)
      · repeat (with_reducible refine Eq.trans (heap_setCell_other _ _ _ _ (by show b ≠ w.heap.size + 1; have := hb.1; omega)) ?_)
        rfl
      · simp only [World.size_setCell]; exact hb.2
end Go.Proofs.YtpnllbojifnopaaGreatDoor

/- The document's widen: a tree that is no repetition; all trees. -/
namespace Go.Proofs.YtpnllbojifnopaaGreatDoor
open Go Go.RowKit Pk Rl
set_option maxRecDepth 20000

set_option maxHeartbeats 8000000 in
theorem widen_one (k : Nat) (nd : Nd) (A : Option Addr) (C : Nat) (R : List (List Nd)) (n : Nat) (w : World) (h1 : nd.k ≠ 1) (h4 : nd.k ≠ 4) (hq : R.length ≤ 1000) (M : Nat) (hM : ((List.replicate 1 R).flatten.map (cnt (k + 1))).sum = M) (hn : n + M ≤ 32) (hK : KD (GWn k) w A R) :
    Calls Tryz.prog 47 #[tOfT nd A R.length C, .int .i64 (n : Int)] w (WnX k w nd n M (List.replicate 1 R).flatten) := by
  have RE := Lib.hid (rps_end R 1)
  have RS := Lib.hid (fun t i ht hi => rps_sum R (cnt (k + 1)) 1 t i M ht hi hM)
  have RL := Lib.hid (fun t i ht => rps_len R 1 t i ht)
  rw [← rps_end] at hM ⊢
  have HM := Lib.hid hM
  have HK := Lib.hid hK
  have B0 := Lib.hid (show Bx k w _ nd R A C n 0 0 n none 0 0 [] from ⟨Bw.start k w nd A R.length C, rfl, rfl⟩)
  obtain ⟨q, hq2⟩ : ∃ q, R.length = q := ⟨_, rfl⟩
  rw [hq2] at hq ⊢
  have HQ := Lib.hid hq2
  rw [hq2] at B0
  clear hq2 hM hK
  obtain ⟨nk, ⟨px, pt, pa, pn, pc, pL⟩, ny, ⟨gx, gt, ga, gn, gc, gL⟩, nlo, nhi, ns⟩ := nd
  have i4 : (nk == 4) = false := by simp only at h4; simp [h4]
  have i1 : (nk == 1) = false := by simp only at h1; simp [h1]
  clear h1 h4
  have hnM : n ≤ 32 := by omega
  go_enter Tryz.func47, Tryz.ntmps47
  go_upto_region 8 with fail
  generalize (((w.alloc (tobjT ⟨nk, ⟨px, pt, pa, pn, pc, pL⟩, ny, ⟨gx, gt, ga, gn, gc, gL⟩, nlo, nhi, ns⟩ A q C)).alloc (wobjT nz 0 none 0 0)).alloc (wobjT ⟨nk, ⟨px, pt, pa, pn, pc, pL⟩, ny, ⟨gx, gt, ga, gn, gc, gL⟩, nlo, nhi, ns⟩ 0 none 0 0)) = w1 at B0 ⊢
  go_wp2_with fail
  go_loopw [1, 8] (fun v1 v8 W => ∃ (s t : Nat) (A' : Option Addr) (m c : Nat) (D : List (List Nd × Nat)), v1 = .int .i64 (s : Int) ∧ v8 = .int .i64 (t : Int) ∧ t ≤ 1 ∧ s ≤ 32 ∧ Hid (Bx k w W ⟨nk, ⟨px, pt, pa, pn, pc, pL⟩, ny, ⟨gx, gt, ga, gn, gc, gL⟩, nlo, nhi, ns⟩ R A C n t 0 s A' m c D)) (fun _ v8 _ => 1 - (intOf v8).toNat)
  case atStart => exact ⟨n, 0, none, 0, 0, [], rfl, rfl, by omega, by omega, B0⟩
  case round =>
    obtain ⟨s, t, A', m, c, D, rfl, rfl, ht, hs32, H⟩ := hrel
    clear B0
    by_cases ct : t < 1
    · have ctI : decide ((t : Int) < 1) = true := decide_eq_true (by omega)
      have hcT := H.out.b.tb.cells.2
      rw [HQ.out] at hcT
      go_wp2_with fail
      go_loopw [1, 40] (fun v1 v40 W => ∃ (s i : Nat) (A' : Option Addr) (m c : Nat) (D : List (List Nd × Nat)), v1 = .int .i64 (s : Int) ∧ v40 = .int .i64 (i : Int) ∧ i ≤ q ∧ s ≤ 32 ∧ Hid (Bx k w W ⟨nk, ⟨px, pt, pa, pn, pc, pL⟩, ny, ⟨gx, gt, ga, gn, gc, gL⟩, nlo, nhi, ns⟩ R A C n t i s A' m c D)) (fun _ v40 _ => q - (intOf v40).toNat)
      case atStart => exact ⟨s, 0, A', m, c, D, rfl, rfl, by omega, hs32, H⟩
      case round =>
        obtain ⟨s, i, A', m, c, D, rfl, rfl, hi, hs32, H⟩ := hrel
        clear hcT
        have hcT := H.out.b.tb.cells.2
        rw [HQ.out] at hcT
        by_cases ci : i < q
        · obtain ⟨b, off, ⟨mk, ⟨qx, qt, qa, qn, qc, qL⟩, my, ⟨hx, ht', ha, hn', hc, hL⟩, mlo, mhi, ms⟩, A2, m2, C2, rfl, hb0, hat, hcell, hG⟩ := HK.out i (by have := HQ.out; omega)
          have hb1 : b < wr.heap.size := Nat.lt_of_lt_of_le hb0 H.out.b.bel.size
          obtain ⟨k0, k1, k2, k3, k4, k5, k6, k7, k8, k9, k10⟩ := hat.below H.out.b.bel hb0
          have k11 : wr.cell? ⟨b, off + i * 12 + 11, none⟩ = some (.slice A2 m2 C2) := (H.out.b.bel.cell (p := ⟨b, off + i * 12 + 11, none⟩) hb0).trans hcell
          obtain ⟨p, hp⟩ : ∃ p, R.getD i [] = p := ⟨_, rfl⟩
          rw [hp] at hG
          have RN := Lib.hid (show rps R t (i + 1) = rps R t i ++ [p] by rw [rps_next R t i (by have := HQ.out; omega), hp])
          have SB := Lib.hid (show ((rps R t i).map (cnt (k + 1))).sum + cnt (k + 1) p ≤ M by rw [← hp]; exact RS.out t i ct (by have := HQ.out; omega))
          have LB := Lib.hid (show (rps R t i).length ≤ 1 * q by rw [← HQ.out]; exact RL.out t i ct)
          have SS := Lib.hid H.out.s
          obtain ⟨z, hz⟩ : ∃ z, s + cnt (k + 1) p = z := ⟨_, rfl⟩
          have HZ := Lib.hid hz
          have I2 : Hid (Calls Tryz.prog 47 #[tOfT ⟨mk, ⟨qx, qt, qa, qn, qc, qL⟩, my, ⟨hx, ht', ha, hn', hc, hL⟩, mlo, mhi, ms⟩ A2 m2 C2, .int .i64 (s : Int)] wr fun e w' => ∃ nd4 pl4 A4 m4 C4, e = .returned (.tuple #[wOfT nd4 pl4 A4 m4 C4, .int .i64 (z : Int)]) ∧ Hid (nd4 = p.headD nz ∧ pl4 = wpl (p, s) ∧ m4 = (wch k (p, s)).length ∧ Wds k w' (fun b => wr.heap.size ≤ b ∧ b < w'.heap.size) A4 (wch k (p, s))) ∧ Below wr.heap.size wr w') := Lib.hid ((hG wr H.out.b.bel s (by have := SB.out; have := SS.out; omega)).mono fun e w' h => by
            obtain ⟨A4, C4, h1, h2, h3⟩ := h
            rw [hz] at h1
            exact ⟨_, _, A4, _, C4, h1, Lib.hid ⟨rfl, rfl, rfl, h2⟩, h3⟩)
          have hz32 : z ≤ 32 := by have := SB.out; have := SS.out; omega
          clear hz hp hG hat hcell hb0 hb1
          go_wp2_with fail
          refine I2.out.mono ?_
          rintro e w4 ⟨nd4, pl4, A4, m4, C4, rfl, HT, hb⟩
          clear I2 k0 k1 k2 k3 k4 k5 k6 k7 k8 k9 k10 k11 hcT
          have K4 := Lib.hid (H.out.b.next hb)
          obtain ⟨t1, t2, t3, t4⟩ := HT.out
          have KN := Lib.hid (Wkid.new H.out.b.own H.out.b.big C4 t4)
          rw [← t3, ← t2] at KN
          have KN' : Hid (Wkid k w4 (w.heap.size + 3) (.slice A' m c) (p, s) (nd4, pl4, A4, m4, C4)) := Lib.hid (by rw [t1]; exact KN.out)
          clear t1 t2 t3 t4 KN HT
          have SZ4 : w.heap.size + 3 ≤ w4.heap.size := K4.out.big
          have HO6 : Hid (OwnW k ((w4.alloc (wobjT nd4 pl4 A4 m4 C4)).alloc (wobjT nd4 pl4 A4 m4 C4)) (w.heap.size + 3) (.slice A' m c) D) := Lib.hid (((K4.out.next (below_alloc _ _)).next (below_alloc _ _)).own)
          have H6 : Hid (((w4.alloc (wobjT nd4 pl4 A4 m4 C4)).alloc (wobjT nd4 pl4 A4 m4 C4)).heap[w4.heap.size + 1]? = some (wobjT nd4 pl4 A4 m4 C4)) := Lib.hid (by
            have := heap_alloc_new (w4.alloc (wobjT nd4 pl4 A4 m4 C4)) (wobjT nd4 pl4 A4 m4 C4)
            rwa [World.size_alloc] at this)
          have KD6 : Hid (Wkid k ((w4.alloc (wobjT nd4 pl4 A4 m4 C4)).alloc (wobjT nd4 pl4 A4 m4 C4)) (w.heap.size + 3) (.slice A' m c) (p, s) (nd4, pl4, A4, m4, C4)) :=
            Lib.hid (KN'.out.mono (fun b _ hb2 _ => (below_go (below_alloc w4 _) (below_alloc _ _)).block b hb2) (by simp; omega))
          have K6 := Lib.hid ((K4.out.next (below_alloc _ (wobjT nd4 pl4 A4 m4 C4))).next (below_alloc _ (wobjT nd4 pl4 A4 m4 C4)))
          have DL := Lib.hid (show D.length = m from K4.out.len)
          have M2 := Lib.hid (show m ≤ 8000 by
            have h1 := DL.out
            rw [H.out.d, bs_len] at h1
            have h2 := LB.out
            have h3 : 1 * q ≤ 8 * 1000 := Nat.mul_le_mul (by omega) hq
            omega)
          have DD := Lib.hid (show D ++ [(p, s)] = bs (cnt (k + 1)) n (rps R t (i + 1)) by rw [RN.out, bs_snoc, ← H.out.d, ← SS.out])
          have SD := Lib.hid (show z = n + ((rps R t (i + 1)).map (cnt (k + 1))).sum by
            rw [RN.out, List.map_append, List.sum_append, ← HZ.out, SS.out, Nat.add_assoc]
            simp)
          have c12 := K4.out.box.cells.2.2
          have lt12 := K4.out.box.lt
          clear hb KN' H SS LB SB RN HZ ct
          go_wp2_with (at_builtin; refine wp_appw (.tmp 54) (.tmp 56) _ (by rfl) (by rfl) k (w.heap.size + 3) _ D (by rfl) HO6.out (w4.heap.size + 1) (by rfl) (p, s) nd4 pl4 A4 m4 C4 H6.out KD6.out (by have := M2.out; have := DL.out; omega) (by simp; omega) (m + 1) (by rw [DL.out]) ?_; intro A7 c7 w7 hO7 hb7; have K7 := Lib.hid (K6.out.step hO7 hb7 (by rw [List.length_append, DL.out]; rfl)); have f7 := ((K6.out.box.below hb7 (by omega)).free 12); have lt7 := ((K6.out.box.below hb7 (by omega)).lt); have cc7 := ((K6.out.box.below hb7 (by omega)).cells.2.2))
          go_roundw
          case rel => exact ⟨z, i + 1, A7, m + 1, c7, D ++ [(p, s)], rfl, by go_num, by omega, hz32, Lib.hid ⟨K7.out, DD.out, SD.out⟩⟩
          case measure => simp [intOf]; omega
        · obtain rfl : i = q := by omega
          go_wp2_with fail
          exact ⟨⟨s, t + 1, A', m, c, D, rfl, by go_num, by omega, hs32, Lib.hid (by have h := H.out; rw [← HQ.out] at h; exact h.turn)⟩, by simp [intOf]; omega⟩
    · obtain rfl : t = 1 := by omega
      obtain ⟨⟨f0, f1, f2, f3, f4, f5, f6, f7, f8, f9, f10⟩, f11, f12⟩ := H.out.b.box.cells
      obtain ⟨⟨j0, j1, j2, j3, j4, j5, j6, j7, j8, j9, j10⟩, j11, j12⟩ := H.out.b.res.cells
      have hfr := H.out.b.res.free
      obtain ⟨A9, c9, e9, T9⟩ := H.out.b.own.form
      injection e9 with e91 e92 e93
      subst e91
      rw [H.out.d] at T9
      have T10 := Lib.hid T9
      have BE := Lib.hid H.out.b.bel
      have SE := Lib.hid (show s = n + M by rw [H.out.s, HM.out])
      have ME := Lib.hid (show m = (bs (cnt (k + 1)) n (rps R 1 0)).length by rw [← H.out.b.len, ← H.out.d])
      clear e92 e93 T9 H
      go_wp2_with fail
      refine bodyPost_ret (v := .tuple #[wOfT ⟨nk, ⟨px, pt, pa, pn, pc, pL⟩, ny, ⟨gx, gt, ga, gn, gc, gL⟩, nlo, nhi, ns⟩ 0 A' m c, .int .i64 (s : Int)]) (by simp [results, Tryz.results47, go_sem, *]) rfl ⟨A', m, c, by rw [SE.out], ME.out, ?_, by (repeat (with_reducible refine Below.setCell ?_ (by exact Nat.le_succ _) _)); exact BE.out⟩
      refine T10.out.same (fun b hb => ?_) (fun b hb => ⟨by omega, ?_⟩)
      · repeat (with_reducible refine Eq.trans (heap_setCell_other _ _ _ _ (by show b ≠ w.heap.size + 1; have := hb.1; omega)) ?_)
        rfl
      · simp only [World.size_setCell]; exact hb.2
theorem Wt.pts {k : Nat} {l : List Nd} (h : Wt (k + 1) l) : ∀ p ∈ pts l, Wt k p := by
  intro p hp
  have hf := h.fm
  unfold fmd at hf
  rw [Bool.and_eq_true] at hf
  obtain ⟨x, q, ps, _, _, h3, h4⟩ := ofp_spl hf.1
  have h5 := pts_mem p hp
  have := h.len
  exact ⟨List.all_eq_true.1 h4 p (by rw [← h3]; exact hp), h5.2.1, by omega⟩
def Hib (l : List Nd) : Prop := ∀ v ∈ l, 0 ≤ v.hi ∧ v.hi < 256
theorem wn_of {k : Nat} {l : List Nd} {n : Nat} {w : World} {e : Ending} {w' : World} (h1 : (l.headD nz).k ≠ 1) {PS : List (List Nd)} (hp : wps l = PS) (h : WnX k w (l.headD nz) n (cnt (k + 2) l) PS e w') : Wn (k + 1) w l n e w' := by
  obtain ⟨A', m', C', he, hm, hW, hb⟩ := h
  have e1 : wch (k + 1) (l, n) = bs (cnt (k + 1)) n PS := by unfold wch; rw [if_neg h1, ← hp]
  have e2 : wpl (l, n) = 0 := by unfold wpl; rw [if_neg h1]
  exact ⟨A', C', by rw [e1, e2, ← hm]; exact he, by rw [e1]; exact hW, hb⟩
theorem widen_any (k : Nat) : ∀ (A : Option Addr) (C : Nat) (l : List Nd) (F : Nat → Prop) (w : World), Wt k l → Hib l → Trs k w F A (pts l) → (∀ b, F b → b < w.heap.size) → GWn k w (l.headD nz) A (pts l).length C l := by
  induction k with
  | zero =>
    intro A C l F w hl hb hT hF
    rcases kw_of hl.fm with ⟨h1, _⟩ | ⟨h1, K⟩
    · exact widen_leaf 0 A _ C l w h1
    · obtain ⟨p, ps, hps⟩ := List.exists_cons_of_ne_nil K.ne
      have := (K.sub p (by rw [hps]; simp)).1
      cases this
  | succ k ih =>
    intro A C l F w hl hb hT hF
    rcases kw_of hl.fm with ⟨h1, _⟩ | ⟨h1, K⟩
    · exact widen_leaf (k + 1) A _ C l w h1
    · have hlen := pts_len l
      have hll := hl.len
      have hK : KD (GWn k) w A (pts l) := fun i hi => by
        obtain ⟨b, off, A', C', ha, hFb, hat, hc, hk2⟩ := hT i hi
        have hm := lpgetD_mem (pts l) i hi
        have hp := pts_mem _ hm
        refine ⟨b, off, _, A', _, C', ha, hF b hFb, hat, hc, fun W hW => ?_⟩
        exact ih A' C' _ F W (hl.pts _ hm) (fun v hv => hb v (hp.2.2.2 v hv)) (hk2.below hW hF) (fun b hb => Nat.lt_of_lt_of_le (hF b hb) hW.size)
      intro n hn
      have hcn := K.cn
      by_cases h4 : (l.headD nz).k = 4
      · have hf := hl.fm
        unfold fmd at hf
        rw [Bool.and_eq_true] at hf
        obtain ⟨m1, m2, m3, m4⟩ := kd_rep hf.2 h4
        have hw : wps l = (List.replicate (l.headD nz).hi.toNat (pts l)).flatten := by unfold wps; rw [if_pos h4]
        rw [hw] at hcn
        exact (widen_rep k _ A C (pts l) n w h1 h4 (l.headD nz).hi.toNat (by omega) (by omega) (by omega) _ hcn.symm (by omega) hK).mono fun e w' h => wn_of h1 hw h
      · have hw : wps l = (List.replicate 1 (pts l)).flatten := by unfold wps; rw [if_neg h4]; simp
        rw [hw] at hcn
        exact (widen_one k _ A C (pts l) n w h1 h4 (by omega) _ hcn.symm (by omega) hK).mono fun e w' h => wn_of h1 hw h
end Go.Proofs.YtpnllbojifnopaaGreatDoor

/- The document's wide trees: questions. -/
namespace Go.Proofs.YtpnllbojifnopaaGreatDoor
open Go Go.RowKit Pk Rl
set_option maxRecDepth 20000

theorem run_appps (w : World) (B : Nat) (ty : TypeId) (v : Value) (D : List Qu) (ho : OwnQ' w B v D) (A : Option Addr) (m c : Nat) (M : List Qu) (B2 : Nat) (hx : OwnQ' w B2 (.slice A m c) M) (hm : M.length = m) (hlen : D.length + m ≤ 1000000) (hB : B ≤ w.heap.size) :
    ∃ A' c' w', (Builtin.append_ #[32, 32] ty #[v, .slice A m c]).run Tryz.prog w = .ok (.slice A' (D.length + m) c') w' ∧ OwnQ' w' B (.slice A' (D.length + m) c') (D ++ M) ∧ Below B w w' := by
  obtain ⟨i, hi, hz, hsz, hy⟩ := infoPq
  have hform : ∀ {v' : Value} {w' : World}, OwnQ' w' B v' (D ++ M) → ∃ A' c', v' = .slice A' (D.length + m) c' := fun h => by
    have hl : (D ++ M).length = D.length + m := by rw [List.length_append, hm]
    rcases h.2 with ⟨rfl, h0⟩ | ⟨g', cap, cur, rfl, _⟩
    · exact ⟨none, 0, by rw [show D.length + m = 0 by omega]⟩
    · exact ⟨_, _, by rw [hl]⟩
  rcases hx.2 with ⟨e, h0⟩ | ⟨g, cap, cur, e, hg, hh, _⟩
  · injection e with e1 e2 e3
    subst e1 e2 e3
    have hl : M = [] := List.eq_nil_of_length_eq_zero h0
    subst hl
    have hO : OwnQ' w B v (D ++ []) := by rw [List.append_nil]; exact ho
    obtain ⟨A', c', rfl⟩ := hform hO
    exact ⟨A', c', w, run_append_owned_none (P := Tryz.prog) (w := w) B 32 ty 45 i 3 Tryz.underlying32 hi _ _ _ ho, hO, Below.refl _ _⟩
  · have eA : A = some ⟨g, 0, none⟩ := by injection e
    subst eA
    obtain ⟨v', w', h1, h2, h3, _⟩ := run_append_own (P := Tryz.prog) w B 32 ty 45 i qzero 3 32 Tryz.underlying32 hi hz hsz hy rfl (by omega) v D.length (D.flatMap pcl) ho ⟨g, 0, none⟩ m c (M.flatMap pcl)
      (by rw [pcls_len, hm])
      (fun j u hj => World.ownsRow.cells hx (g := g) rfl j u hj)
      (fun u hu => by
        obtain ⟨q, _, h⟩ := List.mem_flatMap.1 hu
        simp [pcl] at h
        rcases h with rfl | rfl | rfl <;> rfl)
      (by unfold maxLen; omega) (by omega) hB
    have hO : OwnQ' w' B v' (D ++ M) := by
      unfold OwnQ'
      rw [List.length_append, hm, List.flatMap_append]
      exact h2
    obtain ⟨A', c', rfl⟩ := hform hO
    exact ⟨A', c', w', h1, hO, (Below.refl _ _).grown h3 hB (fun k hk => (World.ownsRow.lt ho k hk).1)⟩
theorem wp_appps {ops : Array Oper} {rest : List Oper} {o : Oper} {a : Act} {Q : Exit → Act → World → Prop} (s x : Operand) (w : World) (hgd : o.guard = none)
    (hop : o.op = .call { callee := .builtin .append, args := #[s, x], argTypes := #[32, 32] })
    (B : Nat) (v : Value) (D : List Qu) (hs : a.eval s = v) (ho : OwnQ' w B v D) (A : Option Addr) (m c : Nat) (M : List Qu) (hx : a.eval x = .slice A m c) (B2 : Nat) (hM : OwnQ' w B2 (.slice A m c) M) (hm : M.length = m)
    (k : Nat) (hk : D.length + m = k) (hlen : k ≤ 1000000) (hB : B ≤ w.heap.size)
    (h : ∀ A' c' w', OwnQ' w' B (.slice A' k c') (D ++ M) → Below B w w' → wpList Tryz.prog ops Q rest (a.put o.dst (.slice A' k c')) w') : wpList Tryz.prog ops Q (o :: rest) a w := by
  refine wpList_plain hgd fun K hK => ?_
  obtain ⟨A', c', w', hrun, h2, h3⟩ := run_appps w B o.type v D ho A m c M B2 hM hm (by omega) hB
  rw [hk] at h2 hrun
  unfold Oper.wp
  simp [execOp, hop, resolve, invoke, builtin, hs, hx, hrun, Result.andThen]
  exact hK _ _ (h A' c' w' h2 h3)
/- the questions themselves -/
def wqq : Nat → List Nd → List Qu
  | 0, _ => []
  | k + 1, l => if (l.headD nz).k = 1 then [(l.headD nz).p] else (wps l).flatMap (wqq k)
theorem wqq_wq (k : Nat) : ∀ l : List Nd, (wqq k l).map vq = wq k l := by
  induction k with
  | zero => intro l; rfl
  | succ k ih =>
    intro l
    unfold wqq wq
    split
    · rfl
    · rw [List.map_flatMap]
      congr 1
      funext p
      exact ih p
/- what preds answers -/
def PrX (D : List Qu) (W : World) (e : Ending) (w' : World) : Prop := ∃ A m c, e = .returned (.slice A m c) ∧ D.length = m ∧ OwnQ' w' W.heap.size (.slice A m c) D ∧ Below W.heap.size W w'
abbrev GPr (f : List Nd × Nat → List Qu) (W : World) (n : Nd) (pl : Nat) (A : Option Addr) (m C : Nat) (q : List Nd × Nat) : Prop :=
  Calls Tryz.prog 48 #[wOfT n pl A m C] W fun e w' => PrX (f q) W e w'
theorem OwnQ'.below {w w' : World} {B : Nat} {v : Value} {D : List Qu} (h : OwnQ' w B v D) (hb : Below w.heap.size w w') : OwnQ' w' B v D :=
  row_same h fun g cur _ hh => by rw [hb.block g (Array.getElem?_eq_some_iff.1 hh).1]; exact hh
theorem OwnQ'.low {w : World} {B B' : Nat} {v : Value} {D : List Qu} (h : OwnQ' w B v D) (hB : B' ≤ B) : OwnQ' w B' v D := by
  refine ⟨h.1, ?_⟩
  rcases h.2 with h0 | ⟨g, cap, cur, hv, hg, r⟩
  · exact .inl h0
  · exact .inr ⟨g, cap, cur, hv, by omega, r⟩
structure Px (w W : World) (nd : Nd) (pl : Nat) (Ta : Option Addr) (q C : Nat) (f : List Nd × Nat → List Qu) (Q : List (List Nd × Nat)) (i : Nat) (A : Option Addr) (m c : Nat) : Prop where
  b : Wdb W w.heap.size nd pl Ta q C
  o : OwnQ' W (w.heap.size + 1) (.slice A m c) ((Q.take i).flatMap f)
  l : ((Q.take i).flatMap f).length = m
  bel : Below w.heap.size w W
  big : w.heap.size + 1 ≤ W.heap.size
set_option maxHeartbeats 4000000 in
theorem rpreds1_any (f : List Nd × Nat → List Qu) (nd : Nd) (pl : Nat) (A : Option Addr) (C : Nat) (Q : List (List Nd × Nat)) (w : World) (hq : Q.length ≤ 1000) (hS : (Q.flatMap f).length ≤ 1000) (hK : KW (GPr f) w A Q) (q0 : List Nd × Nat) :
    GPr (fun _ => if nd.k = 1 then [nd.p] else Q.flatMap f) w nd pl A Q.length C q0 := by
  unfold GPr
  have HK := Lib.hid hK
  clear hK
  obtain ⟨q, hq2⟩ : ∃ q, Q.length = q := ⟨_, rfl⟩
  rw [hq2] at hq ⊢
  have HQ := Lib.hid hq2
  have HS := Lib.hid hS
  clear hq2 hS
  by_cases h1 : nd.k = 1
  · have i1 : (nd.k == 1) = true := by rw [h1]; rfl
    rw [if_pos h1]
    clear h1
    go_enter Tryz.func48, Tryz.ntmps48
    go_wp2_with fail
    go_ret
    refine ⟨some ⟨w.heap.size + 1, 0, none⟩, 1, 1, rfl, rfl, ?_, below_go (below_alloc w _) (below_alloc _ _)⟩
    refine ⟨by simp [pcl], .inr ⟨w.heap.size + 1, 1, #[.bool nd.p.x, .int .u8 nd.p.t, .slice nd.p.a nd.p.n nd.p.c], rfl, by omega, ?_, Nat.le_refl _, by decide, rfl, rfl⟩⟩
    rw [← World.size_alloc w (wobjT nd pl A q C)]
    exact heap_alloc_new _ _
  · have i1 : (nd.k == 1) = false := by simp [h1]
    rw [if_neg h1]
    clear h1
    go_enter Tryz.func48, Tryz.ntmps48
    go_upto_region 4 with fail
    have P0 : Hid (Px w ((w.alloc (wobjT nd pl A q C)).alloc (.cells #[] 45)) nd pl A q C f Q 0 (some ⟨w.heap.size + 1, 0, none⟩) 0 0) := Lib.hid ⟨(Wdb.start w nd pl A q C).below (below_alloc _ _) (Wdb.start w nd pl A q C).lt, by
      refine ⟨by simp, .inr ⟨w.heap.size + 1, 0, #[], rfl, Nat.le_refl _, ?_, Nat.le_refl _, by decide, rfl, rfl⟩⟩
      rw [← World.size_alloc w (wobjT nd pl A q C)]
      exact heap_alloc_new _ _, rfl, below_go (below_alloc w _) (below_alloc _ _), by simp⟩
    generalize (w.alloc (wobjT nd pl A q C)).alloc (.cells #[] 45) = w1 at P0 ⊢
    have hcT := P0.out.b.cells.2.2
    go_wp2_with fail
    go_loopw [3, 17] (fun v3 v17 W => ∃ (A' : Option Addr) (m c i : Nat), v3 = .slice A' m c ∧ v17 = .int .i64 (i : Int) ∧ i ≤ q ∧ Hid (Px w W nd pl A q C f Q i A' m c)) (fun _ v17 _ => q - (intOf v17).toNat)
    case atStart => exact ⟨_, 0, 0, 0, rfl, rfl, by omega, P0⟩
    case round =>
      obtain ⟨A', m, c, i, rfl, rfl, hi, H⟩ := hrel
      clear P0 hcT
      have hcT := H.out.b.cells.2.2
      by_cases ci : i < q
      · obtain ⟨b, off, ⟨mk, ⟨qx, qt, qa, qn, qc, qL⟩, my, ⟨hx, ht', ha, hn', hc, hL⟩, mlo, mhi, ms⟩, pl', A2, m2, C2, rfl, hb0, hat, hcp, hcell, hG⟩ := HK.out i (by have := HQ.out; omega)
        obtain ⟨k0, k1, k2, k3, k4, k5, k6, k7, k8, k9, k10⟩ := hat.below H.out.bel hb0
        have k11 : wr.cell? ⟨b, off + i * 13 + 11, none⟩ = some (.int .i64 (pl' : Int)) := (H.out.bel.cell (p := ⟨b, off + i * 13 + 11, none⟩) hb0).trans hcp
        have k12 : wr.cell? ⟨b, off + i * 13 + 12, none⟩ = some (.slice A2 m2 C2) := (H.out.bel.cell (p := ⟨b, off + i * 13 + 12, none⟩) hb0).trans hcell
        obtain ⟨E, hE⟩ : ∃ E, f (Q.getD i d0) = E := ⟨_, rfl⟩
        have I2 := Lib.hid (hG wr H.out.bel)
        unfold GPr at I2
        rw [hE] at I2
        have hil : i < Q.length := by have := HQ.out; omega
        have TS := Lib.hid (show (Q.take (i + 1)).flatMap f = (Q.take i).flatMap f ++ E by
          rw [List.take_succ_eq_append_getElem hil, List.flatMap_append, ← hE, List.getD_eq_getElem?_getD, List.getElem?_eq_getElem hil]
          simp)
        have LS := Lib.hid (show ((Q.take (i + 1)).flatMap f).length ≤ 1000 by
          have h1 := HS.out
          rw [← List.take_append_drop (i + 1) Q, List.flatMap_append, List.length_append] at h1
          omega)
        clear hE hG hat hcell hcp hb0 hil
        go_wp2_with fail
        refine I2.out.mono ?_
        rintro e w4 ⟨A4, m4, c4, rfl, hm4, hO4, hb⟩
        clear I2 k0 k1 k2 k3 k4 k5 k6 k7 k8 k9 k10 k11 k12 hcT
        have O5 := Lib.hid (H.out.o.below hb)
        have O4 := Lib.hid hO4
        have M4 := Lib.hid hm4
        have B5 := Lib.hid (below_go H.out.bel hb)
        have Z5 := Lib.hid (Nat.le_trans H.out.big hb.size)
        have W5 := Lib.hid (H.out.b.below hb H.out.b.lt)
        have L5 := Lib.hid H.out.l
        have LT := Lib.hid H.out.b.lt
        obtain ⟨kk, hkk⟩ : ∃ kk, m + m4 = kk := ⟨_, rfl⟩
        have KK := Lib.hid hkk
        have K1 := Lib.hid (show kk ≤ 1000 by have h1 := LS.out; rw [TS.out, List.length_append, L5.out, hm4] at h1; omega)
        clear hm4 hO4 hb H hkk
        go_wp2_with (at_builtin; refine wp_appps (.tmp 20) (.tmp 26) _ (by rfl) (by rfl) (w.heap.size + 1) _ _ (by rfl) O5.out A4 m4 c4 _ (by rfl) _ O4.out M4.out kk (by rw [L5.out]; exact KK.out) (by have := K1.out; omega) Z5.out ?_; intro A7 c7 w7 hO7 hb7; have K7 := Lib.hid (show Px w w7 nd pl _ q C f Q (i + 1) A7 kk c7 from ⟨W5.out.below hb7 (by omega), by rw [TS.out]; exact hO7, by rw [TS.out, List.length_append, L5.out, M4.out, KK.out], B5.out.trans (hb7.mono (by omega)), Nat.le_trans Z5.out hb7.size⟩))
        go_roundw
        case rel => exact ⟨A7, kk, c7, i + 1, rfl, by go_num, by omega, K7⟩
        case measure => simp [intOf]; omega
      · obtain rfl : i = q := by omega
        have HT := Lib.hid (show Q.take i = Q from by rw [← HQ.out]; exact List.take_length)
        go_wp2_with fail
        go_ret
        exact ⟨A', m, c, rfl, by have := H.out.l; rwa [HT.out] at this, by have := H.out.o; rw [HT.out] at this; exact this.low (by omega), H.out.bel⟩
theorem bs_flat (c : List Nd → Nat) (g : List Nd → List Qu) (ps : List (List Nd)) : ∀ n, (bs c n ps).flatMap (fun q => g q.1) = ps.flatMap g := by
  induction ps with
  | nil => intro n; rfl
  | cons p ps ih => intro n; rw [bs, List.flatMap_cons, List.flatMap_cons, ih]
theorem prr_wqq (k : Nat) (l : List Nd) (n : Nat) : (if (l.headD nz).k = 1 then [(l.headD nz).p] else (wch k (l, n)).flatMap fun q => wqq k q.1) = wqq (k + 1) l := by
  have e : wqq (k + 1) l = if (l.headD nz).k = 1 then [(l.headD nz).p] else (wps l).flatMap (wqq k) := rfl
  rw [e]
  unfold wch
  by_cases h : (l.headD nz).k = 1
  · rw [if_pos h, if_pos h]
  · rw [if_neg h, if_neg h, if_neg h]
    exact bs_flat _ _ _ _
theorem wqq_len {k : Nat} {l : List Nd} (h : Wt k l) : (wqq (k + 1) l).length = cnt (k + 1) l := by
  have h1 := congrArg List.length (wqq_wq (k + 1) l)
  rw [List.length_map] at h1
  rw [h1, ← wq_au (k + 1) l h.fm h.fr 0]
  exact (au_cn (k + 1) l h.fm h.fr).p 0
theorem wch_flat {k : Nat} {l : List Nd} (h : Wt k l) (n : Nat) (hc : cnt (k + 1) l ≤ 32) : ((wch k (l, n)).flatMap fun q => wqq k q.1).length ≤ 1000 := by
  by_cases h1 : (l.headD nz).k = 1
  · unfold wch
    rw [if_pos h1]
    simp
  · have h2 := wqq_len h
    rw [← prr_wqq k l n, if_neg h1] at h2
    omega
theorem rpreds_any (k : Nat) : ∀ (A : Option Addr) (C : Nat) (l : List Nd) (n : Nat) (F : Nat → Prop) (w : World) (q0 : List Nd × Nat), Wt k l → cnt (k + 1) l ≤ 32 → Wds k w F A (wch k (l, n)) → (∀ b, F b → b < w.heap.size) → GPr (fun _ => wqq (k + 1) l) w (l.headD nz) (wpl (l, n)) A (wch k (l, n)).length C q0 := by
  induction k with
  | zero =>
    intro A C l n F w q0 hl hc hT hF
    rw [← prr_wqq 0 l n]
    refine rpreds1_any _ _ _ _ _ _ _ (wch_len hl n) (wch_flat hl n hc) (fun i hi => ?_) d0
    have h0 : wch 0 (l, n) = [] := hT
    rw [h0] at hi
    simp at hi
  | succ k ih =>
    intro A C l n F w q0 hl hc hT hF
    rw [← prr_wqq (k + 1) l n]
    refine rpreds1_any _ _ _ _ _ _ _ (wch_len hl n) (wch_flat hl n hc) (fun i hi => ?_) d0
    obtain ⟨b, off, A', C', ha, hFb, hat, hp, hcl, hk2⟩ := hT i hi
    refine ⟨b, off, _, _, A', _, C', ha, hF b hFb, hat, hp, hcl, fun W hW => ?_⟩
    have hc2 : cnt (k + 1) ((wch (k + 1) (l, n)).getD i d0).1 ≤ 32 := by
      by_cases h1 : (l.headD nz).k = 1
      · unfold wch at hi
        rw [if_pos h1] at hi
        simp at hi
      · unfold wch at hi ⊢
        rw [if_neg h1] at hi ⊢
        rw [bs_len] at hi
        obtain ⟨_, g2, g3⟩ := bs_get (cnt (k + 1)) (wps l) n i hi
        rcases kw_of hl.fm with ⟨h2, _⟩ | ⟨_, K⟩
        · exact absurd h2 h1
        · rw [K.cn] at hc
          show cnt (k + 1) ((bs (cnt (k + 1)) n (wps l)).getD i d0).1 ≤ 32
          omega
    exact ih A' C' _ _ F W d0 (hl.sub n i hi) hc2 (hk2.below hW hF) (fun b hb => Nat.lt_of_lt_of_le (hF b hb) hW.size)
end Go.Proofs.YtpnllbojifnopaaGreatDoor
