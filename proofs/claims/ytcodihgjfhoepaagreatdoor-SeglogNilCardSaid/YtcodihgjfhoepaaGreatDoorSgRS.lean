/- Contracts, joined: SgR, SgS. -/
import Derived.Test.YtcodihgjfhoepaaGreatDoorSgJK
import Derived.LoopN
/- A log is opened. -/
namespace Go.Proofs.YtcodihgjfhoepaaGreatDoor
open Go Go.RowKit Crc Pk
set_option maxRecDepth 20000

def L0 : Lg := ⟨[], [], 0, 0, false⟩
def opR (nm : ByteArray) (st : List Nat) (n1 : Nat) (S1 : St) (n2 : Nat) (S2 : St) : Rs3 :=
  if n1 ≠ 0 then ⟨n1, L0, S1⟩ else if n2 ≠ 0 then ⟨n2, L0, S2⟩ else
  if (sty nm st (S2.fs.map Fl.nm) S2).1 ≠ 0 then ⟨(sty nm st (S2.fs.map Fl.nm) S2).1, L0, (sty nm st (S2.fs.map Fl.nm) S2).2⟩ else
  rdsL nm ⟨st, [], 0, 0, false⟩ (sty nm st (S2.fs.map Fl.nm) S2).2
theorem del_up {S : St} {f : ByteArray} (h : goes S = true) : (delS S f).up = true := by
  have hu := goes_up h
  unfold delS
  rw [if_pos h]
  split
  · exact hu
  · exact hu
theorem delE_goes {S : St} {f : ByteArray} (h : delE S f ≠ 9) : goes S = true := by
  unfold delE at h
  split at h
  · rename_i hg; exact hg
  · exact absurd rfl h
theorem drp_up {S : St} {f : ByteArray} (h : drp S f = 0) : (delS S f).up = true := by
  unfold drp at h
  refine del_up (delE_goes (f := f) (fun e => ?_))
  rw [e] at h
  simp at h
theorem ren_up {S : St} {f t : ByteArray} (h : renE S f t = 0) : (renS S f t).up = true := by
  unfold renE at h
  split at h
  · rename_i hg
    have hu := goes_up hg
    unfold renS
    rw [if_pos hg]
    split
    · split
      · exact hu
      · exact hu
    · exact hu
  · cases h
theorem tel_ok {nm : ByteArray} {l : List Nat} {S : St} (h : (tel nm l S).1 = 0) : (tel nm l S).2.up = true ∧ (tel nm l S).2.room = S.room := by
  unfold tel at *
  split
  · rename_i c; rw [if_pos c] at h; exact absurd h c
  · rename_i c
    rw [if_neg c] at h
    split
    · rename_i c2; rw [if_pos c2] at h; exact absurd h c2
    · rename_i c2
      rw [if_neg c2] at h
      split
      · rename_i c3; rw [if_pos c3] at h; exact absurd h c3
      · rename_i c3
        rw [if_neg c3] at h
        exact ⟨ren_up h, by rw [ren_room, syn_room, app_room, del_room]⟩
theorem sty_cons (nm : ByteArray) (st : List Nat) (f : ByteArray) (t : List ByteArray) (S : St) : sty nm st (f :: t) S = if stray nm st f then (if delE S f ≠ 0 then (delE S f, delS S f) else sty nm st t (delS S f)) else sty nm st t S := rfl
theorem sty_ok {nm : ByteArray} {st : List Nat} (l : List ByteArray) : ∀ S : St, S.up = true → (sty nm st l S).1 = 0 → (sty nm st l S).2.up = true ∧ (sty nm st l S).2.room = S.room := by
  induction l with
  | nil => intro S hu _; exact ⟨hu, rfl⟩
  | cons f t ih =>
    intro S hu h
    rw [sty_cons] at h ⊢
    split
    · rename_i c
      rw [if_pos c] at h
      split
      · rename_i c2; rw [if_pos c2] at h; exact absurd h c2
      · rename_i c2
        rw [if_neg c2] at h
        have hd : delE S f = 0 := by simpa using c2
        obtain ⟨a, b⟩ := ih _ (del_up (delE_goes (f := f) (by rw [hd]; decide))) h
        exact ⟨a, b.trans (del_room _ _)⟩
    · rename_i c
      rw [if_neg c] at h
      exact ih S hu h
section
variable {B : Nat} {w w' : World} {d m : Nat} {V V' : ByteArray → Value} {S T : St} {nm : ByteArray} {most : Nat}
/- what Open answers -/
def OP (B : Nat) (w : World) (d m : Nat) (V : ByteArray → Value) (S : St) (nm : ByteArray) (most : Nat) (R : Rs3) (e : Ending) (w' : World) : Prop :=
  ∃ V' g sv rv P, (R.e ≠ 0 → e = .returned (.tuple #[.pointer none, .int .i64 (R.e : Int)])) ∧ (R.e = 0 → e = .returned (.tuple #[ptr g, .int .i64 0]) ∧ Lp B w' d m V' R.s g nm most sv rv P R.l) ∧
    Dk w' d m V' R.s ∧ Keep (Fp d m V S.fs) w w' ∧ (∀ x, Fp d m V' R.s.fs x → Fp d m V S.fs x ∨ w.heap.size ≤ x) ∧ (R.e = 0 → (∀ x, Mu d m V' R.s.fs g rv x → Fp d m V S.fs x ∨ w.heap.size ≤ x) ∧ ∀ x, P x → w.heap.size ≤ x)
abbrev fcells (g : Nat) : Array Value := #[.func (.func 41) #[ptr g] #[], .func (.func 42) #[ptr g] #[], .func (.func 43) #[ptr g] #[], .func (.func 44) #[ptr g] #[]]
set_option maxHeartbeats 16000000 in
theorem open_any (h : Dk w d m V S) (ht : Tb w) (hB4 : 4 ≤ B) (hBw : B ≤ w.heap.size) (hBf : ∀ x, Fp d m V S.fs x → B ≤ x) (hrm : S.room ≤ 20000)
    (hn1 : ∀ c ∈ nl nm, 97 ≤ c.toNat ∧ c.toNat ≤ 122) (hn2 : 1 ≤ nm.size) (hn3 : nm.size ≤ 8) (hm1 : 1 ≤ most) (hm2 : most ≤ 16777216)
    (st : List Nat) (n2 : Nat) (S2 : St) (hst1 : 1 ≤ st.length) (hst2 : st.Pairwise (· < ·)) (hst3 : ∀ n ∈ st, n ≤ 1000)
    (hfind : drp S (fT nm) = 0 → (fnd (delS S (fT nm)).fs (fM nm) = none ∧ st = [0] ∧ tel nm [0] (delS S (fT nm)) = (n2, S2)) ∨ (∃ f, fnd (delS S (fT nm)).fs (fM nm) = some f ∧ f.bs = fr (man st) ∧ n2 = 0 ∧ S2 = delS S (fT nm)))
    (hpl : ∀ f ∈ S2.fs, Plain nm f.nm) (R : Rs3) (hR : opR nm st (drp S (fT nm)) (delS S (fT nm)) n2 S2 = R) (hwf : R.e = 0 → Wf R.l) :
    Calls Tryz.prog 17 #[ptr d, .string nm, .int .i64 (most : Int)] w (OP B w d m V S nm most R) := by
  have IS := Lib.hid (isname_any nm (fun c hc => by have := hn1 c hc; omega) hn3 (by
    refine isof_of (fun j hj _ => hn1 _ (List.getElem_mem hj)) (fun e => ?_)
    have h0 : nm.size = 0 := by rw [size_nl nm, e]; rfl
    omega) w)
  have FPL := Lib.hid (fun x hx => h.lt x hx)
  have G0 := Lib.hid (fun (W : World) (hb : Below w.heap.size w W) (g : Nat) (hg : w.heap.size ≤ g) (hblk : W.heap[g]? = some (.cells (lcs d nm most (.slice none 0 0) (.slice none 0 0) L0) 77 (0, 0))) =>
    (show Lo Qo B W d m V S g nm most (.slice none 0 0) (.slice none 0 0) (fun _ => False) L0 from
      ⟨h.below hb, hblk, OwnU.nil _, OwnP.nil _ _, fun x hx => hx.elim, ⟨by simp [L0], by simp [L0], by simp [L0], by simp [L0]⟩, ⟨hn3, hm1, hm2⟩, (by
        intro x hx
        rcases hx with e | e | e
        · exact hBf x e
        · omega
        · cases e), ht.up hb, hB4, Nat.le_trans hBw hb.size⟩))
  have FIND := Lib.hid hfind
  have PL := Lib.hid hpl
  have HW := Lib.hid hwf
  have ST := Lib.hid (And.intro hst1 (And.intro hst2 hst3))
  have RM := Lib.hid hrm
  obtain ⟨n1, hq1⟩ : ∃ n1, drp S (fT nm) = n1 := ⟨_, rfl⟩
  obtain ⟨S1, hq2⟩ : ∃ S1, delS S (fT nm) = S1 := ⟨_, rfl⟩
  obtain ⟨u, hu⟩ : ∃ u, sty nm st (S2.fs.map Fl.nm) S2 = u := ⟨_, rfl⟩
  have R1 := Lib.hid (fun (hz : n1 ≠ 0) => (show R = ⟨n1, L0, S1⟩ by rw [← hR]; unfold opR; rw [hq1, hq2, if_pos hz]))
  have R2 := Lib.hid (fun (hz : n1 = 0) (hz2 : n2 ≠ 0) => (show R = ⟨n2, L0, S2⟩ by rw [← hR]; unfold opR; rw [hq1, if_neg (by omega), if_pos hz2]))
  have R3 := Lib.hid (fun (hz : n1 = 0) (hz2 : n2 = 0) (hz3 : u.1 ≠ 0) => (show R = ⟨u.1, L0, u.2⟩ by rw [← hR]; unfold opR; rw [hq1, if_neg (by omega), if_neg (by omega), hu, if_pos hz3]))
  have R4 := Lib.hid (fun (hz : n1 = 0) (hz2 : n2 = 0) (hz3 : u.1 = 0) => (show rdsL nm ⟨st, [], 0, 0, false⟩ u.2 = R by rw [← hR]; unfold opR; rw [hq1, if_neg (by omega), if_neg (by omega), hu, if_neg (by omega)]))
  have DU : Hid (n1 = 0 → S1.up = true) := Lib.hid (fun e => by rw [← hq2]; exact drp_up (by rw [hq1]; exact e))
  have DR : Hid (S1.room = S.room) := Lib.hid (by rw [← hq2]; exact del_room _ _)
  rw [hq1, hq2] at FIND
  have Q1 := Lib.hid hq1
  have Q2 := Lib.hid hq2
  have UH := Lib.hid hu
  have m1 : (1 : Int) ≤ (most : Int) := by omega
  have m2 : (most : Int) ≤ 16777216 := by omega
  have g1 : decide ((most : Int) < 1) = false := by simp; omega
  have g2 : decide ((16777216 : Int) < (most : Int)) = false := by simp; omega
  have g3 : decide (most < 1) = false := by simp; omega
  have g4 : decide (16777216 < most) = false := by simp; omega
  clear h ht hB4 hBw hBf hrm hn1 hn2 hn3 hst1 hst2 hst3 hfind hpl hR hwf hq1 hq2 hu
  go_enter Tryz.func17, Tryz.ntmps17
  go_upto_region 1 with fail
  go_cut [22] from 12 to 22 (fun s w' => s = .bool false ∧ Hid (Below w.heap.size w w'))
  case first =>
    go_wp2_with (go_at_call 40; refine IS.out.mono ?_; rintro e w1 ⟨rfl, hb⟩)
    go_meet
    exact ⟨rfl, hb⟩
  case rest =>
  obtain ⟨rfl, HC⟩ := hcut
  obtain ⟨w1, hw1⟩ : ∃ w1, w1 = wc := ⟨_, rfl⟩
  subst hw1
  have B1 := Lib.hid HC.out
  clear HC IS g1 g2 g3 g4
  obtain ⟨g, hg⟩ : ∃ g, w1.heap.size = g := ⟨_, rfl⟩
  obtain ⟨W, hW⟩ : ∃ W, (w1.alloc (.cells (lcs d nm most (.slice none 0 0) (.slice none 0 0) L0) 77)).alloc (.cells (fcells w1.heap.size) 61) = W := ⟨_, rfl⟩
  have bW : Below w1.heap.size w1 W := by rw [← hW]; exact (below_alloc w1 _).trans ((below_alloc _ _).mono (by simp))
  have hgl : W.heap[g]? = some (.cells (lcs d nm most (.slice none 0 0) (.slice none 0 0) L0) 77 (0, 0)) := by
    rw [← hW, ← hg]
    rw [(below_alloc (w1.alloc (.cells (lcs d nm most (.slice none 0 0) (.slice none 0 0) L0) 77)) (.cells (fcells w1.heap.size) 61)).block w1.heap.size (by simp)]
    exact heap_alloc_new _ _
  have hfl : W.heap[g + 1]? = some (.cells (fcells g) 61 (0, 0)) := by
    rw [← hW, ← hg]
    have e : (w1.alloc (.cells (lcs d nm most (.slice none 0 0) (.slice none 0 0) L0) 77)).heap.size = w1.heap.size + 1 := by simp
    rw [← e]
    exact heap_alloc_new _ _
  have hgw : w.heap.size ≤ g := by rw [← hg]; exact B1.out.size
  have HG := Lib.hid (G0.out W (B1.out.trans (bW.mono B1.out.size)) g hgw hgl)
  have BWH := Lib.hid (B1.out.trans (bW.mono B1.out.size))
  have HFL := Lib.hid hfl
  have HGW := Lib.hid hgw
  have WSZ : Hid (g + 2 ≤ W.heap.size) := Lib.hid (by have := (Array.getElem?_eq_some_iff.1 hfl).1; omega)
  -- the row of steps stays
  have FC := Lib.hid (fun (X : World) (k : Keep (Mu d m V S.fs g (.slice none 0 0)) W X) => (show X.heap[g + 1]? = some (.cells (fcells g) 61 (0, 0)) from
    (k.block (g + 1) (by have := WSZ.out; omega) (fun e => by
      rcases e with e | e | e
      · have := FPL.out _ e; have := HGW.out; omega
      · omega
      · cases e)).trans HFL.out))
  have FIN := Lib.hid (fun (X : World) (V' : ByteArray → Value) (T : St) (sv rv : Value) (P : Nat → Prop) (Q : Lg → Prop) (Lx : Lg) (lo : Lo Q B X d m V' T g nm most sv rv P Lx) (k : Keep (Mu d m V S.fs g (.slice none 0 0)) W X) (mm : ∀ x, Mu d m V' T.fs g rv x → Mu d m V S.fs g (.slice none 0 0) x ∨ W.heap.size ≤ x) =>
    (show Keep (Fp d m V S.fs) w X ∧ (∀ x, Mu d m V' T.fs g rv x → Fp d m V S.fs x ∨ w.heap.size ≤ x) from
      ⟨(Keep.of_below _ BWH.out).trans k (fun x hx e => by
        rcases e with e | e | e
        · exact e
        · have := HGW.out; omega
        · cases e), fun x hx => by
        have s1 := BWH.out.size
        rcases mm x hx with (e | e | e) | e
        · exact .inl e
        · exact .inr (by have := HGW.out; omega)
        · cases e
        · exact .inr (by omega)⟩))
  clear hgl hfl hgw bW G0
  have c0 := cell_in (FC.out W (Keep.refl _ _)) 0
  have C1 := Lib.hid (draft_any HG.out)
  rw [Q1.out, Q2.out] at C1
  have hsz1 : w1.heap.size = g := hg
  go_wp2_with fail
  have hW2 : (w1.alloc (.cells #[ptr d, .string nm, .int .i64 (most : Int), .slice none 0 0, .slice none 0 0, .int .i64 0, .int .u64 0, .bool false] 77)).alloc (.cells #[.func (.func 41) #[ptr g] #[], .func (.func 42) #[ptr g] #[], .func (.func 43) #[ptr g] #[], .func (.func 44) #[ptr g] #[]] 61) = W := by rw [← hW, hg]; rfl
  first
    | rw [hW2]
    | (go_show; fail)
  clear hW hW2 hsz1 hg
  have US2 := Lib.hid (fun (e1 : n1 = 0) (e2 : n2 = 0) => (show S2.up = true ∧ S2.room ≤ 20000 from by
    have r0 := RM.out
    have r1 := DR.out
    rcases FIND.out e1 with ⟨_, _, ht⟩ | ⟨_, _, _, _, hs⟩
    · have h1 := tel_ok (nm := nm) (l := [0]) (S := S1) (by rw [ht]; exact e2)
      rw [ht] at h1
      exact ⟨h1.1, by have := h1.2; simp only at this; omega⟩
    · rw [hs]
      exact ⟨DU.out e1, by omega⟩))
  refine wp_loop_rounds 5 ?_
  rw [rounds_succ]
  go_wp2_with fail
  refine C1.out.mono ?_
  rintro e w3 ⟨rfl, V3, h3, k3, m3⟩
  have H3 := Lib.hid h3
  have K3 : Hid (Keep (Mu d m V S.fs g (.slice none 0 0)) W w3) := Lib.hid k3
  have M3 : Hid (∀ x, Mu d m V3 S1.fs g (.slice none 0 0) x → Mu d m V S.fs g (.slice none 0 0) x ∨ W.heap.size ≤ x) := Lib.hid m3
  clear h3 k3 m3 C1 c0
  by_cases d1 : n1 = 0
  · subst d1
    have c1 := cell_in (FC.out w3 K3.out) 1
    have C2 : Hid (Calls Tryz.prog 42 #[ptr g] w3 (FO B w3 d m V3 S1 g nm most (.slice none 0 0) (fun _ => False) n2 S2 ⟨st, [], 0, 0, false⟩)) := Lib.hid (by
      rcases FIND.out rfl with ⟨hf, hs, ht⟩ | ⟨f, hf, hb, e2, e3⟩
      · subst hs
        have := find_new H3.out (DU.out rfl) hf
        rw [ht] at this
        exact this
      · subst e2 e3
        exact find_old H3.out (DU.out rfl) f hf st hb ST.out.1 ST.out.2.1 ST.out.2.2)
    go_wp2_with fail
    rw [rounds_succ]
    go_wp2_with fail
    refine C2.out.mono ?_
    rintro e w4 ⟨rfl, V4, sv4, rv4, P4, L4, h4, k4, m4, p4, z4⟩
    have H4 := Lib.hid h4
    have K4 : Hid (Keep (Mu d m V S.fs g (.slice none 0 0)) W w4) := Lib.hid (K3.out.trans k4 (fun x hx e => (M3.out x e).resolve_right (by omega)))
    have M4 : Hid (∀ x, Mu d m V4 S2.fs g rv4 x → Mu d m V S.fs g (.slice none 0 0) x ∨ W.heap.size ≤ x) := Lib.hid (fun x hx => by
      have := K3.out.size
      rcases m4 x hx with h | h
      · exact M3.out x h
      · exact .inr (by omega))
    have P4H : Hid (∀ x, P4 x → W.heap.size ≤ x) := Lib.hid (fun x hx => by
      have := K3.out.size
      rcases p4 x hx with h | h
      · exact h.elim
      · omega)
    have Z4 := Lib.hid z4
    clear h4 k4 m4 p4 z4 C2 c1
    by_cases d2 : n2 = 0
    · subst d2
      have hL4 : L4 = ⟨st, [], 0, 0, false⟩ := Z4.out rfl
      subst hL4
      obtain ⟨us1, us2⟩ := US2.out (by first | trivial | rfl) (by first | trivial | rfl)
      have c2 := cell_in (FC.out w4 K4.out) 2
      have C3 := Lib.hid (strays_any H4.out PL.out u UH.out)
      have SO := Lib.hid (fun (hz : u.1 = 0) => (show u.2.up = true ∧ u.2.room ≤ 20000 from by
        have h1 := sty_ok (nm := nm) (st := st) (S2.fs.map Fl.nm) S2 us1 (by rw [UH.out]; exact hz)
        rw [UH.out] at h1
        exact ⟨h1.1, by rw [h1.2]; exact us2⟩))
      obtain ⟨u1, u2⟩ := u
      simp only at C3 SO R3 R4
      clear us1 us2 Z4
      go_wp2_with fail
      rw [rounds_succ]
      go_wp2_with fail
      refine C3.out.mono ?_
      rintro e w5 ⟨rfl, V5, h5, k5, m5⟩
      have H5 := Lib.hid h5
      have K5 : Hid (Keep (Mu d m V S.fs g (.slice none 0 0)) W w5) := Lib.hid (K4.out.trans k5 (fun x hx e => (M4.out x e).resolve_right (by omega)))
      have M5 : Hid (∀ x, Mu d m V5 u2.fs g rv4 x → Mu d m V S.fs g (.slice none 0 0) x ∨ W.heap.size ≤ x) := Lib.hid (fun x hx => by
        have := K4.out.size
        rcases m5 x hx with h | h
        · exact M4.out x h
        · exact .inr (by omega))
      clear h5 k5 m5 C3 c2
      by_cases d3 : u1 = 0
      · subst d3
        obtain ⟨uu1, uu2⟩ := SO.out rfl
        have c3 := cell_in (FC.out w5 K5.out) 3
        have C4 := Lib.hid (reads_any H5.out uu1 uu2 ST.out.2.1 rfl rfl R (R4.out (by first | trivial | rfl) (by first | trivial | rfl) (by first | trivial | rfl)) HW.out)
        clear uu1 uu2 SO R1 R2 R3
        go_wp2_with fail
        rw [rounds_succ]
        go_wp2_with fail
        refine C4.out.mono ?_
        rintro e w6 ⟨rfl, V6, sv6, rv6, P6, L6, h6, k6, m6, p6, z6⟩
        have H6 := Lib.hid h6
        have K6 : Hid (Keep (Mu d m V S.fs g (.slice none 0 0)) W w6) := Lib.hid (K5.out.trans k6 (fun x hx e => (M5.out x e).resolve_right (by omega)))
        have M6 : Hid (∀ x, Mu d m V6 R.s.fs g rv6 x → Mu d m V S.fs g (.slice none 0 0) x ∨ W.heap.size ≤ x) := Lib.hid (fun x hx => by
          have := K5.out.size
          rcases m6 x hx with h | h
          · exact M5.out x h
          · exact .inr (by omega))
        have P6H : Hid (∀ x, P6 x → W.heap.size ≤ x) := Lib.hid (fun x hx => by
          have := K5.out.size
          rcases p6 x hx with h | h
          · exact P4H.out x h
          · omega)
        have Z6 := Lib.hid z6
        clear h6 k6 m6 p6 z6 C4 c3
        obtain ⟨re, hre⟩ : ∃ re, R.e = re := ⟨_, rfl⟩
        have RRE := Lib.hid hre
        rw [hre] at Z6 HW ⊢
        clear hre
        by_cases d4 : re = 0
        · subst d4
          have hL6 := Z6.out rfl
          have WW := HW.out rfl
          rw [← hL6] at WW
          have LPH := Lib.hid (H6.out.to (Q' := Wf) WW)
          rw [hL6] at LPH
          clear WW hL6
          go_wp2_with fail
          rw [rounds_succ]
          go_wp2_with fail
          go_ret2
          obtain ⟨f1, f2⟩ := FIN.out w6 V6 _ sv6 rv6 P6 Qo _ H6.out K6.out M6.out
          exact ⟨V6, g, sv6, rv6, P6, fun h => absurd RRE.out h, fun _ => ⟨rfl, LPH.out⟩, H6.out.dk, f1, fun x hx => f2 x (.inl hx), fun _ => ⟨f2, fun x hx => Nat.le_trans BWH.out.size (P6H.out x hx)⟩⟩
        · have d4' : ¬ ((re : Int) = 0) := by omega
          have ne : R.e ≠ 0 := by rw [RRE.out]; exact d4
          have NE := Lib.hid ne
          clear ne
          go_wp2_with fail
          go_ret2
          obtain ⟨f1, f2⟩ := FIN.out w6 V6 _ sv6 rv6 P6 Qo _ H6.out K6.out M6.out
          exact ⟨V6, g, sv6, rv6, P6, fun _ => by rw [RRE.out]; rfl, fun h => absurd h NE.out, H6.out.dk, f1, fun x hx => f2 x (.inl hx), fun h => absurd h NE.out⟩
      · have d3' : ¬ ((u1 : Int) = 0) := by omega
        have RE := Lib.hid (R3.out (by first | trivial | rfl) (by first | trivial | rfl) d3)
        go_wp2_with fail
        go_ret2
        rw [RE.out]
        obtain ⟨f1, f2⟩ := FIN.out w5 V5 _ sv4 rv4 P4 Qo _ H5.out K5.out M5.out
        exact ⟨V5, g, sv4, rv4, P4, fun _ => rfl, fun h => absurd h d3, H5.out.dk, f1, fun x hx => f2 x (.inl hx), fun h => absurd h d3⟩
    · have d2' : ¬ ((n2 : Int) = 0) := by omega
      have RE := Lib.hid (R2.out (by first | trivial | rfl) d2)
      go_wp2_with fail
      go_ret2
      rw [RE.out]
      obtain ⟨f1, f2⟩ := FIN.out w4 V4 _ sv4 rv4 P4 Qo _ H4.out K4.out M4.out
      exact ⟨V4, g, sv4, rv4, P4, fun _ => rfl, fun h => absurd h d2, H4.out.dk, f1, fun x hx => f2 x (.inl hx), fun h => absurd h d2⟩
  · have d1' : ¬ ((n1 : Int) = 0) := by omega
    have RE := Lib.hid (R1.out d1)
    go_wp2_with fail
    go_ret2
    rw [RE.out]
    obtain ⟨f1, f2⟩ := FIN.out w3 V3 _ _ _ _ Qo _ H3.out K3.out M3.out
    exact ⟨V3, g, (.slice none 0 0), (.slice none 0 0), (fun _ => False), fun _ => rfl, fun h => absurd h d1, H3.out.dk, f1, fun x hx => f2 x (.inl hx), fun h => absurd h d1⟩
end
end Go.Proofs.YtcodihgjfhoepaaGreatDoor

/- What a log tells: all its records, one of them, where its segments begin. -/
namespace Go.Proofs.YtcodihgjfhoepaaGreatDoor
open Go Go.RowKit Crc Pk
set_option maxRecDepth 20000

theorem run_mkS (w : World) (n : Nat) (hn : n ≤ 100000) :
    (Instr.makeSlice 40 (.int .i64 (n : Int)) (.int .i64 (n : Int))).run Tryz.prog w = .ok (.slice (some ⟨w.heap.size, 0, none⟩) n n) (w.alloc (.cells (madeCells #[.slice none 0 0] n) 29)) := by
  obtain ⟨i, hi, hz, hs, hy⟩ := infoS
  have := run_make (P := Tryz.prog) w 40 29 i (.slice none 0 0) Tryz.underlying40 hi hz .i64 .i64 (n : Int) (n : Int) (by omega) (by omega) (by rw [hy]; omega) (by omega)
  rw [hs] at this
  simpa [Value.cells] using this
theorem made_slices (n : Nat) : madeCells #[Value.slice none 0 0] n = (List.replicate n (Value.slice none 0 0)).toArray := by
  apply Array.ext'; rw [toList_madeCells_one]
section
variable {B : Nat} {w w' : World} {d m : Nat} {V V' : ByteArray → Value} {S T : St} {g : Nat} {nm : ByteArray} {most : Nat} {sv rv sv' rv' : Value} {P P' : Nat → Prop} {L L' : Lg} {Q : Lg → Prop}
set_option maxHeartbeats 4000000 in
theorem all_any (h : Lo Q B w d m V S g nm most sv rv P L) (hlen : L.rc.length ≤ 50000) (hrec : ∀ r ∈ L.rc, r.length ≤ 65536) :
    Calls Tryz.prog 14 #[ptr g] w fun e w' => ∃ A c, e = .returned (.slice A L.rc.length c) ∧ Rws w' A L.rc ∧ Below w.heap.size w w' := by
  have c4 := h.c4
  obtain ⟨Aq, cq, hrv, hrq, hq1, hq2, hq3⟩ := h.rc.form
  rw [hrv] at c4
  have HQ := Lib.hid hrq
  have RL := Lib.hid (fun i (hi : i < L.rc.length) => hrec _ (g0_mem L.rc i hi))
  obtain ⟨n, hn⟩ : ∃ n, L.rc.length = n := ⟨_, rfl⟩
  have NN := Lib.hid hn
  have mk := fun w => run_mkS w n (by omega)
  have HB0 := Lib.hid (below_alloc w (.cells (madeCells #[.slice none 0 0] n) 29))
  have c4q := (h.below HB0.out).c4
  rw [hrv] at c4q
  rw [hn] at c4 c4q hq1 hlen ⊢
  have HM : Hid ((w.alloc (.cells (madeCells #[.slice none 0 0] n) 29)).heap[w.heap.size]? = some (.cells (List.replicate n (Value.slice none 0 0)).toArray 29 (0, 0))) := Lib.hid (by rw [← made_slices]; exact heap_alloc_new _ _)
  clear h hrv hrq hq2 hq3 hn hrec
  go_enter Tryz.func14, Tryz.ntmps14
  go_wp2_with fail
  go_loopw [19] (fun s wr => ∃ (i : Nat), s = .int .i64 i ∧ i ≤ n ∧ Hid (∃ cs : List Value, cs.length = n ∧ wr.heap[w.heap.size]? = some (.cells cs.toArray 29 (0, 0)) ∧ (∀ j, j < i → ∃ A C, cs[j]? = some (.slice A (g0 L.rc j).length C) ∧ Byt wr A (g0 L.rc j) ∧ ∀ x, A = some x → x.block ≠ w.heap.size) ∧ Below w.heap.size w wr)) (fun s _ => n - (intOf s).toNat)
  case atStart => exact ⟨0, rfl, Nat.zero_le _, _, by simp, HM.out, fun j hj => absurd hj (by omega), HB0.out⟩
  case round =>
    obtain ⟨i, rfl, hi, HI⟩ := hrel
    obtain ⟨cs, h1, h2, h3, h4⟩ := HI.out
    by_cases ci : i < n
    · obtain ⟨b, off, A', C', rfl, x0, y0, z0, _⟩ := (HQ.out.below h4) i (by rw [NN.out]; exact ci)
      have ci' : (i : Int) < (n : Int) := by omega
      have ci0 : (0 : Int) ≤ (i : Int) := by omega
      have cic : (i : Int) ≤ (cq : Int) := by omega
      have CL := Lib.hid (bclone_any wr A' (g0 L.rc i).length C' (g0 L.rc i) rfl y0 z0 (by have := RL.out i (by rw [NN.out]; exact ci); omega))
      have CS := Lib.hid (And.intro h1 (And.intro h2 (And.intro h3 h4)))
      have LT := Lib.hid (Array.getElem?_eq_some_iff.1 h2).1
      obtain ⟨q, hq⟩ : ∃ q, (g0 L.rc i).length = q := ⟨_, rfl⟩
      rw [hq] at x0 CL
      have QH := Lib.hid hq
      clear h1 h2 h3 h4 HI y0 z0 hq mk
      go_wp2_with fail
      refine CL.out.mono ?_
      rintro e w3 ⟨A3, c3, rfl, o3, b3⟩
      have hb3 : w3.heap[w.heap.size]? = some (.cells cs.toArray 29 (0, 0)) := by rw [b3.block _ LT.out]; exact CS.out.2.1
      obtain ⟨v, hv⟩ : ∃ v, cs[i]? = some v := ⟨cs[i]'(by rw [CS.out.1]; exact ci), List.getElem?_eq_getElem _⟩
      have cv : w3.cell? ⟨w.heap.size, i, none⟩ = some v := by rw [cell_in hb3 i]; simpa using hv
      have fv : w3.frozen? ⟨w.heap.size, i, none⟩ = false := free_in hb3 i
      have l3 : w.heap.size < w3.heap.size := (Array.getElem?_eq_some_iff.1 hb3).1
      have HB3 := Lib.hid hb3
      have B3 := Lib.hid b3
      have O3 := Lib.hid o3
      have fx : ∀ x, A3 = some x → x.block ≠ w.heap.size := fun x e => by
        subst e
        have := (o3.lt x.block rfl).1
        have := LT.out
        omega
      have FX := Lib.hid fx
      have rng := (HQ.out i (by rw [NN.out]; exact ci))
      have Y3 := Lib.hid (show Byt w3 A3 (g0 L.rc i) from O3.out.byt (by obtain ⟨_, _, _, _, _, _, yy, _⟩ := rng; exact yy.2))
      clear hb3 b3 o3 fx CL rng hv
      go_wp2_with fail
      go_roundw
      case rel =>
        have hset := block_set w3 w.heap.size i (.slice A3 q c3) _ _ _ HB3.out
        have kk : Keep (fun x => x = w.heap.size) w3 (w3.setCell ⟨w.heap.size, i, none⟩ (.slice A3 q c3)) := Keep.set _ _ ⟨w.heap.size, i, none⟩ _ rfl
        refine ⟨i + 1, by go_num, by omega, cs.set i (.slice A3 q c3), by rw [List.length_set]; exact CS.out.1, by rw [hset]; simp, fun j hj => ?_, ?_⟩
        · rcases Nat.lt_or_ge j i with e | e
          · obtain ⟨A, C, q1, q2, q3⟩ := CS.out.2.2.1 j e
            exact ⟨A, C, by rw [List.getElem?_set_ne (by omega)]; exact q1, (q2.below B3.out).keep kk q3, q3⟩
          · have : j = i := by omega
            subst this
            refine ⟨A3, c3, ?_, Y3.out.keep kk FX.out, FX.out⟩
            rw [List.getElem?_set_self (by rw [CS.out.1]; exact ci), QH.out]
        · have b1 := CS.out.2.2.2.trans (B3.out.mono CS.out.2.2.2.size)
          exact ⟨b1.os, b1.tape, b1.output, Nat.le_trans b1.size (by simp), fun k hk => (kk.block k (Nat.lt_of_lt_of_le hk b1.size) (by omega)).trans (b1.block k hk)⟩
      case measure => simp [intOf]; omega
    · obtain rfl : i = n := by omega
      have CS := Lib.hid (And.intro h1 (And.intro h2 (And.intro h3 h4)))
      clear h1 h2 h3 h4 HI mk
      go_wp2_with fail
      go_ret
      refine ⟨_, _, rfl, fun j hj => ?_, CS.out.2.2.2⟩
      obtain ⟨A, C, q1, q2, q3⟩ := CS.out.2.2.1 j (by rw [← NN.out]; exact hj)
      refine ⟨_, 0, A, C, rfl, ?_, q2⟩
      rw [Nat.zero_add, cell_in CS.out.2.1 j]
      simpa using q1
end
end Go.Proofs.YtcodihgjfhoepaaGreatDoor
