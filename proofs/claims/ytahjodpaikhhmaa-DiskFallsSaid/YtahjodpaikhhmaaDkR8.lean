/- The document's acts, whole. -/
import Derived.Test.YtahjodpaikhhmaaDkR4b
import Derived.Test.YtahjodpaikhhmaaDkR5b
import Derived.Test.YtahjodpaikhhmaaDkR7a
import Derived.Test.YtahjodpaikhhmaaDkR7b
import Derived.Test.YtahjodpaikhhmaaDkR7c
import Derived.Test.YtahjodpaikhhmaaDkR7d
namespace Go.Proofs.Ytahjodpaikhhmaa
open Go Go.RowKit
set_option maxRecDepth 20000

abbrev rvS (S : St) (A : Option Addr) (n c : Nat) : Value := .agg #[.int .i64 (S.room : Int), .slice A n c, .bool (!S.up), .int .i64 S.falls, .bool S.lit, .int .i64 (S.acts : Int), .int .i64 (S.part : Int)]
structure RD (w : World) (S : St) (A : Option Addr) (n : Nat) (L : List RF) : Prop where
  len : L.length = n
  rs : Rs w A L
  fs : fls L = S.fs
theorem RD.below {w w' : World} {S : St} {A : Option Addr} {n : Nat} {L : List RF} (h : RD w S A n L) (hb : Below w.heap.size w w') : RD w' S A n L := ⟨h.len, h.rs.below hb, h.fs⟩
theorem RD.many {w : World} {S : St} {A : Option Addr} {n : Nat} {L : List RF} (h : RD w S A n L) : n = S.fs.length := by rw [← h.fs, ← h.len]; simp [fls]
def RDo (w : World) (A : Option Addr) (L : List RF) (k : Int) (T : St) (e : Ending) (w' : World) : Prop :=
  ∃ A' n' c' L', e = .returned (.tuple #[.int .i64 k, rvS T A' n' c']) ∧ RD w' T A' n' L' ∧ Nw w A L w' A' L' ∧ Below w.heap.size w w'
theorem RAct.at {w w' : World} {A : Option Addr} {L : List RF} {k R : Int} {dn : Bool} {fl : Int} {lt : Bool} {ac pt : Int} {l' : List Fl} {e : Ending} (h : RAct w A L k R dn fl lt ac pt l' e w') {K : Int} {T : St} (hk : K = k) (h1 : (T.room : Int) = R) (h2 : (!T.up) = dn) (h3 : T.falls = fl) (h4 : T.lit = lt) (h5 : (T.acts : Int) = ac) (h6 : (T.part : Int) = pt) (h7 : l' = T.fs) : RDo w A L K T e w' := by
  subst hk h1 h2 h3 h4 h5 h6 h7
  obtain ⟨A', n', c', L', e1, e2, e3, e4, e5, e6⟩ := h
  exact ⟨A', n', c', L', e1, ⟨e3, e4, e2⟩, e5, e6⟩
theorem how_is (S : St) : (goes S = true ∧ how S = 0) ∨ (goes S = false ∧ 0 < how S) := by
  unfold goes how
  cases S.up <;> cases cutOff S <;> simp
theorem hb_at (S : St) (A : Option Addr) (n c : Nat) (ha : S.acts < 9223372036854775808) (h : Int) (hh : (how S : Int) = h) (W : World) :
    Calls Try.prog 40 #[rv (S.room : Int) A n c (!S.up) S.falls S.lit (S.acts : Int) (S.part : Int)] W fun e w' => e = .returned (.tuple #[.int .i64 h, .agg #[.int .i64 (S.room : Int), .slice A n c, .bool (!(begun S).up), .int .i64 (begun S).falls, .bool (begun S).lit, .int .i64 ((begun S).acts : Int), .int .i64 ((begun S).part : Int)]]) ∧ Below W.heap.size W w' := by
  subst hh
  exact rbegin_any W S A n c ha
theorem broom (S : St) : ((begun S).room : Int) = (S.room : Int) := by rw [begun_room]
theorem rsyncS {w : World} {S : St} {A : Option Addr} {n c : Nat} {L : List RF} (h : RD w S A n L) (ho : Ok S) (s : ByteArray) :
    Calls Try.prog 24 #[rvS S A n c, .string s] w (RDo w A L (synE S s : Nat) (synS S s)) := by
  have hn : n ≤ 1000 := by have := h.many; have := ho.many; omega
  have h7 : fls L = (begun S).fs := by rw [begun_fs]; exact h.fs
  unfold synE synS
  rcases how_is S with ⟨g, hh⟩ | ⟨g, hh⟩
  · have HB := hb_at S A n c ho.acts 0 (by rw [hh]; rfl)
    rw [if_pos g, if_pos g]
    cases hf : fnd S.fs s with
    | none =>
      refine (rsync_none w _ A n c _ _ _ _ _ _ _ _ _ _ HB L h.len h.rs hn s (by rw [h.fs]; exact hf)).mono fun e w' hr => ?_
      exact hr.at (by simp) (broom S) rfl rfl rfl rfl rfl h7
    | some f =>
      refine (rsync_some w _ A n c _ _ _ _ _ _ _ _ _ _ HB L h.len h.rs hn s f (by rw [h.fs]; exact hf)).mono fun e w' hr => ?_
      exact hr.at (by simp) (broom S) rfl rfl rfl rfl rfl (by rw [h.fs]; rfl)
  · have HB := hb_at S A n c ho.acts (how S) rfl
    rw [g, if_neg (by simp), if_neg (by simp)]
    refine (rsync_cut w _ A n c _ _ _ _ _ _ _ _ _ _ _ (by omega) HB L h.len h.rs hn s).mono fun e w' hr => ?_
    exact hr.at rfl (broom S) rfl rfl rfl rfl rfl h7
theorem rdeleteS {w : World} {S : St} {A : Option Addr} {n c : Nat} {L : List RF} (h : RD w S A n L) (ho : Ok S) (s : ByteArray) :
    Calls Try.prog 27 #[rvS S A n c, .string s] w (RDo w A L (delE S s : Nat) (delS S s)) := by
  have hn : n ≤ 1000 := by have := h.many; have := ho.many; omega
  have h7 : fls L = (begun S).fs := by rw [begun_fs]; exact h.fs
  unfold delE delS
  rcases how_is S with ⟨g, hh⟩ | ⟨g, hh⟩
  · have HB := hb_at S A n c ho.acts 0 (by rw [hh]; rfl)
    rw [if_pos g, if_pos g]
    cases hf : fnd S.fs s with
    | none =>
      refine (rdelete_none w _ A n c _ _ _ _ _ _ _ _ _ _ HB L h.len h.rs hn s (by rw [h.fs]; exact hf)).mono fun e w' hr => ?_
      exact hr.at (by simp) (broom S) rfl rfl rfl rfl rfl h7
    | some f =>
      refine (rdelete_some w _ A n c _ _ _ _ _ _ _ _ _ _ HB L h.len h.rs hn s f (by rw [h.fs]; exact hf)).mono fun e w' hr => ?_
      exact hr.at (by simp) (broom S) rfl rfl rfl rfl rfl (by rw [h.fs]; rfl)
  · have HB := hb_at S A n c ho.acts (how S) rfl
    rw [g, if_neg (by simp), if_neg (by simp)]
    refine (rdelete_cut w _ A n c _ _ _ _ _ _ _ _ _ _ _ (by omega) HB L h.len h.rs hn s).mono fun e w' hr => ?_
    exact hr.at rfl (broom S) rfl rfl rfl rfl rfl h7
theorem rtruncateS {w : World} {S : St} {A : Option Addr} {n c : Nat} {L : List RF} (h : RD w S A n L) (ho : Ok S) (s : ByteArray) (k : Int) :
    Calls Try.prog 26 #[rvS S A n c, .string s, .int .i64 k] w (RDo w A L (truE S s k : Nat) (truS S s k)) := by
  have hn : n ≤ 1000 := by have := h.many; have := ho.many; omega
  have h7 : fls L = (begun S).fs := by rw [begun_fs]; exact h.fs
  unfold truE truS
  rcases how_is S with ⟨g, hh⟩ | ⟨g, hh⟩
  · have HB := hb_at S A n c ho.acts 0 (by rw [hh]; rfl)
    rw [if_pos g, if_pos g]
    cases hf : fnd S.fs s with
    | none =>
      refine (rtruncate_none w _ A n c _ _ _ _ _ _ _ _ _ _ HB L h.len h.rs hn s k (by rw [h.fs]; exact hf)).mono fun e w' hr => ?_
      exact hr.at (by simp) (broom S) rfl rfl rfl rfl rfl h7
    | some f =>
      by_cases k0 : k < 0
      · have hx : fits k f = false := by unfold fits; simp; omega
        refine (rtruncate_low w _ A n c _ _ _ _ _ _ _ _ _ _ HB L h.len h.rs hn s k f (by rw [h.fs]; exact hf) k0).mono fun e w' hr => ?_
        simp only [hx]
        exact hr.at (by simp) (broom S) rfl rfl rfl rfl rfl h7
      · by_cases k1 : (f.bs.length : Int) < k
        · have hx : fits k f = false := by unfold fits; simp; omega
          refine (rtruncate_high w _ A n c _ _ _ _ _ _ _ _ _ _ HB L h.len h.rs hn s k f (by rw [h.fs]; exact hf) k1).mono fun e w' hr => ?_
          simp only [hx]
          exact hr.at (by simp) (broom S) rfl rfl rfl rfl rfl h7
        · have hx : fits k f = true := by unfold fits; simp; omega
          obtain ⟨j, rfl⟩ : ∃ j : Nat, k = (j : Int) := ⟨k.toNat, by omega⟩
          refine (rtruncate_some w _ A n c _ _ _ _ _ _ _ _ _ _ HB L h.len h.rs hn s j f (by rw [h.fs]; exact hf) (by omega)).mono fun e w' hr => ?_
          simp only [hx]
          exact hr.at (by simp) (broom S) rfl rfl rfl rfl rfl (by rw [h.fs]; rfl)
  · have HB := hb_at S A n c ho.acts (how S) rfl
    rw [g, if_neg (by simp), if_neg (by simp)]
    refine (rtruncate_cut w _ A n c _ _ _ _ _ _ _ _ _ _ _ (by omega) HB L h.len h.rs hn s k).mono fun e w' hr => ?_
    exact hr.at rfl (broom S) rfl rfl rfl rfl rfl h7
theorem rrenameS {w : World} {S : St} {A : Option Addr} {n c : Nat} {L : List RF} (h : RD w S A n L) (ho : Ok S) (s t : ByteArray) (ht : t.size ≤ maxLen) :
    Calls Try.prog 25 #[rvS S A n c, .string s, .string t] w (RDo w A L (renE S s t : Nat) (renS S s t)) := by
  have hn : n ≤ 1000 := by have := h.many; have := ho.many; omega
  have h7 : fls L = (begun S).fs := by rw [begun_fs]; exact h.fs
  unfold renE renS
  rcases how_is S with ⟨g, hh⟩ | ⟨g, hh⟩
  · have HB := hb_at S A n c ho.acts 0 (by rw [hh]; rfl)
    rw [if_pos g, if_pos g]
    cases hm : named t with
    | false =>
      refine (rrename_bad w _ A n c _ _ _ _ _ _ _ _ _ _ HB L h.len h.rs hn s t ht hm).mono fun e w' hr => ?_
      exact hr.at (by simp) (broom S) rfl rfl rfl rfl rfl h7
    | true =>
      rw [if_pos rfl, if_pos rfl]
      cases hf : fnd S.fs s with
      | none =>
        refine (rrename_none w _ A n c _ _ _ _ _ _ _ _ _ _ HB L h.len h.rs hn s t ht hm (by rw [h.fs]; exact hf)).mono fun e w' hr => ?_
        exact hr.at (by simp) (broom S) rfl rfl rfl rfl rfl h7
      | some f =>
        refine (rrename_some w _ A n c _ _ _ _ _ _ _ _ _ _ HB L h.len h.rs hn s t ht hm f (by rw [h.fs]; exact hf)).mono fun e w' hr => ?_
        exact hr.at (by simp) (broom S) rfl rfl rfl rfl rfl (by rw [h.fs]; rfl)
  · have HB := hb_at S A n c ho.acts (how S) rfl
    rw [g, if_neg (by simp), if_neg (by simp)]
    refine (rrename_cut w _ A n c _ _ _ _ _ _ _ _ _ _ _ (by omega) HB L h.len h.rs hn s t).mono fun e w' hr => ?_
    exact hr.at rfl (broom S) rfl rfl rfl rfl rfl h7
theorem how_up {S : St} (h : S.up = true) : how S = (if cutOff S then 1 else 0) := by unfold how; rw [h]; rfl
theorem begun_up {S : St} (h : S.up = true) : begun S = tick S := by unfold begun; rw [h]; rfl
theorem begun_down {S : St} (h : S.up = false) : begun S = S := by unfold begun; rw [h]; rfl
theorem rappendS {w : World} {S : St} {A : Option Addr} {n c : Nat} {L : List RF} (h : RD w S A n L) (ho : Ok S) (hrm : S.room ≤ 900000) (s : ByteArray) (hs : s.size ≤ maxLen) (Ab : Option Addr) (k cb : Nat) (bb : List Int) (hbl0 : bb.length = k) (hbb : Byt w Ab bb) (hbz : Ab = none → cb = 0) (hbc : k ≤ cb) (hk : k ≤ 100000) :
    Calls Try.prog 23 #[rvS S A n c, .string s, .slice Ab k cb] w (RDo w A L (appE S s bb : Nat) (appS S s bb)) := by
  have hm := h.many
  have hmm := ho.many
  have hn : n ≤ 1000 := by omega
  have hu0 := ho.used
  have hu : usd (fls L) ≤ 900000 := by rw [h.fs]; omega
  have hR0 : (0 : Int) ≤ (S.room : Int) := by omega
  have hR1 : (S.room : Int) ≤ 16777216 := by omega
  have h7 : fls L = (begun S).fs := by rw [begun_fs]; exact h.fs
  cases up : S.up with
  | false =>
    have HB := hb_at S A n c ho.acts 2 (by unfold how; rw [up]; rfl)
    have e1 : appE S s bb = 9 := by unfold appE; rw [up]; rfl
    have e2 : appS S s bb = begun S := by unfold appS; rw [begun_down up, up]; rfl
    rw [e1, e2]
    refine (rappend_down w _ A n c _ _ _ _ _ _ _ _ _ _ HB L h.len h.rs hn s hs Ab k cb bb hbl0 hbb hbz hbc hk).mono fun e w' hr => ?_
    exact hr.at (by simp) (broom S) rfl rfl rfl rfl rfl h7
  | true =>
    have e2 : appS S s bb = if refuse S s k = 0 then withFs (begun S) (wi S.fs (appF S s bb)) else begun S := by unfold appS; rw [begun_up up, up, hbl0]; rfl
    rw [e2]
    have key : ∀ (x : Nat), refuse S s k = x →
        (x ≠ 0 → (if refuse S s k = 0 then withFs (begun S) (wi S.fs (appF S s bb)) else begun S) = begun S) ∧ (x = 0 → (if refuse S s k = 0 then withFs (begun S) (wi S.fs (appF S s bb)) else begun S) = withFs (begun S) (wi S.fs (appF S s bb))) := by
      intro x hx
      rw [hx]
      exact ⟨fun e => if_neg e, fun e => if_pos e⟩
    cases ct : cutOff S with
    | false =>
      have HB := hb_at S A n c ho.acts 0 (by rw [how_up up, ct]; rfl)
      have e1 : appE S s bb = refuse S s k := by unfold appE; rw [up, ct, hbl0]; rfl
      have pe : putOn S bb = bb := by unfold putOn; rw [ct]; rfl
      rw [e1]
      cases nm : named s with
      | false =>
        have hx : refuse S s k = 1 := by unfold refuse; rw [nm]; rfl
        rw [(key 1 hx).1 (by omega), hx]
        cases hf : fnd S.fs s with
        | none =>
          refine (rappend_unnamed_n0 w _ A n c _ _ _ _ _ _ _ _ _ _ HB L h.len h.rs hn s hs Ab k cb bb hbl0 hbb hbz hbc hk (by rw [h.fs]; exact hf) nm hu hR0 hR1).mono fun e w' hr => ?_
          exact hr.at (by simp) (broom S) rfl rfl rfl rfl rfl h7
        | some f =>
          refine (rappend_unnamed_y0 w _ A n c _ _ _ _ _ _ _ _ _ _ HB L h.len h.rs hn s hs Ab k cb bb hbl0 hbb hbz hbc hk f (by rw [h.fs]; exact hf) nm hu hR0 hR1).mono fun e w' hr => ?_
          exact hr.at (by simp) (broom S) rfl rfl rfl rfl rfl h7
      | true =>
        by_cases hz : (S.room : Int) - (usd (fls L) : Int) < (k : Int)
        · have hx : refuse S s k = 7 := by
            unfold refuse; rw [nm, if_pos rfl, if_pos]
            left; rw [h.fs] at hz; omega
          rw [(key 7 hx).1 (by omega), hx]
          cases hf : fnd S.fs s with
          | none =>
            refine (rappend_size_n0 w _ A n c _ _ _ _ _ _ _ _ _ _ HB L h.len h.rs hn s hs Ab k cb bb hbl0 hbb hbz hbc hk (by rw [h.fs]; exact hf) nm hu hR0 hR1 hz).mono fun e w' hr => ?_
            exact hr.at (by simp) (broom S) rfl rfl rfl rfl rfl h7
          | some f =>
            refine (rappend_size_y0 w _ A n c _ _ _ _ _ _ _ _ _ _ HB L h.len h.rs hn s hs Ab k cb bb hbl0 hbb hbz hbc hk f (by rw [h.fs]; exact hf) nm hu hR0 hR1 hz).mono fun e w' hr => ?_
            exact hr.at (by simp) (broom S) rfl rfl rfl rfl rfl h7
        · cases hf : fnd S.fs s with
          | none =>
            by_cases hc : 256 ≤ n
            · have hx : refuse S s k = 7 := by
                unfold refuse; rw [nm, if_pos rfl, if_pos]
                right; exact ⟨hf, by omega⟩
              rw [(key 7 hx).1 (by omega), hx]
              refine (rappend_count_n0 w _ A n c _ _ _ _ _ _ _ _ _ _ HB L h.len h.rs hn s hs Ab k cb bb hbl0 hbb hbz hbc hk (by rw [h.fs]; exact hf) nm hu hR0 hR1 hz hc).mono fun e w' hr => ?_
              exact hr.at (by simp) (broom S) rfl rfl rfl rfl rfl h7
            · have hx : refuse S s k = 0 := by
                unfold refuse; rw [nm, if_pos rfl, if_neg]
                rw [h.fs] at hz
                rintro (q | q)
                · omega
                · omega
              rw [(key 0 hx).2 rfl, hx]
              refine (rappend_ok_n0 w _ A n c _ _ _ _ _ _ _ _ _ _ HB L h.len h.rs hn s hs Ab k cb bb hbl0 hbb hbz hbc hk (by rw [h.fs]; exact hf) nm hu hR0 hR1 hz (by omega)).mono fun e w' hr => ?_
              exact hr.at (by simp) (broom S) rfl rfl rfl rfl rfl (by rw [h.fs]; unfold appF old; rw [hf, pe]; rfl)
          | some f =>
            have hx : refuse S s k = 0 := by
              unfold refuse; rw [nm, if_pos rfl, if_neg]
              rw [h.fs] at hz
              rintro (q | q)
              · omega
              · rw [hf] at q; cases q.1
            rw [(key 0 hx).2 rfl, hx]
            refine (rappend_ok_y0 w _ A n c _ _ _ _ _ _ _ _ _ _ HB L h.len h.rs hn s hs Ab k cb bb hbl0 hbb hbz hbc hk f (by rw [h.fs]; exact hf) nm hu hR0 hR1 hz).mono fun e w' hr => ?_
            exact hr.at (by simp) (broom S) rfl rfl rfl rfl rfl (by rw [h.fs]; unfold appF old; rw [hf, pe]; rfl)
    | true =>
      have HB := hb_at S A n c ho.acts 1 (by rw [how_up up, ct]; rfl)
      have e1 : appE S s bb = 9 := by unfold appE; rw [up, ct]; rfl
      have pe : putOn S bb = bb.take (S.part % (k + 1)) := by unfold putOn; rw [ct, hbl0]; rfl
      rw [e1]
      cases nm : named s with
      | false =>
        have hx : refuse S s k = 1 := by unfold refuse; rw [nm]; rfl
        rw [(key 1 hx).1 (by omega)]
        cases hf : fnd S.fs s with
        | none =>
          refine (rappend_unnamed_n1 w _ A n c _ _ _ _ _ _ _ _ _ _ HB L h.len h.rs hn s hs Ab k cb bb hbl0 hbb hbz hbc hk (by rw [h.fs]; exact hf) nm hu hR0 hR1).mono fun e w' hr => ?_
          exact hr.at (by simp) (broom S) rfl rfl rfl rfl rfl h7
        | some f =>
          refine (rappend_unnamed_y1 w _ A n c _ _ _ _ _ _ _ _ _ _ HB L h.len h.rs hn s hs Ab k cb bb hbl0 hbb hbz hbc hk f (by rw [h.fs]; exact hf) nm hu hR0 hR1).mono fun e w' hr => ?_
          exact hr.at (by simp) (broom S) rfl rfl rfl rfl rfl h7
      | true =>
        by_cases hz : (S.room : Int) - (usd (fls L) : Int) < (k : Int)
        · have hx : refuse S s k = 7 := by
            unfold refuse; rw [nm, if_pos rfl, if_pos]
            left; rw [h.fs] at hz; omega
          rw [(key 7 hx).1 (by omega)]
          cases hf : fnd S.fs s with
          | none =>
            refine (rappend_size_n1 w _ A n c _ _ _ _ _ _ _ _ _ _ HB L h.len h.rs hn s hs Ab k cb bb hbl0 hbb hbz hbc hk (by rw [h.fs]; exact hf) nm hu hR0 hR1 hz).mono fun e w' hr => ?_
            exact hr.at (by simp) (broom S) rfl rfl rfl rfl rfl h7
          | some f =>
            refine (rappend_size_y1 w _ A n c _ _ _ _ _ _ _ _ _ _ HB L h.len h.rs hn s hs Ab k cb bb hbl0 hbb hbz hbc hk f (by rw [h.fs]; exact hf) nm hu hR0 hR1 hz).mono fun e w' hr => ?_
            exact hr.at (by simp) (broom S) rfl rfl rfl rfl rfl h7
        · cases hf : fnd S.fs s with
          | none =>
            by_cases hc : 256 ≤ n
            · have hx : refuse S s k = 7 := by
                unfold refuse; rw [nm, if_pos rfl, if_pos]
                right; exact ⟨hf, by omega⟩
              rw [(key 7 hx).1 (by omega)]
              refine (rappend_count_n1 w _ A n c _ _ _ _ _ _ _ _ _ _ HB L h.len h.rs hn s hs Ab k cb bb hbl0 hbb hbz hbc hk (by rw [h.fs]; exact hf) nm hu hR0 hR1 hz hc).mono fun e w' hr => ?_
              exact hr.at (by simp) (broom S) rfl rfl rfl rfl rfl h7
            · have hx : refuse S s k = 0 := by
                unfold refuse; rw [nm, if_pos rfl, if_neg]
                rw [h.fs] at hz
                rintro (q | q)
                · omega
                · omega
              rw [(key 0 hx).2 rfl]
              refine (rappend_ok_n1 w _ A n c _ _ _ _ _ _ _ _ _ _ HB L h.len h.rs hn s hs Ab k cb bb hbl0 hbb hbz hbc hk S.part rfl (by rw [h.fs]; exact hf) nm hu hR0 hR1 hz (by omega)).mono fun e w' hr => ?_
              exact hr.at (by simp) (broom S) rfl rfl rfl rfl rfl (by rw [h.fs]; unfold appF old; rw [hf, pe]; rfl)
          | some f =>
            have hx : refuse S s k = 0 := by
              unfold refuse; rw [nm, if_pos rfl, if_neg]
              rw [h.fs] at hz
              rintro (q | q)
              · omega
              · rw [hf] at q; cases q.1
            rw [(key 0 hx).2 rfl]
            refine (rappend_ok_y1 w _ A n c _ _ _ _ _ _ _ _ _ _ HB L h.len h.rs hn s hs Ab k cb bb hbl0 hbb hbz hbc hk S.part rfl f (by rw [h.fs]; exact hf) nm hu hR0 hR1 hz).mono fun e w' hr => ?_
            exact hr.at (by simp) (broom S) rfl rfl rfl rfl rfl (by rw [h.fs]; unfold appF old; rw [hf, pe]; rfl)
/- what has no error -/
def RSo (w : World) (A : Option Addr) (L : List RF) (T : St) (e : Ending) (w' : World) : Prop :=
  ∃ A' n' c' L', e = .returned (rvS T A' n' c') ∧ RD w' T A' n' L' ∧ Nw w A L w' A' L' ∧ Below w.heap.size w w'
theorem rcrashS {w : World} {S : St} {A : Option Addr} {n c : Nat} {L : List RF} (h : RD w S A n L) :
    Calls Try.prog 29 #[rvS S A n c] w (RSo w A L (down S)) := by
  refine (rcrash_any w (S.room : Int) A n c (!S.up) S.falls S.lit (S.acts : Int) (S.part : Int)).mono ?_
  rintro e w' ⟨rfl, hb⟩
  have h' := h.below hb
  refine ⟨A, n, c, L, ?_, ⟨h'.len, h'.rs, h'.fs⟩, Nw.same _ _ _ _, hb⟩
  unfold down rvS
  cases S.up <;> rfl
theorem rlightS {w : World} {S : St} {A : Option Addr} {n c : Nat} {L : List RF} (h : RD w S A n L) (x y : Int) :
    Calls Try.prog 28 #[rvS S A n c, .int .i64 x, .int .i64 y] w (RSo w A L (lighted S x y)) := by
  refine (rlight_any w (S.room : Int) A n c (!S.up) S.falls S.lit (S.acts : Int) (S.part : Int) x y).mono ?_
  rintro e w' ⟨rfl, hb⟩
  have h' := h.below hb
  refine ⟨A, n, c, L, ?_, ⟨h'.len, h'.rs, h'.fs⟩, Nw.same _ _ _ _, hb⟩
  unfold lighted rvS
  have e1 : (((max x 0).toNat : Nat) : Int) = max x 0 := by omega
  have e2 : (((max y 0).toNat : Nat) : Int) = max y 0 := by omega
  simp only [e1, e2]
end Go.Proofs.Ytahjodpaikhhmaa
