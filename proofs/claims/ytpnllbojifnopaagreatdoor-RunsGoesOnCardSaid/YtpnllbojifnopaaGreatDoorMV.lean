/- Contracts, joined: LbLift, EvLift, PdTab, PdLift. -/
import Derived.Test.YtpnllbojifnopaaGreatDoorRows
import Derived.Test.YtpnllbojifnopaaGreatDoorMB
import Derived.ProofKit
import Derived.LaidMore
import Derived.OpenShut
import Derived.Stop.Joined
import Derived.ChangeOld
import Derived.ChangeMaps5
import Derived.Carry
import Derived.Test.YtpnllbojifnopaaGreatDoorMA
import Derived.Test.YtpnllbojifnopaaGreatDoorME
import Derived.Lib.SmallJoins
import Derived.Deep.Slices
import Derived.Test.YtpnllbojifnopaaGreatDoorMD
import Derived.Lib.LaidTab
import Derived.FnData
import Derived.Deep.Strs
/- What comes in, told in the walks' words: slices of bytes. -/
namespace Go.Proofs.YtpnllbojifnopaaGreatDoor
open Go Go.ChangeShapes Go.WideShapes Go.ChangeAt Go.WideMaps Go.WideElems Go.RowKit
set_option maxRecDepth 20000

theorem own : ownKnob Tryz.prog.godebug = none := by kernel_rfl
theorem laidOut : laidOutB Tryz.prog = true := by kernel_rfl

end Go.Proofs.YtpnllbojifnopaaGreatDoor

/- What comes in, told in the walks' words: events by their values' bits. -/
namespace Go.Proofs.YtpnllbojifnopaaGreatDoor
open Go Go.ChangeShapes Go.WideShapes Go.ChangeAt Go.WideMaps Go.WideElems Go.RowKit Go.Joins
set_option maxRecDepth 20000

theorem raws_of {H : Type} {enc : TypeId × Value → H} {W : World} {base : Nat} {sp : Nat → Bool} {held : Bool} {v : Value} {fuel : Nat} {x : DataW H × List MemPlace}
    (h : DataW.trod enc Tryz.prog W base sp held fuel 136 [v] = some x) :
    ∃ (a : Option Addr) (n c : Nat) (L : List VV), v = .slice a n c ∧ L.length = n ∧ n ≤ maxLen ∧ Raws W a L ∧ (∀ u ∈ L, Okv u) ∧ ∀ u ∈ L, u.2.2.2.size ≤ maxLen := by
  rcases Go.Deep.open_slice Tryz.underlying136 h with ⟨hcs, _⟩ | ⟨a, len, cap, m, n, D, Pl, hcs, _, hl, hm, hmm, _, hx⟩
  · simp only [List.cons.injEq, and_true] at hcs
    subst hcs
    exact ⟨none, 0, 0, [], rfl, rfl, by unfold maxLen; omega, fun i hi => absurd hi (by simp), by simp, by simp⟩
  · simp only [List.cons.injEq, and_true] at hcs
    subst hcs
    have hlm : len ≤ m := by rw [hmm]; split <;> omega
    have c4 : Tryz.prog.cellsOf 163 = 4 := by kernel_rfl
    have each : ∀ i, i < len → ∃ u : VV, (W.cell? (a.add (i * 4)) = some (.int .u8 u.1) ∧ W.cell? (a.add (i * 4 + 1)) = some (.int .i64 u.2.1) ∧ W.cell? (a.add (i * 4 + 2)) = some (.int .u64 (u.2.2.1 : Int)) ∧ W.cell? (a.add (i * 4 + 3)) = some (.string u.2.2.2)) ∧ Okv u ∧ u.2.2.2.size ≤ maxLen := by
      intro i hi
      obtain ⟨cs', h1, h2⟩ := hx i (by omega)
      rw [c4] at h1
      obtain ⟨_, hlen, hcell⟩ := World.cells?_some h1
      obtain ⟨y0, y1, y2, y3, k, _, _, t0, t1, t2, t3⟩ := trod_struct4 Tryz.underlying163 h2
      have k8 : Tryz.prog.cellsOf 5 = 1 := by kernel_rfl
      have ki : Tryz.prog.cellsOf 2 = 1 := by kernel_rfl
      have ku : Tryz.prog.cellsOf 23 = 1 := by kernel_rfl
      have ks : Tryz.prog.cellsOf 9 = 1 := by kernel_rfl
      match cs', hlen with
      | [v0, v1, v2, v3], _ =>
        obtain ⟨a0, e0, _, w0⟩ := DataW.trod_int Tryz.underlying5 t0
        obtain ⟨a1, e1, _, w1⟩ := DataW.trod_int Tryz.underlying2 t1
        obtain ⟨a2, e2, _, w2⟩ := DataW.trod_int Tryz.underlying23 t2
        obtain ⟨s, e3, _, w3⟩ := DataW.trod_string Tryz.underlying9 t3
        simp [k8, ki, ku, ks] at e0 e1 e2 e3
        subst e0 e1 e2 e3
        obtain ⟨b, rfl, hb⟩ := nat_of w2
        obtain ⟨lo, hi'⟩ := bounds_i64 w1
        have b8 := bounds_u8 w0
        have q0 := hcell 0 (by omega)
        have q1 := hcell 1 (by omega)
        have q2 := hcell 2 (by omega)
        have q3 := hcell 3 (by omega)
        rw [Go.Deep.add_add] at q0 q1 q2 q3
        exact ⟨(a0, a1, b, s), ⟨by simpa using q0, by simpa using q1, by simpa using q2, by simpa using q3⟩, ⟨b8.1, by show a0 < 256; omega, lo, hi', hb⟩, w3⟩
    obtain ⟨f, hf⟩ := Go.Deep.choose_lt each
    have hget : ∀ i, i < len → ((List.range len).map f).getD i vz = f i := fun i hi => by
      rw [List.getD_eq_getElem?_getD, List.getElem?_map, List.getElem?_range hi]; rfl
    refine ⟨some a, len, cap, (List.range len).map f, rfl, by simp, by omega, fun i hi => ?_, fun u hu => ?_, fun u hu => ?_⟩
    · rw [List.length_map, List.length_range] at hi
      obtain ⟨b, off, spot⟩ := a
      have hs : spot = none := by
        have := World.cell?_spot (hf 0 (by omega)).1.1
        simpa [Addr.add] using this
      subst hs
      obtain ⟨q0, q1, q2, q3⟩ := (hf i hi).1
      rw [add_plain] at q0 q1 q2 q3
      rw [hget i hi]
      exact ⟨b, off, rfl, q0, by rw [Nat.add_assoc]; exact q1, by rw [Nat.add_assoc]; exact q2, by rw [Nat.add_assoc]; exact q3⟩
    · obtain ⟨i, hi, rfl⟩ := List.mem_map.1 hu
      exact (hf i (List.mem_range.1 hi)).2.1
    · obtain ⟨i, hi, rfl⟩ := List.mem_map.1 hu
      exact (hf i (List.mem_range.1 hi)).2.2

theorem nat32_of {a : Int} (h : (Lit.int .u32 a).wf = true) : ∃ b : Nat, a = (b : Int) ∧ b < 4294967296 := by
  have h1 := bounds_u32 h
  exact ⟨a.toNat, by omega, by omega⟩
theorem eraw_of {H : Type} {enc : TypeId × Value → H} {W : World} {base b0 : Nat} {sp : Nat → Bool} {held : Bool} {r : Reach} {v : Value} {d : DataW H} {p : List MemPlace}
    (hv : Value.okWide Tryz.prog W r b0 138 v) (h : DataW.Trod enc Tryz.prog W base sp held 138 v d p) :
    ∃ (t : Int) (a : Option Addr) (n c : Nat) (L : List VV), v = ev t a n c ∧ (0 ≤ t ∧ t < 256) ∧ L.length = n ∧ n ≤ maxLen ∧ Raws W a L ∧ (∀ u ∈ L, Okv u) ∧ ∀ u ∈ L, u.2.2.2.size ≤ maxLen := by
  obtain ⟨v0, v1, y0, y1, m, rfl, _, _, h0, h1⟩ := open_agg2 Tryz.underlying138 (by kernel_rfl) (by kernel_rfl) hv h
  obtain ⟨a0, e0, _, w0⟩ := DataW.trod_int Tryz.underlying5 h0
  simp only [List.cons.injEq, and_true] at e0
  subst e0
  obtain ⟨a, n, c, L, rfl, h2, h3, h4, h5, h6⟩ := raws_of h1
  have b8 := bounds_u8 w0
  exact ⟨a0, a, n, c, L, rfl, by omega, h2, h3, h4, h5, h6⟩
end Go.Proofs.YtpnllbojifnopaaGreatDoor

/- The table of what Ops say, as the program's text lays it. -/
namespace Go.Proofs.YtpnllbojifnopaaGreatDoor
open Go Go.ChangeShapes Go.WideShapes Go.ChangeAt Go.WideMaps Go.WideElems Go.RowKit
set_option maxRecDepth 20000

theorem gTab : Tryz.prog.globalNamed "equerry/pred.sayings" = some 1 := by kernel_rfl
theorem tTab : (Tryz.prog.globals[1]?).map (·.type) = some 247 := by kernel_rfl
theorem cellsA : Tryz.prog.cellsOf 247 = 54 := by kernel_rfl
theorem cellsS : Tryz.prog.cellsOf 246 = 6 := by kernel_rfl
theorem cellsB : Tryz.prog.cellsOf 4 = 1 := by kernel_rfl
theorem arr_of {H : Type} {enc : TypeId × Value → H} {P : Program} {w : World} {base : Nat} {sp : Nat → Bool} {held : Bool} {fuel : Nat} {t e : TypeId} {n c : Nat} {cs : List Value} {D : List (DataW H)} {p : List MemPlace}
    (ht : P.underlying t = some (.array n e)) (hce : P.cellsOf e = c) (h : DataW.trod enc P w base sp held fuel t cs = some (.agg D, p)) :
    ∃ fuel', ∀ i, i < n → ∃ b, DataW.trod enc P w base sp held fuel' e ((cs.drop (i * c)).take c) = some b ∧ D[i]? = some b.1 := by
  cases fuel with
  | zero => simp [DataW.trod] at h
  | succ fuel =>
    refine ⟨fuel, fun i hi => ?_⟩
    simp only [DataW.trod, ht, hce] at h
    split at h
    · obtain ⟨xs, hm, hx⟩ := Option.map_eq_some_iff.1 h
      obtain ⟨b, hb, hf⟩ := Lib.mapM_at hm i i (by simp [hi])
      refine ⟨b, hf, ?_⟩
      have hD : xs.map (·.1) = D := by
        have := congrArg Prod.fst hx
        simpa using this
      rw [← hD, List.getElem?_map, hb]; rfl
    · cases h
def sayD {H : Type} (l : List Bool) : DataW H := .agg (l.map fun b => .lit (.bool b))
theorem says_laid {H : Type} : (Rows.laid_equerry_pred_sayings : DataW H) = .agg (says.map sayD) := rfl
theorem of_laid {W : World} (h : laidMetH Tryz.prog [("equerry/pred.sayings", Rows.laid_equerry_pred_sayings)] W) : Tab W := by
  rw [MakeChecks.laidMetH_plain _ _ _ (by kernel_rfl)] at h
  obtain ⟨ps, ⟨g', t', cs, fuel, p, q, hg', ht', hvar, hd, _, _⟩, _⟩ := h
  obtain rfl := Option.some.inj (gTab.symm.trans hg')
  obtain rfl := Option.some.inj (tTab.symm.trans ht')
  rw [says_laid] at hd
  obtain ⟨f1, ha⟩ := arr_of Tryz.underlying247 cellsS hd
  intro o j ho hj
  obtain ⟨b, hb, hD⟩ := ha o ho
  obtain ⟨xs, n, _, hx, hl, hlen, hf⟩ := DataW.trod_struct Tryz.underlying246 hb
  rw [World.var?_cell gTab hvar]
  have hDl : ∃ l : List Bool, says[o]? = some l ∧ b.1 = sayD l := by
    rw [List.getElem?_map] at hD
    obtain ⟨l, h1, h2⟩ := Option.map_eq_some_iff.1 hD
    exact ⟨l, h1, h2.symm⟩
  obtain ⟨l, hl1, hl2⟩ := hDl
  have hxs : xs.map (·.1) = l.map fun b => (DataW.lit (.bool b) : DataW _) := by
    have := (congrArg Prod.fst hx).symm.trans hl2
    simpa [sayD] using this
  have hsy : l[j]? = some (sy o j) := by
    have hln : l.length = 6 := by
      have := congrArg List.length hxs
      simp only [List.length_map] at this
      rw [← this, hlen]; rfl
    unfold sy
    rw [show says.getD o [] = l by rw [List.getD_eq_getElem?_getD, hl1]; rfl, List.getD_eq_getElem?_getD, List.getElem?_eq_getElem (by omega)]
    rfl
  have hxj : ∃ y, xs[j]? = some y ∧ y.1 = .lit (.bool (sy o j)) := by
    have h2 : (xs.map (·.1))[j]? = some (DataW.lit (.bool (sy o j))) := by rw [hxs, List.getElem?_map, hsy]; rfl
    rw [List.getElem?_map] at h2
    obtain ⟨y, h3, h4⟩ := Option.map_eq_some_iff.1 h2
    exact ⟨y, h3, h4⟩
  obtain ⟨y, hy1, hy2⟩ := hxj
  have key : ∀ f : Field, f.type = 4 → f.offset = j → DataW.trod (fun _ => ()) Tryz.prog W 0 (fun _ => true) false n f.type ((((cs.toList.drop (o * 6)).take 6).drop f.offset).take (Tryz.prog.cellsOf f.type)) = xs[j]? → cs[o * 6 + j]? = some (.bool (sy o j)) := by
    intro f e1 e2 h5
    rw [e1, e2, cellsB, hy1] at h5
    obtain ⟨bb, hc, hyb⟩ := DataW.trod_bool Tryz.underlying4 h5
    rw [hyb] at hy2
    simp only [DataW.lit.injEq, Lit.bool.injEq] at hy2
    subst hy2
    have := congrArg (·[0]?) hc
    simp [List.getElem?_drop, hj] at this
    simpa using this
  obtain rfl | rfl | rfl | rfl | rfl | rfl : j = 0 ∨ j = 1 ∨ j = 2 ∨ j = 3 ∨ j = 4 ∨ j = 5 := by omega
  all_goals exact key _ rfl rfl (hf _ _ rfl)
theorem door_met (os : Os) (args : Array Value) : laidMetH Tryz.prog [("equerry/pred.sayings", Rows.laid_equerry_pred_sayings)] ((World.doorLaid Tryz.prog 400 os).forCall (fun _ _ => 0) ⟨#[], args, []⟩).memory :=
  laidMetH_of_parts3 (fuel := 8) (laidMet_of_run' 8 (by kernel_rfl) (by kernel_rfl)) (by kernel_rfl) (by kernel_rfl)
end Go.Proofs.YtpnllbojifnopaaGreatDoor

/- What comes in, told in the walks' words: questions by their values' bits. -/
namespace Go.Proofs.YtpnllbojifnopaaGreatDoor
open Go Go.ChangeShapes Go.WideShapes Go.ChangeAt Go.WideMaps Go.WideElems Go.RowKit Go.Joins
set_option maxRecDepth 20000

theorem traws_of {H : Type} {enc : TypeId × Value → H} {W : World} {base : Nat} {sp : Nat → Bool} {held : Bool} {v : Value} {fuel : Nat} {x : DataW H × List MemPlace}
    (h : DataW.trod enc Tryz.prog W base sp held fuel 109 [v] = some x) :
    ∃ (a : Option Addr) (n c : Nat) (L : List TT), v = .slice a n c ∧ L.length = n ∧ n ≤ maxLen ∧ Rawts W a L ∧ (∀ u ∈ L, Okt u) ∧ ∀ u ∈ L, u.2.2.2.2.2.size ≤ maxLen := by
  rcases Go.Deep.open_slice Tryz.underlying109 h with ⟨hcs, _⟩ | ⟨a, len, cap, m, n, D, Pl, hcs, _, hl, hm, hmm, _, hx⟩
  · simp only [List.cons.injEq, and_true] at hcs
    subst hcs
    exact ⟨none, 0, 0, [], rfl, rfl, by unfold maxLen; omega, fun i hi => absurd hi (by simp), by simp, by simp⟩
  · simp only [List.cons.injEq, and_true] at hcs
    subst hcs
    have hlm : len ≤ m := by rw [hmm]; split <;> omega
    have c6 : Tryz.prog.cellsOf 165 = 6 := by kernel_rfl
    have c4 : Tryz.prog.cellsOf 163 = 4 := by kernel_rfl
    have k8 : Tryz.prog.cellsOf 5 = 1 := by kernel_rfl
    have ki : Tryz.prog.cellsOf 2 = 1 := by kernel_rfl
    have ku : Tryz.prog.cellsOf 23 = 1 := by kernel_rfl
    have ks : Tryz.prog.cellsOf 9 = 1 := by kernel_rfl
    have each : ∀ i, i < len → ∃ u : TT, (W.cell? (a.add (i * 6)) = some (.int .u8 u.1) ∧ W.cell? (a.add (i * 6 + 1)) = some (.int .u8 u.2.1) ∧ W.cell? (a.add (i * 6 + 2)) = some (.int .u8 u.2.2.1) ∧ W.cell? (a.add (i * 6 + 3)) = some (.int .i64 u.2.2.2.1) ∧ W.cell? (a.add (i * 6 + 4)) = some (.int .u64 (u.2.2.2.2.1 : Int)) ∧ W.cell? (a.add (i * 6 + 5)) = some (.string u.2.2.2.2.2)) ∧ Okt u ∧ u.2.2.2.2.2.size ≤ maxLen := by
      intro i hi
      obtain ⟨cs', h1, h2⟩ := hx i (by omega)
      rw [c6] at h1
      obtain ⟨_, hlen, hcell⟩ := World.cells?_some h1
      obtain ⟨y0, y1, y2, k, _, _, t0, t1, t2⟩ := Go.Deep.trod_struct3 Tryz.underlying165 h2
      match cs', hlen with
      | [v0, v1, v2, v3, v4, v5], _ =>
        obtain ⟨a0, e0, _, w0⟩ := DataW.trod_int Tryz.underlying5 t0
        obtain ⟨a1, e1, _, w1⟩ := DataW.trod_int Tryz.underlying5 t1
        obtain ⟨z0, z1, z2, z3, k', _, _, s0, s1, s2, s3⟩ := trod_struct4 Tryz.underlying163 t2
        obtain ⟨b0, d0, _, q0⟩ := DataW.trod_int Tryz.underlying5 s0
        obtain ⟨b1, d1, _, q1⟩ := DataW.trod_int Tryz.underlying2 s1
        obtain ⟨b2, d2, _, q2⟩ := DataW.trod_int Tryz.underlying23 s2
        obtain ⟨s, d3, _, q3⟩ := DataW.trod_string Tryz.underlying9 s3
        simp [k8, ki, ku, ks, c4] at e0 e1 d0 d1 d2 d3
        subst e0 e1 d0 d1 d2 d3
        obtain ⟨b, rfl, hb⟩ := nat_of q2
        obtain ⟨lo, hi'⟩ := bounds_i64 q1
        have g0 := bounds_u8 w0
        have g1 := bounds_u8 w1
        have g2 := bounds_u8 q0
        have r0 := hcell 0 (by omega)
        have r1 := hcell 1 (by omega)
        have r2 := hcell 2 (by omega)
        have r3 := hcell 3 (by omega)
        have r4 := hcell 4 (by omega)
        have r5 := hcell 5 (by omega)
        rw [Go.Deep.add_add] at r0 r1 r2 r3 r4 r5
        exact ⟨(a0, a1, b0, b1, b, s), ⟨by simpa using r0, by simpa using r1, by simpa using r2, by simpa using r3, by simpa using r4, by simpa using r5⟩,
          ⟨g0.1, by show a0 < 256; omega, g1.1, by show a1 < 256; omega, ⟨g2.1, by show b0 < 256; omega, lo, hi', hb⟩⟩, q3⟩
    obtain ⟨f, hf⟩ := Go.Deep.choose_lt each
    have hget : ∀ i, i < len → ((List.range len).map f).getD i tz = f i := fun i hi => by
      rw [List.getD_eq_getElem?_getD, List.getElem?_map, List.getElem?_range hi]; rfl
    refine ⟨some a, len, cap, (List.range len).map f, rfl, by simp, by omega, fun i hi => ?_, fun u hu => ?_, fun u hu => ?_⟩
    · rw [List.length_map, List.length_range] at hi
      obtain ⟨b, off, spot⟩ := a
      have hs : spot = none := by
        have := World.cell?_spot (hf 0 (by omega)).1.1
        simpa [Addr.add] using this
      subst hs
      obtain ⟨q0, q1, q2, q3, q4, q5⟩ := (hf i hi).1
      rw [add_plain] at q0 q1 q2 q3 q4 q5
      rw [hget i hi]
      exact ⟨b, off, rfl, q0, by rw [Nat.add_assoc]; exact q1, by rw [Nat.add_assoc]; exact q2, by rw [Nat.add_assoc]; exact q3, by rw [Nat.add_assoc]; exact q4, by rw [Nat.add_assoc]; exact q5⟩
    · obtain ⟨i, hi, rfl⟩ := List.mem_map.1 hu
      exact (hf i (List.mem_range.1 hi)).2.1
    · obtain ⟨i, hi, rfl⟩ := List.mem_map.1 hu
      exact (hf i (List.mem_range.1 hi)).2.2
theorem praw_of {H : Type} {enc : TypeId × Value → H} {W : World} {base b0 : Nat} {sp : Nat → Bool} {held : Bool} {r : Reach} {v : Value} {d : DataW H} {p : List MemPlace}
    (hv : Value.okWide Tryz.prog W r b0 111 v) (h : DataW.Trod enc Tryz.prog W base sp held 111 v d p) :
    ∃ (x : Bool) (t : Int) (a : Option Addr) (n c : Nat) (L : List TT), v = pv x t a n c ∧ L.length = n ∧ n ≤ maxLen ∧ Rawts W a L ∧ (∀ u ∈ L, Okt u) ∧ ∀ u ∈ L, u.2.2.2.2.2.size ≤ maxLen := by
  obtain ⟨v0, v1, v2, y0, y1, y2, m, rfl, _, _, h0, h1, h2⟩ := open_agg3 Tryz.underlying111 (by kernel_rfl) (by kernel_rfl) hv h
  obtain ⟨x0, e0, _⟩ := DataW.trod_bool Tryz.underlying4 h0
  obtain ⟨a0, e1, _, w0⟩ := DataW.trod_int Tryz.underlying5 h1
  simp only [List.cons.injEq, and_true] at e0 e1
  subst e0 e1
  obtain ⟨a, n, c, L, rfl, g2, g3, g4, g5, g6⟩ := traws_of h2
  exact ⟨x0, a0, a, n, c, L, rfl, g2, g3, g4, g5, g6⟩
theorem take_ok {L : List TT} (k : Nat) (h : ∀ u ∈ L, Okt u) : ∀ u ∈ L.take k, Okt u := fun u hu => h u (List.mem_of_mem_take hu)
theorem take_sz {L : List TT} (k : Nat) (h : ∀ u ∈ L, u.2.2.2.2.2.size ≤ maxLen) : ∀ u ∈ L.take k, u.2.2.2.2.2.size ≤ maxLen := fun u hu => h u (List.mem_of_mem_take hu)
theorem vtake_ok {L : List VV} (k : Nat) (h : ∀ u ∈ L, Okv u) : ∀ u ∈ L.take k, Okv u := fun u hu => h u (List.mem_of_mem_take hu)
theorem vtake_sz {L : List VV} (k : Nat) (h : ∀ u ∈ L, u.2.2.2.size ≤ maxLen) : ∀ u ∈ L.take k, u.2.2.2.size ≤ maxLen := fun u hu => h u (List.mem_of_mem_take hu)
end Go.Proofs.YtpnllbojifnopaaGreatDoor
