/- Contracts, joined: DnS, DnF, ML, DnV. -/
import Derived.Test.YtpnllbojifnopaaGreatDoorMG
import Derived.Test.YtpnllbojifnopaaGreatDoorMF
import Derived.Test.YtpnllbojifnopaaGreatDoorYMJ
import Derived.Test.YtpnllbojifnopaaGreatDoorMKQ
import Derived.Deep.RegionHeld3
import Derived.Deep.DeepCutAuto
import Derived.BigQuiet
import Derived.WalkSmall
import Derived.Test.YtpnllbojifnopaaGreatDoorDnLay
import Derived.Test.YtpnllbojifnopaaGreatDoorMB
import Derived.LoopN
import Derived.Shelf.SlSortCmp.NoneTotal
import Derived.Test.YtpnllbojifnopaaGreatDoorMW
namespace Go.Proofs.YtpnllbojifnopaaGreatDoor
open Go Go.RowKit Go.Maps Pk Rl
set_option maxRecDepth 20000
structure Lg where
  pub : Int
  seq : Int
  at_ : Nat
  t : Int
  a : Option Addr
  n : Nat
  c : Nat
  E : List VV
abbrev lz : Lg := ⟨0, 0, 0, 0, none, 0, 0, []⟩
abbrev lval (x : Lg) : Value := .agg #[.int .u32 x.pub, .int .u64 x.seq, .int .u64 (x.at_ : Int), .int .u8 x.t, .slice x.a x.n x.c]
abbrev lobj (x : Lg) : Obj := .cells #[.int .u32 x.pub, .int .u64 x.seq, .int .u64 (x.at_ : Int), .int .u8 x.t, .slice x.a x.n x.c] 81
def Atl (w : World) (b o : Nat) (x : Lg) : Prop :=
  w.cell? ⟨b, o, none⟩ = some (.int .u32 x.pub) ∧ w.cell? ⟨b, o + 1, none⟩ = some (.int .u64 x.seq) ∧ w.cell? ⟨b, o + 2, none⟩ = some (.int .u64 (x.at_ : Int)) ∧ w.cell? ⟨b, o + 3, none⟩ = some (.int .u8 x.t) ∧ w.cell? ⟨b, o + 4, none⟩ = some (.slice x.a x.n x.c)
theorem Atl.ck {w w' : World} {b o : Nat} {x : Lg} (h : Atl w b o x) (k : Ck w w') : Atl w' b o x := ⟨k _ _ _ h.1, k _ _ _ h.2.1, k _ _ _ h.2.2.1, k _ _ _ h.2.2.2.1, k _ _ _ h.2.2.2.2⟩
theorem Atv.ck {w w' : World} {b o : Nat} {x : VV} (h : Atv w b o x) (k : Ck w w') : Atv w' b o x := ⟨k _ _ _ h.1, k _ _ _ h.2.1, k _ _ _ h.2.2.1, k _ _ _ h.2.2.2⟩
theorem Att.ck {w w' : World} {b o : Nat} {x : TT} (h : Att w b o x) (k : Ck w w') : Att w' b o x := ⟨k _ _ _ h.1, k _ _ _ h.2.1, k _ _ _ h.2.2.1, k _ _ _ h.2.2.2.1, k _ _ _ h.2.2.2.2.1, k _ _ _ h.2.2.2.2.2⟩
theorem Vals.ck {w w' : World} {a : Option Addr} {L : List VV} (h : Vals w a L) (k : Ck w w') : Vals w' a L := fun i hi => by
  obtain ⟨b, off, e, h⟩ := h i hi
  exact ⟨b, off, e, h.ck k⟩
theorem Tsts.ck {w w' : World} {a : Option Addr} {L : List TT} (h : Tsts w a L) (k : Ck w w') : Tsts w' a L := fun i hi => by
  obtain ⟨b, off, e, h⟩ := h i hi
  exact ⟨b, off, e, h.ck k⟩
theorem Qok.ck {w w' : World} {q : Qu} (h : Qok w q) (k : Ck w w') : Qok w' q := ⟨h.len, h.few, h.row.ck k, h.ok⟩
theorem Nok.ck {w w' : World} {n : Nd} (h : Nok w n) (k : Ck w w') : Nok w' n := ⟨h.p.ck k, h.g.ck k, h.k0, h.k1, h.l0, h.l1, h.h0, h.h1, h.s0, h.s1⟩
theorem Atn.ck {w w' : World} {b o : Nat} {n : Nd} (h : Atn w b o n) (k : Ck w w') : Atn w' b o n := by
  obtain ⟨h0, h1, h2, h3, h4, h5, h6, h7, h8, h9, h10⟩ := h
  exact ⟨k _ _ _ h0, k _ _ _ h1, k _ _ _ h2, k _ _ _ h3, k _ _ _ h4, k _ _ _ h5, k _ _ _ h6, k _ _ _ h7, k _ _ _ h8, k _ _ _ h9, k _ _ _ h10⟩
theorem Nds.ck {w w' : World} {a : Option Addr} {L : List Nd} (h : Nds w a L) (k : Ck w w') : Nds w' a L := fun i hi => by
  obtain ⟨b, off, e, h⟩ := h i hi
  exact ⟨b, off, e, h.ck k⟩
theorem Pt.ck {w w' : World} {a : Option Addr} {n c : Nat} {L : List Nd} (h : Pt w a n c L) (k : Ck w w') : Pt w' a n c L := ⟨h.len, h.few, h.cap, h.row.ck k, fun v hv => (h.ok v hv).ck k⟩
theorem Tab.ck {w w' : World} (h : Tab w) (k : Ck w w') : Tab w' := fun o j ho hj => k _ _ _ (h o j ho hj)
structure Lok (w : World) (x : Lg) : Prop where
  len : x.E.length = x.n
  few : x.n ≤ 1000
  row : Vals w x.a x.E
  ok : ∀ v ∈ x.E, Okv v
  at64 : x.at_ < 18446744073709551616
theorem Lok.ck {w w' : World} {x : Lg} (h : Lok w x) (k : Ck w w') : Lok w' x := ⟨h.len, h.few, h.row.ck k, h.ok, h.at64⟩
structure Lr (w : World) (A : Option Addr) (R : List Lg) : Prop where
  row : ∀ i, i < R.length → ∃ b off, A = some ⟨b, off, none⟩ ∧ Atl w b (off + i * 5) (R.getD i lz)
  ok : ∀ x ∈ R, Lok w x
theorem Lr.ck {w w' : World} {A : Option Addr} {R : List Lg} (h : Lr w A R) (k : Ck w w') : Lr w' A R := ⟨fun i hi => by
  obtain ⟨b, off, e, h⟩ := h.row i hi
  exact ⟨b, off, e, h.ck k⟩, fun x hx => (h.ok x hx).ck k⟩
theorem lgetD_mem (R : List Lg) (k : Nat) (h : k < R.length) : R.getD k lz ∈ R := by
  rw [List.getD_eq_getElem?_getD, List.getElem?_eq_getElem h]; exact List.getElem_mem _
structure Sea where
  s : Nat
  m : Nat
  nA : Option Addr
  nC : Nat
  L : List Nd
  pA : Option Addr
  pC : Nat
  rA : Option Addr
  rC : Nat
  R : List Lg
  oA : Option Addr
  oC : Nat
  W : Nat
def lat (R : List Lg) (i : Nat) : Nat := (R.getD i lz).at_
def hq (R : List Lg) : Hq := fun q i => phold q.x q.t q.L (R.getD i lz).t (R.getD i lz).E
def Sea.ov (S : Sea) (i : Nat) : Nat := ovr S.R.length (lat S.R) S.W i
def Sea.en (S : Sea) (n i : Nat) : List Nat := ens (hq S.R) S.R.length S.L S.ov n i
def Rise (R : List Lg) : Prop := ∀ a b, a ≤ b → b < R.length → lat R a ≤ lat R b
structure Sst (S : Sea) (w : World) : Prop where
  c0 : w.cell? ⟨S.s, 0, none⟩ = some (.slice S.nA S.L.length S.nC)
  c1 : w.cell? ⟨S.s, 1, none⟩ = some (.slice S.pA S.L.length S.pC)
  c2 : w.cell? ⟨S.s, 2, none⟩ = some (.slice S.rA S.R.length S.rC)
  c3 : w.cell? ⟨S.s, 3, none⟩ = some (.slice S.oA S.R.length S.oC)
  c4 : w.cell? ⟨S.s, 4, none⟩ = some (.map (some S.m))
  nodes : Pt w S.nA S.L.length S.nC S.L
  parts : Lls w S.pA ((List.range S.L.length).map (pos S.L))
  row : Lr w S.rA S.R
  overs : Its w S.oA ((List.range S.R.length).map S.ov)
  tab : Tab w
  few : S.L.length ≤ 50
  fewR : S.R.length ≤ 900
  rise : Rise S.R
theorem Lls.ck {w w' : World} {A : Option Addr} {LL : List (List Nat)} (h : Lls w A LL) (k : Ck w w') (ki : Ci w w') : Lls w' A LL := fun i hi => by
  obtain ⟨b, off, u, e, hc, hs⟩ := h i hi
  exact ⟨b, off, u, e, k _ _ _ hc, hs.ci ki⟩
theorem Sst.ck {S : Sea} {w w' : World} (h : Sst S w) (k : Ck w w') (ki : Ci w w') : Sst S w' :=
  ⟨k _ _ _ h.c0, k _ _ _ h.c1, k _ _ _ h.c2, k _ _ _ h.c3, k _ _ _ h.c4, h.nodes.ck k, h.parts.ck k ki, h.row.ck k, h.overs.ci ki, h.tab.ck k, h.few, h.fewR, h.rise⟩
theorem Sst.part {S : Sea} {w : World} (h : Sst S w) (n : Nat) (hn : n < S.L.length) : ∃ b off u, S.pA = some ⟨b, off, none⟩ ∧ w.cell? ⟨b, off + n, none⟩ = some u ∧ Sl w u (pos S.L n) := by
  obtain ⟨b, off, u, e, hc, hs⟩ := h.parts n (by simpa using hn)
  refine ⟨b, off, u, e, hc, ?_⟩
  have : LLg ((List.range S.L.length).map (pos S.L)) n = pos S.L n := by simp [LLg, List.getD_eq_getElem?_getD, hn]
  rwa [this] at hs
theorem Sst.event {S : Sea} {w : World} (h : Sst S w) (i : Nat) (hi : i < S.R.length) : ∃ b off, S.rA = some ⟨b, off, none⟩ ∧ Atl w b (off + i * 5) (S.R.getD i lz) ∧ Lok w (S.R.getD i lz) := by
  obtain ⟨b, off, e, hc⟩ := h.row.row i hi
  exact ⟨b, off, e, hc, h.row.ok _ (lgetD_mem _ _ hi)⟩
theorem Sch.holds {S : Sea} {w : World} (h : Sst S w) (q : Qu) (hq' : Qok w q) (i : Nat) (hi : i < S.R.length) :
    Calls Tryz.prog 131 #[pv q.x q.t q.a q.n q.c, ev (S.R.getD i lz).t (S.R.getD i lz).a (S.R.getD i lz).n (S.R.getD i lz).c] w fun e w' => e = .returned (.bool (hq S.R q i)) ∧ Below w.heap.size w w' := by
  obtain ⟨_, _, _, _, hl⟩ := h.event i hi
  exact phold_any _ _ _ _ _ _ _ _ _ _ _ w hq'.len (by have := hq'.few; omega) hl.len hl.few hq'.row hq'.ok hl.row hl.ok h.tab
end Go.Proofs.YtpnllbojifnopaaGreatDoor
namespace Go.Proofs.YtpnllbojifnopaaGreatDoor
open Go Go.RowKit Go.Maps Pk Rl
set_option maxRecDepth 20000
theorem Its.tail {w : World} {b off : Nat} {e : Nat} {t : List Nat} (h : Its w (some ⟨b, off, none⟩) (e :: t)) : Its w (some ⟨b, off + 1, none⟩) t := fun i hi => by
  obtain ⟨b', off', h1, h2, h3⟩ := h (i + 1) (by simpa using hi)
  injection h1 with h1
  injection h1 with e1 e2
  subst e1 e2
  exact ⟨b, off + 1, rfl, by rw [show off + 1 + i = off + (i + 1) by omega]; simpa using h2, h3⟩
end Go.Proofs.YtpnllbojifnopaaGreatDoor
namespace Go.Proofs.YtpnllbojifnopaaGreatDoor
open Go Go.RowKit
open Go.Sort (grow)
set_option maxRecDepth 20000
def enM (x : Nat × Nat) : List Value := [.int .u64 (x.1 : Int), .int .u64 (x.2 : Int)]
end Go.Proofs.YtpnllbojifnopaaGreatDoor
namespace Go.Proofs.YtpnllbojifnopaaGreatDoor
open Go Go.RowKit Go.Maps
open Go.Sort (grow)
open Go.Lib Go.Sort Go.Shelf
set_option maxRecDepth 20000
abbrev Mt := Nat × Nat
abbrev gm (L : List Mt) (i : Nat) : Mt := L.getD i (0, 0)
def Mrs (w : World) (A : Option Addr) (L : List Mt) : Prop := ∀ i, i < L.length → ∃ b off, A = some ⟨b, off, none⟩ ∧ w.cell? ⟨b, off + i * 2, none⟩ = some (.int .u64 ((gm L i).1 : Int)) ∧ w.cell? ⟨b, off + i * 2 + 1, none⟩ = some (.int .u64 ((gm L i).2 : Int))
theorem Mrs.nil (w : World) (A : Option Addr) : Mrs w A [] := fun i hi => absurd hi (by simp)
theorem Mrs.ck {w w' : World} {A : Option Addr} {L : List Mt} (h : Mrs w A L) (k : Ck w w') : Mrs w' A L := fun i hi => by
  obtain ⟨b, off, e, h1, h2⟩ := h i hi
  exact ⟨b, off, e, k _ _ _ h1, k _ _ _ h2⟩
end Go.Proofs.YtpnllbojifnopaaGreatDoor
namespace Go.Proofs.YtpnllbojifnopaaGreatDoor
open Go Go.RowKit Go.Maps Pk Rl
set_option maxRecDepth 20000
def dm : Nat → List Lg → Bool
  | _, [] => true
  | last, x :: r => decide (last ≤ x.at_) && (decide (x.at_ ≤ 1099511627776) && (emay x.E && dm x.at_ r))
theorem ldrop_cons (R : List Lg) (k : Nat) (h : k < R.length) : R.drop k = R.getD k lz :: R.drop (k + 1) := by
  rw [List.drop_eq_getElem_cons h, List.getD_eq_getElem?_getD, List.getElem?_eq_getElem h]; rfl
end Go.Proofs.YtpnllbojifnopaaGreatDoor
namespace Go.Proofs.YtpnllbojifnopaaGreatDoor
open Go Go.RowKit Go.Maps Pk Rl
set_option maxRecDepth 20000
def mcls (L : List Mt) : List Value := L.flatMap enM
theorem mcls_app (L M : List Mt) : mcls (L ++ M) = mcls L ++ mcls M := by unfold mcls; rw [List.flatMap_append]
theorem mcls_get (L : List Mt) (i : Nat) (hi : i < L.length) (j : Nat) (hj : j < 2) : (mcls L)[i * 2 + j]? = (enM (gm L i))[j]? := by
  induction L generalizing i with
  | nil => simp at hi
  | cons v L ih =>
    show (enM v ++ mcls L)[i * 2 + j]? = _
    have h4 : (enM v).length = 2 := rfl
    rcases i with _ | i
    · rw [List.getElem?_append_left (by omega)]; simp [gm]
    · rw [List.getElem?_append_right (by omega), h4, show (i + 1) * 2 + j - 2 = i * 2 + j by omega, ih i (by simpa using hi)]; simp [gm]
def OwnMt (w : World) (B : Nat) (v : Value) (L : List Mt) : Prop := w.ownsRow B 107 2 v L.length (mcls L)
theorem OwnMt.nil (w : World) (B : Nat) : OwnMt w B nsl [] := World.ownsRow_nil w B 107 2
theorem OwnMt.same {w w' : World} {B : Nat} {v : Value} {L : List Mt} (h : OwnMt w B v L) (hb : ∀ (k : Nat) (cur : Array Value), w.heap[k]? = some (Obj.cells cur 107 (0, 0)) → w'.heap[k]? = w.heap[k]?) : OwnMt w' B v L := by
  refine ⟨h.1, ?_⟩
  rcases h.2 with h0 | ⟨g, cap, cur, hv, hg, hh, r⟩
  · exact .inl h0
  · exact .inr ⟨g, cap, cur, hv, hg, by rw [hb g cur hh]; exact hh, r⟩
theorem OwnMt.below {w w' : World} {B : Nat} {v : Value} {L : List Mt} (h : OwnMt w B v L) (hb : Below w.heap.size w w') : OwnMt w' B v L :=
  h.same fun k _ hk => hb.block k (Array.getElem?_eq_some_iff.1 hk).1
theorem OwnMt.keep {w w' : World} {B m : Nat} {v : Value} {L : List Mt} (h : OwnMt w B v L) (hb : Keep (· = m) w w') (hm : IsMp w m) : OwnMt w' B v L :=
  h.same fun k cur hk => hb.block k (Array.getElem?_eq_some_iff.1 hk).1 (fun e => by
    obtain ⟨es, clock, hm⟩ := hm
    rw [e, hm] at hk
    cases hk)
theorem OwnMt.form {w : World} {B : Nat} {v : Value} {L : List Mt} (h : OwnMt w B v L) : ∃ A c, v = .slice A L.length c ∧ Mrs w A L ∧ ((A = none ∧ c = 0 ∧ L = []) ∨ ∃ b, A = some ⟨b, 0, none⟩ ∧ B ≤ b ∧ b < w.heap.size ∧ ∀ j, w.frozen? ⟨b, j, none⟩ = false) := by
  rcases h.2 with ⟨rfl, h0⟩ | ⟨g, cap, cur, rfl, hB, hh, _⟩
  · have : L = [] := List.eq_nil_of_length_eq_zero h0
    subst this
    exact ⟨none, 0, rfl, Mrs.nil _ _, .inl ⟨rfl, rfl, rfl⟩⟩
  · refine ⟨_, _, rfl, fun i hi => ⟨g, 0, rfl, ?_, ?_⟩, .inr ⟨g, rfl, hB, (Array.getElem?_eq_some_iff.1 hh).1, fun j => by simp [World.frozen?, hh]⟩⟩
    · have := World.ownsRow.cells h (g := g) rfl (i * 2 + 0) _ (by rw [mcls_get L i hi 0 (by omega)]; rfl)
      rw [add_plain] at this
      simpa using this
    · have := World.ownsRow.cells h (g := g) rfl (i * 2 + 1) _ (by rw [mcls_get L i hi 1 (by omega)]; rfl)
      rw [add_plain] at this
      simpa [Nat.add_assoc] using this
theorem infoM : ∃ i z, Tryz.prog.info? 107 = some i ∧ i.zero = some z ∧ i.size = 2 ∧ i.bytes = 16 ∧ z.cells.size = 2 :=
  ⟨(Tryz.prog.info? 107).get (by kernel_rfl), .agg #[.int .u64 0, .int .u64 0], by kernel_rfl, by kernel_rfl, by kernel_rfl, by kernel_rfl, rfl⟩
theorem Ci.trans {a b c : World} (h : Ci a b) (k : Ci b c) : Ci a c := fun x cur fr hx => (k x cur fr ((h x cur fr hx).trans hx)).trans (h x cur fr hx)
end Go.Proofs.YtpnllbojifnopaaGreatDoor
