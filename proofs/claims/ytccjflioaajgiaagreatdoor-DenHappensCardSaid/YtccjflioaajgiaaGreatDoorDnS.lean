/- Logged events in memory; a search in memory: what it is made for, and what its map knows. -/
import Derived.Test.YtccjflioaajgiaaGreatDoorMG
import Derived.Test.YtccjflioaajgiaaGreatDoorMF
import Derived.Test.YtccjflioaajgiaaGreatDoorMJ
namespace Go.Proofs.YtccjflioaajgiaaGreatDoor
open Go Go.RowKit Go.Maps Pk Rl
set_option maxRecDepth 20000

structure Lg where
  pub : Int
  seq : Int
  at_ : Nat
  t : Int
  a : Option Addr
  n : Nat
  c : Nat
  E : List VV
abbrev lz : Lg := ⟨0, 0, 0, 0, none, 0, 0, []⟩
abbrev lval (x : Lg) : Value := .agg #[.int .u32 x.pub, .int .u64 x.seq, .int .u64 (x.at_ : Int), .int .u8 x.t, .slice x.a x.n x.c]
abbrev lobj (x : Lg) : Obj := .cells #[.int .u32 x.pub, .int .u64 x.seq, .int .u64 (x.at_ : Int), .int .u8 x.t, .slice x.a x.n x.c] 81
def Atl (w : World) (b o : Nat) (x : Lg) : Prop :=
  w.cell? ⟨b, o, none⟩ = some (.int .u32 x.pub) ∧ w.cell? ⟨b, o + 1, none⟩ = some (.int .u64 x.seq) ∧ w.cell? ⟨b, o + 2, none⟩ = some (.int .u64 (x.at_ : Int)) ∧ w.cell? ⟨b, o + 3, none⟩ = some (.int .u8 x.t) ∧ w.cell? ⟨b, o + 4, none⟩ = some (.slice x.a x.n x.c)
theorem Atl.ck {w w' : World} {b o : Nat} {x : Lg} (h : Atl w b o x) (k : Ck w w') : Atl w' b o x := ⟨k _ _ _ h.1, k _ _ _ h.2.1, k _ _ _ h.2.2.1, k _ _ _ h.2.2.2.1, k _ _ _ h.2.2.2.2⟩
theorem Atv.ck {w w' : World} {b o : Nat} {x : VV} (h : Atv w b o x) (k : Ck w w') : Atv w' b o x := ⟨k _ _ _ h.1, k _ _ _ h.2.1, k _ _ _ h.2.2.1, k _ _ _ h.2.2.2⟩
theorem Att.ck {w w' : World} {b o : Nat} {x : TT} (h : Att w b o x) (k : Ck w w') : Att w' b o x := ⟨k _ _ _ h.1, k _ _ _ h.2.1, k _ _ _ h.2.2.1, k _ _ _ h.2.2.2.1, k _ _ _ h.2.2.2.2.1, k _ _ _ h.2.2.2.2.2⟩
theorem Vals.ck {w w' : World} {a : Option Addr} {L : List VV} (h : Vals w a L) (k : Ck w w') : Vals w' a L := fun i hi => by
  obtain ⟨b, off, e, h⟩ := h i hi
  exact ⟨b, off, e, h.ck k⟩
theorem Tsts.ck {w w' : World} {a : Option Addr} {L : List TT} (h : Tsts w a L) (k : Ck w w') : Tsts w' a L := fun i hi => by
  obtain ⟨b, off, e, h⟩ := h i hi
  exact ⟨b, off, e, h.ck k⟩
theorem Qok.ck {w w' : World} {q : Qu} (h : Qok w q) (k : Ck w w') : Qok w' q := ⟨h.len, h.few, h.row.ck k, h.ok⟩
theorem Nok.ck {w w' : World} {n : Nd} (h : Nok w n) (k : Ck w w') : Nok w' n := ⟨h.p.ck k, h.g.ck k, h.k0, h.k1, h.l0, h.l1, h.h0, h.h1, h.s0, h.s1⟩
theorem Atn.ck {w w' : World} {b o : Nat} {n : Nd} (h : Atn w b o n) (k : Ck w w') : Atn w' b o n := by
  obtain ⟨h0, h1, h2, h3, h4, h5, h6, h7, h8, h9, h10⟩ := h
  exact ⟨k _ _ _ h0, k _ _ _ h1, k _ _ _ h2, k _ _ _ h3, k _ _ _ h4, k _ _ _ h5, k _ _ _ h6, k _ _ _ h7, k _ _ _ h8, k _ _ _ h9, k _ _ _ h10⟩
theorem Nds.ck {w w' : World} {a : Option Addr} {L : List Nd} (h : Nds w a L) (k : Ck w w') : Nds w' a L := fun i hi => by
  obtain ⟨b, off, e, h⟩ := h i hi
  exact ⟨b, off, e, h.ck k⟩
theorem Pt.ck {w w' : World} {a : Option Addr} {n c : Nat} {L : List Nd} (h : Pt w a n c L) (k : Ck w w') : Pt w' a n c L := ⟨h.len, h.few, h.cap, h.row.ck k, fun v hv => (h.ok v hv).ck k⟩
theorem Tab.ck {w w' : World} (h : Tab w) (k : Ck w w') : Tab w' := fun o j ho hj => k _ _ _ (h o j ho hj)
structure Lok (w : World) (x : Lg) : Prop where
  len : x.E.length = x.n
  few : x.n ≤ 1000
  row : Vals w x.a x.E
  ok : ∀ v ∈ x.E, Okv v
  at64 : x.at_ < 18446744073709551616
theorem Lok.ck {w w' : World} {x : Lg} (h : Lok w x) (k : Ck w w') : Lok w' x := ⟨h.len, h.few, h.row.ck k, h.ok, h.at64⟩
/- a slice that holds a row of logged events -/
structure Lr (w : World) (A : Option Addr) (R : List Lg) : Prop where
  row : ∀ i, i < R.length → ∃ b off, A = some ⟨b, off, none⟩ ∧ Atl w b (off + i * 5) (R.getD i lz)
  ok : ∀ x ∈ R, Lok w x
theorem Lr.ck {w w' : World} {A : Option Addr} {R : List Lg} (h : Lr w A R) (k : Ck w w') : Lr w' A R := ⟨fun i hi => by
  obtain ⟨b, off, e, h⟩ := h.row i hi
  exact ⟨b, off, e, h.ck k⟩, fun x hx => (h.ok x hx).ck k⟩
theorem lgetD_mem (R : List Lg) (k : Nat) (h : k < R.length) : R.getD k lz ∈ R := by
  rw [List.getD_eq_getElem?_getD, List.getElem?_eq_getElem h]; exact List.getElem_mem _
/- what a search is made for -/
structure Sea where
  s : Nat
  m : Nat
  nA : Option Addr
  nC : Nat
  L : List Nd
  pA : Option Addr
  pC : Nat
  rA : Option Addr
  rC : Nat
  R : List Lg
  oA : Option Addr
  oC : Nat
  W : Nat
def lat (R : List Lg) (i : Nat) : Nat := (R.getD i lz).at_
def hq (R : List Lg) : Hq := fun q i => phold q.x q.t q.L (R.getD i lz).t (R.getD i lz).E
def Sea.ov (S : Sea) (i : Nat) : Nat := ovr S.R.length (lat S.R) S.W i
def Sea.en (S : Sea) (n i : Nat) : List Nat := ens (hq S.R) S.R.length S.L S.ov n i
def Rise (R : List Lg) : Prop := ∀ a b, a ≤ b → b < R.length → lat R a ≤ lat R b
structure Sst (S : Sea) (w : World) : Prop where
  c0 : w.cell? ⟨S.s, 0, none⟩ = some (.slice S.nA S.L.length S.nC)
  c1 : w.cell? ⟨S.s, 1, none⟩ = some (.slice S.pA S.L.length S.pC)
  c2 : w.cell? ⟨S.s, 2, none⟩ = some (.slice S.rA S.R.length S.rC)
  c3 : w.cell? ⟨S.s, 3, none⟩ = some (.slice S.oA S.R.length S.oC)
  c4 : w.cell? ⟨S.s, 4, none⟩ = some (.map (some S.m))
  nodes : Pt w S.nA S.L.length S.nC S.L
  parts : Lls w S.pA ((List.range S.L.length).map (pos S.L))
  row : Lr w S.rA S.R
  overs : Its w S.oA ((List.range S.R.length).map S.ov)
  tab : Tab w
  few : S.L.length ≤ 50
  fewR : S.R.length ≤ 900
  rise : Rise S.R
theorem Lls.ck {w w' : World} {A : Option Addr} {LL : List (List Nat)} (h : Lls w A LL) (k : Ck w w') (ki : Ci w w') : Lls w' A LL := fun i hi => by
  obtain ⟨b, off, u, e, hc, hs⟩ := h i hi
  exact ⟨b, off, u, e, k _ _ _ hc, hs.ci ki⟩
theorem Sst.ck {S : Sea} {w w' : World} (h : Sst S w) (k : Ck w w') (ki : Ci w w') : Sst S w' :=
  ⟨k _ _ _ h.c0, k _ _ _ h.c1, k _ _ _ h.c2, k _ _ _ h.c3, k _ _ _ h.c4, h.nodes.ck k, h.parts.ck k ki, h.row.ck k, h.overs.ci ki, h.tab.ck k, h.few, h.fewR, h.rise⟩
/- what the map knows is right -/
def Smp (S : Sea) (w : World) : Prop := ∃ M : MV, MpV w S.m S.L.length S.R.length M ∧ ∀ n i v, n < S.L.length → i < S.R.length → M n i = some v → Sl w v (S.en n i)
structure Sch (S : Sea) (w : World) : Prop where
  st : Sst S w
  mp : Smp S w
theorem Smp.is {S : Sea} {w : World} (h : Smp S w) : IsMp w S.m := by
  obtain ⟨M, h, _⟩ := h
  exact h.is
theorem Smp.below {S : Sea} {w w' : World} (h : Smp S w) (hb : Below w.heap.size w w') : Smp S w' := by
  obtain ⟨M, h1, h2⟩ := h
  exact ⟨M, h1.same (hb.block S.m h1.lt), fun n i v hn hi hv => (h2 n i v hn hi hv).below hb⟩
theorem Sch.below {S : Sea} {w w' : World} (h : Sch S w) (hb : Below w.heap.size w w') : Sch S w' := ⟨h.st.ck (Ck.of_below hb) (Ci.of_below hb), h.mp.below hb⟩
/- what a call of the search leaves: the search, with more in its map; all else as it was -/
structure Sgo (S : Sea) (w w' : World) : Prop where
  sch : Sch S w'
  keep : Keep (· = S.m) w w'
theorem Sgo.refl {S : Sea} {w : World} (h : Sch S w) : Sgo S w w := ⟨h, Keep.refl _ _⟩
theorem Sgo.trans {S : Sea} {a b c : World} (h : Sgo S a b) (k : Sgo S b c) : Sgo S a c := ⟨k.sch, h.keep.tr k.keep⟩
theorem Sgo.below {S : Sea} {a b c : World} (h : Sgo S a b) (k : Below b.heap.size b c) : Sgo S a c := ⟨h.sch.below k, h.keep.tr (Keep.of_below _ k)⟩
theorem Sch.is {S : Sea} {w : World} (h : Sch S w) : IsMp w S.m := h.mp.is
theorem Sgo.ck {S : Sea} {a b : World} (h : Sgo S a b) (hm : IsMp a S.m) : Ck a b := Ck.keep h.keep hm
theorem Sgo.ci {S : Sea} {a b : World} (h : Sgo S a b) (hm : IsMp a S.m) : Ci a b := Ci.keep h.keep hm
/- facts in the search's words -/
theorem Sst.over {S : Sea} {w : World} (h : Sst S w) (i : Nat) (hi : i < S.R.length) : ∃ b off, S.oA = some ⟨b, off, none⟩ ∧ w.cell? ⟨b, off + i, none⟩ = some (.int .i64 ((S.ov i : Nat) : Int)) := by
  obtain ⟨b, off, e, hc, _⟩ := h.overs i (by simpa using hi)
  refine ⟨b, off, e, ?_⟩
  rw [hc]
  simp [List.getD_eq_getElem?_getD, hi]
theorem Sea.ov_gt (S : Sea) (i : Nat) (hi : i < S.R.length) : i < S.ov i := ovr_gt hi
theorem Sea.ov_le (S : Sea) (i : Nat) : S.ov i ≤ S.R.length := ovr_le _ _ _ _
theorem Sea.ov_mono {S : Sea} (h : Rise S.R) {i k : Nat} (hik : i ≤ k) (hk : k < S.R.length) : S.ov i ≤ S.ov k := ovr_mono hik hk h
theorem Sst.part {S : Sea} {w : World} (h : Sst S w) (n : Nat) (hn : n < S.L.length) : ∃ b off u, S.pA = some ⟨b, off, none⟩ ∧ w.cell? ⟨b, off + n, none⟩ = some u ∧ Sl w u (pos S.L n) := by
  obtain ⟨b, off, u, e, hc, hs⟩ := h.parts n (by simpa using hn)
  refine ⟨b, off, u, e, hc, ?_⟩
  have : LLg ((List.range S.L.length).map (pos S.L)) n = pos S.L n := by simp [LLg, List.getD_eq_getElem?_getD, hn]
  rwa [this] at hs
theorem Sst.node {S : Sea} {w : World} (h : Sst S w) (n : Nat) (hn : n < S.L.length) : ∃ b off, S.nA = some ⟨b, off, none⟩ ∧ Atn w b (off + n * 11) (S.L.getD n nz) ∧ Nok w (S.L.getD n nz) := by
  obtain ⟨b, off, e, hc⟩ := h.nodes.row n hn
  exact ⟨b, off, e, hc, h.nodes.ok _ (ngetD_mem _ _ hn)⟩
theorem Sst.event {S : Sea} {w : World} (h : Sst S w) (i : Nat) (hi : i < S.R.length) : ∃ b off, S.rA = some ⟨b, off, none⟩ ∧ Atl w b (off + i * 5) (S.R.getD i lz) ∧ Lok w (S.R.getD i lz) := by
  obtain ⟨b, off, e, hc⟩ := h.row.row i hi
  exact ⟨b, off, e, hc, h.row.ok _ (lgetD_mem _ _ hi)⟩
theorem Sch.holds {S : Sea} {w : World} (h : Sst S w) (q : Qu) (hq' : Qok w q) (i : Nat) (hi : i < S.R.length) :
    Calls Tryz.prog 79 #[pv q.x q.t q.a q.n q.c, ev (S.R.getD i lz).t (S.R.getD i lz).a (S.R.getD i lz).n (S.R.getD i lz).c] w fun e w' => e = .returned (.bool (hq S.R q i)) ∧ Below w.heap.size w w' := by
  obtain ⟨_, _, _, _, hl⟩ := h.event i hi
  exact phold_any _ _ _ _ _ _ _ _ _ _ _ w hq'.len (by have := hq'.few; omega) hl.len hl.few hq'.row hq'.ok hl.row hl.ok h.tab
theorem Sea.en_mem {S : Sea} {n i j : Nat} (h : j ∈ S.en n i) : i ≤ j ∧ j < S.ov i := ens_mem h
end Go.Proofs.YtccjflioaajgiaaGreatDoor
