/- snap.Get of any bytes. -/
import Derived.Test.YtmooblbnkjaenaaSnP
namespace Go.Proofs.Ytmooblbnkjaenaa
open Go Go.RowKit Pk
set_option maxRecDepth 20000

def gq (l : List Int) : Sq := if (s6 l).2 = 0 then sq l else ⟨0, 0, false, 0, []⟩
theorem sq_few (l : List Int) : (sq l).L.length ≤ 64 := by
  unfold sq
  simp only
  split
  · simp
  · unfold rsL
    split
    · simp
    · rw [rrs_len]; omega
/- what Get answers -/
def GeX (l : List Int) (w : World) (e : Ending) (w' : World) : Prop :=
  ∃ A k c, e = .returned (.tuple #[stv (gq l).next (gq l).last (gq l).fl (gq l).fat A k c, .int .i64 ((s6 l).2 : Int)]) ∧ (gq l).L.length = k ∧ Hid (Rus w' A (gq l).L) ∧ Below w.heap.size w w'
structure Lu (w W : World) (r d g : Nat) (A0 : Option Addr) (m c0 : Nat) (σ : Sg) (q : Sq) (A : Option Addr) (k c : Nat) : Prop where
  b : Rb W d (.slice A0 m c0) σ
  z : W.heap[r]? = some (sto 0 0 false 0 none 0 0)
  gg : W.heap[g]? = some (sto q.next q.last q.fl q.fat A k c)
  o : OwnRu W (d + 1) (.slice A k c) q.L
  bel : Below w.heap.size w W
  r0 : w.heap.size ≤ r
  rd : r < d
  dg : d < g
theorem Lu.gl {w W : World} {r d g : Nat} {A0 : Option Addr} {m c0 : Nat} {σ : Sg} {q : Sq} {A : Option Addr} {k c : Nat} (h : Lu w W r d g A0 m c0 σ q A k c) : g < W.heap.size := (Array.getElem?_eq_some_iff.1 h.gg).1
theorem Lu.call {w W W' : World} {r d g : Nat} {A0 : Option Addr} {m c0 : Nat} {σ σ' : Sg} {q : Sq} {A : Option Addr} {k c : Nat} (h : Lu w W r d g A0 m c0 σ q A k c) (hb : Rb W' d (.slice A0 m c0) σ') (hf : Fr d d W W') : Lu w W' r d g A0 m c0 σ' q A k c := by
  have h1 := h.r0
  have h2 := h.rd
  have h3 := h.dg
  have h4 := h.gl
  refine ⟨hb, by rw [hf.b r (by omega) (by omega) (by omega)]; exact h.z, by rw [hf.b g h4 (by omega) (by omega)]; exact h.gg, ?_, h.bel.trans (hf.below (by omega) (by omega) h.bel.size), h1, h2, h3⟩
  exact row_same h.o fun x cur hx hh => by
    have h5 := World.ownsRow.lt h.o x hx
    rw [hf.b x h5.2 (by omega) (by omega)]; exact hh
theorem Lu.next {w W W' : World} {r d g : Nat} {A0 : Option Addr} {m c0 : Nat} {σ : Sg} {q : Sq} {A : Option Addr} {k c : Nat} (h : Lu w W r d g A0 m c0 σ q A k c) (hb : Below W.heap.size W W') : Lu w W' r d g A0 m c0 σ q A k c :=
  h.call (h.b.next hb) (Fr.of_below hb)
theorem Lu.rus {w W : World} {r d g : Nat} {A0 : Option Addr} {m c0 : Nat} {σ : Sg} {q : Sq} {A : Option Addr} {k c : Nat} (h : Lu w W r d g A0 m c0 σ q A k c) : Rus W A q.L := by
  obtain ⟨A', c', e, hr, _⟩ := h.o.form
  injection e with e1 _ _
  rw [e1]; exact hr
/- a store into the result's box -/
theorem Lu.end_ {w W : World} {r d g : Nat} {A0 : Option Addr} {m c0 : Nat} {σ : Sg} {q : Sq} {A : Option Addr} {k c : Nat} (h : Lu w W r d g A0 m c0 σ q A k c) (next' last' : Nat) (fl' : Bool) (fat' : Nat) (B' : Option Addr) (n' k' : Nat) :
    (set5 W r next' last' fl' fat' B' n' k').heap[r]? = some (sto next' last' fl' fat' B' n' k') ∧ Rus (set5 W r next' last' fl' fat' B' n' k') A q.L ∧ Below w.heap.size w (set5 W r next' last' fl' fat' B' n' k') := by
  refine ⟨set5_same h.z .., ?_, h.bel.trans (set5_below W r h.r0 ..)⟩
  have ho : OwnRu (set5 W r next' last' fl' fat' B' n' k') (d + 1) (.slice A k c) q.L := row_same h.o fun x cur hx hh => by
    have h5 := World.ownsRow.lt h.o x hx
    have := h.rd
    rw [set5_other W r x (by omega)]; exact hh
  obtain ⟨A', c', e, hr, _⟩ := ho.form
  injection e with e1 _ _
  rw [e1]; exact hr
set_option maxHeartbeats 8000000 in
theorem get16_any (A0 : Option Addr) (m c0 : Nat) (l : List Int) (w : World) (hl : l.length = m) (hm : m ≤ 100000) (hc : m ≤ c0) (hb : Byt w A0 l) :
    Calls Try.prog 9 #[.slice A0 m c0] w fun e w' => GeX l w e w' := by
  have HL := Lib.hid hl
  have B1 := below_alloc w (.cells #[.int .u64 0, .int .u64 0, .bool false, .int .u64 0, .slice none 0 0] 25)
  have B2 := below_alloc (w.alloc (.cells #[.int .u64 0, .int .u64 0, .bool false, .int .u64 0, .slice none 0 0] 25)) (.cells #[.slice A0 m c0, .int .i64 0, .int .i64 0] 45)
  have Z1 := heap_alloc_new w (.cells #[.int .u64 0, .int .u64 0, .bool false, .int .u64 0, .slice none 0 0] 25)
  have Z2 := heap_alloc_new (w.alloc (.cells #[.int .u64 0, .int .u64 0, .bool false, .int .u64 0, .slice none 0 0] 25)) (.cells #[.slice A0 m c0, .int .i64 0, .int .i64 0] 45)
  simp only [World.size_alloc] at B2 Z2
  have H0 : Hid (Rb ((w.alloc (.cells #[.int .u64 0, .int .u64 0, .bool false, .int .u64 0, .slice none 0 0] 25)).alloc (.cells #[.slice A0 m c0, .int .i64 0, .int .i64 0] 45)) (w.heap.size + 1) (.slice A0 m c0) (0, 0) ∧
      ((w.alloc (.cells #[.int .u64 0, .int .u64 0, .bool false, .int .u64 0, .slice none 0 0] 25)).alloc (.cells #[.slice A0 m c0, .int .i64 0, .int .i64 0] 45)).heap[w.heap.size]? = some (sto 0 0 false 0 none 0 0) ∧
      Below w.heap.size w ((w.alloc (.cells #[.int .u64 0, .int .u64 0, .bool false, .int .u64 0, .slice none 0 0] 25)).alloc (.cells #[.slice A0 m c0, .int .i64 0, .int .i64 0] 45)) ∧
      ((w.alloc (.cells #[.int .u64 0, .int .u64 0, .bool false, .int .u64 0, .slice none 0 0] 25)).alloc (.cells #[.slice A0 m c0, .int .i64 0, .int .i64 0] 45)).heap.size = w.heap.size + 1 + 1) := Lib.hid
    ⟨Z2, (B2.block _ (by omega)).trans Z1, B1.trans (B2.mono (by omega)), by simp⟩
  clear B1 B2 Z1 Z2
  go_enter Try.func9, Try.ntmps9
  go_upto_region 2 with fail
  generalize ((w.alloc (.cells #[.int .u64 0, .int .u64 0, .bool false, .int .u64 0, .slice none 0 0] 25)).alloc (.cells #[.slice A0 m c0, .int .i64 0, .int .i64 0] 45)) = w2 at H0 ⊢
  have SA := Lib.hid (state_any (w.heap.size + 1) A0 m c0 l w2 H0.out.1 hl hm hc (hb.below H0.out.2.2.1) (fun W hF => hb.below (H0.out.2.2.1.trans (hF.below (by omega) (by omega) (by have := H0.out.2.2.2; omega)))))
  clear hb hl
  go_wp2_with fail
  refine SA.out.mono ?_
  rintro _ w3 ⟨A, k, c, rfl, hk, ho, hr3, hf3⟩
  have NB := Lib.hid (below_alloc w3 (sto (sq l).next (sq l).last (sq l).fl (sq l).fat A k c))
  have U4 : Hid (Lu w (w3.alloc (.cells #[.int .u64 ((sq l).next : Int), .int .u64 ((sq l).last : Int), .bool (sq l).fl, .int .u64 ((sq l).fat : Int), .slice A k c] 25)) w.heap.size (w.heap.size + 1) w3.heap.size A0 m c0 (s5 l) (sq l) A k c) := Lib.hid
    ⟨hr3.next NB.out, (NB.out.block _ (by have := hf3.z; have := H0.out.2.2.2; omega)).trans ((hf3.b _ (by have := H0.out.2.2.2; omega) (by omega) (by omega)).trans H0.out.2.1), heap_alloc_new w3 _, OwnRu.below (row_mono ho.out (by have := H0.out.2.2.2; omega)) NB.out,
      below_go (H0.out.2.2.1.trans (hf3.below (by omega) (by omega) (by have := H0.out.2.2.2; omega))) NB.out, Nat.le_refl _, by omega, by have := hf3.z; have := H0.out.2.2.2; omega⟩
  have LK := Lib.hid hk
  clear ho hr3 hf3 hk NB H0 SA
  have FEW := Lib.hid (show k ≤ 64 by have := sq_few l; have := LK.out; omega)
  have S6 := Lib.hid (show s6 l = mst (mst (s5 l) (decide ((s5 l).1 = (m : Int))) 2) (wr (sq l).next (sq l).last (sq l).fl (sq l).fat (sq l).L) 1 by unfold s6; rw [HL.out])
  have GQ0 := Lib.hid (fun (h : (s6 l).2 = 0) => show gq l = sq l by unfold gq; rw [if_pos h])
  have GQ1 := Lib.hid (fun (h : (s6 l).2 ≠ 0) => show gq l = ⟨0, 0, false, 0, []⟩ by unfold gq; rw [if_neg h])
  obtain ⟨q, hq⟩ : ∃ q, sq l = q := ⟨_, rfl⟩
  rw [hq] at U4 LK S6 GQ0 ⊢
  clear hq
  obtain ⟨qn, ql, qf, qa, qL⟩ := q
  simp only at U4 LK S6 ⊢
  go_upto_region 3 with fail
  generalize (w3.alloc (.cells #[.int .u64 (qn : Int), .int .u64 (ql : Int), .bool qf, .int .u64 (qa : Int), .slice A k c] 25)) = w4 at U4 ⊢
  generalize w3.heap.size = g at U4 ⊢
  obtain ⟨_, t1, _⟩ := U4.out.b.cells
  have M1 : Hid (∃ b1, decide ((s5 l).1 = (m : Int)) = b1 ∧ ((s5 l).1 == (m : Int)) = b1) := Lib.hid ⟨_, rfl, by
    by_cases c : (s5 l).1 = (m : Int)
    · rw [decide_eq_true c]; simp [c]
    · rw [decide_eq_false c]; simp [c]⟩
  obtain ⟨b1, hb1, hb2⟩ := M1.out
  rw [hb1] at S6
  have MA := Lib.hid (must_any (w.heap.size + 1) A0 m c0 (s5 l) b1 2 (by omega) w4 U4.out.b)
  clear M1 hb1
  go_wp2_with fail
  refine MA.out.mono ?_
  rintro _ w5 ⟨rfl, hr5, hf5⟩
  have U5 := Lib.hid (U4.out.call hr5 hf5)
  clear hr5 hf5 U4 t1 hb2 MA
  obtain ⟨g0, g1, g2, g3, g4, _⟩ := sto_cells U5.out.gg
  simp only at g0 g1 g2 g3 g4
  obtain ⟨s7, hs7⟩ : ∃ s7, mst (s5 l) b1 2 = s7 := ⟨_, rfl⟩
  rw [hs7] at U5 S6
  clear hs7
  have WA := Lib.hid (written_any qn ql qf qa A k c qL w5 LK.out (by have := FEW.out; omega) U5.out.rus)
  obtain ⟨ok, hok⟩ : ∃ ok, wr qn ql qf qa qL = ok := ⟨_, rfl⟩
  rw [hok] at WA S6
  clear hok
  go_wp2_with fail
  refine WA.out.mono ?_
  rintro _ w6 ⟨rfl, hb6⟩
  have U6 := Lib.hid (U5.out.next hb6)
  clear hb6 U5 g0 g1 g2 g3 g4 WA
  have MB := Lib.hid (must_any (w.heap.size + 1) A0 m c0 s7 ok 1 (by omega) w6 U6.out.b)
  go_wp2_with fail
  refine MB.out.mono ?_
  rintro _ w7 ⟨rfl, hr7, hf7⟩
  have U7 := Lib.hid (U6.out.call hr7 hf7)
  rw [← S6.out] at U7
  clear hr7 hf7 U6 MB S6
  obtain ⟨_, _, u2⟩ := U7.out.b.cells
  obtain ⟨g0, g1, g2, g3, g4, _⟩ := sto_cells U7.out.gg
  simp only at g0 g1 g2 g3 g4
  obtain ⟨_, _, _, _, _, zf⟩ := sto_cells U7.out.z
  have z0 := zf 0
  have z1 := zf 1
  have z2 := zf 2
  have z3 := zf 3
  have z4 := zf 4
  clear zf
  obtain ⟨e, he⟩ : ∃ e, (s6 l).2 = e := ⟨_, rfl⟩
  have HE := Lib.hid he
  rw [he] at u2 GQ0 GQ1
  by_cases ce : e = 0
  · have d1 : ((e : Int) == 0) = true := by simp [ce]
    have EN := Lib.hid (U7.out.end_ qn ql qf qa A k c)
    have GQ := Lib.hid (GQ0.out ce)
    clear GQ0 GQ1 U7 he
    go_wp2_with fail
    show bodyPost _ _ _ _ _ (set5 w7 w.heap.size qn ql qf qa A k c)
    generalize set5 w7 w.heap.size qn ql qf qa A k c = wf at EN ⊢
    obtain ⟨k0, k1, k2, k3, k4, _⟩ := sto_cells EN.out.1
    refine bodyPost_ret (v := .tuple #[stv qn ql qf qa A k c, .int .i64 0]) ?_ rfl ⟨A, k, c, by rw [GQ.out, HE.out, ce]; rfl, by rw [GQ.out]; exact LK.out, by rw [GQ.out]; exact Lib.hid EN.out.2.1, EN.out.2.2⟩
    simp [results, Try.results9, go_sem, *]
  · have d1 : ((e : Int) == 0) = false := by simp; omega
    have EN := Lib.hid ((U7.out.next (Below.refl _ _).drew).end_ 0 0 false 0 none 0 0)
    have GQ := Lib.hid (GQ1.out ce)
    clear GQ0 GQ1 U7 he
    go_wp2_with fail
    go_region
    go_wp2_with fail
    show bodyPost _ _ _ _ _ (set5 w7.drew w.heap.size 0 0 false 0 none 0 0)
    generalize set5 w7.drew w.heap.size 0 0 false 0 none 0 0 = wf at EN ⊢
    obtain ⟨k0, k1, k2, k3, k4, _⟩ := sto_cells EN.out.1
    refine bodyPost_ret (v := .tuple #[stv 0 0 false 0 none 0 0, .int .i64 (e : Int)]) ?_ rfl ⟨none, 0, 0, by rw [GQ.out, HE.out], by rw [GQ.out]; rfl, by rw [GQ.out]; exact Lib.hid (Rus.nil _ _), EN.out.2.2⟩
    simp [results, Try.results9, go_sem, *]
end Go.Proofs.Ytmooblbnkjaenaa
