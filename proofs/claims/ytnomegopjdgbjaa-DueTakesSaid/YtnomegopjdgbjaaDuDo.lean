/- One operation of a list and of the document's: both answer alike. -/
import Derived.Test.YtnomegopjdgbjaaDuRTake
namespace Go.Proofs.Ytnomegopjdgbjaa
open Go Go.RowKit
set_option maxRecDepth 20000

/- a list, and the document's, of the same keys and times, apart from each other -/
structure Pl (B : Nat) (W : World) (d m : Nat) (v : Value) (L : List E) (A : Option Addr) (l : List E) : Prop where
  db : Db B W d m v L
  perm : L.Perm l
  prs : Prs W A l
  far : ∀ x, A = some x → ¬ Fp d m v x.block
  lt : ∀ x, A = some x → x.block < W.heap.size
section
variable {B : Nat} {W W' : World} {d m : Nat} {v : Value} {L l : List E} {A : Option Addr}
theorem Pl.below (h : Pl B W d m v L A l) (hb : Below W.heap.size W W') : Pl B W' d m v L A l := ⟨h.db.below hb, h.perm, h.prs.below hb, h.far, fun x e => by have := h.lt x e; have := hb.size; omega⟩
theorem Pl.once (h : Pl B W d m v L A l) : Once l := h.db.dl.once.perm h.perm
theorem Pl.len (h : Pl B W d m v L A l) : L.length = l.length := h.perm.length_eq
end
abbrev opv (q : Int) (k a : Nat) : Value := .agg #[.int .i64 q, .int .u64 (k : Int), .int .u64 (a : Int)]
abbrev opc (q : Int) (k a : Nat) : Obj := .cells #[.int .i64 q, .int .u64 (k : Int), .int .u64 (a : Int)] 30
/- the box of an operation that came in stays -/
theorem box_in (W : World) (q : Int) (k a : Nat) : (W.alloc (opc q k a)).cell? ⟨W.heap.size, 1, none⟩ = some (.int .u64 (k : Int)) ∧ (W.alloc (opc q k a)).cell? ⟨W.heap.size, 2, none⟩ = some (.int .u64 (a : Int)) := by
  constructor <;> simp [go_sem]
def Done (B : Nat) (W : World) (d m n : Nat) (e : Ending) (w' : World) : Prop :=
  ∃ A' n' c' v' L' l', e = .returned (.tuple #[.bool true, .slice A' n' c']) ∧ Pl B w' d m v' L' A' l' ∧ l'.length = n' ∧ n' ≤ n + 1 ∧ Below B W w'
set_option maxHeartbeats 4000000 in
theorem do_set {B : Nat} {W : World} {d m : Nat} {v : Value} {L l : List E} {A : Option Addr} (h : Pl B W d m v L A l) (hB : B ≤ W.heap.size) (n c : Nat) (hl : l.length = n) (hn : n ≤ 1000) (k a : Nat) (hk : k < 18446744073709551616) (ha : a < 18446744073709551616) :
    Calls Try.prog 10 #[ptr d, .slice A n c, opv 0 k a] W (Done B W d m n) := by
  have hb0 := below_alloc W (opc 0 k a)
  have h0 := h.below hb0
  have B0 : B ≤ (W.alloc (opc 0 k a)).heap.size := by simp; omega
  have C1 := Lib.hid (set_b h0.db B0 k a hk ha (by rw [h0.len, hl]; omega))
  have H0 := Lib.hid h0
  have HH := Lib.hid h
  have HL := Lib.hid hl
  have HB0 := Lib.hid hb0
  obtain ⟨x1, x2⟩ := box_in W 0 k a
  have X := Lib.hid (And.intro x1 x2)
  clear hb0 h0 h hl x1 x2
  go_enter Try.func10, Try.ntmps10
  go_wp2_with fail
  refine C1.out.mono ?_
  rintro e w1 ⟨rfl, v1, L1, h1, h2, h3, h4, h5⟩
  have hfar : ¬ Fp d m v W.heap.size := fun e => by have := HH.out.db.dl.lt _ e; omega
  have y1 := h4.cell X.out.1 hfar
  have y2 := h4.cell X.out.2 hfar
  have p1 : Prs w1 A l := H0.out.prs.keep h4 H0.out.far
  have C2 := Lib.hid (rset_any w1 A n c k a l HL.out p1 (by omega))
  have hs := h4.size
  have R := Lib.hid (And.intro h1 (And.intro (h2.trans ((cutL_perm H0.out.perm k).append_right _)) (HB0.out.mono hB |>.trans h3)))
  clear h1 h2 h3 h4 h5 p1 hfar C1 hs
  go_wp2_with fail
  refine C2.out.mono ?_
  rintro e w2 ⟨A2, n2, c2, rfl, g1, g2, g3⟩
  have G1 := Lib.hid g1
  have G2 := Lib.hid g2
  have G3 := Lib.hid g3
  clear g1 g2 g3 C2 y1 y2
  go_wp2_with fail
  go_ret2
  obtain ⟨r1, r2, r3⟩ := R.out
  refine ⟨A2, n2, c2, v1, L1, _, rfl, ⟨r1.below G3.out, r2, G2.out.prs, fun x e f => ?_, fun x e => ?_⟩, G1.out, ?_, r3.trans (G3.out.mono r3.size |>.mono hB)⟩
  · have := G2.out.far x e
    have := r1.dl.lt _ f
    omega
  · subst e
    exact (G2.out.lt x.block rfl).2
  · have := G1.out
    rw [List.length_append] at this
    have h2 : (cutL l k).length ≤ l.length := List.length_filter_le _ _
    have := HL.out
    simp at *
    omega
end Go.Proofs.Ytnomegopjdgbjaa
