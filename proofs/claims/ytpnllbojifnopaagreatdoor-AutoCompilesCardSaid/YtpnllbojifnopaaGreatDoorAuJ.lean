/- Edges from each last place to each first one. -/
import Derived.Test.YtpnllbojifnopaaGreatDoorAuI
import Derived.Test.YtpnllbojifnopaaGreatDoorAuP
import Derived.RangeFuncBox
namespace Go.Proofs.YtpnllbojifnopaaGreatDoor
open Go Go.RowKit Go.Shelf Pk Rl
attribute [local go_sem] Oper.semAt_some
set_option maxRecDepth 20000

/- what hangs on cells alone stays, where a loop's record turns -/
theorem grown_cells {W W' : World} {row : Option Nat} (hg : W.grownBy W' row) (hr : ∀ r, row = some r → ∃ o : Obj, W.heap[r]? = some o ∧ o.isCells = false) (x : Nat) (o : Obj) (hx : W.heap[x]? = some o) (hc : o.isCells = true) : W'.heap[x]? = some o := by
  rw [hg.block x (Array.getElem?_eq_some_iff.1 hx).1 (fun e => ?_)]
  · exact hx
  · obtain ⟨o', h1, h2⟩ := hr x e.symm
    rw [hx] at h1
    injection h1 with h1
    rw [h1, h2] at hc
    cases hc
theorem mk_own {β : Type} (r : Nat) (P : β → List VQ) (E : β → List EV) : Go.Own (fun s W => Mk W r (P s) (E s)) := fun s X Y row hs hg hr =>
  Mk.same hs fun x o hx ht => grown_cells hg (fun r e => by obtain ⟨o, h1, h2⟩ := hr r e; exact ⟨o, h1, h2⟩) x o hx (by obtain ⟨cur, ty, fr, rfl, _⟩ := ht; rfl)
theorem obj_own {β : Type} (g : Nat) (o : Obj) (ho : o.isCells = true) : Go.Own (fun (_ : β) W => W.heap[g]? = some o) := fun _ X Y row hs hg hr =>
  grown_cells hg (fun r e => by obtain ⟨o, h1, h2⟩ := hr r e; exact ⟨o, h1, h2⟩) g o hs ho
theorem ka_own {β : Type} {r B : Nat} {w0 : World} (hB : w0.heap.size ≤ B) (hr0 : r ≤ w0.heap.size) : OwnFrom B (fun (_ : β) W => Ka r w0 W) := fun _ X Y row hs hg hr =>
  have key : ∀ x, x < w0.heap.size → Y.heap[x]? = X.heap[x]? := fun x hx => hg.block x (Nat.lt_of_lt_of_le hx hs.z) (fun e => by have := (hr x e.symm).1; omega)
  ⟨⟨hg.os.trans hs.o.os, hg.tape.trans hs.o.tape, hg.output.trans hs.o.output, Nat.le_trans hs.z hg.size, fun x hx => by rw [key x (by omega)]; exact hs.o.block x hx⟩,
    fun x o hx h1 h2 => by rw [key x (Array.getElem?_eq_some_iff.1 hx).1]; exact hs.b x o hx h1 h2⟩
theorem Ka.keeps {r B : Nat} {W W' : World} (h : Ka r W W') (hr : r < B) : KeepsFrom B W W' := ⟨h.z, fun k o hk ho hc => h.b k o ho (by omega) (fun cur ty fr e => by subst e; cases hc)⟩
theorem own_and {β : Type} {B : Nat} {I J : β → World → Prop} (h : OwnFrom B I) (k : OwnFrom B J) : OwnFrom B (fun s W => I s W ∧ J s W) := OwnFrom.and h k
/- a node in a box -/
def NB (w : World) (g : Nat) (nd : Nd) : Prop := w.heap[g]? = some (nobj nd)
theorem NB.atn {w : World} {g : Nat} {nd : Nd} (h : NB w g nd) : Atn w g 0 nd := by
  unfold NB at h
  refine ⟨?_, ?_, ?_, ?_, ?_, ?_, ?_, ?_, ?_, ?_, ?_⟩ <;> (rw [cell_of_row w g _ _ _ _ h]; rfl)
theorem NB.lt {w : World} {g : Nat} {nd : Nd} (h : NB w g nd) : g < w.heap.size := (Array.getElem?_eq_some_iff.1 h).1
theorem NB.next {w w' : World} {g : Nat} {nd : Nd} (h : NB w g nd) (hb : Below w.heap.size w w') : NB w' g nd := by unfold NB; rw [hb.block g h.lt]; exact h
theorem NB.ka {r : Nat} {w w' : World} {g : Nat} {nd : Nd} (h : NB w g nd) (k : Ka r w w') (hg : g ≠ r) : NB w' g nd := k.b g _ h hg (fun _ _ _ e => by injection e with _ e _; rw [← e]; decide)
theorem NB.alloc (w : World) (nd : Nd) : NB (w.alloc (nobj nd)) w.heap.size nd := heap_alloc_new w _
theorem bx_ka {r : Nat} {w w' : World} {g : Nat} {t : TypeId} {v : Value} (h : Boxed w g t v) (k : Ka r w w') (hg : g ≠ r) (ht : t ≠ 45 ∧ t ≠ 47) : Boxed w' g t v := k.b g _ h hg (fun _ _ _ e => by injection e with _ e _; rw [← e]; exact ht)
theorem bx_next {w w' : World} {g : Nat} {t : TypeId} {v : Value} (h : Boxed w g t v) (hb : Below w.heap.size w w') : Boxed w' g t v := by unfold Boxed; rw [hb.block g h.lt]; exact h
/- the edges that are joined -/
def jnI (y : Bool) (g : VQ) (f : Nat) (ts : List Nat) : List EV := ts.map fun t => (f, t, y, g)
def jnO (y : Bool) (g : VQ) (nf : Nat) (fs : List Nat) : List EV := fs.flatMap fun f => jnI y g f (btz nf)
def jn (y : Bool) (g : VQ) (al nf : Nat) : List EV := jnO y g nf (btz al)
theorem jnI_snoc (y : Bool) (g : VQ) (f : Nat) (ts : List Nat) (t : Nat) : jnI y g f (ts ++ [t]) = jnI y g f ts ++ [(f, t, y, g)] := by unfold jnI; rw [List.map_append]; rfl
theorem jnO_snoc (y : Bool) (g : VQ) (nf : Nat) (fs : List Nat) (f : Nat) : jnO y g nf (fs ++ [f]) = jnO y g nf fs ++ jnI y g f (btz nf) := by unfold jnO; rw [List.flatMap_append]; simp
theorem jnI_len (y : Bool) (g : VQ) (f : Nat) (ts : List Nat) : (jnI y g f ts).length = ts.length := List.length_map ..
theorem jnO_len (y : Bool) (g : VQ) (nf : Nat) (fs : List Nat) : (jnO y g nf fs).length ≤ fs.length * 32 := by
  induction fs with
  | nil => exact Nat.le_refl _
  | cons f fs ih =>
    show (jnI y g f (btz nf) ++ jnO y g nf fs).length ≤ _
    rw [List.length_append, jnI_len, List.length_cons]
    have := btz_len nf
    omega
def JnR (r : Nat) (w : World) (P : List VQ) (E : List EV) (e : Ending) (w' : World) : Prop := (∃ v, e = .returned v) ∧ Mk w' r P E ∧ Ka r w w'
/- what the loops find in memory -/
structure Jw (wb W : World) (r b4 : Nat) (nd : Nd) (na nb : Nat) (P : List VQ) (E : List EV) : Prop where
  mkk : Mk W r P E
  mb : Boxed W b4 177 (.pointer (some ⟨r, 0, none⟩))
  nbx : NB W (b4 + 1) nd
  eb : EB W (b4 + 3) na nb
  bel : Below wb.heap.size wb W
theorem Jw.ka {wb W W' : World} {r b4 : Nat} {nd : Nd} {na nb : Nat} {P P' : List VQ} {E E' : List EV} (h : Jw wb W r b4 nd na nb P E) (k : Ka r W W') (hr : r < b4) (hb : wb.heap.size ≤ r) (hm : Mk W' r P' E') : Jw wb W' r b4 nd na nb P' E' :=
  ⟨hm, bx_ka h.mb k (by omega) (by decide), h.nbx.ka k (by omega), h.eb.ka k (by omega), h.bel.trans (k.o.mono hb)⟩
theorem Jw.next {wb W W' : World} {r b4 : Nat} {nd : Nd} {na nb : Nat} {P : List VQ} {E : List EV} (h : Jw wb W r b4 nd na nb P E) (hb : Below W.heap.size W W') : Jw wb W' r b4 nd na nb P E :=
  ⟨Mk.next h.mkk hb, bx_next h.mb hb, h.nbx.next hb, h.eb.next hb, below_go h.bel hb⟩
theorem below_own {β : Type} {n B : Nat} {wb : World} (hB : n ≤ B) : OwnFrom B (fun (_ : β) W => n ≤ W.heap.size ∧ Below n wb W) := fun _ X Y row hs hg hr =>
  ⟨Nat.le_trans hs.1 hg.size, hg.os.trans hs.2.os, hg.tape.trans hs.2.tape, hg.output.trans hs.2.output, Nat.le_trans hs.2.size hg.size, fun x hx => by
    rw [hg.block x (Nat.lt_of_lt_of_le hx hs.1) (fun e => by have := (hr x e.symm).1; omega)]
    exact hs.2.block x hx⟩
theorem jw_own {β : Type} {wb : World} {B r b4 : Nat} {nd : Nd} {na nb : Nat} (P : List VQ) (E : β → List EV) (hB : wb.heap.size ≤ B) : OwnFrom B (fun s W => Jw wb W r b4 nd na nb P (E s)) := fun s X Y row hs hg hr =>
  have h2 : ∀ r, row = some r → ∃ o : Obj, X.heap[r]? = some o ∧ o.isCells = false := fun r e => by obtain ⟨_, o, h1, h2⟩ := hr r e; exact ⟨o, h1, h2⟩
  ⟨Mk.same hs.mkk fun x o hx ht => grown_cells hg h2 x o hx (by obtain ⟨cur, ty, fr, rfl, _⟩ := ht; rfl), grown_cells hg h2 _ _ hs.mb rfl, grown_cells hg h2 _ _ hs.nbx rfl, grown_cells hg h2 _ _ hs.eb rfl,
    (below_own (β := Unit) hB () X Y row ⟨hs.bel.size, hs.bel⟩ hg hr).2⟩
set_option maxRecDepth 100000 in
set_option maxHeartbeats 8000000 in
theorem join_in (r : Nat) (nd : Nd) (a1 a2 n1 n2 : Nat) (P : List VQ) (E : List EV) (wb w : World) (h : Mk w r P E) (ha2 : a2 < 4294967296) (hn1 : n1 < 4294967296) (hnd : Nok wb nd) (hT : Tab5 wb) (hwb : Below wb.heap.size wb w) (hrb : wb.heap.size ≤ r) (hE : E.length ≤ 1000000000) :
    CallsIn Fence.wide 6 Tryz.prog 112 #[.pointer (some ⟨r, 0, none⟩), nOf nd, ev2 a1 a2, ev2 n1 n2] w fun e w' => JnR r w P (E ++ jn nd.y (vq nd.g) a2 n1) e w' := by
  have zr := Mk.lt h
  have hr : 2 < r := by have := World.block_lt_of_cell? _ _ (hT 0 (by omega)); exact Nat.lt_of_lt_of_le this hrb
  obtain ⟨k, ⟨px, pt, pa, pn, pc, pL⟩, y, ⟨gx, gt, ga, gn, gc, gL⟩, lo, hi, s⟩ := nd
  obtain ⟨W0, hW0⟩ : ∃ X, (((w.alloc (.cells #[.pointer (some ⟨r, 0, none⟩)] 177)).alloc (nobj ⟨k, ⟨px, pt, pa, pn, pc, pL⟩, y, ⟨gx, gt, ga, gn, gc, gL⟩, lo, hi, s⟩)).alloc (eobj a1 a2)).alloc (eobj n1 n2) = X := ⟨_, rfl⟩
  have b0 : Below w.heap.size w W0 := hW0 ▸ below_go (below_go (below_go (below_alloc w _) (below_alloc _ _)) (below_alloc _ _)) (below_alloc _ _)
  have sz0 : W0.heap.size = w.heap.size + 4 := by rw [← hW0]; simp
  have J0 : Jw wb W0 r w.heap.size ⟨k, ⟨px, pt, pa, pn, pc, pL⟩, y, ⟨gx, gt, ga, gn, gc, gL⟩, lo, hi, s⟩ n1 n2 P E := by
    refine ⟨Mk.next h b0, ?_, ?_, ?_, below_go hwb b0⟩
    · rw [← hW0]
      exact bx_next (Boxed.new w 177 (.pointer (some ⟨r, 0, none⟩))) (below_go (below_go (below_alloc _ _) (below_alloc _ _)) (below_alloc _ _))
    · rw [← hW0]
      have := NB.alloc (w.alloc (.cells #[.pointer (some ⟨r, 0, none⟩)] 177)) ⟨k, ⟨px, pt, pa, pn, pc, pL⟩, y, ⟨gx, gt, ga, gn, gc, gL⟩, lo, hi, s⟩
      rw [World.size_alloc] at this
      exact (this.next (below_alloc _ _)).next (below_alloc _ _)
    · rw [← hW0]
      have := EB.alloc (((w.alloc (.cells #[.pointer (some ⟨r, 0, none⟩)] 177)).alloc (nobj ⟨k, ⟨px, pt, pa, pn, pc, pL⟩, y, ⟨gx, gt, ga, gn, gc, gL⟩, lo, hi, s⟩)).alloc (eobj a1 a2)) n1 n2
      simp only [World.size_alloc] at this
      exact this
  have E0 : EB W0 (w.heap.size + 2) a1 a2 := by
    rw [← hW0]
    have := EB.alloc ((w.alloc (.cells #[.pointer (some ⟨r, 0, none⟩)] 177)).alloc (nobj ⟨k, ⟨px, pt, pa, pn, pc, pL⟩, y, ⟨gx, gt, ga, gn, gc, gL⟩, lo, hi, s⟩)) a1 a2
    simp only [World.size_alloc] at this
    exact this.next (below_alloc _ _)
  have T0 := (hT.below hwb).below b0
  have hm1 := E0.cells.2.1
  have zE := E0.lt
  refine callsIn_of_wp_marks Tryz.func112 rfl trivial ?_ rfl
  simp only [Tryz.ntmps112, List.size_toArray, List.length_cons, List.length_nil, Nat.reduceAdd, Nat.reduceSub, Array.replicate_succ, Array.replicate_zero, List.push_toArray, List.append_toArray, List.nil_append, List.cons_append]
  gi_wp2_with (refine ⟨trivial, ?_⟩; gi_at_call 136; refine (places_in _ _ _).mono ?_; rintro e w' ⟨rfl, rfl⟩)
  have hszP : Below r w W0 := b0.mono (Nat.le_of_lt zr)
  have ka0 : Ka r w W0 := Ka.of_below b0 (Nat.le_of_lt zr)
  have b1 := below_alloc W0 (.cells #[.int .u32 (a2 : Int)] 33)
  have szp : (W0.alloc (.cells #[.int .u32 (a2 : Int)] 33)).heap.size = w.heap.size + 5 := by simp [sz0]
  have J1 := J0.next b1
  have T1 := T0.below b1
  have ka1 := ka0.next b1 (by omega)
  have bS := Boxed.new W0 33 (.int .u32 (a2 : Int))
  rw [sz0] at bS
  obtain ⟨W1, hW1⟩ : ∃ X, W0.alloc (.cells #[.int .u32 (a2 : Int)] 33) = X := ⟨_, rfl⟩
  rw [hW1] at b1 szp J1 T1 ka1 bS ⊢
  clear hW1 hW0 b0 sz0 J0 E0 T0 hm1 zE ka0 hszP h
  refine wpIn_rangeFunc_ownH rfl (by omega) (gf := 154) (lb := #[.pointer (some ⟨w.heap.size + 4, 0, none⟩)]) rfl trivial (enters_of Tryz.func154 (by kernel_rfl) rfl)
    (places_stops 5 (by omega) (w.heap.size + 4) r a2 ha2 W1 (by omega) bS.cell T1 hr) belowK_t (belowK_b (by omega)) (Below.refl _ _) (fun _ => rfl)
    (fun pre W => Jw wb W r w.heap.size ⟨k, ⟨px, pt, pa, pn, pc, pL⟩, y, ⟨gx, gt, ga, gn, gc, gL⟩, lo, hi, s⟩ n1 n2 P (E ++ jnO y (vq ⟨gx, gt, ga, gn, gc, gL⟩) n1 pre) ∧ Ka r w W)
    (fun _ _ _ => False)
    (own_and (jw_own P (fun pre => E ++ jnO y (vq ⟨gx, gt, ga, gn, gc, gL⟩) n1 pre) (by omega)) (ka_own (by omega) (Nat.le_of_lt zr)))
    (fun _ _ _ _ _ hs _ _ => hs)
    ⟨by simpa [jnO] using J1, ka1⟩
    (fun x a' W => ∃ Bx, w.heap.size + 3 < Bx ∧ Boxed W Bx 5 (.int .u8 ((x : Nat) : Int)) ∧ a' = { tmps := #[.pointer (some ⟨r, 0, none⟩), nOf ⟨k, ⟨px, pt, pa, pn, pc, pL⟩, y, ⟨gx, gt, ga, gn, gc, gL⟩, lo, hi, s⟩, ev2 a1 a2, ev2 n1 n2, .pointer (some ⟨w.heap.size, 0, none⟩), .pointer (some ⟨w.heap.size + 1, 0, none⟩), .pointer (some ⟨w.heap.size + 1 + 1, 0, none⟩), .pointer (some ⟨w.heap.size + 1 + 1 + 1, 0, none⟩), .pointer (some ⟨Bx, 0, none⟩), undef, .pointer (some ⟨w.heap.size + 1 + 1, 1, none⟩), .int .u32 (a2 : Int), .func (.func 154) #[] #[.pointer (some ⟨w.heap.size + 4, 0, none⟩)], .int .u8 ((x : Nat) : Int), undef, undef, undef, undef, undef, undef, undef, undef, undef, undef, undef, undef, undef, undef, undef, undef, undef, undef, undef, undef, undef], defers := [] })
    (fun x a' _ X Y row hs hg hr => by obtain ⟨Bx, h1, h2, h3⟩ := hs; exact ⟨Bx, h1, boxed_own Bx 5 (fun (_ : Unit) => Value.int .u8 ((x : Nat) : Int)) () X Y row h2 hg (fun r e => (hr r e).2), h3⟩)
    ?assign ?body ?done ?stop
  case assign =>
    rintro l pre x W K ⟨hJ, hK1⟩ hK
    have hb := below_alloc W (.cells #[.int .u8 ((x : Nat) : Int)] 5)
    have hk := Ka.of_below (r := r) hb (by have := hK1.z; omega)
    have hz := hJ.eb.lt
    gi_wp2
    exact hK _ _ (hk.keeps (by omega)) hk.o ⟨hJ.next hb, hK1.trans hk⟩ ⟨W.heap.size, hz, Boxed.new W 5 _, rfl⟩
  case body =>
    rintro l pre x a' W hl ⟨r0, hr0⟩ ⟨hJ, hK1⟩ ⟨Bx, hBx, bX, rfl⟩ hlt
    have cN := hJ.eb.cells.1
    have zN := hJ.eb.lt
    have hpre := hlt
    gi_wp2_with (refine ⟨trivial, ?_⟩; gi_at_call 136; refine (CallsIn.inRound l (places_in _ _ _)).mono ?_; rintro e w' ⟨rfl, rfl⟩)
    have hb2 := below_alloc W (.cells #[.int .u32 (n1 : Int)] 33)
    have hk2 := Ka.of_below (r := r) hb2 (by have := hK1.z; omega)
    have hr' : (W.alloc (.cells #[.int .u32 (n1 : Int)] 33)).heap[l]? = some (.loop r0) := (Below.heap_alloc W _ l (Array.getElem?_eq_some_iff.1 hr0).1).trans hr0
    have bN := Boxed.new W 33 (.int .u32 (n1 : Int))
    have TN := (hT.below hJ.bel).below hb2
    have szW := hK1.z
    refine wpIn_rangeFunc_ownN (l₀ := l) (r₀ := r0) rfl hr' (by omega) (gf := 154) (lb := #[.pointer (some ⟨W.heap.size, 0, none⟩)]) rfl trivial (enters_of Tryz.func154 (by kernel_rfl) rfl)
      ((places_stops 3 (by omega) W.heap.size r n1 hn1 _ (by simp) bN.cell TN hr).inRound l) belowK_t (belowK_b (by simp; omega)) (Below.refl _ _) (fun _ => rfl)
      (fun pre' W' => (Jw wb W' r w.heap.size ⟨k, ⟨px, pt, pa, pn, pc, pL⟩, y, ⟨gx, gt, ga, gn, gc, gL⟩, lo, hi, s⟩ n1 n2 P (E ++ jnO y (vq ⟨gx, gt, ga, gn, gc, gL⟩) n1 pre ++ jnI y (vq ⟨gx, gt, ga, gn, gc, gL⟩) x pre') ∧ Boxed W' Bx 5 (.int .u8 ((x : Nat) : Int))) ∧ Ka r W W')
      (fun _ _ _ => False)
      (own_and (own_and (jw_own P (fun pre' => E ++ jnO y (vq ⟨gx, gt, ga, gn, gc, gL⟩) n1 pre ++ jnI y (vq ⟨gx, gt, ga, gn, gc, gL⟩) x pre') (by simp; omega)) (Go.Own.from (boxed_own _ _ _) _)) (ka_own (by simp) (by omega)))
      (fun _ _ _ _ _ hs _ _ => hs)
      ⟨⟨by simpa [jnI] using hJ.next hb2, bx_next bX hb2⟩, hk2⟩
      (fun t a'' _ => a'' = { tmps := #[.pointer (some ⟨r, 0, none⟩), nOf ⟨k, ⟨px, pt, pa, pn, pc, pL⟩, y, ⟨gx, gt, ga, gn, gc, gL⟩, lo, hi, s⟩, ev2 a1 a2, ev2 n1 n2, .pointer (some ⟨w.heap.size, 0, none⟩), .pointer (some ⟨w.heap.size + 1, 0, none⟩), .pointer (some ⟨w.heap.size + 1 + 1, 0, none⟩), .pointer (some ⟨w.heap.size + 1 + 1 + 1, 0, none⟩), .pointer (some ⟨Bx, 0, none⟩), .int .u8 ((t : Nat) : Int), .pointer (some ⟨w.heap.size + 1 + 1, 1, none⟩), .int .u32 (a2 : Int), .func (.func 154) #[] #[.pointer (some ⟨w.heap.size + 4, 0, none⟩)], .int .u8 ((x : Nat) : Int), .pointer (some ⟨w.heap.size + 1 + 1 + 1, 0, none⟩), .int .u32 (n1 : Int), .func (.func 154) #[] #[.pointer (some ⟨W.heap.size, 0, none⟩)], .int .u8 ((t : Nat) : Int), undef, undef, undef, undef, undef, undef, undef, undef, undef, undef, undef, undef, undef, undef, undef, undef, undef], defers := [] })
      (fun _ _ _ _ _ _ hs _ _ => hs)
      ?assign2 ?body2 ?done2 ?stop2
    case assign2 =>
      rintro l2 pre' t W' K hi hK
      gi_wp2
      exact hK _ _ (KeepsFrom.refl _ _) (Below.refl _ _) hi rfl
    case body2 =>
      rintro l2 pre' t a'' wr _ _ ⟨⟨hJ2, bX2⟩, hK2⟩ rfl hlt2
      gi_wp2
      have zb4 := hJ2.mb.lt
      have hJ3 := hJ2
      obtain ⟨Ap, kp, cp, Ae, ke, ce, Ps, Es, hM, hP, hEE⟩ := hJ3.mkk
      have zrr := hM.lt
      have m1 := hM.cells.2.1
      have hke : ke ≤ 1900000000 := by
        have h1 := congrArg List.length hEE
        have h2 := jnO_len y (vq ⟨gx, gt, ga, gn, gc, gL⟩) n1 pre
        have h3 := btz_len a2
        have h4 := btz_len n1
        simp only [List.length_map, List.length_append, jnI_len] at h1
        rw [← hM.le]
        omega
      have SK : Hid (∀ W, Ka r wr W → (fun W => W.cell? ⟨w.heap.size, 0, none⟩ = some (.pointer (some ⟨r, 0, none⟩)) ∧ W.cell? ⟨Bx, 0, none⟩ = some (.int .u8 ((x : Nat) : Int)) ∧ W.cell? ⟨w.heap.size + 1, 4, none⟩ = some (.bool y) ∧ W.cell? ⟨w.heap.size + 1, 5, none⟩ = some (.bool gx) ∧ W.cell? ⟨w.heap.size + 1, 6, none⟩ = some (.int .u8 gt) ∧ W.cell? ⟨w.heap.size + 1, 7, none⟩ = some (.slice ga gn gc) ∧ Hid (Ka r wr W)) W) := Lib.hid (fun W hW => by
        obtain ⟨_, _, _, _, n4, n5, n6, n7, _⟩ := (hJ2.nbx.ka hW (by omega)).atn
        simp only [Nat.zero_add] at n4 n5 n6 n7
        exact ⟨(bx_ka hJ2.mb hW (by omega) (by decide)).cell, (bx_ka bX2 hW (by omega) (by decide)).cell, n4, n5, n6, n7, Lib.hid hW⟩)
      have OW : Hid (∀ W, (fun W => W.cell? ⟨w.heap.size, 0, none⟩ = some (.pointer (some ⟨r, 0, none⟩)) ∧ W.cell? ⟨Bx, 0, none⟩ = some (.int .u8 ((x : Nat) : Int)) ∧ W.cell? ⟨w.heap.size + 1, 4, none⟩ = some (.bool y) ∧ W.cell? ⟨w.heap.size + 1, 5, none⟩ = some (.bool gx) ∧ W.cell? ⟨w.heap.size + 1, 6, none⟩ = some (.int .u8 gt) ∧ W.cell? ⟨w.heap.size + 1, 7, none⟩ = some (.slice ga gn gc) ∧ Hid (Ka r wr W)) W → Calls Tryz.prog 114 #[qv ⟨gx, gt, ga, gn, gc, gL⟩] W fun e w' => OwR W ⟨gx, gt, ga, gn, gc, gL⟩ e w') := Lib.hid (fun W hW => own_any ⟨gx, gt, ga, gn, gc, gL⟩ W (hnd.g.below (hJ2.bel.trans (hW.2.2.2.2.2.2.out.o.mono hrb))))
      have MD := Lib.hid (fun W (hW : Below wr.heap.size wr W) => hM.same (W' := W) (fun x o hx _ => by rw [hW.block x (Array.getElem?_eq_some_iff.1 hx).1]; exact hx))
      have BD := Lib.hid ((Below.refl wr.heap.size wr).drew)
      have RR : Hid (∀ W', Ka r wr W' → ∀ q' : Qu, vq q' = (vq ⟨gx, gt, ga, gn, gc, gL⟩) → ∀ Ap kp cp Ae ke ce, Mi W' r Ap kp cp Ae ke ce Ps (Es ++ [⟨x, t, y, q'⟩]) → (Jw wb W' r w.heap.size ⟨k, ⟨px, pt, pa, pn, pc, pL⟩, y, ⟨gx, gt, ga, gn, gc, gL⟩, lo, hi, s⟩ n1 n2 P (E ++ jnO y (vq ⟨gx, gt, ga, gn, gc, gL⟩) n1 pre ++ jnI y (vq ⟨gx, gt, ga, gn, gc, gL⟩) x (pre' ++ [t])) ∧ Boxed W' Bx 5 (.int .u8 ((x : Nat) : Int))) ∧ Ka r wr W') := Lib.hid (fun W' hW q' hq Ap kp cp Ae ke ce hMi =>
        ⟨⟨hJ2.ka hW (by omega) hrb ⟨Ap, kp, cp, Ae, ke, ce, Ps, _, hMi, hP, by rw [List.map_append, hEE, jnI_snoc, ← List.append_assoc, ← hq]; rfl⟩, bx_ka bX2 hW (by omega) (by decide)⟩, hW⟩)
      have KS : Hid (∀ W', ((Jw wb W' r w.heap.size ⟨k, ⟨px, pt, pa, pn, pc, pL⟩, y, ⟨gx, gt, ga, gn, gc, gL⟩, lo, hi, s⟩ n1 n2 P (E ++ jnO y (vq ⟨gx, gt, ga, gn, gc, gL⟩) n1 pre ++ jnI y (vq ⟨gx, gt, ga, gn, gc, gL⟩) x (pre' ++ [t])) ∧ Boxed W' Bx 5 (.int .u8 ((x : Nat) : Int))) ∧ Ka r wr W') → ownPostG (W.alloc (.cells #[.int .u32 (n1 : Int)] 33)).heap.size (Below r) (fun pre' W' => (Jw wb W' r w.heap.size ⟨k, ⟨px, pt, pa, pn, pc, pL⟩, y, ⟨gx, gt, ga, gn, gc, gL⟩, lo, hi, s⟩ n1 n2 P (E ++ jnO y (vq ⟨gx, gt, ga, gn, gc, gL⟩) n1 pre ++ jnI y (vq ⟨gx, gt, ga, gn, gc, gL⟩) x pre') ∧ Boxed W' Bx 5 (.int .u8 ((x : Nat) : Int))) ∧ Ka r W W') (fun _ _ _ => False) (pre' ++ [t]) wr .normal { tmps := #[], defers := [] } W') := Lib.hid (fun W' h => ⟨h.2.keeps (by simp; omega), h.2.o, h.1, hK2.trans h.2⟩)
      refine region_inRound l2 _ (by kernel_rfl) (no_defer (by kernel_rfl)) (R := fun _ W' => (Jw wb W' r w.heap.size ⟨k, ⟨px, pt, pa, pn, pc, pL⟩, y, ⟨gx, gt, ga, gn, gc, gL⟩, lo, hi, s⟩ n1 n2 P (E ++ jnO y (vq ⟨gx, gt, ga, gn, gc, gL⟩) n1 pre ++ jnI y (vq ⟨gx, gt, ga, gn, gc, gL⟩) x (pre' ++ [t])) ∧ Boxed W' Bx 5 (.int .u8 ((x : Nat) : Int))) ∧ Ka r wr W') (S := fun W => W.cell? ⟨w.heap.size, 0, none⟩ = some (.pointer (some ⟨r, 0, none⟩)) ∧ W.cell? ⟨Bx, 0, none⟩ = some (.int .u8 ((x : Nat) : Int)) ∧ W.cell? ⟨w.heap.size + 1, 4, none⟩ = some (.bool y) ∧ W.cell? ⟨w.heap.size + 1, 5, none⟩ = some (.bool gx) ∧ W.cell? ⟨w.heap.size + 1, 6, none⟩ = some (.int .u8 gt) ∧ W.cell? ⟨w.heap.size + 1, 7, none⟩ = some (.slice ga gn gc) ∧ Hid (Ka r wr W)) (fun _ W' h => KS.out W' h) (SK.out _ (Ka.of_below BD.out (by omega))) (fun hHeld => ?_)
      clear hJ2 hM hJ3 hP hEE hK2 hJ hK1 bX bX2 KS
      refine wpAnyH_take (i := 0) (v := ?_) rfl (by kernel_rfl) (by kernel_rfl) (by kernel_rfl) (fun _ _ _ h => h) (Or.inl ⟨by rfl, ?_⟩) (by assumption) ?_
      rotate_left
      · (intro W hSw; simp only [List.getElem_toArray, List.getElem_cons_zero]; (try dsimp only at hSw); go_simp; with_reducible rfl)
      simp only [List.getElem_toArray, List.getElem_cons_zero, Act.put, List.setIfInBounds_toArray, List.set_cons_zero, List.set_cons_succ]
      refine wpAnyH_take (i := 1) (v := ?_) rfl (by kernel_rfl) (by kernel_rfl) (by kernel_rfl) (fun _ _ _ h => h) (Or.inl ⟨by rfl, ?_⟩) (by assumption) ?_
      rotate_left
      · (intro W hSw; simp only [List.getElem_toArray, List.getElem_cons_succ, List.getElem_cons_zero]; (try dsimp only at hSw); go_simp; with_reducible rfl)
      simp only [List.getElem_toArray, List.getElem_cons_succ, List.getElem_cons_zero, Act.put, List.setIfInBounds_toArray, List.set_cons_zero, List.set_cons_succ]
      refine wpAnyH_take (i := 2) (v := ?_) rfl (by kernel_rfl) (by kernel_rfl) (by kernel_rfl) (fun _ _ _ h => h) (Or.inl ⟨by rfl, ?_⟩) (by assumption) ?_
      rotate_left
      · (intro W hSw; simp only [List.getElem_toArray, List.getElem_cons_succ, List.getElem_cons_zero]; (try dsimp only at hSw); go_simp; with_reducible rfl)
      simp only [List.getElem_toArray, List.getElem_cons_succ, List.getElem_cons_zero, Act.put, List.setIfInBounds_toArray, List.set_cons_zero, List.set_cons_succ]
      refine wpAnyH_take (i := 3) (v := ?_) rfl (by kernel_rfl) (by kernel_rfl) (by kernel_rfl) (fun _ _ _ h => h) (Or.inl ⟨by rfl, ?_⟩) (by assumption) ?_
      rotate_left
      · (intro W hSw; simp only [List.getElem_toArray, List.getElem_cons_succ, List.getElem_cons_zero]; (try dsimp only at hSw); go_simp; with_reducible rfl)
      simp only [List.getElem_toArray, List.getElem_cons_succ, List.getElem_cons_zero, Act.put, List.setIfInBounds_toArray, List.set_cons_zero, List.set_cons_succ]
      refine wpAnyH_take (i := 5) (v := ?_) rfl (by kernel_rfl) (by kernel_rfl) (by kernel_rfl) (fun _ _ _ h => h) (Or.inl ⟨by rfl, ?_⟩) (by assumption) ?_
      rotate_left
      · (intro W hSw; simp only [List.getElem_toArray, List.getElem_cons_succ, List.getElem_cons_zero]; (try dsimp only at hSw); go_simp; with_reducible rfl)
      simp only [List.getElem_toArray, List.getElem_cons_succ, List.getElem_cons_zero, Act.put, List.setIfInBounds_toArray, List.set_cons_zero, List.set_cons_succ]
      refine wpAnyH_take (i := 6) (v := ?_) rfl (by kernel_rfl) (by kernel_rfl) (by kernel_rfl) (fun _ _ _ h => h) (Or.inl ⟨by rfl, ?_⟩) (by assumption) ?_
      rotate_left
      · (intro W hSw; simp only [List.getElem_toArray, List.getElem_cons_succ, List.getElem_cons_zero]; (try dsimp only at hSw); go_simp; with_reducible rfl)
      simp only [List.getElem_toArray, List.getElem_cons_succ, List.getElem_cons_zero, Act.put, List.setIfInBounds_toArray, List.set_cons_zero, List.set_cons_succ]
      refine wpAnyH_take (i := 7) (v := ?_) rfl (by kernel_rfl) (by kernel_rfl) (by kernel_rfl) (fun _ _ _ h => h) (Or.inl ⟨by rfl, ?_⟩) (by assumption) ?_
      rotate_left
      · (intro W hSw; simp only [List.getElem_toArray, List.getElem_cons_succ, List.getElem_cons_zero]; (try dsimp only at hSw); go_simp; with_reducible rfl)
      simp only [List.getElem_toArray, List.getElem_cons_succ, List.getElem_cons_zero, Act.put, List.setIfInBounds_toArray, List.set_cons_zero, List.set_cons_succ]
      refine wpAnyH_take (i := 8) (v := ?_) rfl (by kernel_rfl) (by kernel_rfl) (by kernel_rfl) (fun _ _ _ h => h) (Or.inl ⟨by rfl, ?_⟩) (by assumption) ?_
      rotate_left
      · (intro W hSw; simp only [List.getElem_toArray, List.getElem_cons_succ, List.getElem_cons_zero]; (try dsimp only at hSw); go_simp; with_reducible rfl)
      simp only [List.getElem_toArray, List.getElem_cons_succ, List.getElem_cons_zero, Act.put, List.setIfInBounds_toArray, List.set_cons_zero, List.set_cons_succ]
      refine wpAnyH_take (i := 9) (v := ?_) rfl (by kernel_rfl) (by kernel_rfl) (by kernel_rfl) (fun _ _ _ h => h) (Or.inl ⟨by rfl, ?_⟩) (by assumption) ?_
      rotate_left
      · (intro W hSw; simp only [List.getElem_toArray, List.getElem_cons_succ, List.getElem_cons_zero]; (try dsimp only at hSw); go_simp; with_reducible rfl)
      simp only [List.getElem_toArray, List.getElem_cons_succ, List.getElem_cons_zero, Act.put, List.setIfInBounds_toArray, List.set_cons_zero, List.set_cons_succ]
      refine wpAnyH_take (i := 10) (v := ?_) rfl (by kernel_rfl) (by kernel_rfl) (by kernel_rfl) (fun _ _ _ h => h) (Or.inl ⟨by rfl, ?_⟩) (by assumption) ?_
      rotate_left
      · (intro W hSw; simp only [List.getElem_toArray, List.getElem_cons_succ, List.getElem_cons_zero]; (try dsimp only at hSw); go_simp; with_reducible rfl)
      simp only [List.getElem_toArray, List.getElem_cons_succ, List.getElem_cons_zero, Act.put, List.setIfInBounds_toArray, List.set_cons_zero, List.set_cons_succ]
      refine wpAnyH_ready (rs := [4, 11]) (by kernel_rfl) (by simp) ?_
      refine AllReadyH.cons rfl (fun K hK => ?_) (AllReadyH.cons rfl (fun K hK => ?_) AllReadyH.nil)
      ·
        (try simp only [List.getElem_toArray, List.getElem_cons_succ, List.getElem_cons_zero])
        go_simp
        refine hK.out _ _ hHeld (fun hHeld => ?_)
        (try simp only [List.getElem_toArray, List.getElem_cons_succ, List.getElem_cons_zero, Act.put, List.setIfInBounds_toArray, List.set_cons_zero, List.set_cons_succ])
        refine wpAnyH_ready (rs := [11]) (by kernel_rfl) (by simp) ?_
        refine AllReadyH.cons rfl (fun K hK => ?_) AllReadyH.nil
        ·
          (try simp only [List.getElem_toArray, List.getElem_cons_succ, List.getElem_cons_zero])
          go_simp
          go_at_call 114
          refine (OW.out _ hHeld).mono ?_
          rintro e w2 ⟨⟨ox, ot, oa, on, oc, oL⟩, rfl, hv, hq2, hb⟩
          have hKa := Lib.hid (hHeld.2.2.2.2.2.2.out.next hb (by show r ≤ wr.heap.size; omega))
          have zr2 := Nat.lt_of_lt_of_le zrr hKa.out.z
          have M2 := Lib.hid (MD.out _ (BD.out.trans hb))
          have m12 := M2.out.cells.2.1
          have Q2 := Lib.hid (hq2.mono (B' := r + 1) (by show r + 1 ≤ wr.heap.size; omega))
          have HV := Lib.hid hv
          clear hq2 hb hv
          refine hK.out _ _ (SK.out _ hKa.out) (fun hHeld => ?_)
          (try simp only [List.getElem_toArray, List.getElem_cons_succ, List.getElem_cons_zero, Act.put, List.setIfInBounds_toArray, List.set_cons_zero, List.set_cons_succ])
          refine wpAnyH_take (i := 12) (v := ?_) rfl (by kernel_rfl) (by kernel_rfl) (by kernel_rfl) (fun _ _ _ h => h) (Or.inl ⟨by rfl, ?_⟩) (by assumption) ?_
          rotate_left
          · (intro W hSw; simp only [List.getElem_toArray, List.getElem_cons_succ, List.getElem_cons_zero]; (try dsimp only at hSw); go_simp; with_reducible rfl)
          simp only [List.getElem_toArray, List.getElem_cons_succ, List.getElem_cons_zero, Act.put, List.setIfInBounds_toArray, List.set_cons_zero, List.set_cons_succ]
          refine wpAnyH_ready (rs := [13]) (by kernel_rfl) (by simp) ?_
          refine AllReadyH.cons rfl (fun K hK => ?_) AllReadyH.nil
          ·
            (try simp only [List.getElem_toArray, List.getElem_cons_succ, List.getElem_cons_zero])
            go_simp
            have b3 := below_alloc w2 (.cells #[.int .u8 ((x : Nat) : Int), .int .u8 ((t : Nat) : Int), .bool y, .bool ox, .int .u8 ot, .slice oa on oc] 47)
            have hKa3 := Lib.hid (hKa.out.next b3 (by omega))
            have M3 := Lib.hid (M2.out.same (fun x o hx _ => by rw [b3.block x (Array.getElem?_eq_some_iff.1 hx).1]; exact hx))
            have Q3 := Lib.hid (Q2.out.below b3)
            have m13 := M3.out.cells.2.1
            have zr3 := M3.out.lt
            clear b3
            refine hK.out _ _ (SK.out _ hKa3.out) (fun hHeld => ?_)
            (try simp only [List.getElem_toArray, List.getElem_cons_succ, List.getElem_cons_zero, Act.put, List.setIfInBounds_toArray, List.set_cons_zero, List.set_cons_succ])
            refine wpAnyH_ready (rs := [14]) (by kernel_rfl) (by simp) ?_
            refine AllReadyH.cons rfl (fun K hK => ?_) AllReadyH.nil
            refine step_appe _ (by rfl) (.tmp 22) (.tmp 31) (by rfl) M3.out (by rfl) _ ⟨x, t, y, ⟨ox, ot, oa, on, oc, oL⟩⟩ (by rfl) (fun j u hj => by rcases j with _ | _ | _ | _ | _ | _ | j <;> (first | (simp [ecl] at hj; subst hj; simp [go_sem]) | (simp [ecl] at hj))) Q3.out (by omega) ?_
            intro A5 c5 w5 hM5 hK5 hL5 d0 df dz
            refine hK.out _ _ (SK.out _ (hKa3.out.trans hK5)) (fun hHeld => ?_)
            (try simp only [List.getElem_toArray, List.getElem_cons_succ, List.getElem_cons_zero, Act.put, List.setIfInBounds_toArray, List.set_cons_zero, List.set_cons_succ])
            refine wpAnyH_take (i := 15) (v := ?_) rfl (by kernel_rfl) (by kernel_rfl) (by kernel_rfl) (fun _ _ _ h => h) (Or.inl ⟨by rfl, ?_⟩) (by assumption) ?_
            rotate_left
            · (intro W hSw; simp only [List.getElem_toArray, List.getElem_cons_succ, List.getElem_cons_zero]; (try dsimp only at hSw); go_simp; with_reducible rfl)
            simp only [List.getElem_toArray, List.getElem_cons_succ, List.getElem_cons_zero, Act.put, List.setIfInBounds_toArray, List.set_cons_zero, List.set_cons_succ]
            refine wpAnyH_take (i := 16) (v := ?_) rfl (by kernel_rfl) (by kernel_rfl) (by kernel_rfl) (fun _ _ _ h => h) (Or.inl ⟨by rfl, ?_⟩) (by assumption) ?_
            rotate_left
            · (intro W hSw; simp only [List.getElem_toArray, List.getElem_cons_succ, List.getElem_cons_zero]; (try dsimp only at hSw); go_simp; with_reducible rfl)
            simp only [List.getElem_toArray, List.getElem_cons_succ, List.getElem_cons_zero, Act.put, List.setIfInBounds_toArray, List.set_cons_zero, List.set_cons_succ]
            refine wpAnyH_ready (rs := [17]) (by kernel_rfl) (by simp) ?_
            refine AllReadyH.cons rfl (fun K hK => ?_) AllReadyH.nil
            (try simp only [List.getElem_toArray, List.getElem_cons_succ, List.getElem_cons_zero])
            go_simp
            refine hK.out _ _ (SK.out _ (hKa3.out.trans hL5)) (fun hHeld => ?_)
            (try simp only [List.getElem_toArray, List.getElem_cons_succ, List.getElem_cons_zero, Act.put, List.setIfInBounds_toArray, List.set_cons_zero, List.set_cons_succ])
            refine wpAnyH_done (by kernel_rfl) ?_ _
            exact RR.out _ (hKa3.out.trans hL5) ⟨ox, ot, oa, on, oc, oL⟩ HV.out _ _ _ _ _ _ hM5
      ·
        (try simp only [List.getElem_toArray, List.getElem_cons_succ, List.getElem_cons_zero])
        go_simp
        go_at_call 114
        refine (OW.out _ hHeld).mono ?_
        rintro e w2 ⟨⟨ox, ot, oa, on, oc, oL⟩, rfl, hv, hq2, hb⟩
        have hKa := Lib.hid (hHeld.2.2.2.2.2.2.out.next hb (by show r ≤ wr.heap.size; omega))
        have zr2 := Nat.lt_of_lt_of_le zrr hKa.out.z
        have M2 := Lib.hid (MD.out _ (BD.out.trans hb))
        have m12 := M2.out.cells.2.1
        have Q2 := Lib.hid (hq2.mono (B' := r + 1) (by show r + 1 ≤ wr.heap.size; omega))
        have HV := Lib.hid hv
        clear hq2 hb hv
        refine hK.out _ _ (SK.out _ hKa.out) (fun hHeld => ?_)
        (try simp only [List.getElem_toArray, List.getElem_cons_succ, List.getElem_cons_zero, Act.put, List.setIfInBounds_toArray, List.set_cons_zero, List.set_cons_succ])
        refine wpAnyH_take (i := 12) (v := ?_) rfl (by kernel_rfl) (by kernel_rfl) (by kernel_rfl) (fun _ _ _ h => h) (Or.inl ⟨by rfl, ?_⟩) (by assumption) ?_
        rotate_left
        · (intro W hSw; simp only [List.getElem_toArray, List.getElem_cons_succ, List.getElem_cons_zero]; (try dsimp only at hSw); go_simp; with_reducible rfl)
        simp only [List.getElem_toArray, List.getElem_cons_succ, List.getElem_cons_zero, Act.put, List.setIfInBounds_toArray, List.set_cons_zero, List.set_cons_succ]
        refine wpAnyH_ready (rs := [4, 13]) (by kernel_rfl) (by simp) ?_
        refine AllReadyH.cons rfl (fun K hK => ?_) (AllReadyH.cons rfl (fun K hK => ?_) AllReadyH.nil)
        ·
          (try simp only [List.getElem_toArray, List.getElem_cons_succ, List.getElem_cons_zero])
          go_simp
          refine hK.out _ _ hHeld (fun hHeld => ?_)
          (try simp only [List.getElem_toArray, List.getElem_cons_succ, List.getElem_cons_zero, Act.put, List.setIfInBounds_toArray, List.set_cons_zero, List.set_cons_succ])
          refine wpAnyH_ready (rs := [13]) (by kernel_rfl) (by simp) ?_
          refine AllReadyH.cons rfl (fun K hK => ?_) AllReadyH.nil
          ·
            (try simp only [List.getElem_toArray, List.getElem_cons_succ, List.getElem_cons_zero])
            go_simp
            have b3 := below_alloc w2 (.cells #[.int .u8 ((x : Nat) : Int), .int .u8 ((t : Nat) : Int), .bool y, .bool ox, .int .u8 ot, .slice oa on oc] 47)
            have hKa3 := Lib.hid (hKa.out.next b3 (by omega))
            have M3 := Lib.hid (M2.out.same (fun x o hx _ => by rw [b3.block x (Array.getElem?_eq_some_iff.1 hx).1]; exact hx))
            have Q3 := Lib.hid (Q2.out.below b3)
            have m13 := M3.out.cells.2.1
            have zr3 := M3.out.lt
            clear b3
            refine hK.out _ _ (SK.out _ hKa3.out) (fun hHeld => ?_)
            (try simp only [List.getElem_toArray, List.getElem_cons_succ, List.getElem_cons_zero, Act.put, List.setIfInBounds_toArray, List.set_cons_zero, List.set_cons_succ])
            refine wpAnyH_ready (rs := [14]) (by kernel_rfl) (by simp) ?_
            refine AllReadyH.cons rfl (fun K hK => ?_) AllReadyH.nil
            refine step_appe _ (by rfl) (.tmp 22) (.tmp 31) (by rfl) M3.out (by rfl) _ ⟨x, t, y, ⟨ox, ot, oa, on, oc, oL⟩⟩ (by rfl) (fun j u hj => by rcases j with _ | _ | _ | _ | _ | _ | j <;> (first | (simp [ecl] at hj; subst hj; simp [go_sem]) | (simp [ecl] at hj))) Q3.out (by omega) ?_
            intro A5 c5 w5 hM5 hK5 hL5 d0 df dz
            refine hK.out _ _ (SK.out _ (hKa3.out.trans hK5)) (fun hHeld => ?_)
            (try simp only [List.getElem_toArray, List.getElem_cons_succ, List.getElem_cons_zero, Act.put, List.setIfInBounds_toArray, List.set_cons_zero, List.set_cons_succ])
            refine wpAnyH_take (i := 15) (v := ?_) rfl (by kernel_rfl) (by kernel_rfl) (by kernel_rfl) (fun _ _ _ h => h) (Or.inl ⟨by rfl, ?_⟩) (by assumption) ?_
            rotate_left
            · (intro W hSw; simp only [List.getElem_toArray, List.getElem_cons_succ, List.getElem_cons_zero]; (try dsimp only at hSw); go_simp; with_reducible rfl)
            simp only [List.getElem_toArray, List.getElem_cons_succ, List.getElem_cons_zero, Act.put, List.setIfInBounds_toArray, List.set_cons_zero, List.set_cons_succ]
            refine wpAnyH_take (i := 16) (v := ?_) rfl (by kernel_rfl) (by kernel_rfl) (by kernel_rfl) (fun _ _ _ h => h) (Or.inl ⟨by rfl, ?_⟩) (by assumption) ?_
            rotate_left
            · (intro W hSw; simp only [List.getElem_toArray, List.getElem_cons_succ, List.getElem_cons_zero]; (try dsimp only at hSw); go_simp; with_reducible rfl)
            simp only [List.getElem_toArray, List.getElem_cons_succ, List.getElem_cons_zero, Act.put, List.setIfInBounds_toArray, List.set_cons_zero, List.set_cons_succ]
            refine wpAnyH_ready (rs := [17]) (by kernel_rfl) (by simp) ?_
            refine AllReadyH.cons rfl (fun K hK => ?_) AllReadyH.nil
            (try simp only [List.getElem_toArray, List.getElem_cons_succ, List.getElem_cons_zero])
            go_simp
            refine hK.out _ _ (SK.out _ (hKa3.out.trans hL5)) (fun hHeld => ?_)
            (try simp only [List.getElem_toArray, List.getElem_cons_succ, List.getElem_cons_zero, Act.put, List.setIfInBounds_toArray, List.set_cons_zero, List.set_cons_succ])
            refine wpAnyH_done (by kernel_rfl) ?_ _
            exact RR.out _ (hKa3.out.trans hL5) ⟨ox, ot, oa, on, oc, oL⟩ HV.out _ _ _ _ _ _ hM5
        ·
          (try simp only [List.getElem_toArray, List.getElem_cons_succ, List.getElem_cons_zero])
          go_simp
          have b3 := below_alloc w2 (.cells #[.int .u8 ((x : Nat) : Int), .int .u8 ((t : Nat) : Int), .bool y, .bool ox, .int .u8 ot, .slice oa on oc] 47)
          have hKa3 := Lib.hid (hKa.out.next b3 (by omega))
          have M3 := Lib.hid (M2.out.same (fun x o hx _ => by rw [b3.block x (Array.getElem?_eq_some_iff.1 hx).1]; exact hx))
          have Q3 := Lib.hid (Q2.out.below b3)
          have m13 := M3.out.cells.2.1
          have zr3 := M3.out.lt
          clear b3
          refine hK.out _ _ (SK.out _ hKa3.out) (fun hHeld => ?_)
          (try simp only [List.getElem_toArray, List.getElem_cons_succ, List.getElem_cons_zero, Act.put, List.setIfInBounds_toArray, List.set_cons_zero, List.set_cons_succ])
          refine wpAnyH_ready (rs := [4]) (by kernel_rfl) (by simp) ?_
          refine AllReadyH.cons rfl (fun K hK => ?_) AllReadyH.nil
          ·
            (try simp only [List.getElem_toArray, List.getElem_cons_succ, List.getElem_cons_zero])
            go_simp
            refine hK.out _ _ hHeld (fun hHeld => ?_)
            (try simp only [List.getElem_toArray, List.getElem_cons_succ, List.getElem_cons_zero, Act.put, List.setIfInBounds_toArray, List.set_cons_zero, List.set_cons_succ])
            refine wpAnyH_ready (rs := [14]) (by kernel_rfl) (by simp) ?_
            refine AllReadyH.cons rfl (fun K hK => ?_) AllReadyH.nil
            refine step_appe _ (by rfl) (.tmp 22) (.tmp 31) (by rfl) M3.out (by rfl) _ ⟨x, t, y, ⟨ox, ot, oa, on, oc, oL⟩⟩ (by rfl) (fun j u hj => by rcases j with _ | _ | _ | _ | _ | _ | j <;> (first | (simp [ecl] at hj; subst hj; simp [go_sem]) | (simp [ecl] at hj))) Q3.out (by omega) ?_
            intro A5 c5 w5 hM5 hK5 hL5 d0 df dz
            refine hK.out _ _ (SK.out _ (hKa3.out.trans hK5)) (fun hHeld => ?_)
            (try simp only [List.getElem_toArray, List.getElem_cons_succ, List.getElem_cons_zero, Act.put, List.setIfInBounds_toArray, List.set_cons_zero, List.set_cons_succ])
            refine wpAnyH_take (i := 15) (v := ?_) rfl (by kernel_rfl) (by kernel_rfl) (by kernel_rfl) (fun _ _ _ h => h) (Or.inl ⟨by rfl, ?_⟩) (by assumption) ?_
            rotate_left
            · (intro W hSw; simp only [List.getElem_toArray, List.getElem_cons_succ, List.getElem_cons_zero]; (try dsimp only at hSw); go_simp; with_reducible rfl)
            simp only [List.getElem_toArray, List.getElem_cons_succ, List.getElem_cons_zero, Act.put, List.setIfInBounds_toArray, List.set_cons_zero, List.set_cons_succ]
            refine wpAnyH_take (i := 16) (v := ?_) rfl (by kernel_rfl) (by kernel_rfl) (by kernel_rfl) (fun _ _ _ h => h) (Or.inl ⟨by rfl, ?_⟩) (by assumption) ?_
            rotate_left
            · (intro W hSw; simp only [List.getElem_toArray, List.getElem_cons_succ, List.getElem_cons_zero]; (try dsimp only at hSw); go_simp; with_reducible rfl)
            simp only [List.getElem_toArray, List.getElem_cons_succ, List.getElem_cons_zero, Act.put, List.setIfInBounds_toArray, List.set_cons_zero, List.set_cons_succ]
            refine wpAnyH_ready (rs := [17]) (by kernel_rfl) (by simp) ?_
            refine AllReadyH.cons rfl (fun K hK => ?_) AllReadyH.nil
            (try simp only [List.getElem_toArray, List.getElem_cons_succ, List.getElem_cons_zero])
            go_simp
            refine hK.out _ _ (SK.out _ (hKa3.out.trans hL5)) (fun hHeld => ?_)
            (try simp only [List.getElem_toArray, List.getElem_cons_succ, List.getElem_cons_zero, Act.put, List.setIfInBounds_toArray, List.set_cons_zero, List.set_cons_succ])
            refine wpAnyH_done (by kernel_rfl) ?_ _
            exact RR.out _ (hKa3.out.trans hL5) ⟨ox, ot, oa, on, oc, oL⟩ HV.out _ _ _ _ _ _ hM5
    case done2 =>
      rintro ts W' rfl ⟨⟨hJ2, bX2⟩, hK2⟩
      gi_wp2
      exact ⟨hK2.keeps (by omega), hK2.o, by rw [jnO_snoc, ← List.append_assoc]; exact hJ2, hK1.trans hK2⟩
    case stop2 =>
      rintro c pre' W' _ h
      exact h.elim
  case done =>
    rintro D zs W hD rfl ⟨hJ, hK1⟩ hK
    gi_wp2
    refine ⟨by simp, .inl ⟨_, _, rfl, run_takeDeferred hK, ?_⟩⟩
    have hg := grownBy_putObj' W D (.deferred none)
    have hrow : ∀ q, some D = some q → w.heap.size ≤ q ∧ ∃ o : Obj, W.heap[q]? = some o ∧ o.isCells = false := fun q e => by cases e; exact ⟨by omega, _, hK, rfl⟩
    refine ⟨_, results_none rfl _ _ _, ⟨_, rfl⟩, (mk_own r (fun (_ : Unit) => P) (fun _ => E ++ jnO y (vq ⟨gx, gt, ga, gn, gc, gL⟩) n1 (btz a2)) () _ _ _ hJ.mkk hg (fun q e => (hrow q e).2)), (ka_own (β := Unit) (Nat.le_refl _) (Nat.le_of_lt zr) () _ _ _ hK1 hg hrow)⟩
  case stop =>
    rintro D c pre W _ _ h _
    exact h.elim
end Go.Proofs.YtpnllbojifnopaaGreatDoor
