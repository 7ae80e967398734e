/- What a run does that came to some places: kept, and matched. -/
import Derived.Test.YtpnllbojifnopaaGreatDoorYRnA
import Derived.Test.YtpnllbojifnopaaGreatDoorYRnB
namespace Go.Proofs.YtpnllbojifnopaaGreatDoor
open Go Go.RowKit Go.Maps Pk Rl
set_option maxRecDepth 20000
abbrev robj (r : Ru) : Obj := .cells #[.int .u64 (r.s : Int), .int .u64 (r.t : Int), .int .u64 (r.x : Int)] 96
structure Fd (w W : World) (d : Nat) (l : Lg) (RS : List Ru) (MS : List Mt) : Prop where
  bel : Below w.heap.size w W
  e : W.heap[w.heap.size]? = some (.cells #[.pointer (some ⟨d, 0, none⟩)] 69)
  l : W.heap[w.heap.size + 1]? = some (lobj l)
  r : ∃ A c, W.heap[w.heap.size + 1 + 1]? = some (.cells #[.slice A RS.length c] 89) ∧ OwnRu W (w.heap.size + 4) (.slice A RS.length c) RS
  m : ∃ A c, W.heap[w.heap.size + 1 + 1 + 1]? = some (.cells #[.slice A MS.length c] 82) ∧ OwnMt W (w.heap.size + 4) (.slice A MS.length c) MS
  sz : w.heap.size + 4 ≤ W.heap.size
section
variable {w W W' : World} {d : Nat} {l : Lg} {RS : List Ru} {MS : List Mt}
theorem Fd.next (h : Fd w W d l RS MS) (hb : Below W.heap.size W W') : Fd w W' d l RS MS := by
  have z := h.sz
  obtain ⟨A, c, h1, h2⟩ := h.r
  obtain ⟨A', c', h3, h4⟩ := h.m
  exact ⟨below_go h.bel hb, by rw [hb.block _ (by omega)]; exact h.e, by rw [hb.block _ (by omega)]; exact h.l, ⟨A, c, by rw [hb.block _ (by omega)]; exact h1, h2.below hb⟩, ⟨A', c', by rw [hb.block _ (by omega)]; exact h3, h4.below hb⟩, Nat.le_trans z hb.size⟩
end
structure Fb (w W : World) (d : Nat) (l : Lg) (RS : List Ru) (MS : List Mt) (g : Nat) (r : Ru) : Prop where
  f : Fd w W d l RS MS
  b : W.heap[g]? = some (robj r)
  o : ∀ A c, OwnRu W (w.heap.size + 4) (.slice A RS.length c) RS → W.heap[w.heap.size + 1 + 1]? = some (.cells #[.slice A RS.length c] 89) → A ≠ some ⟨g, 0, none⟩
  far : w.heap.size + 4 ≤ g
section
variable {w W W' : World} {d : Nat} {l : Lg} {RS : List Ru} {MS : List Mt} {g : Nat} {r : Ru}
theorem Fb.lt (h : Fb w W d l RS MS g r) : g < W.heap.size := (Array.getElem?_eq_some_iff.1 h.b).1
theorem Fb.start (h : Fd w W d l RS MS) (r : Ru) : Fb w (W.alloc (robj r)) d l RS MS W.heap.size r := by
  have hb := below_alloc W (robj r)
  refine ⟨h.next hb, heap_alloc_new W _, fun A c h1 h2 => ?_, h.sz⟩
  obtain ⟨A', c', h3, h4⟩ := h.r
  rw [hb.block _ (by have := h.sz; omega), h3] at h2
  injection h2 with h2
  injection h2 with h2 _ _
  simp at h2
  obtain ⟨rfl, rfl⟩ := h2
  intro e
  have := World.ownsRow.lt h4 W.heap.size (by rw [e]; rfl)
  omega
theorem Fb.next (h : Fb w W d l RS MS g r) (hb : Below W.heap.size W W') : Fb w W' d l RS MS g r := by
  refine ⟨h.f.next hb, (hb.block g h.lt).trans h.b, fun A c _ h2 => ?_, h.far⟩
  rw [hb.block _ (by have := h.f.sz; omega)] at h2
  obtain ⟨A', c', h3, h4⟩ := h.f.r
  rw [h3] at h2
  injection h2 with h2
  injection h2 with h2 _ _
  simp at h2
  obtain ⟨rfl, rfl⟩ := h2
  exact h.o _ _ h4 h3
theorem Fb.put (h : Fb w W d l RS MS g r) (x : Nat) : Fb w (W.setCell ⟨g, 2, none⟩ (.int .u64 (x : Int))) d l RS MS g ⟨r.s, r.t, x⟩ := by
  have z := h.f.sz
  have far := h.far
  have hold : ∀ x', x' ≠ g → (W.setCell ⟨g, 2, none⟩ (.int .u64 (x : Int))).heap[x']? = W.heap[x']? := fun x' hx => heap_setCell_other W ⟨g, 2, none⟩ x' _ hx
  obtain ⟨A, c, h1, h2⟩ := h.f.r
  obtain ⟨A', c', h3, h4⟩ := h.f.m
  have hA := h.o _ _ h2 h1
  refine ⟨⟨h.f.bel.setCell (p := ⟨g, 2, none⟩) (by show w.heap.size ≤ g; omega) _, by rw [hold _ (by omega)]; exact h.f.e, by rw [hold _ (by omega)]; exact h.f.l, ⟨A, c, by rw [hold _ (by omega)]; exact h1, ?_⟩, ⟨A', c', by rw [hold _ (by omega)]; exact h3, ?_⟩, by rw [World.size_setCell]; exact z⟩, by rw [heap_setCell_same W g 2 _ _ _ h.b]; rfl, fun A2 c2 _ h6 => ?_, far⟩
  · refine ⟨h2.1, ?_⟩
    rcases h2.2 with h0 | ⟨g', cap, cur, hv, hg', hh, r⟩
    · exact .inl h0
    · have hne : g' ≠ g := fun e => by
        subst e
        injection hv with hv _ _
        exact hA hv
      exact .inr ⟨g', cap, cur, hv, hg', by rw [hold g' hne]; exact hh, r⟩
  · refine h4.same fun k cur hk => hold k (fun e => ?_)
    subst e
    rw [h.b] at hk
    injection hk with hk
    injection hk with _ hk _
    exact absurd hk (by decide)
  · rw [hold _ (by omega), h1] at h6
    injection h6 with h6
    injection h6 with h6 _ _
    simp at h6
    obtain ⟨rfl, rfl⟩ := h6
    exact hA
theorem Fb.cells (h : Fb w W d l RS MS g r) : W.cell? ⟨g, 0, none⟩ = some (.int .u64 (r.s : Int)) ∧ W.cell? ⟨g, 1, none⟩ = some (.int .u64 (r.t : Int)) ∧ W.cell? ⟨g, 2, none⟩ = some (.int .u64 (r.x : Int)) ∧ ∀ j, W.frozen? ⟨g, j, none⟩ = false := by
  refine ⟨?_, ?_, ?_, fun j => by simp [World.frozen?, h.b]⟩ <;> (rw [cell_of_row W g _ _ _ _ h.b]; rfl)
theorem Fd.mow (h : Fd w W d l RS MS) {A : Option Addr} {c : Nat} (h1 : W.heap[w.heap.size + 1 + 1 + 1]? = some (.cells #[.slice A MS.length c] 82)) : OwnMt W (w.heap.size + 4) (.slice A MS.length c) MS := by
  obtain ⟨A', c', h3, h4⟩ := h.m
  rw [h3] at h1
  injection h1 with h1
  injection h1 with h1 _ _
  simp at h1
  obtain ⟨rfl, rfl⟩ := h1
  exact h4
theorem Fb.more (h : Fb w W d l RS MS g r) {A : Option Addr} {c : Nat} (h1 : W.heap[w.heap.size + 1 + 1]? = some (.cells #[.slice A RS.length c] 89)) (ho : OwnRu W (w.heap.size + 4) (.slice A RS.length c) RS) {w1 : World} {A' : Option Addr} {k c' : Nat} {e : Ru} (hO : OwnRu w1 (w.heap.size + 4) (.slice A' k c') (RS ++ [e])) (hk : RS.length + 1 = k)
    (hg : Gr (.slice A RS.length c) (.slice A' k c') W w1) (hK : Kt 96 W w1) (hb : Below (w.heap.size + 4) W w1) : Fb w (w1.setCell ⟨w.heap.size + 1 + 1, 0, none⟩ (.slice A' k c')) d l (RS ++ [e]) MS g r := by
  have z := h.f.sz
  have far := h.far
  have hA := h.o _ _ ho h1
  have hgl := h.lt
  have hold : ∀ x, x ≠ w.heap.size + 1 + 1 → (w1.setCell ⟨w.heap.size + 1 + 1, 0, none⟩ (.slice A' k c')).heap[x]? = w1.heap[x]? := fun x hx => heap_setCell_other w1 ⟨w.heap.size + 1 + 1, 0, none⟩ x _ hx
  have hrow : w1.heap[w.heap.size + 1 + 1]? = some (.cells #[.slice A RS.length c] 89) := (hb.block _ (by omega)).trans h1
  have ek : (RS ++ [e]).length = k := by rw [List.length_append, List.length_singleton, hk]
  have hnb : ∀ (x : Option Addr), (x = none ∨ ∃ b, x = some ⟨b, 0, none⟩) → x ≠ some ⟨g, 0, none⟩ → ∀ n c, some g ≠ (Value.slice x n c).ownBlock := by
    intro x hx hne n c e2
    rcases hx with rfl | ⟨b, rfl⟩
    · exact absurd e2 (by simp [Value.ownBlock])
    · have e3 : some g = some b := e2
      injection e3 with e3
      exact hne (by rw [e3])
  have fA : A = none ∨ ∃ b, A = some ⟨b, 0, none⟩ := by
    obtain ⟨A2, c2, e2, _, h5⟩ := ho.form
    injection e2 with e2 _ _
    subst e2
    rcases h5 with h5 | ⟨b, h5, _⟩
    · exact .inl h5.1
    · exact .inr ⟨b, h5⟩
  have hgb : w1.heap[g]? = some (robj r) := (hg.g.block g hgl (hnb A fA hA _ _)).trans h.b
  have hA' : A' ≠ some ⟨g, 0, none⟩ := fun e2 => by
    have e3 : (Value.slice A' k c').ownBlock = some g := by rw [e2]; rfl
    rcases hg.b with h5 | h5
    · exact hnb A fA hA _ _ (e3.symm.trans h5)
    · rw [e3] at h5
      injection h5 with h5
      omega
  obtain ⟨Am, cm, h3, h4⟩ := h.f.m
  refine ⟨⟨(h.f.bel.trans (hb.mono (by omega))).setCell (p := ⟨w.heap.size + 1 + 1, 0, none⟩) (by show w.heap.size ≤ w.heap.size + 1 + 1; omega) _, ?_, ?_, ⟨A', c', ?_, ?_⟩, ⟨Am, cm, ?_, ?_⟩, ?_⟩, ?_, fun A2 c2 _ h6 => ?_, far⟩
  · rw [hold _ (by omega), hb.block _ (by omega)]; exact h.f.e
  · rw [hold _ (by omega), hb.block _ (by omega)]; exact h.f.l
  · rw [heap_setCell_same w1 _ 0 _ _ _ hrow, ek]; rfl
  · rw [ek]; exact hO.same fun x _ hx _ => hold x (by omega)
  · rw [hold _ (by omega), hb.block _ (by omega)]; exact h3
  · refine (h4.same fun x cur hx => hK x cur _ _ hx (by decide)).same fun x cur hx => hold x (fun e2 => ?_)
    subst e2
    rw [hrow] at hx
    injection hx with hx
    injection hx with _ hx _
    exact absurd hx (by decide)
  · rw [World.size_setCell]; exact Nat.le_trans z hg.g.size
  · rw [hold _ (by omega)]; exact hgb
  · rw [heap_setCell_same w1 _ 0 _ _ _ hrow] at h6
    injection h6 with h6
    injection h6 with h6 _ _
    simp at h6
    rw [← h6.1]
    exact hA'
theorem Fb.moreM (h : Fb w W d l RS MS g r) {A : Option Addr} {c : Nat} (h1 : W.heap[w.heap.size + 1 + 1 + 1]? = some (.cells #[.slice A MS.length c] 82)) {w1 : World} {A' : Option Addr} {k c' : Nat} {e : Mt} (hO : OwnMt w1 (w.heap.size + 4) (.slice A' k c') (MS ++ [e])) (hk : MS.length + 1 = k)
    (hK : Kt 107 W w1) (hb : Below (w.heap.size + 4) W w1) : Fb w (w1.setCell ⟨w.heap.size + 1 + 1 + 1, 0, none⟩ (.slice A' k c')) d l RS (MS ++ [e]) g r := by
  have z := h.f.sz
  have far := h.far
  have hold : ∀ x, x ≠ w.heap.size + 1 + 1 + 1 → (w1.setCell ⟨w.heap.size + 1 + 1 + 1, 0, none⟩ (.slice A' k c')).heap[x]? = w1.heap[x]? := fun x hx => heap_setCell_other w1 ⟨w.heap.size + 1 + 1 + 1, 0, none⟩ x _ hx
  have hrow : w1.heap[w.heap.size + 1 + 1 + 1]? = some (.cells #[.slice A MS.length c] 82) := (hb.block _ (by omega)).trans h1
  have ek : (MS ++ [e]).length = k := by rw [List.length_append, List.length_singleton, hk]
  obtain ⟨Am, cm, h3, h4⟩ := h.f.r
  refine ⟨⟨(h.f.bel.trans (hb.mono (by omega))).setCell (p := ⟨w.heap.size + 1 + 1 + 1, 0, none⟩) (by show w.heap.size ≤ w.heap.size + 1 + 1 + 1; omega) _, ?_, ?_, ⟨Am, cm, ?_, ?_⟩, ⟨A', c', ?_, ?_⟩, ?_⟩, ?_, fun A2 c2 _ h6 => ?_, far⟩
  · rw [hold _ (by omega), hb.block _ (by omega)]; exact h.f.e
  · rw [hold _ (by omega), hb.block _ (by omega)]; exact h.f.l
  · rw [hold _ (by omega), hb.block _ (by omega)]; exact h3
  · exact (h4.same fun x cur _ hx => hK x cur _ _ hx (by decide)).same fun x _ hx _ => hold x (by omega)
  · rw [heap_setCell_same w1 _ 0 _ _ _ hrow, ek]; rfl
  · rw [ek]
    refine hO.same fun x cur hx => hold x (fun e2 => ?_)
    subst e2
    rw [hrow] at hx
    injection hx with hx
    injection hx with _ hx _
    exact absurd hx (by decide)
  · rw [World.size_setCell]; exact Nat.le_trans z hb.size
  · rw [hold _ (by omega), hK g _ _ _ h.b (by decide)]; exact h.b
  · rw [hold _ (by omega), hb.block _ (by omega), h3] at h6
    injection h6 with h6
    injection h6 with h6 _ _
    simp at h6
    obtain ⟨rfl, rfl⟩ := h6
    exact h.o _ _ h4 h3
theorem Fd.cd (h : Fd w W d l RS MS) {p : Addr} {v : Value} (hc : w.cell? p = some v) : W.cell? p = some v := (h.bel.cell (World.block_lt_of_cell? _ _ hc)).trans hc
theorem Fd.ce (h : Fd w W d l RS MS) : W.cell? ⟨w.heap.size, 0, none⟩ = some (.pointer (some ⟨d, 0, none⟩)) := by rw [cell_of_row W _ _ _ _ _ h.e]; rfl
end
def kept (x : Nat) (r : Ru) : List Ru := if x = 0 then [] else [⟨r.s, r.t, x⟩]
def hit (q b : Nat) (s n : Nat) : List Mt := if q &&& b = 0 then [] else [(s, n)]
set_option maxHeartbeats 8000000 in
theorem put_any (w W : World) (d : Nat) (Ap : Option Addr) (kp cp a b : Nat) (Ae : Option Addr) (ke ce win next : Nat) (Ps : List Qu) (Es : List Ed) (l : Lg) (RS : List Ru) (MS : List Mt) (r : Ru) (q : Nat) (hG : Eg w d Ap kp cp a b Ae ke ce win Ps Es) (hN : w.cell? ⟨d, 5, none⟩ = some (.int .u64 (next : Int))) (h : Fd w W d l RS MS)
    (hq : q < 4294967296) (hx : r.x < 18446744073709551616) (hR : RS.length ≤ 1000) (hM : MS.length ≤ 1000) :
    Calls Tryz.prog 99 #[.agg #[.int .u64 (r.s : Int), .int .u64 (r.t : Int), .int .u64 (r.x : Int)], .int .u32 (q : Int), .pointer (some ⟨w.heap.size, 0, none⟩), .pointer (some ⟨w.heap.size + 1 + 1, 0, none⟩), .pointer (some ⟨w.heap.size + 1 + 1 + 1, 0, none⟩)] W fun e W' => e = .returned (.tuple #[]) ∧ Fd w W' d l (RS ++ kept (r.x ||| frs Es q) r) (MS ++ hit q b r.s next) := by
  obtain ⟨rs, rt, rx⟩ := r
  simp only at hx
  have B0 := Lib.hid (Fb.start h ⟨rs, rt, rx⟩)
  have FR := Lib.hid (fun W (hb : Below w.heap.size w W) => from_any d Ap kp cp a b Ae ke ce win Ps Es q W hq (hG.below hb))
  have GG := Lib.hid hG
  have NN := Lib.hid hN
  have b32 := hG.b
  have fx : frs Es q < 18446744073709551616 := sbt_le64 _ _ (by rw [hG.cr.le]; exact hG.ke)
  obtain ⟨f, hf⟩ : ∃ f, frs Es q = f := ⟨_, rfl⟩
  rw [hf] at FR fx ⊢
  have ho : bits .or .u64 (rx : Int) (f : Int) = ((rx ||| f : Nat) : Int) := u64_or_nat rx f hx fx
  obtain ⟨x, hx2⟩ : ∃ x, rx ||| f = x := ⟨_, rfl⟩
  simp only
  rw [hx2] at ho ⊢
  have hand : bits .and .u32 (q : Int) (b : Int) = ((q &&& b : Nat) : Int) := u32_and_nat q b hq b32
  obtain ⟨y, hy⟩ : ∃ y, q &&& b = y := ⟨_, rfl⟩
  rw [hy] at hand
  have HIT : Hid (hit q b rs next = if y = 0 then [] else [(rs, next)]) := Lib.hid (by unfold hit; rw [hy])
  obtain ⟨ms, hms⟩ : ∃ ms, hit q b rs next = ms := ⟨_, rfl⟩
  rw [hms] at HIT ⊢
  obtain ⟨RS', hRS⟩ : ∃ R, RS ++ kept x ⟨rs, rt, rx⟩ = R := ⟨_, rfl⟩
  rw [hRS]
  have HRS := Lib.hid hRS
  clear h hG hN hf hy hms hx2 hRS
  go_enter Tryz.func99, Tryz.ntmps99
  go_upto_region 1 with fail
  generalize W.alloc (robj ⟨rs, rt, rx⟩) = W1 at B0 ⊢
  generalize W.heap.size = g at B0 ⊢
  go_cut [] from 7 to 13 (fun W => Hid (Fb w W d l RS MS g ⟨rs, rt, x⟩))
  case first =>
    have ke0 := B0.out.f.ce
    have B1 := Lib.hid (B0.out.next (Below.refl _ _).drew)
    have KD : (fun W : World => W.cell? ⟨w.heap.size, 0, none⟩ = some (.pointer (some ⟨d, 0, none⟩)) ∧ Hid (∃ x, Fb w W d l RS MS g ⟨rs, rt, x⟩)) W1.drew := ⟨by simpa using ke0, Lib.hid ⟨_, B1.out⟩⟩
    refine wp_region_noPanic ?_
    refine wp_region_held_drew (S := fun W => W.cell? ⟨w.heap.size, 0, none⟩ = some (.pointer (some ⟨d, 0, none⟩)) ∧ Hid (∃ x, Fb w W d l RS MS g ⟨rs, rt, x⟩)) (by kernel_rfl) (by exact KD) (fun hHeld => ?_)
    refine wpAnyH_take (i := 0) (v := ?_) rfl (by kernel_rfl) (by kernel_rfl) (by kernel_rfl) (fun _ _ _ h => h) (Or.inl ⟨by rfl, ?_⟩) (by assumption) ?_
    rotate_left
    · (intro W hSw; simp only [List.getElem_toArray, List.getElem_cons_zero]; (try dsimp only at hSw); go_simp; with_reducible rfl)
    simp only [List.getElem_toArray, List.getElem_cons_zero, Act.put, List.setIfInBounds_toArray, List.set_cons_zero, List.set_cons_succ]
    refine wpAnyH_take (i := 2) (v := ?_) rfl (by kernel_rfl) (by kernel_rfl) (by kernel_rfl) (fun _ _ _ h => h) (Or.inl ⟨by rfl, ?_⟩) (by assumption) ?_
    rotate_left
    · (intro W hSw; simp only [List.getElem_toArray, List.getElem_cons_succ, List.getElem_cons_zero]; (try dsimp only at hSw); go_simp; with_reducible rfl)
    simp only [List.getElem_toArray, List.getElem_cons_succ, List.getElem_cons_zero, Act.put, List.setIfInBounds_toArray, List.set_cons_zero, List.set_cons_succ]
    refine wpAnyH_take (i := 3) (v := ?_) rfl (by kernel_rfl) (by kernel_rfl) (by kernel_rfl) (fun _ _ _ h => h) (Or.inl ⟨by rfl, ?_⟩) (by assumption) ?_
    rotate_left
    · (intro W hSw; simp only [List.getElem_toArray, List.getElem_cons_succ, List.getElem_cons_zero]; (try dsimp only at hSw); go_simp; with_reducible rfl)
    simp only [List.getElem_toArray, List.getElem_cons_succ, List.getElem_cons_zero, Act.put, List.setIfInBounds_toArray, List.set_cons_zero, List.set_cons_succ]
    refine wpAnyH_ready (rs := [1, 4]) (by kernel_rfl) (by simp) ?_
    refine AllReadyH.cons rfl (fun K hK => ?_) (AllReadyH.cons rfl (fun K hK => ?_) AllReadyH.nil)
    · (try simp only [List.getElem_toArray, List.getElem_cons_succ, List.getElem_cons_zero])
      have c1 := B1.out.cells.2.2.1
      go_simp
      go_wp2_with fail
      refine hK.out _ _ hHeld (fun hHeld => ?_)
      (try simp only [List.getElem_toArray, List.getElem_cons_succ, List.getElem_cons_zero, Act.put, List.setIfInBounds_toArray, List.set_cons_zero, List.set_cons_succ])
      refine wpAnyH_ready (rs := [4]) (by kernel_rfl) (by simp) ?_
      refine AllReadyH.cons rfl (fun K hK => ?_) AllReadyH.nil
      (try simp only [List.getElem_toArray, List.getElem_cons_succ, List.getElem_cons_zero])
      go_simp
      have FC := Lib.hid (FR.out _ B1.out.f.bel)
      go_wp2_with (go_at_call 100; refine FC.out.mono ?_; rintro e w4 ⟨rfl, b1⟩)
      have B4 := Lib.hid (B1.out.next b1)
      have e4 := B4.out.f.ce
      refine hK.out _ _ ⟨e4, Lib.hid ⟨_, B4.out⟩⟩ (fun hHeld => ?_)
      (try simp only [List.getElem_toArray, List.getElem_cons_succ, List.getElem_cons_zero, Act.put, List.setIfInBounds_toArray, List.set_cons_zero, List.set_cons_succ])
      refine wpAnyH_take (i := 5) (v := ?_) rfl (by kernel_rfl) (by kernel_rfl) (by kernel_rfl) (fun _ _ _ h => h) (Or.inl ⟨by rfl, ?_⟩) (by assumption) ?_
      rotate_left
      · (intro W hSw; simp only [List.getElem_toArray, List.getElem_cons_succ, List.getElem_cons_zero]; (try dsimp only at hSw); go_simp; with_reducible rfl)
      simp only [List.getElem_toArray, List.getElem_cons_succ, List.getElem_cons_zero, Act.put, List.setIfInBounds_toArray, List.set_cons_zero, List.set_cons_succ]
      refine wpAnyH_take (i := 6) (v := ?_) rfl (by kernel_rfl) (by kernel_rfl) (by kernel_rfl) (fun _ _ _ h => h) (Or.inl ⟨by rfl, ?_⟩) (by assumption) ?_
      rotate_left
      · (intro W hSw; simp only [List.getElem_toArray, List.getElem_cons_succ, List.getElem_cons_zero]; (try dsimp only at hSw); go_simp; with_reducible rfl)
      simp only [List.getElem_toArray, List.getElem_cons_succ, List.getElem_cons_zero, Act.put, List.setIfInBounds_toArray, List.set_cons_zero, List.set_cons_succ]
      refine wpAnyH_ready (rs := [7]) (by kernel_rfl) (by simp) ?_
      refine AllReadyH.cons rfl (fun K hK => ?_) AllReadyH.nil
      (try simp only [List.getElem_toArray, List.getElem_cons_succ, List.getElem_cons_zero])
      have B5 := Lib.hid (B4.out.put x)
      have e5 := B5.out.f.ce
      have f5 := B4.out.cells.2.2.2 2
      have c5 := B4.out.cells.2.2.1
      go_simp
      go_wp2_with fail
      refine hK.out _ _ ⟨e5, Lib.hid ⟨_, B5.out⟩⟩ (fun hHeld => ?_)
      (try simp only [List.getElem_toArray, List.getElem_cons_succ, List.getElem_cons_zero, Act.put, List.setIfInBounds_toArray, List.set_cons_zero, List.set_cons_succ])
      refine wpAnyH_done (by kernel_rfl) ?_ _
      refine NoPanic.normal ?_
      go_wp2_with fail
      go_meet
      exact B5
    · (try simp only [List.getElem_toArray, List.getElem_cons_succ, List.getElem_cons_zero])
      go_simp
      have FC := Lib.hid (FR.out _ B1.out.f.bel)
      go_wp2_with (go_at_call 100; refine FC.out.mono ?_; rintro e w4 ⟨rfl, b1⟩)
      have B4 := Lib.hid (B1.out.next b1)
      have e4 := B4.out.f.ce
      refine hK.out _ _ ⟨e4, Lib.hid ⟨_, B4.out⟩⟩ (fun hHeld => ?_)
      (try simp only [List.getElem_toArray, List.getElem_cons_succ, List.getElem_cons_zero, Act.put, List.setIfInBounds_toArray, List.set_cons_zero, List.set_cons_succ])
      refine wpAnyH_ready (rs := [1]) (by kernel_rfl) (by simp) ?_
      refine AllReadyH.cons rfl (fun K hK => ?_) AllReadyH.nil
      (try simp only [List.getElem_toArray, List.getElem_cons_succ, List.getElem_cons_zero])
      have c1 := B4.out.cells.2.2.1
      go_simp
      go_wp2_with fail
      refine hK.out _ _ hHeld (fun hHeld => ?_)
      (try simp only [List.getElem_toArray, List.getElem_cons_succ, List.getElem_cons_zero, Act.put, List.setIfInBounds_toArray, List.set_cons_zero, List.set_cons_succ])
      refine wpAnyH_take (i := 5) (v := ?_) rfl (by kernel_rfl) (by kernel_rfl) (by kernel_rfl) (fun _ _ _ h => h) (Or.inl ⟨by rfl, ?_⟩) (by assumption) ?_
      rotate_left
      · (intro W hSw; simp only [List.getElem_toArray, List.getElem_cons_succ, List.getElem_cons_zero]; (try dsimp only at hSw); go_simp; with_reducible rfl)
      simp only [List.getElem_toArray, List.getElem_cons_succ, List.getElem_cons_zero, Act.put, List.setIfInBounds_toArray, List.set_cons_zero, List.set_cons_succ]
      refine wpAnyH_take (i := 6) (v := ?_) rfl (by kernel_rfl) (by kernel_rfl) (by kernel_rfl) (fun _ _ _ h => h) (Or.inl ⟨by rfl, ?_⟩) (by assumption) ?_
      rotate_left
      · (intro W hSw; simp only [List.getElem_toArray, List.getElem_cons_succ, List.getElem_cons_zero]; (try dsimp only at hSw); go_simp; with_reducible rfl)
      simp only [List.getElem_toArray, List.getElem_cons_succ, List.getElem_cons_zero, Act.put, List.setIfInBounds_toArray, List.set_cons_zero, List.set_cons_succ]
      refine wpAnyH_ready (rs := [7]) (by kernel_rfl) (by simp) ?_
      refine AllReadyH.cons rfl (fun K hK => ?_) AllReadyH.nil
      (try simp only [List.getElem_toArray, List.getElem_cons_succ, List.getElem_cons_zero])
      have B5 := Lib.hid (B4.out.put x)
      have e5 := B5.out.f.ce
      have f5 := B4.out.cells.2.2.2 2
      have c5 := B4.out.cells.2.2.1
      go_simp
      go_wp2_with fail
      refine hK.out _ _ ⟨e5, Lib.hid ⟨_, B5.out⟩⟩ (fun hHeld => ?_)
      (try simp only [List.getElem_toArray, List.getElem_cons_succ, List.getElem_cons_zero, Act.put, List.setIfInBounds_toArray, List.set_cons_zero, List.set_cons_succ])
      refine wpAnyH_done (by kernel_rfl) ?_ _
      refine NoPanic.normal ?_
      go_wp2_with fail
      go_meet
      exact B5
  case rest =>
  have X0 := Lib.hid hcut.out
  clear hcut B0 FR ho
  obtain ⟨c0, c1, c2, cf⟩ := X0.out.cells
  obtain ⟨bx, hbx⟩ : ∃ bx, ((x : Int) != 0) = bx := ⟨_, rfl⟩
  go_upto_if 16 with fail
  go_cut [] from 17 to 20 (fun W => Hid (Fb w W d l RS' MS g ⟨rs, rt, x⟩))
  case first =>
    have HB := Lib.hid hbx
    clear hbx
    cases bx
    · have x0 : Hid (x = 0) := Lib.hid (by simpa using HB.out)
      have X1 : Hid (Fb w wc d l RS' MS g ⟨rs, rt, x⟩) := Lib.hid (by rw [← HRS.out]; unfold kept; rw [if_pos x0.out, List.append_nil]; exact X0.out)
      go_wp2_with fail
      go_meet
      exact X1
    · have x0 : Hid (¬ x = 0) := Lib.hid (by simpa using HB.out)
      have EK : Hid (kept x ⟨rs, rt, rx⟩ = [⟨rs, rt, x⟩]) := Lib.hid (by unfold kept; rw [if_neg x0.out])
      obtain ⟨A, c, h1, h2⟩ := X0.out.f.r
      have nb := below_alloc wc (robj ⟨rs, rt, x⟩)
      have z := X0.out.f.sz
      have s1 : wc.cell? ⟨w.heap.size + 1 + 1, 0, none⟩ = some (.slice A RS.length c) := by rw [cell_of_row wc _ _ _ _ _ h1]; rfl
      have X2 := Lib.hid (X0.out.next nb)
      have H1 := Lib.hid ((nb.block _ (by omega)).trans h1)
      have O2 := Lib.hid (h2.below nb)
      have N2 := Lib.hid (heap_alloc_new wc (robj ⟨rs, rt, x⟩))
      have n0 : (wc.alloc (robj ⟨rs, rt, x⟩)).cell? ⟨wc.heap.size, 0, none⟩ = some (.int .u64 (rs : Int)) := by rw [cell_of_row _ _ _ _ _ _ N2.out]; rfl
      have n1 : (wc.alloc (robj ⟨rs, rt, x⟩)).cell? ⟨wc.heap.size, 1, none⟩ = some (.int .u64 (rt : Int)) := by rw [cell_of_row _ _ _ _ _ _ N2.out]; rfl
      have n2 : (wc.alloc (robj ⟨rs, rt, x⟩)).cell? ⟨wc.heap.size, 2, none⟩ = some (.int .u64 (x : Int)) := by rw [cell_of_row _ _ _ _ _ _ N2.out]; rfl
      have NN0 := Lib.hid n0
      have NN1 := Lib.hid n1
      have NN2 := Lib.hid n2
      have ZZ : Hid (w.heap.size + 4 ≤ (wc.alloc (robj ⟨rs, rt, x⟩)).heap.size) := Lib.hid X2.out.f.sz
      clear h1 h2 nb n0 n1 n2 N2 z
      go_wp2_with (at_builtin; refine wp_appRu (.tmp 17) (.tmp 19) _ rfl rfl (w.heap.size + 4) _ RS rfl O2.out wc.heap.size rfl ⟨rs, rt, x⟩ NN0.out NN1.out NN2.out (by omega) ZZ.out (RS.length + 1) rfl ?_; intro A' c' w1 hO hg hK hb; have X3 := Lib.hid (X2.out.more H1.out O2.out hO rfl hg hK hb); have sf : w1.frozen? ⟨w.heap.size + 1 + 1, 0, none⟩ = false := (by have := (hb.block (w.heap.size + 1 + 1) (by omega)).trans H1.out; simp [World.frozen?, this]); have sc : w1.cell? ⟨w.heap.size + 1 + 1, 0, none⟩ = some (.slice A RS.length c) := (by rw [cell_of_row w1 _ _ _ _ _ ((hb.block (w.heap.size + 1 + 1) (by omega)).trans H1.out)]; rfl); clear hO hg hK hb)
      go_meet
      rw [← HRS.out, EK.out]
      exact X3.out
  case rest =>
  have X4 := Lib.hid hcut.out
  clear hcut X0 c0 c1 c2 cf hbx
  have ce := X4.out.f.ce
  have cb := X4.out.f.cd GG.out.c2
  obtain ⟨bY, hbY⟩ : ∃ b, ((y : Int) != 0) = b := ⟨_, rfl⟩
  go_upto_if 28 with fail
  have HB := Lib.hid hbY
  clear hbY
  cases bY
  · have FE : Hid (Fd w wc d l RS' (MS ++ ms)) := Lib.hid (by rw [HIT.out, if_pos (by simpa using HB.out), List.append_nil]; exact X4.out.f)
    go_wp2_with fail
    refine bodyPost_end (v := .tuple #[]) ?_ rfl ⟨rfl, FE.out⟩
    simp [results, Tryz.results99]
  · have EM : Hid (ms = [(rs, next)]) := Lib.hid (by rw [HIT.out, if_neg (by simpa using HB.out)])
    go_upto_region 5 with fail
    have X5 := Lib.hid (X4.out.next (Below.refl _ _).drew)
    have KD : (fun W : World => W.cell? ⟨w.heap.size, 0, none⟩ = some (.pointer (some ⟨d, 0, none⟩)) ∧ W.cell? ⟨d, 5, none⟩ = some (.int .u64 (next : Int)) ∧ W.cell? ⟨g, 0, none⟩ = some (.int .u64 (rs : Int)) ∧ True) wc.drew := ⟨X5.out.f.ce, X5.out.f.cd NN.out, X5.out.cells.1, trivial⟩
    refine wp_region_noPanic ?_
    refine wp_region_held_drew (S := fun W => W.cell? ⟨w.heap.size, 0, none⟩ = some (.pointer (some ⟨d, 0, none⟩)) ∧ W.cell? ⟨d, 5, none⟩ = some (.int .u64 (next : Int)) ∧ W.cell? ⟨g, 0, none⟩ = some (.int .u64 (rs : Int)) ∧ True) (by kernel_rfl) (by exact KD) (fun hHeld => ?_)
    refine wpAnyH_take (i := 1) (v := ?_) rfl (by kernel_rfl) (by kernel_rfl) (by kernel_rfl) (fun _ _ _ h => h) (Or.inl ⟨by rfl, ?_⟩) (by assumption) ?_
    rotate_left
    · (intro W hSw; simp only [List.getElem_toArray, List.getElem_cons_succ, List.getElem_cons_zero]; (try dsimp only at hSw); go_simp; with_reducible rfl)
    simp only [List.getElem_toArray, List.getElem_cons_succ, List.getElem_cons_zero, Act.put, List.setIfInBounds_toArray, List.set_cons_zero, List.set_cons_succ]
    refine wpAnyH_take (i := 2) (v := ?_) rfl (by kernel_rfl) (by kernel_rfl) (by kernel_rfl) (fun _ _ _ h => h) (Or.inl ⟨by rfl, ?_⟩) (by assumption) ?_
    rotate_left
    · (intro W hSw; simp only [List.getElem_toArray, List.getElem_cons_succ, List.getElem_cons_zero]; (try dsimp only at hSw); go_simp; with_reducible rfl)
    simp only [List.getElem_toArray, List.getElem_cons_succ, List.getElem_cons_zero, Act.put, List.setIfInBounds_toArray, List.set_cons_zero, List.set_cons_succ]
    refine wpAnyH_take (i := 3) (v := ?_) rfl (by kernel_rfl) (by kernel_rfl) (by kernel_rfl) (fun _ _ _ h => h) (Or.inl ⟨by rfl, ?_⟩) (by assumption) ?_
    rotate_left
    · (intro W hSw; simp only [List.getElem_toArray, List.getElem_cons_succ, List.getElem_cons_zero]; (try dsimp only at hSw); go_simp; with_reducible rfl)
    simp only [List.getElem_toArray, List.getElem_cons_succ, List.getElem_cons_zero, Act.put, List.setIfInBounds_toArray, List.set_cons_zero, List.set_cons_succ]
    refine wpAnyH_take (i := 4) (v := ?_) rfl (by kernel_rfl) (by kernel_rfl) (by kernel_rfl) (fun _ _ _ h => h) (Or.inl ⟨by rfl, ?_⟩) (by assumption) ?_
    rotate_left
    · (intro W hSw; simp only [List.getElem_toArray, List.getElem_cons_succ, List.getElem_cons_zero]; (try dsimp only at hSw); go_simp; with_reducible rfl)
    simp only [List.getElem_toArray, List.getElem_cons_succ, List.getElem_cons_zero, Act.put, List.setIfInBounds_toArray, List.set_cons_zero, List.set_cons_succ]
    refine wpAnyH_take (i := 5) (v := ?_) rfl (by kernel_rfl) (by kernel_rfl) (by kernel_rfl) (fun _ _ _ h => h) (Or.inl ⟨by rfl, ?_⟩) (by assumption) ?_
    rotate_left
    · (intro W hSw; simp only [List.getElem_toArray, List.getElem_cons_succ, List.getElem_cons_zero]; (try dsimp only at hSw); go_simp; with_reducible rfl)
    simp only [List.getElem_toArray, List.getElem_cons_succ, List.getElem_cons_zero, Act.put, List.setIfInBounds_toArray, List.set_cons_zero, List.set_cons_succ]
    refine wpAnyH_take (i := 6) (v := ?_) rfl (by kernel_rfl) (by kernel_rfl) (by kernel_rfl) (fun _ _ _ h => h) (Or.inl ⟨by rfl, ?_⟩) (by assumption) ?_
    rotate_left
    · (intro W hSw; simp only [List.getElem_toArray, List.getElem_cons_succ, List.getElem_cons_zero]; (try dsimp only at hSw); go_simp; with_reducible rfl)
    simp only [List.getElem_toArray, List.getElem_cons_succ, List.getElem_cons_zero, Act.put, List.setIfInBounds_toArray, List.set_cons_zero, List.set_cons_succ]
    refine wpAnyH_take (i := 7) (v := ?_) rfl (by kernel_rfl) (by kernel_rfl) (by kernel_rfl) (fun _ _ _ h => h) (Or.inl ⟨by rfl, ?_⟩) (by assumption) ?_
    rotate_left
    · (intro W hSw; simp only [List.getElem_toArray, List.getElem_cons_succ, List.getElem_cons_zero]; (try dsimp only at hSw); go_simp; with_reducible rfl)
    simp only [List.getElem_toArray, List.getElem_cons_succ, List.getElem_cons_zero, Act.put, List.setIfInBounds_toArray, List.set_cons_zero, List.set_cons_succ]
    refine wpAnyH_take (i := 8) (v := ?_) rfl (by kernel_rfl) (by kernel_rfl) (by kernel_rfl) (fun _ _ _ h => h) (Or.inl ⟨by rfl, ?_⟩) (by assumption) ?_
    rotate_left
    · (intro W hSw; simp only [List.getElem_toArray, List.getElem_cons_succ, List.getElem_cons_zero]; (try dsimp only at hSw); go_simp; with_reducible rfl)
    simp only [List.getElem_toArray, List.getElem_cons_succ, List.getElem_cons_zero, Act.put, List.setIfInBounds_toArray, List.set_cons_zero, List.set_cons_succ]
    refine wpAnyH_ready (rs := [0, 9]) (by kernel_rfl) (by simp) ?_
    refine AllReadyH.cons rfl (fun K hK => ?_) (AllReadyH.cons rfl (fun K hK => ?_) AllReadyH.nil)
    · (try simp only [List.getElem_toArray, List.getElem_cons_zero])
      obtain ⟨A5, c5, h1, h2⟩ := X5.out.f.m
      have s1 : (wc.drew).cell? ⟨w.heap.size + 1 + 1 + 1, 0, none⟩ = some (.slice A5 MS.length c5) := by rw [cell_of_row _ _ _ _ _ _ h1]; rfl
      clear h2
      have H6 := Lib.hid h1
      clear h1
      go_simp
      go_wp2_with fail
      refine hK.out _ _ hHeld (fun hHeld => ?_)
      (try simp only [List.getElem_toArray, List.getElem_cons_succ, List.getElem_cons_zero, Act.put, List.setIfInBounds_toArray, List.set_cons_zero, List.set_cons_succ])
      refine wpAnyH_ready (rs := [9]) (by kernel_rfl) (by simp) ?_
      refine AllReadyH.cons rfl (fun K hK => ?_) AllReadyH.nil
      (try simp only [List.getElem_toArray, List.getElem_cons_succ, List.getElem_cons_zero])
      have nb := below_alloc wc.drew (.cells #[.int .u64 (rs : Int), .int .u64 (next : Int)] 107)
      have n1 := heap_alloc_new wc.drew (.cells #[.int .u64 (rs : Int), .int .u64 (next : Int)] 107)
      have X6 := Lib.hid (X5.out.next nb)
      have M0 : Hid ((wc.drew.alloc (.cells #[.int .u64 (rs : Int), .int .u64 (next : Int)] 107)).cell? ⟨wc.drew.heap.size, 0, none⟩ = some (.int .u64 (rs : Int))) := Lib.hid (by rw [cell_of_row _ _ _ _ _ _ n1]; rfl)
      have M1 : Hid ((wc.drew.alloc (.cells #[.int .u64 (rs : Int), .int .u64 (next : Int)] 107)).cell? ⟨wc.drew.heap.size, 1, none⟩ = some (.int .u64 (next : Int))) := Lib.hid (by rw [cell_of_row _ _ _ _ _ _ n1]; rfl)
      have NB := Lib.hid nb
      clear n1 nb
      have H7 := Lib.hid ((NB.out.block _ (by have := X5.out.f.sz; omega)).trans H6.out)
      clear H6
      have H6 := H7
      clear H7
      have O6 := Lib.hid (X6.out.f.mow H6.out)
      go_simp
      go_wp2_with fail
      refine hK.out _ _ ⟨X6.out.f.ce, X6.out.f.cd NN.out, X6.out.cells.1, trivial⟩ (fun hHeld => ?_)
      (try simp only [List.getElem_toArray, List.getElem_cons_succ, List.getElem_cons_zero, Act.put, List.setIfInBounds_toArray, List.set_cons_zero, List.set_cons_succ])
      refine wpAnyH_ready (rs := [10]) (by kernel_rfl) (by simp) ?_
      refine AllReadyH.cons rfl (fun K hK => ?_) AllReadyH.nil
      (try simp only [List.getElem_toArray, List.getElem_cons_succ, List.getElem_cons_zero])
      refine Eq.mpr (if_pos (by rfl)) ?_
      refine wp_appMk1 (.tmp 29) (.tmp 38) _ rfl (w.heap.size + 4) _ MS rfl O6.out wc.drew.heap.size rfl (rs, next) M0.out M1.out (by omega) X6.out.f.sz (MS.length + 1) rfl ?_
      intro A6 c6 w6 hO hKt hb
      have X7 := Lib.hid (X6.out.moreM H6.out hO rfl hKt hb)
      have sz6 := X6.out.f.sz
      have r6 := (hb.block (w.heap.size + 1 + 1 + 1) (by omega)).trans H6.out
      have sf : w6.frozen? ⟨w.heap.size + 1 + 1 + 1, 0, none⟩ = false := by simp [World.frozen?, r6]
      have sc : w6.cell? ⟨w.heap.size + 1 + 1 + 1, 0, none⟩ = some (.slice A5 MS.length c5) := by rw [cell_of_row _ _ _ _ _ _ r6]; rfl
      have e7 := (World.cell?_of_block (hb.block (w.heap.size) (by omega))).trans X6.out.f.ce
      have d7 := (hb.cell (p := ⟨d, 5, none⟩) (by have := World.block_lt_of_cell? _ _ NN.out; show d < _; have : d < w.heap.size := this; omega)).trans (X6.out.f.cd NN.out)
      have g7 := (World.cell?_of_block (hKt g _ _ _ X6.out.b (by decide))).trans X6.out.cells.1
      clear hO hKt hb r6 sz6
      refine hK.out _ _ ⟨e7, d7, g7, trivial⟩ (fun hHeld => ?_)
      (try simp only [Act.put, List.setIfInBounds_toArray, List.set_cons_zero, List.set_cons_succ])
      refine wpAnyH_ready (rs := [11]) (by kernel_rfl) (by simp) ?_
      refine AllReadyH.cons rfl (fun K hK => ?_) AllReadyH.nil
      (try simp only [List.getElem_toArray, List.getElem_cons_succ, List.getElem_cons_zero])
      go_simp
      go_wp2_with fail
      refine hK.out _ _ ⟨X7.out.f.ce, X7.out.f.cd NN.out, X7.out.cells.1, trivial⟩ (fun hHeld => ?_)
      (try simp only [List.getElem_toArray, List.getElem_cons_succ, List.getElem_cons_zero, Act.put, List.setIfInBounds_toArray, List.set_cons_zero, List.set_cons_succ])
      refine wpAnyH_done (by kernel_rfl) ?_ _
      refine NoPanic.normal ?_
      go_wp2_with fail
      have FE := X7.out.f
      rw [← EM.out] at FE
      refine bodyPost_end (v := .tuple #[]) ?_ rfl ⟨rfl, FE⟩
      simp [results, Tryz.results99]
    · (try simp only [List.getElem_toArray, List.getElem_cons_succ, List.getElem_cons_zero])
      have nb := below_alloc wc.drew (.cells #[.int .u64 (rs : Int), .int .u64 (next : Int)] 107)
      have n1 := heap_alloc_new wc.drew (.cells #[.int .u64 (rs : Int), .int .u64 (next : Int)] 107)
      have X6 := Lib.hid (X5.out.next nb)
      have M0 : Hid ((wc.drew.alloc (.cells #[.int .u64 (rs : Int), .int .u64 (next : Int)] 107)).cell? ⟨wc.drew.heap.size, 0, none⟩ = some (.int .u64 (rs : Int))) := Lib.hid (by rw [cell_of_row _ _ _ _ _ _ n1]; rfl)
      have M1 : Hid ((wc.drew.alloc (.cells #[.int .u64 (rs : Int), .int .u64 (next : Int)] 107)).cell? ⟨wc.drew.heap.size, 1, none⟩ = some (.int .u64 (next : Int))) := Lib.hid (by rw [cell_of_row _ _ _ _ _ _ n1]; rfl)
      have NB := Lib.hid nb
      clear n1 nb
      go_simp
      go_wp2_with fail
      refine hK.out _ _ ⟨X6.out.f.ce, X6.out.f.cd NN.out, X6.out.cells.1, trivial⟩ (fun hHeld => ?_)
      (try simp only [List.getElem_toArray, List.getElem_cons_succ, List.getElem_cons_zero, Act.put, List.setIfInBounds_toArray, List.set_cons_zero, List.set_cons_succ])
      refine wpAnyH_ready (rs := [0]) (by kernel_rfl) (by simp) ?_
      refine AllReadyH.cons rfl (fun K hK => ?_) AllReadyH.nil
      (try simp only [List.getElem_toArray, List.getElem_cons_zero])
      obtain ⟨A5, c5, h1, h2⟩ := X6.out.f.m
      have s1 : (wc.drew.alloc (.cells #[.int .u64 (rs : Int), .int .u64 (next : Int)] 107)).cell? ⟨w.heap.size + 1 + 1 + 1, 0, none⟩ = some (.slice A5 MS.length c5) := by rw [cell_of_row _ _ _ _ _ _ h1]; rfl
      clear h2
      have s2 : (wc.alloc (.cells #[.int .u64 (rs : Int), .int .u64 (next : Int)] 107)).cell? ⟨w.heap.size + 1 + 1 + 1, 0, none⟩ = some (.slice A5 MS.length c5) := s1
      have s3 : wc.cell? ⟨w.heap.size + 1 + 1 + 1, 0, none⟩ = some (.slice A5 MS.length c5) := (World.cell?_of_block ((below_alloc wc _).block _ (by have := X4.out.f.sz; show w.heap.size + 1 + 1 + 1 < _; omega))).symm.trans s2
      have H6 := Lib.hid h1
      clear h1
      have O6 := Lib.hid (X6.out.f.mow H6.out)
      go_simp
      go_wp2_with fail
      refine hK.out _ _ ⟨X6.out.f.ce, X6.out.f.cd NN.out, X6.out.cells.1, trivial⟩ (fun hHeld => ?_)
      (try simp only [List.getElem_toArray, List.getElem_cons_succ, List.getElem_cons_zero, Act.put, List.setIfInBounds_toArray, List.set_cons_zero, List.set_cons_succ])
      rw [show (wc.alloc (.cells #[.int .u64 (rs : Int), .int .u64 (next : Int)] 107)).drew = wc.drew.alloc (.cells #[.int .u64 (rs : Int), .int .u64 (next : Int)] 107) from rfl]
      refine wpAnyH_ready (rs := [10]) (by kernel_rfl) (by simp) ?_
      refine AllReadyH.cons rfl (fun K hK => ?_) AllReadyH.nil
      (try simp only [List.getElem_toArray, List.getElem_cons_succ, List.getElem_cons_zero])
      refine Eq.mpr (if_pos (by rfl)) ?_
      refine wp_appMk1 (.tmp 29) (.tmp 38) _ rfl (w.heap.size + 4) _ MS rfl O6.out wc.drew.heap.size rfl (rs, next) M0.out M1.out (by omega) X6.out.f.sz (MS.length + 1) rfl ?_
      intro A6 c6 w6 hO hKt hb
      have X7 := Lib.hid (X6.out.moreM H6.out hO rfl hKt hb)
      have sz6 := X6.out.f.sz
      have r6 := (hb.block (w.heap.size + 1 + 1 + 1) (by omega)).trans H6.out
      have sf : w6.frozen? ⟨w.heap.size + 1 + 1 + 1, 0, none⟩ = false := by simp [World.frozen?, r6]
      have sc : w6.cell? ⟨w.heap.size + 1 + 1 + 1, 0, none⟩ = some (.slice A5 MS.length c5) := by rw [cell_of_row _ _ _ _ _ _ r6]; rfl
      have e7 := (World.cell?_of_block (hb.block (w.heap.size) (by omega))).trans X6.out.f.ce
      have d7 := (hb.cell (p := ⟨d, 5, none⟩) (by have := World.block_lt_of_cell? _ _ NN.out; show d < _; have : d < w.heap.size := this; omega)).trans (X6.out.f.cd NN.out)
      have g7 := (World.cell?_of_block (hKt g _ _ _ X6.out.b (by decide))).trans X6.out.cells.1
      clear hO hKt hb r6 sz6
      refine hK.out _ _ ⟨e7, d7, g7, trivial⟩ (fun hHeld => ?_)
      (try simp only [Act.put, List.setIfInBounds_toArray, List.set_cons_zero, List.set_cons_succ])
      refine wpAnyH_ready (rs := [11]) (by kernel_rfl) (by simp) ?_
      refine AllReadyH.cons rfl (fun K hK => ?_) AllReadyH.nil
      (try simp only [List.getElem_toArray, List.getElem_cons_succ, List.getElem_cons_zero])
      go_simp
      go_wp2_with fail
      refine hK.out _ _ ⟨X7.out.f.ce, X7.out.f.cd NN.out, X7.out.cells.1, trivial⟩ (fun hHeld => ?_)
      (try simp only [List.getElem_toArray, List.getElem_cons_succ, List.getElem_cons_zero, Act.put, List.setIfInBounds_toArray, List.set_cons_zero, List.set_cons_succ])
      refine wpAnyH_done (by kernel_rfl) ?_ _
      refine NoPanic.normal ?_
      go_wp2_with fail
      have FE := X7.out.f
      rw [← EM.out] at FE
      refine bodyPost_end (v := .tuple #[]) ?_ rfl ⟨rfl, FE⟩
      simp [results, Tryz.results99]
end Go.Proofs.YtpnllbojifnopaaGreatDoor
