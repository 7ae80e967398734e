/- The statement's own walks, walked. -/
import Derived.Test.YtpnllbojifnopaaGreatDoorZAiD
import Derived.Deep.RegionLaw
namespace Go.Proofs.YtpnllbojifnopaaGreatDoor
open Go Go.RowKit Go.Maps Pk Rl
set_option maxRecDepth 20000
def hvR (R : List Lg) : Hv := fun v j => phold v.1 v.2.1 v.2.2 (R.getD j lz).t (R.getD j lz).E
theorem hq_hv (R : List Lg) (q : Qu) (j : Nat) : hq R q j = hvR R (vq q) j := rfl
abbrev sR (a b : Nat) (Ps : List Qu) (Es : List Ed) : Res := (a, b, Ps.map vq, Es.map ve)
def HR (R : List Lg) (Ps : List Qu) : Nat → Nat → Bool := fun q j => hq R (Ps.getD q qz) j
abbrev RC (R : List Lg) (a b : Nat) (Ps : List Qu) (Es : List Ed) (i j e k j2 q : Nat) : Prop := Rch (hvR R) (HR R Ps) R.length (sR a b Ps Es) i j e k j2 q
abbrev RA (R : List Lg) (a b : Nat) (Ps : List Qu) (Es : List Ed) (i q j : Nat) : Prop := AT (hvR R) (HR R Ps) R.length (sR a b Ps Es) i q j
abbrev Kwx (w W : World) (cp a b : Nat) (Ae : Option Addr) (ke ce kp N : Nat) (f : Rl2) (i q gq : Nat) (x : Bool) (t : Int) (qa : Option Addr) (qn qc : Nat) (rb ro : Nat) (yt : Int) (ya : Option Addr) (yn yc : Nat) : Prop :=
  W.cell? ⟨w.heap.size, 0, none⟩ = some (.slice (some ⟨gq, 0, none⟩) kp cp) ∧ W.cell? ⟨w.heap.size, 1, none⟩ = some (.int .u32 (a : Int)) ∧ W.cell? ⟨w.heap.size + 1, i, none⟩ = some (rowN (w.heap.size + 1) kp i) ∧
  W.cell? ⟨gq, q * 3, none⟩ = some (.bool x) ∧ W.cell? ⟨gq, q * 3 + 1, none⟩ = some (.int .u8 t) ∧ W.cell? ⟨gq, q * 3 + 2, none⟩ = some (.slice qa qn qc) ∧ W.cell? ⟨rb, ro + i * 5 + 3, none⟩ = some (.int .u8 yt) ∧ W.cell? ⟨rb, ro + i * 5 + 4, none⟩ = some (.slice ya yn yc) ∧
  Hid (∃ v : Bool, Wx w W (some ⟨gq, 0, none⟩) kp cp a b Ae ke ce N N (fun c d => if c = i ∧ d = q then v else f c d))
theorem kwx_next {w W W' : World} {cp a b : Nat} {Ae : Option Addr} {ke ce kp N : Nat} {f : Rl2} {i q gq : Nat} {x : Bool} {t : Int} {qa : Option Addr} {qn qc : Nat} {rb ro : Nat} {yt : Int} {ya : Option Addr} {yn yc : Nat} (hb : Below W.heap.size W W') (h : Kwx w W cp a b Ae ke ce kp N f i q gq x t qa qn qc rb ro yt ya yn yc) : Kwx w W' cp a b Ae ke ce kp N f i q gq x t qa qn qc rb ro yt ya yn yc := by
  have k := Ck.of_below hb
  obtain ⟨h0, h1, h2, h3, h4, h5, h6, h7, h8⟩ := h
  obtain ⟨v, h8⟩ := h8.out
  exact ⟨k _ _ _ h0, k _ _ _ h1, k _ _ _ h2, k _ _ _ h3, k _ _ _ h4, k _ _ _ h5, k _ _ _ h6, k _ _ _ h7, Lib.hid ⟨v, h8.next hb⟩⟩
theorem kwx_put {w W : World} {cp a b : Nat} {Ae : Option Addr} {ke ce kp N : Nat} {f : Rl2} {i q gq : Nat} {x : Bool} {t : Int} {qa : Option Addr} {qn qc : Nat} {rb ro : Nat} {yt : Int} {ya : Option Addr} {yn yc : Nat} (h : Kwx w W cp a b Ae ke ce kp N f i q gq x t qa qn qc rb ro yt ya yn yc) (hi : i < N) (hq : q < kp) (h1 : gq < w.heap.size) (h2 : rb < w.heap.size) (u : Bool) :
    Kwx w (W.setCell ⟨w.heap.size + 1 + 1 + i, q, none⟩ (.bool u)) cp a b Ae ke ce kp N f i q gq x t qa qn qc rb ro yt ya yn yc ∧ Wx w (W.setCell ⟨w.heap.size + 1 + 1 + i, q, none⟩ (.bool u)) (some ⟨gq, 0, none⟩) kp cp a b Ae ke ce N N (fun c d => if c = i ∧ d = q then u else f c d) := by
  have k : ∀ {r j v}, r < w.heap.size + 1 + 1 → W.cell? ⟨r, j, none⟩ = some v → (W.setCell ⟨w.heap.size + 1 + 1 + i, q, none⟩ (.bool u)).cell? ⟨r, j, none⟩ = some v := fun {r j v} hr hc => (World.cell?_setCell_far W ⟨w.heap.size + 1 + 1 + i, q, none⟩ ⟨r, j, none⟩ (.bool u) (by show w.heap.size + 1 + 1 + i ≠ r; omega)).trans hc
  obtain ⟨g0, g1, g2, g3, g4, g5, g6, g7, g8⟩ := h
  obtain ⟨v, g8⟩ := g8.out
  have hW : Wx w (W.setCell ⟨w.heap.size + 1 + 1 + i, q, none⟩ (.bool u)) (some ⟨gq, 0, none⟩) kp cp a b Ae ke ce N N (fun c d => if c = i ∧ d = q then u else f c d) := by
    have h := g8.put i hi q hq u
    exact ⟨h.ab, h.mw.congr fun c d _ _ => by by_cases e : c = i ∧ d = q <;> simp [e], h.bel, h.big⟩
  exact ⟨⟨k (by omega) g0, k (by omega) g1, k (by omega) g2, k (by omega) g3, k (by omega) g4, k (by omega) g5, k (by omega) g6, k (by omega) g7, Lib.hid ⟨u, hW⟩⟩, hW⟩
def Or (W : World) (g N : Nat) (o : Nat → Bool) : Prop := ∃ cur, W.heap[g]? = some (.cells cur 4 (0, 0)) ∧ cur.size = N ∧ ∀ j, j < N → cur[j]? = some (.bool (o j))
theorem Or.cell {W : World} {g N : Nat} {o : Nat → Bool} (h : Or W g N o) (j : Nat) (hj : j < N) : W.cell? ⟨g, j, none⟩ = some (.bool (o j)) := by
  obtain ⟨cur, h1, _, h3⟩ := h
  rw [cell_of_row W g j _ _ _ h1]
  exact h3 j hj
theorem Or.free {W : World} {g N : Nat} {o : Nat → Bool} (h : Or W g N o) (j : Nat) : W.frozen? ⟨g, j, none⟩ = false := by
  obtain ⟨cur, h1, _⟩ := h
  simp [World.frozen?, h1]
theorem Or.lt {W : World} {g N : Nat} {o : Nat → Bool} (h : Or W g N o) : g < W.heap.size := by
  obtain ⟨cur, h1, _⟩ := h
  exact (Array.getElem?_eq_some_iff.1 h1).1
theorem Or.same {W W' : World} {g N : Nat} {o : Nat → Bool} (h : Or W g N o) (e : W'.heap[g]? = W.heap[g]?) : Or W' g N o := by
  unfold Or; rw [e]; exact h
theorem Or.put {W : World} {g N : Nat} {o : Nat → Bool} (h : Or W g N o) (j : Nat) (hj : j < N) (x : Bool) : Or (W.setCell ⟨g, j, none⟩ (.bool x)) g N (fun k => if k = j then x else o k) := by
  obtain ⟨cur, h1, h2, h3⟩ := h
  refine ⟨cur.set! j (.bool x), heap_setCell_same W g j _ _ _ h1, by simp [h2], fun k hk => ?_⟩
  by_cases e : k = j
  · subst e
    show _ = some (Value.bool (if k = k then x else o k))
    rw [if_pos rfl]
    simp [Array.set!_eq_setIfInBounds, Array.getElem?_setIfInBounds]
    omega
  · show _ = some (Value.bool (if k = j then x else o k))
    rw [if_neg e, ← h3 k hk]
    simp [Array.set!_eq_setIfInBounds, Array.getElem?_setIfInBounds]
    intro e2
    exact absurd e2.symm e
theorem Or.congr {W : World} {g N : Nat} {o o' : Nat → Bool} (h : Or W g N o) (e : ∀ j, j < N → o j = o' j) : Or W g N o' := by
  obtain ⟨cur, h1, h2, h3⟩ := h
  exact ⟨cur, h1, h2, fun j hj => by rw [h3 j hj, e j hj]⟩
theorem Or.made (W : World) (N : Nat) : Or (W.alloc (.cells (madeCells #[.bool false] N) 4)) W.heap.size N (fun _ => false) :=
  ⟨_, heap_alloc_new W _, by simp [madeCells], fun j hj => by simp [madeCells, Nat.mod_one, hj]⟩
structure Wo14 (w W : World) (Ap : Option Addr) (kp cp a b : Nat) (Ae : Option Addr) (ke ce N : Nat) (f : Rl2) (g : Nat) (o : Nat → Bool) : Prop where
  x : Wx w W Ap kp cp a b Ae ke ce N N f
  r : Or W g N o
  far : w.heap.size + 2 + N ≤ g
theorem Wo14.next {w W W' : World} {Ap : Option Addr} {kp cp a b : Nat} {Ae : Option Addr} {ke ce N : Nat} {f : Rl2} {g : Nat} {o : Nat → Bool} (h : Wo14 w W Ap kp cp a b Ae ke ce N f g o) (hb : Below W.heap.size W W') : Wo14 w W' Ap kp cp a b Ae ke ce N f g o :=
  ⟨h.x.next hb, h.r.same (hb.block g h.r.lt), h.far⟩
theorem Wo14.put {w W : World} {Ap : Option Addr} {kp cp a b : Nat} {Ae : Option Addr} {ke ce N : Nat} {f : Rl2} {g : Nat} {o : Nat → Bool} (h : Wo14 w W Ap kp cp a b Ae ke ce N f g o) (j : Nat) (hj : j < N) (q : Nat) (hq : q < kp) (x : Bool) : Wo14 w (W.setCell ⟨w.heap.size + 1 + 1 + j, q, none⟩ (.bool x)) Ap kp cp a b Ae ke ce N (fun a b => if a = j ∧ b = q then x else f a b) g o :=
  ⟨h.x.put j hj q hq x, h.r.same (heap_setCell_other W ⟨w.heap.size + 1 + 1 + j, q, none⟩ g _ (by have := h.far; show g ≠ w.heap.size + 1 + 1 + j; omega)), h.far⟩
theorem Wo14.ans {w W : World} {Ap : Option Addr} {kp cp a b : Nat} {Ae : Option Addr} {ke ce N : Nat} {f : Rl2} {g : Nat} {o : Nat → Bool} (h : Wo14 w W Ap kp cp a b Ae ke ce N f g o) (j : Nat) (hj : j < N) (x : Bool) : Wo14 w (W.setCell ⟨g, j, none⟩ (.bool x)) Ap kp cp a b Ae ke ce N f g (fun k => if k = j then x else o k) := by
  have hf := h.far
  refine ⟨⟨?_, h.x.mw.same fun y _ hy => heap_setCell_other W ⟨g, j, none⟩ y _ (by show y ≠ g; omega), h.x.bel.setCell (p := ⟨g, j, none⟩) (by show w.heap.size ≤ g; omega) _, by rw [World.size_setCell]; exact h.x.big⟩, h.r.put j hj x, hf⟩
  unfold AB
  rw [heap_setCell_other W ⟨g, j, none⟩ _ _ (by show w.heap.size ≠ g; omega)]
  exact h.x.ab
abbrev eobx (d : Ed) : Obj := .cells #[.int .u8 (d.f : Int), .int .u8 (d.t : Int), .bool d.y, .bool d.g.x, .int .u8 d.g.t, .slice d.g.a d.g.n d.g.c] 47
structure Wb (w W : World) (Ap : Option Addr) (kp cp a b : Nat) (Ae : Option Addr) (ke ce N : Nat) (f : Rl2) (g : Nat) (o : Nat → Bool) (ge : Nat) (d : Ed) : Prop where
  x : Wo14 w W Ap kp cp a b Ae ke ce N f g o
  e : W.heap[ge]? = some (eobx d)
  far : g < ge
section
variable {w W W' : World} {Ap : Option Addr} {kp cp a b : Nat} {Ae : Option Addr} {ke ce N : Nat} {f : Rl2} {g : Nat} {o : Nat → Bool} {ge : Nat} {d : Ed}
theorem Wb.start (h : Wo14 w W Ap kp cp a b Ae ke ce N f g o) (d : Ed) : Wb w (W.alloc (eobx d)) Ap kp cp a b Ae ke ce N f g o W.heap.size d := ⟨h.next (below_alloc _ _), heap_alloc_new W _, h.r.lt⟩
theorem Wb.lt (h : Wb w W Ap kp cp a b Ae ke ce N f g o ge d) : ge < W.heap.size := (Array.getElem?_eq_some_iff.1 h.e).1
theorem Wb.next (h : Wb w W Ap kp cp a b Ae ke ce N f g o ge d) (hb : Below W.heap.size W W') : Wb w W' Ap kp cp a b Ae ke ce N f g o ge d := ⟨h.x.next hb, (hb.block ge h.lt).trans h.e, h.far⟩
theorem Wb.put (h : Wb w W Ap kp cp a b Ae ke ce N f g o ge d) (j : Nat) (hj : j < N) (q : Nat) (hq : q < kp) (x : Bool) : Wb w (W.setCell ⟨w.heap.size + 1 + 1 + j, q, none⟩ (.bool x)) Ap kp cp a b Ae ke ce N (fun a b => if a = j ∧ b = q then x else f a b) g o ge d :=
  ⟨h.x.put j hj q hq x, by rw [heap_setCell_other W ⟨w.heap.size + 1 + 1 + j, q, none⟩ ge _ (by have := h.x.far; have := h.far; show ge ≠ w.heap.size + 1 + 1 + j; omega)]; exact h.e, h.far⟩
theorem Wb.cells (h : Wb w W Ap kp cp a b Ae ke ce N f g o ge d) : W.cell? ⟨ge, 0, none⟩ = some (.int .u8 (d.f : Int)) ∧ W.cell? ⟨ge, 1, none⟩ = some (.int .u8 (d.t : Int)) ∧ W.cell? ⟨ge, 2, none⟩ = some (.bool d.y) ∧ W.cell? ⟨ge, 3, none⟩ = some (.bool d.g.x) ∧ W.cell? ⟨ge, 4, none⟩ = some (.int .u8 d.g.t) ∧ W.cell? ⟨ge, 5, none⟩ = some (.slice d.g.a d.g.n d.g.c) := by
  refine ⟨?_, ?_, ?_, ?_, ?_, ?_⟩ <;> (rw [cell_of_row W ge _ _ _ _ h.e]; rfl)
end
def OJ (R : List Lg) (a b : Nat) (Ps : List Qu) (Es : List Ed) (i d j : Nat) (o : Nat → Bool) : Prop := (∀ j', i ≤ j' → j' < j → (o j' = true ↔ Acc (hvR R) (HR R Ps) R.length (sR a b Ps Es) i j')) ∧ ∀ j', j ≤ j' → j' < d → o j' = false
abbrev K29 (w W : World) (gq p cp a b gE ke ce d : Nat) (f : Rl2) (g : Nat) (o : Nat → Bool) (ge : Nat) (dd : Ed) (xg : Nat) (zx : Bool) (zt : Int) (za : Option Addr) (zn zc rb ro k : Nat) (yt : Int) (ya : Option Addr) (yn yc : Nat) : Prop :=
  W.cell? ⟨w.heap.size, 0, none⟩ = some (.slice (some ⟨gq, 0, none⟩) p cp) ∧ W.cell? ⟨ge, 1, none⟩ = some (.int .u8 (xg : Int)) ∧ W.cell? ⟨gq, xg * 3, none⟩ = some (.bool zx) ∧ W.cell? ⟨gq, xg * 3 + 1, none⟩ = some (.int .u8 zt) ∧ W.cell? ⟨gq, xg * 3 + 2, none⟩ = some (.slice za zn zc) ∧ W.cell? ⟨rb, ro + k * 5 + 3, none⟩ = some (.int .u8 yt) ∧ W.cell? ⟨rb, ro + k * 5 + 4, none⟩ = some (.slice ya yn yc) ∧ Hid (Wb w W (some ⟨gq, 0, none⟩) p cp a b (some ⟨gE, 0, none⟩) ke ce d f g o ge dd)
theorem k29_next {w W W' : World} {gq p cp a b gE ke ce d : Nat} {f : Rl2} {g : Nat} {o : Nat → Bool} {ge : Nat} {dd : Ed} {xg : Nat} {zx : Bool} {zt : Int} {za : Option Addr} {zn zc rb ro k : Nat} {yt : Int} {ya : Option Addr} {yn yc : Nat} (hb : Below W.heap.size W W') (h : K29 w W gq p cp a b gE ke ce d f g o ge dd xg zx zt za zn zc rb ro k yt ya yn yc) : K29 w W' gq p cp a b gE ke ce d f g o ge dd xg zx zt za zn zc rb ro k yt ya yn yc := by
  have kk := Ck.of_below hb
  obtain ⟨h0, h1, h2, h3, h4, h5, h6, h7⟩ := h
  exact ⟨kk _ _ _ h0, kk _ _ _ h1, kk _ _ _ h2, kk _ _ _ h3, kk _ _ _ h4, kk _ _ _ h5, kk _ _ _ h6, Lib.hid (h7.out.next hb)⟩
abbrev K31 (w W : World) (gq p cp a b gE ke ce d : Nat) (f : Rl2) (g : Nat) (o : Nat → Bool) (ge xf xg : Nat) (xy xx : Bool) (xt : Int) (xa : Option Addr) (xn xc : Nat) (xL : List TT) (rb ro k : Nat) (yt : Int) (ya : Option Addr) (yn yc : Nat) : Prop :=
  W.cell? ⟨ge, 2, none⟩ = some (.bool xy) ∧ W.cell? ⟨ge, 3, none⟩ = some (.bool xx) ∧ W.cell? ⟨ge, 4, none⟩ = some (.int .u8 xt) ∧ W.cell? ⟨ge, 5, none⟩ = some (.slice xa xn xc) ∧ W.cell? ⟨rb, ro + k * 5 + 3, none⟩ = some (.int .u8 yt) ∧ W.cell? ⟨rb, ro + k * 5 + 4, none⟩ = some (.slice ya yn yc) ∧ Hid (Wb w W (some ⟨gq, 0, none⟩) p cp a b (some ⟨gE, 0, none⟩) ke ce d f g o ge ⟨xf, xg, xy, ⟨xx, xt, xa, xn, xc, xL⟩⟩)
theorem k31_next {w W W' : World} {gq p cp a b gE ke ce d : Nat} {f : Rl2} {g : Nat} {o : Nat → Bool} {ge xf xg : Nat} {xy xx : Bool} {xt : Int} {xa : Option Addr} {xn xc : Nat} {xL : List TT} {rb ro k : Nat} {yt : Int} {ya : Option Addr} {yn yc : Nat} (hb : Below W.heap.size W W') (h : K31 w W gq p cp a b gE ke ce d f g o ge xf xg xy xx xt xa xn xc xL rb ro k yt ya yn yc) : K31 w W' gq p cp a b gE ke ce d f g o ge xf xg xy xx xt xa xn xc xL rb ro k yt ya yn yc := by
  have kk := Ck.of_below hb
  obtain ⟨h0, h1, h2, h3, h4, h5, h6⟩ := h
  exact ⟨kk _ _ _ h0, kk _ _ _ h1, kk _ _ _ h2, kk _ _ _ h3, kk _ _ _ h4, kk _ _ _ h5, Lib.hid (h6.out.next hb)⟩
set_option maxHeartbeats 16000000 in
theorem walks_any (Ap : Option Addr) (kp cp a b : Nat) (Ae : Option Addr) (ke ce : Nat) (Ps : List Qu) (Es : List Ed) (rA : Option Addr) (N rC : Nat) (R : List Lg) (i : Nat) (w : World) (hi : i < N) (hn : R.length = N) (hN : N ≤ 900) (cr : Cr w Ap kp Ae ke Ps Es) (hR : Lr w rA R) (hT : Tab w)
    (ha : a < 4294967296) (hb : b < 4294967296) (hk : kp ≤ 32) (hke : ke ≤ 64) (hE : ∀ d ∈ Es, d.f < kp ∧ d.t < kp) (hfi : ∀ q, a.testBit q = true → q < kp) (hla : ∀ q, b.testBit q = true → q < kp) :
    Calls Tryz.prog 24 #[autv Ap kp cp a b Ae ke ce, .slice rA N rC, .int .i64 (i : Int)] w fun e w' => ∃ g, ∃ o : Nat → Bool, e = .returned (.slice (some ⟨g, 0, none⟩) N N) ∧ (∀ j, j < N → w'.cell? ⟨g, j, none⟩ = some (.bool (o j))) ∧ Hid (∀ j, i ≤ j → j < N → (o j = true ↔ Acc (hvR R) (HR R Ps) R.length (sR a b Ps Es) i j)) ∧ Below w.heap.size w w' := by
  have B1 := Lib.hid (below_alloc w (.cells #[.slice Ap kp cp, .int .u32 (a : Int), .int .u32 (b : Int), .slice Ae ke ce] 36))
  have A1 : Hid (AB (w.alloc (.cells #[.slice Ap kp cp, .int .u32 (a : Int), .int .u32 (b : Int), .slice Ae ke ce] 36)) w.heap.size Ap kp cp (a : Int) (b : Int) Ae ke ce) := Lib.hid (heap_alloc_new w _)
  have S1 : Hid ((w.alloc (.cells #[.slice Ap kp cp, .int .u32 (a : Int), .int .u32 (b : Int), .slice Ae ke ce] 36)).heap.size = w.heap.size + 1) := Lib.hid (by simp)
  have MK := Lib.hid (fun W => run_mkb W kp (by omega) (kp : Int) rfl)
  have MN := Lib.hid (fun W => run_mkb W N (by omega) (N : Int) rfl)
  have MB := fun W => run_mkbb W N (by omega)
  have CQ := Lib.hid (fun q (hq : q < kp) j (hj : j < N) W (hW : Below w.heap.size w W) => rholds_at (hR.ck (Ck.of_below hW)) (Ps.getD q qz) ((cr.qp _ (qgetD_mem Ps q (by have := cr.lp; omega))).below hW) j (by omega) (hT.below hW))
  have CE := Lib.hid (fun x (hx : x < ke) j (hj : j < N) W (hW : Below w.heap.size w W) => rholds_at (hR.ck (Ck.of_below hW)) (Es.getD x ed0').g ((cr.qe _ (egetD_mem Es x (by have := cr.le; omega))).below hW) j (by omega) (hT.below hW))
  have RP := Lib.hid (fun q (hq : q < kp) W (hW : Below w.heap.size w W) => (cr.below hW).rp q (by have := cr.lp; omega))
  have RE := Lib.hid (fun x (hx : x < ke) W (hW : Below w.heap.size w W) => (cr.below hW).re x (by have := cr.le; omega))
  have RR : Hid (∀ j (hj : j < N) W (hW : Below w.heap.size w W), ∃ rb ro, rA = some ⟨rb, ro, none⟩ ∧ Atl W rb (ro + j * 5) (R.getD j lz)) := Lib.hid (fun j hj W hW => by
    obtain ⟨rb, ro, e, h⟩ := (hR.ck (Ck.of_below hW)).row j (by omega)
    exact ⟨rb, ro, e, h⟩)
  have EX : Hid (∀ x, x < ke → (sR a b Ps Es).2.2.2[x]? = some (ve (Es.getD x ed0'))) := Lib.hid (fun x hx => by
    show (Es.map ve)[x]? = _
    have := cr.le
    rw [List.getElem?_map, List.getElem?_eq_getElem (by omega), List.getD_eq_getElem?_getD, List.getElem?_eq_getElem (by omega)]
    rfl)
  have EL : Hid ((sR a b Ps Es).2.2.2.length = ke) := Lib.hid (by show (Es.map ve).length = _; rw [List.length_map]; exact cr.le)
  have EB := Lib.hid (fun x (hx : x < ke) => hE _ (egetD_mem Es x (by have := cr.le; omega)))
  have BF := Lib.hid (fun q (hq : q < 1000000) W => rbit_any a q W (by omega) hq)
  have BL := Lib.hid (fun q (hq : q < 1000000) W => rbit_any b q W (by omega) hq)
  have HFI := Lib.hid hfi
  have HLA := Lib.hid hla
  have HN := Lib.hid hn
  clear cr hR hT hE hfi hla hn
  go_enter Tryz.func24, Tryz.ntmps24
  go_upto_region 1 with fail
  generalize w.alloc (.cells #[.slice Ap kp cp, .int .u32 (a : Int), .int .u32 (b : Int), .slice Ae ke ce] 36) = w1 at B1 A1 S1 ⊢
  obtain ⟨a0, a1, a2, a3, _⟩ := A1.out.cells
  have mb := MB w1
  clear MB
  go_upto_region 3 with fail
  have W2 : Hid (Wx w (w1.alloc (.cells (madeCells #[.slice none 0 0] N) 66)) Ap kp cp a b Ae ke ce N 0 (fun _ _ => false) ∧ (w1.alloc (.cells (madeCells #[.slice none 0 0] N) 66)).heap.size = w.heap.size + 1 + 1 + 0) := Lib.hid (by
    have hb := below_alloc w1 (.cells (madeCells #[.slice none 0 0] N) 66)
    have hm := Mw.start w1 kp N (fun _ _ => false)
    rw [S1.out] at hm
    refine ⟨⟨A1.out.below hb A1.out.lt, hm, below_go B1.out hb, ?_⟩, ?_⟩
    · rw [World.size_alloc, S1.out]; omega
    · rw [World.size_alloc, S1.out])
  have s1 := S1.out
  rw [s1]
  generalize w1.alloc (.cells (madeCells #[.slice none 0 0] N) 66) = w2 at W2 ⊢
  clear B1 A1 S1 a0 a1 a2 a3 mb s1
  go_wp2_with fail
  go_loopw [25] (fun v W => ∃ (d : Nat), v = .int .i64 (d : Int) ∧ d ≤ N ∧ Hid (Wx w W Ap kp cp a b Ae ke ce N d (fun _ _ => false) ∧ W.heap.size = w.heap.size + 1 + 1 + d)) (fun v _ => N - (intOf v).toNat)
  case atStart => exact ⟨0, rfl, by omega, W2⟩
  case round =>
    obtain ⟨d, rfl, hd, I⟩ := hrel
    clear W2
    by_cases cd : d < N
    · have mk := MK.out wr
      have hs := I.out.2
      obtain ⟨u, hu⟩ := I.out.1.mw.some d cd
      have hf := I.out.1.mw.freeO d
      have hlt := I.out.1.mw.ltO
      have zO := hlt
      have I2 : Hid (Wx w ((wr.alloc (.cells (madeCells #[.bool false] kp) 4)).setCell ⟨w.heap.size + 1, d, none⟩ (.slice (some ⟨wr.heap.size, 0, none⟩) kp kp)) Ap kp cp a b Ae ke ce N (d + 1) (fun _ _ => false) ∧ ((wr.alloc (.cells (madeCells #[.bool false] kp) 4)).setCell ⟨w.heap.size + 1, d, none⟩ (.slice (some ⟨wr.heap.size, 0, none⟩) kp kp)).heap.size = w.heap.size + 1 + 1 + (d + 1)) := Lib.hid (by
        rw [show (.slice (some ⟨wr.heap.size, 0, none⟩) kp kp : Value) = rowN (w.heap.size + 1) kp d by unfold rowN; rw [hs]]
        have hb := below_alloc wr (.cells (madeCells #[.bool false] kp) 4)
        refine ⟨⟨?_, I.out.1.mw.more cd (by omega), (below_go I.out.1.bel hb).setCell (p := ⟨w.heap.size + 1, d, none⟩) (Nat.le_succ _) _, ?_⟩, ?_⟩
        · unfold AB
          rw [heap_setCell_other _ ⟨w.heap.size + 1, d, none⟩ _ _ (by show w.heap.size ≠ w.heap.size + 1; omega), hb.block _ I.out.1.ab.lt]
          exact I.out.1.ab
        · rw [World.size_setCell, World.size_alloc]; omega
        · rw [World.size_setCell, World.size_alloc]; omega)
      clear I hs
      go_wp2_with fail
      go_roundw
      case rel =>
        have h2 := I2.out
        rw [World.setCell_alloc_past _ _ _ _ zO] at h2
        exact ⟨d + 1, by go_num, by omega, Lib.hid ⟨h2.1, by have := h2.2; simpa using this⟩⟩
      case measure => simp [intOf]; omega
    · obtain rfl : d = N := by omega
      have J0 : Hid (∃ f : Rl2, Wx w wr Ap kp cp a b Ae ke ce d d f ∧ ∀ j2 q, j2 < d → q < kp → (f j2 q = true ↔ (j2 = i ∧ q < 0 ∧ a.testBit q = true ∧ HR R Ps q i = true))) := Lib.hid ⟨_, I.out.1, fun j2 q _ _ => ⟨fun h => by (first | cases h | simp at h), fun h => by omega⟩⟩
      clear I MK
      go_wp2_with fail
      go_loopw [35] (fun v W => ∃ (q : Nat), v = .int .i64 (q : Int) ∧ q ≤ kp ∧ Hid (∃ f : Rl2, Wx w W Ap kp cp a b Ae ke ce d d f ∧ ∀ j2 q2, j2 < d → q2 < kp → (f j2 q2 = true ↔ (j2 = i ∧ q2 < q ∧ a.testBit q2 = true ∧ HR R Ps q2 i = true)))) (fun v _ => kp - (intOf v).toNat)
      case atStart => exact ⟨0, rfl, by omega, J0⟩
      case round =>
        obtain ⟨q, rfl, hqk, J⟩ := hrel
        clear J0
        obtain ⟨f, hX, hf⟩ := J.out
        have XX := Lib.hid hX
        have FF := Lib.hid hf
        clear J hX hf
        obtain ⟨a0, a1, a2, a3, _⟩ := XX.out.ab.cells
        by_cases cq : q < kp
        · have o0 := XX.out.mw.cellO i hi
          have r0 := XX.out.mw.cellR i hi q cq
          have fr := XX.out.mw.freeR i hi q
          have zO := XX.out.mw.ltO
          have zR := XX.out.mw.ltR i hi
          have zA := XX.out.ab.lt
          have CB := Lib.hid (BF.out q (by omega))
          obtain ⟨gq, rfl, c0, c1, c2⟩ := RP.out q cq wr XX.out.bel
          obtain ⟨rb, ro, rfl, e0, e1, e2, e3, e4⟩ := RR.out i hi wr XX.out.bel
          have zq : gq < w.heap.size := by
            obtain ⟨g', e', h', _⟩ := RP.out q cq w (Below.refl _ _)
            injection e' with e'
            injection e' with e' _
            rw [e']; exact World.block_lt_of_cell? _ _ h'
          have zr : rb < w.heap.size := by
            obtain ⟨g', o', e', h', _⟩ := RR.out i hi w (Below.refl _ _)
            injection e' with e'
            injection e' with e' _
            rw [e']; exact World.block_lt_of_cell? _ _ h'
          have CH := Lib.hid (CQ.out q cq i hi)
          have NP := Lib.hid (fun x => XX.out.put i hi q cq x)
          have NV : Hid (∀ (v : Bool), v = (a.testBit q && HR R Ps q i) → ∀ j2 q2, j2 < d → q2 < kp → ((if j2 = i ∧ q2 = q then v else f j2 q2) = true ↔ (j2 = i ∧ q2 < q + 1 ∧ a.testBit q2 = true ∧ HR R Ps q2 i = true))) := Lib.hid (fun v hv j2 q2 h1 h2 => by
            by_cases c : j2 = i ∧ q2 = q
            · rw [if_pos c, hv, c.2, Bool.and_eq_true]
              exact ⟨fun h => ⟨c.1, by omega, h.1, h.2⟩, fun h => ⟨h.2.2.1, h.2.2.2⟩⟩
            · rw [if_neg c, FF.out j2 q2 h1 h2]
              exact ⟨fun h => ⟨h.1, by omega, h.2.2.1, h.2.2.2⟩, fun h => ⟨h.1, by omega, h.2.2.1, h.2.2.2⟩⟩)
          obtain ⟨bv, hbv⟩ : ∃ z, a.testBit q = z := ⟨_, rfl⟩
          obtain ⟨hv, hhv⟩ : ∃ z, HR R Ps q i = z := ⟨_, rfl⟩
          rw [hbv] at CB NV
          have CH2 : Hid (∀ W (hW : Below w.heap.size w W), Calls Tryz.prog 63 #[pv (Ps.getD q qz).x (Ps.getD q qz).t (Ps.getD q qz).a (Ps.getD q qz).n (Ps.getD q qz).c, ev (R.getD i lz).t (R.getD i lz).a (R.getD i lz).n (R.getD i lz).c] W fun e w' => e = .returned (.bool hv) ∧ Below W.heap.size W w') := Lib.hid (fun W hW => by
            have := CH.out W hW
            rw [show hq R (Ps.getD q qz) i = hv from hhv] at this
            exact this)
          rw [hhv] at NV
          clear CH hbv hhv
          obtain ⟨x, hx⟩ : ∃ x, Ps.getD q qz = x := ⟨_, rfl⟩
          obtain ⟨y, hy⟩ : ∃ y, R.getD i lz = y := ⟨_, rfl⟩
          rw [hx] at c0 c1 c2 CH2
          rw [hy] at e0 e1 e2 e3 e4 CH2
          clear hx hy
          obtain ⟨xx, xt, xa, xn, xc, xL⟩ := x
          obtain ⟨ypub, yseq, yat, yt, ya, yn, yc, yE⟩ := y
          simp only at c0 c1 c2 e0 e1 e2 e3 e4
          clear e0 e1 e2
          have uF : IntKind.u64.wrap (a : Int) = (a : Int) := by rw [IntKind.wrap_u64]; omega
          go_upto_region 11 with fail
          have K0 : Kwx w wr cp a b Ae ke ce kp d f i q gq xx xt xa xn xc rb ro yt ya yn yc := ⟨a0, a1, o0, c0, c1, c2, e3, e4, Lib.hid ⟨f i q, ⟨XX.out.ab, XX.out.mw.congr fun c e _ _ => by by_cases h : c = i ∧ e = q <;> simp [h], XX.out.bel, XX.out.big⟩⟩⟩
          have KD := kwx_next (Below.refl _ _).drew K0
          cases bv
          · refine wp_region_noPanic ?_
            refine wp_region_held_drew (S := fun W => W.cell? ⟨w.heap.size, 0, none⟩ = some (.slice (some ⟨gq, 0, none⟩) kp cp) ∧ W.cell? ⟨w.heap.size, 1, none⟩ = some (.int .u32 (a : Int)) ∧ W.cell? ⟨w.heap.size + 1, i, none⟩ = some (rowN (w.heap.size + 1) kp i) ∧ W.cell? ⟨gq, q * 3, none⟩ = some (.bool xx) ∧ W.cell? ⟨gq, q * 3 + 1, none⟩ = some (.int .u8 xt) ∧ W.cell? ⟨gq, q * 3 + 2, none⟩ = some (.slice xa xn xc) ∧ W.cell? ⟨rb, ro + i * 5 + 3, none⟩ = some (.int .u8 yt) ∧ W.cell? ⟨rb, ro + i * 5 + 4, none⟩ = some (.slice ya yn yc) ∧ Hid (∃ v : Bool, Wx w W (some ⟨gq, 0, none⟩) kp cp a b Ae ke ce d d (fun c e => if c = i ∧ e = q then v else f c e))) (by kernel_rfl) (by exact KD) (fun hHeld => ?_)
            refine wpAnyH_take (i := 0) (v := ?_) rfl (by kernel_rfl) (by kernel_rfl) (by kernel_rfl) (fun _ _ _ h => h) (Or.inl ⟨by rfl, ?_⟩) (by assumption) ?_
            rotate_left
            · (intro W hSw; simp only [List.getElem_toArray, List.getElem_cons_zero]; (try dsimp only at hSw); go_simp; with_reducible rfl)
            simp only [List.getElem_toArray, List.getElem_cons_zero, Act.put, List.setIfInBounds_toArray, List.set_cons_zero, List.set_cons_succ]
            refine wpAnyH_take (i := 1) (v := ?_) rfl (by kernel_rfl) (by kernel_rfl) (by kernel_rfl) (fun _ _ _ h => h) (Or.inl ⟨by rfl, ?_⟩) (by assumption) ?_
            rotate_left
            · (intro W hSw; simp only [List.getElem_toArray, List.getElem_cons_succ, List.getElem_cons_zero]; (try dsimp only at hSw); go_simp; with_reducible rfl)
            simp only [List.getElem_toArray, List.getElem_cons_succ, List.getElem_cons_zero, Act.put, List.setIfInBounds_toArray, List.set_cons_zero, List.set_cons_succ]
            refine wpAnyH_take (i := 2) (v := ?_) rfl (by kernel_rfl) (by kernel_rfl) (by kernel_rfl) (fun _ _ _ h => h) (Or.inl ⟨by rfl, ?_⟩) (by assumption) ?_
            rotate_left
            · (intro W hSw; simp only [List.getElem_toArray, List.getElem_cons_succ, List.getElem_cons_zero]; (try dsimp only at hSw); go_simp; with_reducible rfl)
            simp only [List.getElem_toArray, List.getElem_cons_succ, List.getElem_cons_zero, Act.put, List.setIfInBounds_toArray, List.set_cons_zero, List.set_cons_succ]
            refine wpAnyH_take (i := 3) (v := ?_) rfl (by kernel_rfl) (by kernel_rfl) (by kernel_rfl) (fun _ _ _ h => h) (Or.inl ⟨by rfl, ?_⟩) (by assumption) ?_
            rotate_left
            · (intro W hSw; simp only [List.getElem_toArray, List.getElem_cons_succ, List.getElem_cons_zero]; (try dsimp only at hSw); go_simp; with_reducible rfl)
            simp only [List.getElem_toArray, List.getElem_cons_succ, List.getElem_cons_zero, Act.put, List.setIfInBounds_toArray, List.set_cons_zero, List.set_cons_succ]
            refine wpAnyH_take (i := 4) (v := ?_) rfl (by kernel_rfl) (by kernel_rfl) (by kernel_rfl) (fun _ _ _ h => h) (Or.inl ⟨by rfl, ?_⟩) (by assumption) ?_
            rotate_left
            · (intro W hSw; simp only [List.getElem_toArray, List.getElem_cons_succ, List.getElem_cons_zero]; (try dsimp only at hSw); go_simp; with_reducible rfl)
            simp only [List.getElem_toArray, List.getElem_cons_succ, List.getElem_cons_zero, Act.put, List.setIfInBounds_toArray, List.set_cons_zero, List.set_cons_succ]
            refine wpAnyH_take (i := 5) (v := ?_) rfl (by kernel_rfl) (by kernel_rfl) (by kernel_rfl) (fun _ _ _ h => h) (Or.inl ⟨by rfl, ?_⟩) (by assumption) ?_
            rotate_left
            · (intro W hSw; simp only [List.getElem_toArray, List.getElem_cons_succ, List.getElem_cons_zero]; (try dsimp only at hSw); go_simp; with_reducible rfl)
            simp only [List.getElem_toArray, List.getElem_cons_succ, List.getElem_cons_zero, Act.put, List.setIfInBounds_toArray, List.set_cons_zero, List.set_cons_succ]
            refine wpAnyH_take (i := 6) (v := ?_) rfl (by kernel_rfl) (by kernel_rfl) (by kernel_rfl) (fun _ _ _ h => h) (Or.inl ⟨by rfl, ?_⟩) (by assumption) ?_
            rotate_left
            · (intro W hSw; simp only [List.getElem_toArray, List.getElem_cons_succ, List.getElem_cons_zero]; (try dsimp only at hSw); go_simp; with_reducible rfl)
            simp only [List.getElem_toArray, List.getElem_cons_succ, List.getElem_cons_zero, Act.put, List.setIfInBounds_toArray, List.set_cons_zero, List.set_cons_succ]
            refine wpAnyH_take (i := 7) (v := ?_) rfl (by kernel_rfl) (by kernel_rfl) (by kernel_rfl) (fun _ _ _ h => h) (Or.inl ⟨by rfl, ?_⟩) (by assumption) ?_
            rotate_left
            · (intro W hSw; simp only [List.getElem_toArray, List.getElem_cons_succ, List.getElem_cons_zero]; (try dsimp only at hSw); go_simp; with_reducible rfl)
            simp only [List.getElem_toArray, List.getElem_cons_succ, List.getElem_cons_zero, Act.put, List.setIfInBounds_toArray, List.set_cons_zero, List.set_cons_succ]
            refine wpAnyH_take (i := 8) (v := ?_) rfl (by kernel_rfl) (by kernel_rfl) (by kernel_rfl) (fun _ _ _ h => h) (Or.inl ⟨by rfl, ?_⟩) (by assumption) ?_
            rotate_left
            · (intro W hSw; simp only [List.getElem_toArray, List.getElem_cons_succ, List.getElem_cons_zero]; (try dsimp only at hSw); go_simp; with_reducible rfl)
            simp only [List.getElem_toArray, List.getElem_cons_succ, List.getElem_cons_zero, Act.put, List.setIfInBounds_toArray, List.set_cons_zero, List.set_cons_succ]
            refine wpAnyH_ready (rs := [9]) (by kernel_rfl) (by simp) ?_
            refine AllReadyH.cons rfl (fun K hK => ?_) AllReadyH.nil
            (try simp only [List.getElem_toArray, List.getElem_cons_succ, List.getElem_cons_zero])
            go_simp
            go_wp2_with (go_at_call 67; refine (CB.out _).mono ?_; rintro e w4 ⟨rfl, rfl⟩)
            refine hK.out _ _ hHeld (fun hHeld => ?_)
            refine wpAnyH_take (i := 10) (v := ?_) rfl (by kernel_rfl) (by kernel_rfl) (by kernel_rfl) (fun _ _ _ h => h) (Or.inl ⟨by rfl, ?_⟩) (by assumption) ?_
            rotate_left
            · (intro W hSw; simp only [List.getElem_toArray, List.getElem_cons_succ, List.getElem_cons_zero]; (try dsimp only at hSw); go_simp; with_reducible rfl)
            simp only [List.getElem_toArray, List.getElem_cons_succ, List.getElem_cons_zero, Act.put, List.setIfInBounds_toArray, List.set_cons_zero, List.set_cons_succ]
            refine wpAnyH_take (i := 11) (v := undef) rfl (by kernel_rfl) (by kernel_rfl) (by kernel_rfl) (fun _ _ _ h => h) (Or.inr ⟨by rfl, rfl⟩) (by assumption) ?_
            simp only [List.getElem_toArray, List.getElem_cons_succ, List.getElem_cons_zero, Act.put, List.setIfInBounds_toArray, List.set_cons_zero, List.set_cons_succ]
            refine wpAnyH_take (i := 12) (v := undef) rfl (by kernel_rfl) (by kernel_rfl) (by kernel_rfl) (fun _ _ _ h => h) (Or.inr ⟨by rfl, rfl⟩) (by assumption) ?_
            simp only [List.getElem_toArray, List.getElem_cons_succ, List.getElem_cons_zero, Act.put, List.setIfInBounds_toArray, List.set_cons_zero, List.set_cons_succ]
            refine wpAnyH_take (i := 13) (v := undef) rfl (by kernel_rfl) (by kernel_rfl) (by kernel_rfl) (fun _ _ _ h => h) (Or.inr ⟨by rfl, rfl⟩) (by assumption) ?_
            simp only [List.getElem_toArray, List.getElem_cons_succ, List.getElem_cons_zero, Act.put, List.setIfInBounds_toArray, List.set_cons_zero, List.set_cons_succ]
            refine wpAnyH_take (i := 14) (v := undef) rfl (by kernel_rfl) (by kernel_rfl) (by kernel_rfl) (fun _ _ _ h => h) (Or.inr ⟨by rfl, rfl⟩) (by assumption) ?_
            simp only [List.getElem_toArray, List.getElem_cons_succ, List.getElem_cons_zero, Act.put, List.setIfInBounds_toArray, List.set_cons_zero, List.set_cons_succ]
            refine wpAnyH_take (i := 15) (v := undef) rfl (by kernel_rfl) (by kernel_rfl) (by kernel_rfl) (fun _ _ _ h => h) (Or.inr ⟨by rfl, rfl⟩) (by assumption) ?_
            simp only [List.getElem_toArray, List.getElem_cons_succ, List.getElem_cons_zero, Act.put, List.setIfInBounds_toArray, List.set_cons_zero, List.set_cons_succ]
            refine wpAnyH_take (i := 16) (v := undef) rfl (by kernel_rfl) (by kernel_rfl) (by kernel_rfl) (fun _ _ _ h => h) (Or.inr ⟨by rfl, rfl⟩) (by assumption) ?_
            simp only [List.getElem_toArray, List.getElem_cons_succ, List.getElem_cons_zero, Act.put, List.setIfInBounds_toArray, List.set_cons_zero, List.set_cons_succ]
            refine wpAnyH_take (i := 17) (v := undef) rfl (by kernel_rfl) (by kernel_rfl) (by kernel_rfl) (fun _ _ _ h => h) (Or.inr ⟨by rfl, rfl⟩) (by assumption) ?_
            simp only [List.getElem_toArray, List.getElem_cons_succ, List.getElem_cons_zero, Act.put, List.setIfInBounds_toArray, List.set_cons_zero, List.set_cons_succ]
            refine wpAnyH_take (i := 18) (v := undef) rfl (by kernel_rfl) (by kernel_rfl) (by kernel_rfl) (fun _ _ _ h => h) (Or.inr ⟨by rfl, rfl⟩) (by assumption) ?_
            simp only [List.getElem_toArray, List.getElem_cons_succ, List.getElem_cons_zero, Act.put, List.setIfInBounds_toArray, List.set_cons_zero, List.set_cons_succ]
            refine wpAnyH_take (i := 19) (v := undef) rfl (by kernel_rfl) (by kernel_rfl) (by kernel_rfl) (fun _ _ _ h => h) (Or.inr ⟨by rfl, rfl⟩) (by assumption) ?_
            simp only [List.getElem_toArray, List.getElem_cons_succ, List.getElem_cons_zero, Act.put, List.setIfInBounds_toArray, List.set_cons_zero, List.set_cons_succ]
            refine wpAnyH_take (i := 20) (v := undef) rfl (by kernel_rfl) (by kernel_rfl) (by kernel_rfl) (fun _ _ _ h => h) (Or.inr ⟨by rfl, rfl⟩) (by assumption) ?_
            simp only [List.getElem_toArray, List.getElem_cons_succ, List.getElem_cons_zero, Act.put, List.setIfInBounds_toArray, List.set_cons_zero, List.set_cons_succ]
            refine wpAnyH_take (i := 21) (v := undef) rfl (by kernel_rfl) (by kernel_rfl) (by kernel_rfl) (fun _ _ _ h => h) (Or.inr ⟨by rfl, rfl⟩) (by assumption) ?_
            simp only [List.getElem_toArray, List.getElem_cons_succ, List.getElem_cons_zero, Act.put, List.setIfInBounds_toArray, List.set_cons_zero, List.set_cons_succ]
            refine wpAnyH_take (i := 22) (v := ?_) rfl (by kernel_rfl) (by kernel_rfl) (by kernel_rfl) (fun _ _ _ h => h) (Or.inl ⟨by rfl, ?_⟩) (by assumption) ?_
            rotate_left
            · (intro W hSw; simp only [List.getElem_toArray, List.getElem_cons_succ, List.getElem_cons_zero]; (try dsimp only at hSw); go_simp; with_reducible rfl)
            simp only [List.getElem_toArray, List.getElem_cons_succ, List.getElem_cons_zero, Act.put, List.setIfInBounds_toArray, List.set_cons_zero, List.set_cons_succ]
            refine wpAnyH_take (i := 23) (v := ?_) rfl (by kernel_rfl) (by kernel_rfl) (by kernel_rfl) (fun _ _ _ h => h) (Or.inl ⟨by rfl, ?_⟩) (by assumption) ?_
            rotate_left
            · (intro W hSw; simp only [List.getElem_toArray, List.getElem_cons_succ, List.getElem_cons_zero]; (try dsimp only at hSw); go_simp; with_reducible rfl)
            simp only [List.getElem_toArray, List.getElem_cons_succ, List.getElem_cons_zero, Act.put, List.setIfInBounds_toArray, List.set_cons_zero, List.set_cons_succ]
            refine wpAnyH_ready (rs := [24]) (by kernel_rfl) (by simp) ?_
            refine AllReadyH.cons rfl (fun K hK => ?_) AllReadyH.nil
            (try simp only [List.getElem_toArray, List.getElem_cons_succ, List.getElem_cons_zero])
            go_simp
            have KP := kwx_put hHeld hi cq zq zr false
            obtain ⟨_, hx8⟩ := hHeld.2.2.2.2.2.2.2.2.out
            have o9 := hx8.mw.cellR i hi q cq
            have f9 := hx8.mw.freeR i hi q
            have z9 := hx8.mw.ltR i hi
            go_wp2_with fail
            refine hK.out _ _ KP.1 (fun hHeld => ?_)
            (try simp only [List.getElem_toArray, List.getElem_cons_succ, List.getElem_cons_zero, Act.put, List.setIfInBounds_toArray, List.set_cons_zero, List.set_cons_succ])
            refine wpAnyH_done (by kernel_rfl) ?_ _
            refine NoPanic.normal ?_
            go_wp2_with fail
            go_roundw
            case rel => exact ⟨q + 1, by go_num, by omega, Lib.hid ⟨_, KP.2, NV.out false (by simp)⟩⟩
            case measure => simp [intOf]; omega
          · refine wp_region_noPanic ?_
            refine wp_region_held_drew (S := fun W => W.cell? ⟨w.heap.size, 0, none⟩ = some (.slice (some ⟨gq, 0, none⟩) kp cp) ∧ W.cell? ⟨w.heap.size, 1, none⟩ = some (.int .u32 (a : Int)) ∧ W.cell? ⟨w.heap.size + 1, i, none⟩ = some (rowN (w.heap.size + 1) kp i) ∧ W.cell? ⟨gq, q * 3, none⟩ = some (.bool xx) ∧ W.cell? ⟨gq, q * 3 + 1, none⟩ = some (.int .u8 xt) ∧ W.cell? ⟨gq, q * 3 + 2, none⟩ = some (.slice xa xn xc) ∧ W.cell? ⟨rb, ro + i * 5 + 3, none⟩ = some (.int .u8 yt) ∧ W.cell? ⟨rb, ro + i * 5 + 4, none⟩ = some (.slice ya yn yc) ∧ Hid (∃ v : Bool, Wx w W (some ⟨gq, 0, none⟩) kp cp a b Ae ke ce d d (fun c e => if c = i ∧ e = q then v else f c e))) (by kernel_rfl) (by exact KD) (fun hHeld => ?_)
            refine wpAnyH_take (i := 0) (v := ?_) rfl (by kernel_rfl) (by kernel_rfl) (by kernel_rfl) (fun _ _ _ h => h) (Or.inl ⟨by rfl, ?_⟩) (by assumption) ?_
            rotate_left
            · (intro W hSw; simp only [List.getElem_toArray, List.getElem_cons_zero]; (try dsimp only at hSw); go_simp; with_reducible rfl)
            simp only [List.getElem_toArray, List.getElem_cons_zero, Act.put, List.setIfInBounds_toArray, List.set_cons_zero, List.set_cons_succ]
            refine wpAnyH_take (i := 1) (v := ?_) rfl (by kernel_rfl) (by kernel_rfl) (by kernel_rfl) (fun _ _ _ h => h) (Or.inl ⟨by rfl, ?_⟩) (by assumption) ?_
            rotate_left
            · (intro W hSw; simp only [List.getElem_toArray, List.getElem_cons_succ, List.getElem_cons_zero]; (try dsimp only at hSw); go_simp; with_reducible rfl)
            simp only [List.getElem_toArray, List.getElem_cons_succ, List.getElem_cons_zero, Act.put, List.setIfInBounds_toArray, List.set_cons_zero, List.set_cons_succ]
            refine wpAnyH_take (i := 2) (v := ?_) rfl (by kernel_rfl) (by kernel_rfl) (by kernel_rfl) (fun _ _ _ h => h) (Or.inl ⟨by rfl, ?_⟩) (by assumption) ?_
            rotate_left
            · (intro W hSw; simp only [List.getElem_toArray, List.getElem_cons_succ, List.getElem_cons_zero]; (try dsimp only at hSw); go_simp; with_reducible rfl)
            simp only [List.getElem_toArray, List.getElem_cons_succ, List.getElem_cons_zero, Act.put, List.setIfInBounds_toArray, List.set_cons_zero, List.set_cons_succ]
            refine wpAnyH_take (i := 3) (v := ?_) rfl (by kernel_rfl) (by kernel_rfl) (by kernel_rfl) (fun _ _ _ h => h) (Or.inl ⟨by rfl, ?_⟩) (by assumption) ?_
            rotate_left
            · (intro W hSw; simp only [List.getElem_toArray, List.getElem_cons_succ, List.getElem_cons_zero]; (try dsimp only at hSw); go_simp; with_reducible rfl)
            simp only [List.getElem_toArray, List.getElem_cons_succ, List.getElem_cons_zero, Act.put, List.setIfInBounds_toArray, List.set_cons_zero, List.set_cons_succ]
            refine wpAnyH_take (i := 4) (v := ?_) rfl (by kernel_rfl) (by kernel_rfl) (by kernel_rfl) (fun _ _ _ h => h) (Or.inl ⟨by rfl, ?_⟩) (by assumption) ?_
            rotate_left
            · (intro W hSw; simp only [List.getElem_toArray, List.getElem_cons_succ, List.getElem_cons_zero]; (try dsimp only at hSw); go_simp; with_reducible rfl)
            simp only [List.getElem_toArray, List.getElem_cons_succ, List.getElem_cons_zero, Act.put, List.setIfInBounds_toArray, List.set_cons_zero, List.set_cons_succ]
            refine wpAnyH_take (i := 5) (v := ?_) rfl (by kernel_rfl) (by kernel_rfl) (by kernel_rfl) (fun _ _ _ h => h) (Or.inl ⟨by rfl, ?_⟩) (by assumption) ?_
            rotate_left
            · (intro W hSw; simp only [List.getElem_toArray, List.getElem_cons_succ, List.getElem_cons_zero]; (try dsimp only at hSw); go_simp; with_reducible rfl)
            simp only [List.getElem_toArray, List.getElem_cons_succ, List.getElem_cons_zero, Act.put, List.setIfInBounds_toArray, List.set_cons_zero, List.set_cons_succ]
            refine wpAnyH_take (i := 6) (v := ?_) rfl (by kernel_rfl) (by kernel_rfl) (by kernel_rfl) (fun _ _ _ h => h) (Or.inl ⟨by rfl, ?_⟩) (by assumption) ?_
            rotate_left
            · (intro W hSw; simp only [List.getElem_toArray, List.getElem_cons_succ, List.getElem_cons_zero]; (try dsimp only at hSw); go_simp; with_reducible rfl)
            simp only [List.getElem_toArray, List.getElem_cons_succ, List.getElem_cons_zero, Act.put, List.setIfInBounds_toArray, List.set_cons_zero, List.set_cons_succ]
            refine wpAnyH_take (i := 7) (v := ?_) rfl (by kernel_rfl) (by kernel_rfl) (by kernel_rfl) (fun _ _ _ h => h) (Or.inl ⟨by rfl, ?_⟩) (by assumption) ?_
            rotate_left
            · (intro W hSw; simp only [List.getElem_toArray, List.getElem_cons_succ, List.getElem_cons_zero]; (try dsimp only at hSw); go_simp; with_reducible rfl)
            simp only [List.getElem_toArray, List.getElem_cons_succ, List.getElem_cons_zero, Act.put, List.setIfInBounds_toArray, List.set_cons_zero, List.set_cons_succ]
            refine wpAnyH_take (i := 8) (v := ?_) rfl (by kernel_rfl) (by kernel_rfl) (by kernel_rfl) (fun _ _ _ h => h) (Or.inl ⟨by rfl, ?_⟩) (by assumption) ?_
            rotate_left
            · (intro W hSw; simp only [List.getElem_toArray, List.getElem_cons_succ, List.getElem_cons_zero]; (try dsimp only at hSw); go_simp; with_reducible rfl)
            simp only [List.getElem_toArray, List.getElem_cons_succ, List.getElem_cons_zero, Act.put, List.setIfInBounds_toArray, List.set_cons_zero, List.set_cons_succ]
            refine wpAnyH_ready (rs := [9]) (by kernel_rfl) (by simp) ?_
            refine AllReadyH.cons rfl (fun K hK => ?_) AllReadyH.nil
            (try simp only [List.getElem_toArray, List.getElem_cons_succ, List.getElem_cons_zero])
            go_simp
            go_wp2_with (go_at_call 67; refine (CB.out _).mono ?_; rintro e w4 ⟨rfl, rfl⟩)
            refine hK.out _ _ hHeld (fun hHeld => ?_)
            refine wpAnyH_take (i := 10) (v := ?_) rfl (by kernel_rfl) (by kernel_rfl) (by kernel_rfl) (fun _ _ _ h => h) (Or.inl ⟨by rfl, ?_⟩) (by assumption) ?_
            rotate_left
            · (intro W hSw; simp only [List.getElem_toArray, List.getElem_cons_succ, List.getElem_cons_zero]; (try dsimp only at hSw); go_simp; with_reducible rfl)
            simp only [List.getElem_toArray, List.getElem_cons_succ, List.getElem_cons_zero, Act.put, List.setIfInBounds_toArray, List.set_cons_zero, List.set_cons_succ]
            refine wpAnyH_take (i := 11) (v := ?_) rfl (by kernel_rfl) (by kernel_rfl) (by kernel_rfl) (fun _ _ _ h => h) (Or.inl ⟨by rfl, ?_⟩) (by assumption) ?_
            rotate_left
            · (intro W hSw; simp only [List.getElem_toArray, List.getElem_cons_succ, List.getElem_cons_zero]; (try dsimp only at hSw); go_simp; with_reducible rfl)
            simp only [List.getElem_toArray, List.getElem_cons_succ, List.getElem_cons_zero, Act.put, List.setIfInBounds_toArray, List.set_cons_zero, List.set_cons_succ]
            refine wpAnyH_take (i := 12) (v := ?_) rfl (by kernel_rfl) (by kernel_rfl) (by kernel_rfl) (fun _ _ _ h => h) (Or.inl ⟨by rfl, ?_⟩) (by assumption) ?_
            rotate_left
            · (intro W hSw; simp only [List.getElem_toArray, List.getElem_cons_succ, List.getElem_cons_zero]; (try dsimp only at hSw); go_simp; with_reducible rfl)
            simp only [List.getElem_toArray, List.getElem_cons_succ, List.getElem_cons_zero, Act.put, List.setIfInBounds_toArray, List.set_cons_zero, List.set_cons_succ]
            refine wpAnyH_take (i := 13) (v := ?_) rfl (by kernel_rfl) (by kernel_rfl) (by kernel_rfl) (fun _ _ _ h => h) (Or.inl ⟨by rfl, ?_⟩) (by assumption) ?_
            rotate_left
            · (intro W hSw; simp only [List.getElem_toArray, List.getElem_cons_succ, List.getElem_cons_zero]; (try dsimp only at hSw); go_simp; with_reducible rfl)
            simp only [List.getElem_toArray, List.getElem_cons_succ, List.getElem_cons_zero, Act.put, List.setIfInBounds_toArray, List.set_cons_zero, List.set_cons_succ]
            refine wpAnyH_take (i := 14) (v := ?_) rfl (by kernel_rfl) (by kernel_rfl) (by kernel_rfl) (fun _ _ _ h => h) (Or.inl ⟨by rfl, ?_⟩) (by assumption) ?_
            rotate_left
            · (intro W hSw; simp only [List.getElem_toArray, List.getElem_cons_succ, List.getElem_cons_zero]; (try dsimp only at hSw); go_simp; with_reducible rfl)
            simp only [List.getElem_toArray, List.getElem_cons_succ, List.getElem_cons_zero, Act.put, List.setIfInBounds_toArray, List.set_cons_zero, List.set_cons_succ]
            refine wpAnyH_take (i := 15) (v := ?_) rfl (by kernel_rfl) (by kernel_rfl) (by kernel_rfl) (fun _ _ _ h => h) (Or.inl ⟨by rfl, ?_⟩) (by assumption) ?_
            rotate_left
            · (intro W hSw; simp only [List.getElem_toArray, List.getElem_cons_succ, List.getElem_cons_zero]; (try dsimp only at hSw); go_simp; with_reducible rfl)
            simp only [List.getElem_toArray, List.getElem_cons_succ, List.getElem_cons_zero, Act.put, List.setIfInBounds_toArray, List.set_cons_zero, List.set_cons_succ]
            refine wpAnyH_take (i := 16) (v := ?_) rfl (by kernel_rfl) (by kernel_rfl) (by kernel_rfl) (fun _ _ _ h => h) (Or.inl ⟨by rfl, ?_⟩) (by assumption) ?_
            rotate_left
            · (intro W hSw; simp only [List.getElem_toArray, List.getElem_cons_succ, List.getElem_cons_zero]; (try dsimp only at hSw); go_simp; with_reducible rfl)
            simp only [List.getElem_toArray, List.getElem_cons_succ, List.getElem_cons_zero, Act.put, List.setIfInBounds_toArray, List.set_cons_zero, List.set_cons_succ]
            refine wpAnyH_take (i := 17) (v := ?_) rfl (by kernel_rfl) (by kernel_rfl) (by kernel_rfl) (fun _ _ _ h => h) (Or.inl ⟨by rfl, ?_⟩) (by assumption) ?_
            rotate_left
            · (intro W hSw; simp only [List.getElem_toArray, List.getElem_cons_succ, List.getElem_cons_zero]; (try dsimp only at hSw); go_simp; with_reducible rfl)
            simp only [List.getElem_toArray, List.getElem_cons_succ, List.getElem_cons_zero, Act.put, List.setIfInBounds_toArray, List.set_cons_zero, List.set_cons_succ]
            refine wpAnyH_take (i := 18) (v := ?_) rfl (by kernel_rfl) (by kernel_rfl) (by kernel_rfl) (fun _ _ _ h => h) (Or.inl ⟨by rfl, ?_⟩) (by assumption) ?_
            rotate_left
            · (intro W hSw; simp only [List.getElem_toArray, List.getElem_cons_succ, List.getElem_cons_zero]; (try dsimp only at hSw); go_simp; with_reducible rfl)
            simp only [List.getElem_toArray, List.getElem_cons_succ, List.getElem_cons_zero, Act.put, List.setIfInBounds_toArray, List.set_cons_zero, List.set_cons_succ]
            refine wpAnyH_take (i := 19) (v := ?_) rfl (by kernel_rfl) (by kernel_rfl) (by kernel_rfl) (fun _ _ _ h => h) (Or.inl ⟨by rfl, ?_⟩) (by assumption) ?_
            rotate_left
            · (intro W hSw; simp only [List.getElem_toArray, List.getElem_cons_succ, List.getElem_cons_zero]; (try dsimp only at hSw); go_simp; with_reducible rfl)
            simp only [List.getElem_toArray, List.getElem_cons_succ, List.getElem_cons_zero, Act.put, List.setIfInBounds_toArray, List.set_cons_zero, List.set_cons_succ]
            refine wpAnyH_take (i := 20) (v := ?_) rfl (by kernel_rfl) (by kernel_rfl) (by kernel_rfl) (fun _ _ _ h => h) (Or.inl ⟨by rfl, ?_⟩) (by assumption) ?_
            rotate_left
            · (intro W hSw; simp only [List.getElem_toArray, List.getElem_cons_succ, List.getElem_cons_zero]; (try dsimp only at hSw); go_simp; with_reducible rfl)
            simp only [List.getElem_toArray, List.getElem_cons_succ, List.getElem_cons_zero, Act.put, List.setIfInBounds_toArray, List.set_cons_zero, List.set_cons_succ]
            refine wpAnyH_ready (rs := [21]) (by kernel_rfl) (by simp) ?_
            refine AllReadyH.cons rfl (fun K hK => ?_) AllReadyH.nil
            (try simp only [List.getElem_toArray, List.getElem_cons_succ, List.getElem_cons_zero])
            go_simp
            go_wp2_with (go_at_call 63; refine (CH2.out _ hHeld.2.2.2.2.2.2.2.2.out.choose_spec.bel).mono ?_; rintro e w4 ⟨rfl, b1⟩)
            refine hK.out _ _ (kwx_next b1 hHeld) (fun hHeld => ?_)
            refine wpAnyH_take (i := 22) (v := ?_) rfl (by kernel_rfl) (by kernel_rfl) (by kernel_rfl) (fun _ _ _ h => h) (Or.inl ⟨by rfl, ?_⟩) (by assumption) ?_
            rotate_left
            · (intro W hSw; simp only [List.getElem_toArray, List.getElem_cons_succ, List.getElem_cons_zero]; (try dsimp only at hSw); go_simp; with_reducible rfl)
            simp only [List.getElem_toArray, List.getElem_cons_succ, List.getElem_cons_zero, Act.put, List.setIfInBounds_toArray, List.set_cons_zero, List.set_cons_succ]
            refine wpAnyH_take (i := 23) (v := ?_) rfl (by kernel_rfl) (by kernel_rfl) (by kernel_rfl) (fun _ _ _ h => h) (Or.inl ⟨by rfl, ?_⟩) (by assumption) ?_
            rotate_left
            · (intro W hSw; simp only [List.getElem_toArray, List.getElem_cons_succ, List.getElem_cons_zero]; (try dsimp only at hSw); go_simp; with_reducible rfl)
            simp only [List.getElem_toArray, List.getElem_cons_succ, List.getElem_cons_zero, Act.put, List.setIfInBounds_toArray, List.set_cons_zero, List.set_cons_succ]
            refine wpAnyH_ready (rs := [24]) (by kernel_rfl) (by simp) ?_
            refine AllReadyH.cons rfl (fun K hK => ?_) AllReadyH.nil
            (try simp only [List.getElem_toArray, List.getElem_cons_succ, List.getElem_cons_zero])
            go_simp
            have KP := kwx_put hHeld hi cq zq zr hv
            obtain ⟨_, hx8⟩ := hHeld.2.2.2.2.2.2.2.2.out
            have o9 := hx8.mw.cellR i hi q cq
            have f9 := hx8.mw.freeR i hi q
            have z9 := hx8.mw.ltR i hi
            go_wp2_with fail
            refine hK.out _ _ KP.1 (fun hHeld => ?_)
            (try simp only [List.getElem_toArray, List.getElem_cons_succ, List.getElem_cons_zero, Act.put, List.setIfInBounds_toArray, List.set_cons_zero, List.set_cons_succ])
            refine wpAnyH_done (by kernel_rfl) ?_ _
            refine NoPanic.normal ?_
            go_wp2_with fail
            go_roundw
            case rel => exact ⟨q + 1, by go_num, by omega, Lib.hid ⟨_, KP.2, NV.out hv (by simp)⟩⟩
            case measure => simp [intOf]; omega
        · obtain rfl : q = kp := by omega
          have mn := MN.out wr
          have hb5 := below_alloc wr (.cells (madeCells #[.bool false] d) 4)
          have far0 := XX.out.big
          have Y0 : Hid (∃ f : Rl2, ∃ o : Nat → Bool, Wo14 w (wr.alloc (.cells (madeCells #[.bool false] d) 4)) Ap q cp a b Ae ke ce d f wr.heap.size o ∧ (∀ j2 q2, j2 < d → q2 < q → (f j2 q2 = true ↔ RC R a b Ps Es i i 0 0 j2 q2)) ∧ OJ R a b Ps Es i d i o) := Lib.hid ⟨f, fun _ => false, ⟨XX.out.next hb5, Or.made wr d, by omega⟩, fun j2 q2 h1 h2 => by
            show f j2 q2 = true ↔ Rch (hvR R) (HR R Ps) R.length (sR a b Ps Es) i i 0 0 j2 q2
            rw [FF.out j2 q2 h1 h2, rch_start]
            exact ⟨fun h => ⟨h.1, h.2.2.1, h.2.2.2⟩, fun h => ⟨h.1, h2, h.2.1, h.2.2⟩⟩, ⟨fun j' h1 h2 => absurd h1 (by omega), fun _ _ _ => rfl⟩⟩
          have Z0 : Hid (w.heap.size + 2 + d ≤ wr.heap.size) := Lib.hid far0
          clear XX FF BF HFI hb5 a0 a1 a2 a3 far0
          go_upto_region 14 with fail
          generalize wr.alloc (.cells (madeCells #[.bool false] d) 4) = w5 at Y0 ⊢
          generalize wr.heap.size = g at Y0 Z0 ⊢
          clear mn
          go_wp2_with fail
          go_loopw [12] (fun v W => ∃ (j : Nat), v = .int .i64 (j : Int) ∧ i ≤ j ∧ j ≤ d ∧ Hid (∃ f : Rl2, ∃ o : Nat → Bool, Wo14 w W Ap q cp a b Ae ke ce d f g o ∧ (∀ j2 q2, j2 < d → q2 < q → (f j2 q2 = true ↔ RC R a b Ps Es i j 0 0 j2 q2)) ∧ OJ R a b Ps Es i d j o)) (fun v _ => d - (intOf v).toNat)
          case atStart => exact ⟨i, rfl, by omega, by omega, Y0⟩
          case round =>
            obtain ⟨j, rfl, hij, hjd, Y⟩ := hrel
            clear Y0
            by_cases cj : j < d
            · obtain ⟨f, o, hX, hf, ho⟩ := Y.out
              have V0 : Hid (∃ o : Nat → Bool, Wo14 w wr Ap q cp a b Ae ke ce d f g o ∧ (∀ j', i ≤ j' → j' < j → (o j' = true ↔ Acc (hvR R) (HR R Ps) R.length (sR a b Ps Es) i j')) ∧ (∀ j', j < j' → j' < d → o j' = false) ∧ (o j = true ↔ ∃ q2, q2 < 0 ∧ f j q2 = true ∧ b.testBit q2 = true)) := Lib.hid ⟨o, hX, ho.1, fun j' h1 h2 => ho.2 j' (by omega) h2, by rw [ho.2 j (Nat.le_refl _) cj]; exact ⟨fun h => (by cases h), fun ⟨_, h, _⟩ => absurd h (by omega)⟩⟩
              have FF := Lib.hid hf
              clear Y hX hf ho
              go_wp2_with fail
              go_loopw [74] (fun v W => ∃ (p : Nat), v = .int .i64 (p : Int) ∧ p ≤ q ∧ Hid (∃ o : Nat → Bool, Wo14 w W Ap q cp a b Ae ke ce d f g o ∧ (∀ j', i ≤ j' → j' < j → (o j' = true ↔ Acc (hvR R) (HR R Ps) R.length (sR a b Ps Es) i j')) ∧ (∀ j', j < j' → j' < d → o j' = false) ∧ (o j = true ↔ ∃ q2, q2 < p ∧ f j q2 = true ∧ b.testBit q2 = true))) (fun v _ => q - (intOf v).toNat)
              case atStart => exact ⟨0, rfl, by omega, V0⟩
              case round =>
                obtain ⟨p, rfl, hp, V⟩ := hrel
                clear V0
                obtain ⟨o, hX, ho1, ho2, ho3⟩ := V.out
                have XX := Lib.hid hX
                have O1 := Lib.hid ho1
                have O2 := Lib.hid ho2
                have O3 := Lib.hid ho3
                clear V hX ho1 ho2 ho3
                by_cases cp' : p < q
                · have r0 := XX.out.r.cell j cj
                  have rf := XX.out.r.free j
                  have rz := XX.out.r.lt
                  have NX : Hid (∀ v : Bool, v = (o j || (f j p && b.testBit p)) → ∃ o' : Nat → Bool, Wo14 w (wr.setCell ⟨g, j, none⟩ (.bool v)) Ap q cp a b Ae ke ce d f g o' ∧ (∀ j', i ≤ j' → j' < j → (o' j' = true ↔ Acc (hvR R) (HR R Ps) R.length (sR a b Ps Es) i j')) ∧ (∀ j', j < j' → j' < d → o' j' = false) ∧ (o' j = true ↔ ∃ q2, q2 < p + 1 ∧ f j q2 = true ∧ b.testBit q2 = true)) := Lib.hid (fun v hv => by
                    refine ⟨_, XX.out.ans j cj v, fun j' h1 h2 => ?_, fun j' h1 h2 => ?_, ?_⟩
                    · show (if j' = j then v else o j') = true ↔ _
                      rw [if_neg (by omega)]; exact O1.out j' h1 h2
                    · show (if j' = j then v else o j') = false
                      rw [if_neg (by omega)]; exact O2.out j' h1 h2
                    · show (if j = j then v else o j) = true ↔ _
                      rw [if_pos rfl, hv, Bool.or_eq_true, O3.out, Bool.and_eq_true]
                      constructor
                      · rintro (⟨q2, h1, h2, h3⟩ | ⟨h2, h3⟩)
                        · exact ⟨q2, by omega, h2, h3⟩
                        · exact ⟨p, by omega, h2, h3⟩
                      · rintro ⟨q2, h1, h2, h3⟩
                        by_cases c : q2 = p
                        · subst c; exact .inr ⟨h2, h3⟩
                        · exact .inl ⟨q2, by omega, h2, h3⟩)
                  obtain ⟨oj, hoj⟩ : ∃ z, o j = z := ⟨_, rfl⟩
                  obtain ⟨fj, hfj⟩ : ∃ z, f j p = z := ⟨_, rfl⟩
                  obtain ⟨bj, hbj⟩ : ∃ z, b.testBit p = z := ⟨_, rfl⟩
                  have BB := Lib.hid (BL.out p (by omega))
                  have o0 := XX.out.x.mw.cellO j cj
                  have m0 := XX.out.x.mw.cellR j cj p cp'
                  have zO := XX.out.x.mw.ltO
                  have zR := XX.out.x.mw.ltR j cj
                  obtain ⟨a0, a1, a2, a3, _⟩ := XX.out.x.ab.cells
                  have zA := XX.out.x.ab.lt
                  have uL : IntKind.u64.wrap (b : Int) = (b : Int) := by rw [IntKind.wrap_u64]; omega
                  rw [hoj] at r0 NX
                  rw [hfj] at m0 NX
                  rw [hbj] at BB NX
                  clear hoj hfj hbj XX O1 O2 O3
                  cases oj
                  · cases fj
                    · have NN := Lib.hid (NX.out false (by simp))
                      clear NX
                      go_wp2_with fail
                      go_roundw
                      case rel => exact ⟨p + 1, by go_num, by omega, NN⟩
                      case measure => simp [intOf]; omega
                    · have NN := Lib.hid (NX.out bj (by simp))
                      clear NX
                      go_wp2_with fail
                      refine (BB.out _).mono ?_
                      rintro e w9 ⟨rfl, rfl⟩
                      go_wp2_with fail
                      go_roundw
                      case rel => exact ⟨p + 1, by go_num, by omega, NN⟩
                      case measure => simp [intOf]; omega
                  · have NN := Lib.hid (NX.out true (by simp))
                    clear NX
                    go_wp2_with fail
                    go_roundw
                    case rel => exact ⟨p + 1, by go_num, by omega, NN⟩
                    case measure => simp [intOf]; omega
                · obtain rfl : p = q := by omega
                  have G0 : Hid (∃ f : Rl2, ∃ o : Nat → Bool, Wo14 w wr Ap p cp a b Ae ke ce d f g o ∧ (∀ j2 q2, j2 < d → q2 < p → (f j2 q2 = true ↔ RC R a b Ps Es i j 0 0 j2 q2)) ∧ OJ R a b Ps Es i d (j + 1) o) := Lib.hid ⟨f, o, XX.out, FF.out, fun j' h1 h2 => by
                    by_cases c : j' = j
                    · subst c
                      rw [O3.out, acc_at]
                      constructor
                      · rintro ⟨q2, h1, h2, h3⟩
                        exact ⟨q2, (rch_at (by have := HN.out; omega) (Nat.le_refl _)).1 ((FF.out j' q2 cj h1).1 h2), h3⟩
                      · rintro ⟨q2, h2, h3⟩
                        have hq2 := HLA.out q2 h3
                        exact ⟨q2, hq2, (FF.out j' q2 cj hq2).2 ((rch_at (by have := HN.out; omega) (Nat.le_refl _)).2 h2), h3⟩
                    · exact O1.out j' h1 (by omega), fun j' h1 h2 => O2.out j' (by omega) h2⟩
                  obtain ⟨a0, a1, a2, a3, _⟩ := XX.out.x.ab.cells
                  have zA := XX.out.x.ab.lt
                  clear XX O1 O2 O3 FF
                  go_wp2_with fail
                  clear a0 a1 a2 a3 zA
                  go_loopw [104] (fun v W => ∃ (e : Nat), v = .int .i64 (e : Int) ∧ e ≤ ke ∧ Hid (∃ f : Rl2, ∃ o : Nat → Bool, Wo14 w W Ap p cp a b Ae ke ce d f g o ∧ (∀ j2 q2, j2 < d → q2 < p → (f j2 q2 = true ↔ RC R a b Ps Es i j e 0 j2 q2)) ∧ OJ R a b Ps Es i d (j + 1) o)) (fun v _ => ke - (intOf v).toNat)
                  case atStart => exact ⟨0, rfl, by omega, G0⟩
                  case round =>
                    obtain ⟨e, rfl, he, G⟩ := hrel
                    clear G0
                    by_cases ce' : e < ke
                    · obtain ⟨f, o, hX, hf, ho⟩ := G.out
                      have OO := Lib.hid ho
                      have EXe := EX.out e ce'
                      obtain ⟨gE, rfl, e0, e1, e2, e3, e4, e5⟩ := RE.out e ce' wr hX.x.bel
                      obtain ⟨eb0, eb1⟩ := EB.out e ce'
                      have CG := Lib.hid (CE.out e ce')
                      have FF := Lib.hid hf
                      obtain ⟨a0, a1, a2, a3, _⟩ := hX.x.ab.cells
                      obtain ⟨x, hx⟩ : ∃ x, Es.getD e ed0' = x := ⟨_, rfl⟩
                      rw [hx] at e0 e1 e2 e3 e4 e5 EXe eb0 eb1 CG
                      have X0 : Hid (Wb w (wr.alloc (eobx x)) Ap p cp a b (some ⟨gE, 0, none⟩) ke ce d f g o wr.heap.size x) := Lib.hid (Wb.start hX x)
                      have EE := Lib.hid EXe
                      clear hx G hX hf ho EXe
                      obtain ⟨xf, xg, xy, ⟨xx, xt, xa, xn, xc, xL⟩⟩ := x
                      simp only at e0 e1 e2 e3 e4 e5 eb0 eb1
                      go_upto_region 25 with fail
                      generalize wr.alloc (eobx ⟨xf, xg, xy, ⟨xx, xt, xa, xn, xc, xL⟩⟩) = w6 at X0 ⊢
                      generalize wr.heap.size = ge at X0 ⊢
                      clear e0 e1 e2 e3 e4 e5 a0 a1 a2 a3
                      obtain ⟨b0, b1, b2, b3, b4, b5⟩ := X0.out.cells
                      have o0 := X0.out.x.x.mw.cellO j cj
                      have m0 := X0.out.x.x.mw.cellR j cj xf eb0
                      have n1 : decide ((p : Int) ≤ (xf : Int)) = false := by simp; omega
                      have n1' : decide (p ≤ xf) = false := by simp; omega
                      have n2 : decide ((p : Int) ≤ (xg : Int)) = false := by simp; omega
                      have n2' : decide (p ≤ xg) = false := by simp; omega
                      have hwf : IntKind.i64.wrap (xf : Int) = (xf : Int) := by rw [IntKind.wrap_i64]; omega
                      have hwg : IntKind.i64.wrap (xg : Int) = (xg : Int) := by rw [IntKind.wrap_i64]; omega
                      obtain ⟨fj, hfj⟩ : ∃ z, f j xf = z := ⟨_, rfl⟩
                      have FJ := Lib.hid hfj
                      rw [hfj] at m0
                      have XD := Lib.hid (fun m => X0.out.next (below_drewN w6.heap.size w6 m))
                      clear hfj
                      cases fj
                      · have NX : Hid (∀ m, ∃ f : Rl2, ∃ o : Nat → Bool, Wo14 w (w6.drewN m) Ap p cp a b (some ⟨gE, 0, none⟩) ke ce d f g o ∧ (∀ j2 q2, j2 < d → q2 < p → (f j2 q2 = true ↔ RC R a b Ps Es i j (e + 1) 0 j2 q2)) ∧ OJ R a b Ps Es i d (j + 1) o) := Lib.hid (fun m => ⟨f, o, (XD.out m).x, fun j2 q2 h1 h2 => by
                          rw [FF.out j2 q2 h1 h2]
                          exact rch_skip EE.out (fun ha => by
                            have := (FF.out j xf cj eb0).2 ((rch_at (by have := HN.out; omega) (Nat.le_refl _)).2 ha)
                            rw [FJ.out] at this
                            cases this), OO.out⟩)
                        clear X0 XD
                        go_quiet (fail)
                        go_wp2_with fail
                        go_roundw
                        case rel => exact ⟨e + 1, by go_num, by omega, Lib.hid (NX.out _)⟩
                        case measure => simp [intOf]; omega
                      · have AJ := Lib.hid (show RA R a b Ps Es i xf j from (rch_at (by have := HN.out; omega) (Nat.le_refl _)).1 ((FF.out j xf cj eb0).1 FJ.out))
                        have H0 : Hid (∀ m, ∃ f : Rl2, Wb w (w6.drewN m) Ap p cp a b (some ⟨gE, 0, none⟩) ke ce d f g o ge ⟨xf, xg, xy, ⟨xx, xt, xa, xn, xc, xL⟩⟩ ∧ (∀ j2 q2, j2 < d → q2 < p → (f j2 q2 = true ↔ RC R a b Ps Es i j e (j + 1) j2 q2)) ∧ (∀ m, j < m → m < j + 1 → (xy && hq R ⟨xx, xt, xa, xn, xc, xL⟩ m) = false)) := Lib.hid (fun m => ⟨f, XD.out m, fun j2 q2 h1 h2 => by rw [FF.out j2 q2 h1 h2]; exact rch_begin, fun m h1 h2 => absurd h1 (by omega)⟩)
                        clear X0 XD FF FJ
                        go_quiet (fail)
                        go_wp2_with fail
                        go_loopw [16] (fun v W => ∃ (k : Nat), v = .int .i64 (k : Int) ∧ j < k ∧ k ≤ d ∧ Hid (∃ f : Rl2, Wb w W Ap p cp a b (some ⟨gE, 0, none⟩) ke ce d f g o ge ⟨xf, xg, xy, ⟨xx, xt, xa, xn, xc, xL⟩⟩ ∧ (∀ j2 q2, j2 < d → q2 < p → (f j2 q2 = true ↔ RC R a b Ps Es i j e k j2 q2)) ∧ (∀ m, j < m → m < k → (xy && hq R ⟨xx, xt, xa, xn, xc, xL⟩ m) = false))) (fun v _ => d - (intOf v).toNat)
                        case atStart => exact ⟨j + 1, by go_num, by omega, by omega, Lib.hid (H0.out _)⟩
                        case round =>
                          obtain ⟨k, rfl, hjk, hkd, I⟩ := hrel
                          clear H0 b0 b1 b2 b3 b4 b5 o0 m0
                          by_cases ck : k < d
                          · obtain ⟨f, hX, hf, hg⟩ := I.out
                            obtain ⟨gq, rfl, c0, c1, c2⟩ := RP.out xg eb1 wr hX.x.x.bel
                            obtain ⟨rb, ro, rfl, e0, e1, e2, e3, e4⟩ := RR.out k ck wr hX.x.x.bel
                            obtain ⟨b0, b1, b2, b3, b4, b5⟩ := hX.cells
                            obtain ⟨a0, a1, a2, a3, _⟩ := hX.x.x.ab.cells
                            have CA := CQ.out xg eb1 k ck
                            have CB := CG.out k ck
                            obtain ⟨hv, hhv⟩ : ∃ z, HR R Ps xg k = z := ⟨_, rfl⟩
                            obtain ⟨gv, hgv⟩ : ∃ z, hq R ⟨xx, xt, xa, xn, xc, xL⟩ k = z := ⟨_, rfl⟩
                            have CA2 : Hid (∀ W (hW : Below w.heap.size w W), Calls Tryz.prog 63 #[pv (Ps.getD xg qz).x (Ps.getD xg qz).t (Ps.getD xg qz).a (Ps.getD xg qz).n (Ps.getD xg qz).c, ev (R.getD k lz).t (R.getD k lz).a (R.getD k lz).n (R.getD k lz).c] W fun e w' => e = .returned (.bool hv) ∧ Below W.heap.size W w') := Lib.hid (fun W hW => by
                              have := CA W hW
                              rw [show hq R (Ps.getD xg qz) k = hv from hhv] at this
                              exact this)
                            have CB2 : Hid (∀ W (hW : Below w.heap.size w W), Calls Tryz.prog 63 #[pv xx xt xa xn xc, ev (R.getD k lz).t (R.getD k lz).a (R.getD k lz).n (R.getD k lz).c] W fun e w' => e = .returned (.bool gv) ∧ Below W.heap.size W w') := Lib.hid (fun W hW => by
                              have := CB W hW
                              rw [hgv] at this
                              exact this)
                            have STP := Lib.hid (fun j2 q2 => rch_step (k := k) (j2 := j2) (q := q2) EE.out AJ.out hjk (by have := HN.out; omega) hg)
                            have HG := Lib.hid (And.intro hg hgv)
                            have FF := Lib.hid hf
                            have X0 := Lib.hid hX
                            have HV := Lib.hid hhv
                            clear I hX hf hg CA CB hgv hhv
                            obtain ⟨z, hz⟩ : ∃ x, Ps.getD xg qz = x := ⟨_, rfl⟩
                            obtain ⟨y, hy⟩ : ∃ y, R.getD k lz = y := ⟨_, rfl⟩
                            rw [hz] at c0 c1 c2 CA2
                            rw [hy] at e0 e1 e2 e3 e4 CA2 CB2
                            have HY := Lib.hid hy
                            clear hz hy e0 e1 e2
                            obtain ⟨zx, zt, za, zn, zc, zL⟩ := z
                            obtain ⟨ypub, yseq, yat, yt, ya, yn, yc, yE⟩ := y
                            simp only at c0 c1 c2 e3 e4 b0 b1 b2 b3 b4 b5
                            have K0 : Hid (K29 w wr.drew gq p cp a b gE ke ce d f g o ge ⟨xf, xg, xy, ⟨xx, xt, xa, xn, xc, xL⟩⟩ xg zx zt za zn zc rb ro k yt ya yn yc) := Lib.hid (k29_next (Below.refl _ _).drew ⟨a0, b1, c0, c1, c2, e3, e4, X0⟩)
                            have hgi : (xg : Int) < (p : Int) := by omega
                            have hki : (k : Int) < (d : Int) := by omega
                            go_wp2_with fail
                            go_region_held3 (fun W => W.cell? ⟨w.heap.size, 0, none⟩ = some (.slice (some ⟨gq, 0, none⟩) p cp) ∧ W.cell? ⟨ge, 1, none⟩ = some (.int .u8 (xg : Int)) ∧ W.cell? ⟨gq, xg * 3, none⟩ = some (.bool zx) ∧ W.cell? ⟨gq, xg * 3 + 1, none⟩ = some (.int .u8 zt) ∧ W.cell? ⟨gq, xg * 3 + 2, none⟩ = some (.slice za zn zc) ∧ W.cell? ⟨rb, ro + k * 5 + 3, none⟩ = some (.int .u8 yt) ∧ W.cell? ⟨rb, ro + k * 5 + 4, none⟩ = some (.slice ya yn yc) ∧ Hid (Wb w W (some ⟨gq, 0, none⟩) p cp a b (some ⟨gE, 0, none⟩) ke ce d f g o ge ⟨xf, xg, xy, ⟨xx, xt, xa, xn, xc, xL⟩⟩))
                              (first | (with_reducible assumption) | (with_reducible exact K0.out) | (with_reducible exact k29_next b1 (by assumption)))
                              (first | (go_at_call 63; (with_reducible refine Calls.mono (CA2.out _ ?_) ?_); (first | (with_reducible exact K0.out.2.2.2.2.2.2.2.out.x.x.bel) | (with_reducible exact (And.right (And.right (And.right (And.right (And.right (And.right (And.right (by assumption)))))))).out.x.x.bel)); rintro e w' ⟨rfl, b1⟩))
                            rename_i hHeld
                            have X1 := hHeld.2.2.2.2.2.2.2
                            clear hHeld K0 X0 a0 a1 a2 a3 b0 b1 b2 b3 b4 b5 c0 c1 c2 e3 e4 CA2
                            cases hv
                            · have FF2 : Hid (∀ j2 q2, j2 < d → q2 < p → (f j2 q2 = true ↔ RC R a b Ps Es i j e (k + 1) j2 q2)) := Lib.hid (fun j2 q2 h1 h2 => by
                                refine (FF.out j2 q2 h1 h2).trans (Iff.trans ?_ (STP.out j2 q2).symm)
                                exact ⟨.inl, fun h => h.elim id (fun h => by have h3 : HR R Ps xg k = true := h.2.2; rw [HV.out] at h3; cases h3)⟩)
                              have X2 := Lib.hid X1.out
                              clear X1 FF STP HV
                              go_upto_region 31 with fail
                              generalize w' = w9 at X2 ⊢
                              cases xy
                              · obtain ⟨b0, b1, b2, b3, b4, b5⟩ := X2.out.cells
                                simp only at b0 b1 b2 b3 b4 b5
                                have I2 : Hid (∀ m, ∃ f : Rl2, Wb w (w9.drewN m) (some ⟨gq, 0, none⟩) p cp a b (some ⟨gE, 0, none⟩) ke ce d f g o ge ⟨xf, xg, false, ⟨xx, xt, xa, xn, xc, xL⟩⟩ ∧ (∀ j2 q2, j2 < d → q2 < p → (f j2 q2 = true ↔ RC R a b Ps Es i j e (k + 1) j2 q2)) ∧ (∀ m, j < m → m < k + 1 → (false && hq R ⟨xx, xt, xa, xn, xc, xL⟩ m) = false)) := Lib.hid (fun m => ⟨f, X2.out.next (below_drewN w9.heap.size w9 m), FF2.out, fun _ _ _ => rfl⟩)
                                clear X2 FF2
                                go_wp2_with fail
                                go_quiet (fail)
                                go_wp2_with fail
                                go_roundw
                                case rel => exact ⟨k + 1, by go_num, by omega, by omega, Lib.hid (I2.out _)⟩
                                case measure => simp [intOf]; omega
                              · obtain ⟨b0, b1, b2, b3, b4, b5⟩ := X2.out.cells
                                obtain ⟨rb', ro', er, _, _, _, e3, e4⟩ := RR.out k ck w9 X2.out.x.x.bel
                                injection er with er
                                injection er with er1 er2
                                subst er1 er2
                                rw [HY.out] at e3 e4
                                simp only at b0 b1 b2 b3 b4 b5 e3 e4
                                have K1 : Hid (K31 w w9.drew gq p cp a b gE ke ce d f g o ge xf xg true xx xt xa xn xc xL rb ro k yt ya yn yc) := Lib.hid (k31_next (Below.refl _ _).drew ⟨b2, b3, b4, b5, e3, e4, X2⟩)
                                clear X2
                                go_wp2_with fail
                                go_region_held3 (fun W => W.cell? ⟨ge, 2, none⟩ = some (.bool true) ∧ W.cell? ⟨ge, 3, none⟩ = some (.bool xx) ∧ W.cell? ⟨ge, 4, none⟩ = some (.int .u8 xt) ∧ W.cell? ⟨ge, 5, none⟩ = some (.slice xa xn xc) ∧ W.cell? ⟨rb, ro + k * 5 + 3, none⟩ = some (.int .u8 yt) ∧ W.cell? ⟨rb, ro + k * 5 + 4, none⟩ = some (.slice ya yn yc) ∧ Hid (Wb w W (some ⟨gq, 0, none⟩) p cp a b (some ⟨gE, 0, none⟩) ke ce d f g o ge ⟨xf, xg, true, ⟨xx, xt, xa, xn, xc, xL⟩⟩))
                                  (first | (with_reducible assumption) | (with_reducible exact K1.out) | (with_reducible exact k31_next b1 (by assumption)))
                                  (first | (go_at_call 63; (with_reducible refine Calls.mono (CB2.out _ ?_) ?_); (first | (with_reducible exact K1.out.2.2.2.2.2.2.out.x.x.bel) | (with_reducible exact (And.right (And.right (And.right (And.right (And.right (And.right (by assumption))))))).out.x.x.bel)); rintro e w' ⟨rfl, b1⟩))
                                rename_i hHeld
                                have X3 := hHeld.2.2.2.2.2.2
                                clear hHeld K1 b0 b1 b2 b3 b4 b5 e3 e4 CB2
                                cases gv
                                · have I2 : Hid (∃ f : Rl2, Wb w w' (some ⟨gq, 0, none⟩) p cp a b (some ⟨gE, 0, none⟩) ke ce d f g o ge ⟨xf, xg, true, ⟨xx, xt, xa, xn, xc, xL⟩⟩ ∧ (∀ j2 q2, j2 < d → q2 < p → (f j2 q2 = true ↔ RC R a b Ps Es i j e (k + 1) j2 q2)) ∧ (∀ m, j < m → m < k + 1 → (true && hq R ⟨xx, xt, xa, xn, xc, xL⟩ m) = false)) := Lib.hid ⟨f, X3.out, FF2.out, fun m h1 h2 => by
                                    by_cases c : m = k
                                    · rw [c, HG.out.2]; rfl
                                    · exact HG.out.1 m h1 (by omega)⟩
                                  clear X3 FF2
                                  go_wp2_with fail
                                  go_roundw
                                  case rel => exact ⟨k + 1, by go_num, by omega, by omega, I2⟩
                                  case measure => simp [intOf]; omega
                                · have NX : Hid (∃ f : Rl2, ∃ o : Nat → Bool, Wo14 w w' (some ⟨gq, 0, none⟩) p cp a b (some ⟨gE, 0, none⟩) ke ce d f g o ∧ (∀ j2 q2, j2 < d → q2 < p → (f j2 q2 = true ↔ RC R a b Ps Es i j (e + 1) 0 j2 q2)) ∧ OJ R a b Ps Es i d (j + 1) o) := Lib.hid ⟨f, o, X3.out.x, fun j2 q2 h1 h2 => by
                                    rw [FF2.out j2 q2 h1 h2]
                                    exact rch_break EE.out hjk (show (true && hq R ⟨xx, xt, xa, xn, xc, xL⟩ k) = true by rw [HG.out.2]; rfl), OO.out⟩
                                  clear X3 FF2
                                  go_wp2_with fail
                                  go_roundw
                                  case rel => exact ⟨e + 1, by go_num, by omega, NX⟩
                                  case measure => simp [intOf]; omega
                            · have o0 := X1.out.x.x.mw.cellO k ck
                              have m0 := X1.out.x.x.mw.cellR k ck xg eb1
                              have mf := X1.out.x.x.mw.freeR k ck xg
                              have mz := X1.out.x.x.mw.ltR k ck
                              obtain ⟨b0, b1, b2, b3, b4, b5⟩ := X1.out.cells
                              have zO := X1.out.x.x.mw.ltO
                              have zE := X1.out.lt
                              have X2 := Lib.hid ((X1.out.put k ck xg eb1 true).next (Below.refl _ _).drew)
                              have FF2 : Hid (∀ j2 q2, j2 < d → q2 < p → ((if j2 = k ∧ q2 = xg then true else f j2 q2) = true ↔ RC R a b Ps Es i j e (k + 1) j2 q2)) := Lib.hid (fun j2 q2 h1 h2 => by
                                refine Iff.trans ?_ (STP.out j2 q2).symm
                                have hfr := FF.out j2 q2 h1 h2
                                by_cases c : j2 = k ∧ q2 = xg
                                · rw [if_pos c]; exact ⟨fun _ => .inr ⟨c.1, c.2, HV.out⟩, fun _ => rfl⟩
                                · rw [if_neg c]; exact ⟨fun h => .inl (hfr.1 h), fun h => h.elim (fun h => hfr.2 h) (fun h => absurd ⟨h.1, h.2.1⟩ c)⟩)
                              clear FF STP HV
                              go_wp2_with fail
                              go_region
                              clear o0 m0 mf mz b0 b1 b2 b3 b4 b5 zO zE X1
                              go_upto_region 31 with fail
                              generalize (w'.setCell ⟨w.heap.size + 1 + 1 + k, xg, none⟩ (.bool true)).drew = w9 at X2 ⊢
                              generalize hF : (fun c e => if c = k ∧ e = xg then true else f c e) = F1 at X2
                              have FF2 : Hid (∀ j2 q2, j2 < d → q2 < p → (F1 j2 q2 = true ↔ RC R a b Ps Es i j e (k + 1) j2 q2)) := Lib.hid (by rw [← hF]; exact FF2.out)
                              clear hF
                              cases xy
                              · obtain ⟨b0, b1, b2, b3, b4, b5⟩ := X2.out.cells
                                simp only at b0 b1 b2 b3 b4 b5
                                have I2 : Hid (∀ m, ∃ f : Rl2, Wb w (w9.drewN m) (some ⟨gq, 0, none⟩) p cp a b (some ⟨gE, 0, none⟩) ke ce d f g o ge ⟨xf, xg, false, ⟨xx, xt, xa, xn, xc, xL⟩⟩ ∧ (∀ j2 q2, j2 < d → q2 < p → (f j2 q2 = true ↔ RC R a b Ps Es i j e (k + 1) j2 q2)) ∧ (∀ m, j < m → m < k + 1 → (false && hq R ⟨xx, xt, xa, xn, xc, xL⟩ m) = false)) := Lib.hid (fun m => ⟨F1, X2.out.next (below_drewN w9.heap.size w9 m), FF2.out, fun _ _ _ => rfl⟩)
                                clear X2 FF2
                                go_wp2_with fail
                                go_quiet (fail)
                                go_wp2_with fail
                                go_roundw
                                case rel => exact ⟨k + 1, by go_num, by omega, by omega, Lib.hid (I2.out _)⟩
                                case measure => simp [intOf]; omega
                              · obtain ⟨b0, b1, b2, b3, b4, b5⟩ := X2.out.cells
                                obtain ⟨rb', ro', er, _, _, _, e3, e4⟩ := RR.out k ck w9 X2.out.x.x.bel
                                injection er with er
                                injection er with er1 er2
                                subst er1 er2
                                rw [HY.out] at e3 e4
                                simp only at b0 b1 b2 b3 b4 b5 e3 e4
                                have K1 : Hid (K31 w w9.drew gq p cp a b gE ke ce d F1 g o ge xf xg true xx xt xa xn xc xL rb ro k yt ya yn yc) := Lib.hid (k31_next (Below.refl _ _).drew ⟨b2, b3, b4, b5, e3, e4, X2⟩)
                                clear X2
                                go_wp2_with fail
                                go_region_held3 (fun W => W.cell? ⟨ge, 2, none⟩ = some (.bool true) ∧ W.cell? ⟨ge, 3, none⟩ = some (.bool xx) ∧ W.cell? ⟨ge, 4, none⟩ = some (.int .u8 xt) ∧ W.cell? ⟨ge, 5, none⟩ = some (.slice xa xn xc) ∧ W.cell? ⟨rb, ro + k * 5 + 3, none⟩ = some (.int .u8 yt) ∧ W.cell? ⟨rb, ro + k * 5 + 4, none⟩ = some (.slice ya yn yc) ∧ Hid (Wb w W (some ⟨gq, 0, none⟩) p cp a b (some ⟨gE, 0, none⟩) ke ce d F1 g o ge ⟨xf, xg, true, ⟨xx, xt, xa, xn, xc, xL⟩⟩))
                                  (first | (with_reducible assumption) | (with_reducible exact K1.out) | (with_reducible exact k31_next b1 (by assumption)))
                                  (first | (go_at_call 63; (with_reducible refine Calls.mono (CB2.out _ ?_) ?_); (first | (with_reducible exact K1.out.2.2.2.2.2.2.out.x.x.bel) | (with_reducible exact (And.right (And.right (And.right (And.right (And.right (And.right (by assumption))))))).out.x.x.bel)); rintro e w' ⟨rfl, b1⟩))
                                rename_i hHeld
                                have X3 := hHeld.2.2.2.2.2.2
                                clear hHeld K1 b0 b1 b2 b3 b4 b5 e3 e4 CB2
                                cases gv
                                · have I2 : Hid (∃ f : Rl2, Wb w w' (some ⟨gq, 0, none⟩) p cp a b (some ⟨gE, 0, none⟩) ke ce d f g o ge ⟨xf, xg, true, ⟨xx, xt, xa, xn, xc, xL⟩⟩ ∧ (∀ j2 q2, j2 < d → q2 < p → (f j2 q2 = true ↔ RC R a b Ps Es i j e (k + 1) j2 q2)) ∧ (∀ m, j < m → m < k + 1 → (true && hq R ⟨xx, xt, xa, xn, xc, xL⟩ m) = false)) := Lib.hid ⟨F1, X3.out, FF2.out, fun m h1 h2 => by
                                    by_cases c : m = k
                                    · rw [c, HG.out.2]; rfl
                                    · exact HG.out.1 m h1 (by omega)⟩
                                  clear X3 FF2
                                  go_wp2_with fail
                                  go_roundw
                                  case rel => exact ⟨k + 1, by go_num, by omega, by omega, I2⟩
                                  case measure => simp [intOf]; omega
                                · have NX : Hid (∃ f : Rl2, ∃ o : Nat → Bool, Wo14 w w' (some ⟨gq, 0, none⟩) p cp a b (some ⟨gE, 0, none⟩) ke ce d f g o ∧ (∀ j2 q2, j2 < d → q2 < p → (f j2 q2 = true ↔ RC R a b Ps Es i j (e + 1) 0 j2 q2)) ∧ OJ R a b Ps Es i d (j + 1) o) := Lib.hid ⟨F1, o, X3.out.x, fun j2 q2 h1 h2 => by
                                    rw [FF2.out j2 q2 h1 h2]
                                    exact rch_break EE.out hjk (show (true && hq R ⟨xx, xt, xa, xn, xc, xL⟩ k) = true by rw [HG.out.2]; rfl), OO.out⟩
                                  clear X3 FF2
                                  go_wp2_with fail
                                  go_roundw
                                  case rel => exact ⟨e + 1, by go_num, by omega, NX⟩
                                  case measure => simp [intOf]; omega
                          · obtain rfl : k = d := by omega
                            obtain ⟨f, hX, hf, hg⟩ := I.out
                            have NX : Hid (∃ f : Rl2, ∃ o : Nat → Bool, Wo14 w wr Ap p cp a b (some ⟨gE, 0, none⟩) ke ce k f g o ∧ (∀ j2 q2, j2 < k → q2 < p → (f j2 q2 = true ↔ RC R a b Ps Es i j (e + 1) 0 j2 q2)) ∧ OJ R a b Ps Es i k (j + 1) o) := Lib.hid ⟨f, o, hX.x, fun j2 q2 h1 h2 => by
                              rw [hf j2 q2 h1 h2, ← HN.out]
                              exact rch_end, OO.out⟩
                            clear I hX hf hg
                            go_wp2_with fail
                            go_roundw
                            case rel => exact ⟨e + 1, by go_num, by omega, NX⟩
                            case measure => simp [intOf]; omega
                    · obtain rfl : e = ke := by omega
                      have NX : Hid (∃ f : Rl2, ∃ o : Nat → Bool, Wo14 w wr Ap p cp a b Ae e ce d f g o ∧ (∀ j2 q2, j2 < d → q2 < p → (f j2 q2 = true ↔ RC R a b Ps Es i (j + 1) 0 0 j2 q2)) ∧ OJ R a b Ps Es i d (j + 1) o) := Lib.hid (by
                        obtain ⟨f, o, hX, hf, ho⟩ := G.out
                        refine ⟨f, o, hX, fun j2 q2 h1 h2 => ?_, ho⟩
                        rw [hf j2 q2 h1 h2, ← EL.out]
                        exact rch_turn)
                      clear G
                      go_wp2_with fail
                      go_roundw
                      case rel => exact ⟨j + 1, by go_num, by omega, by omega, NX⟩
                      case measure => simp [intOf]; omega
            · obtain rfl : j = d := by omega
              obtain ⟨f, o, hX, hf, ho⟩ := Y.out
              have OC := hX.r.cell
              have ZR := Lib.hid (And.intro OC (And.intro ho.1 hX.x.bel))
              clear Y hX hf ho OC
              go_wp2_with fail
              go_ret
              exact ⟨g, o, rfl, ZR.out.1, Lib.hid (fun j' h1 h2 => ZR.out.2.1 j' h1 h2), ZR.out.2.2⟩
end Go.Proofs.YtpnllbojifnopaaGreatDoor
