/- Contracts, joined: SgM, SgP. -/
import Derived.Test.YtcodihgjfhoepaaGreatDoorSgO
import Derived.Test.YtcodihgjfhoepaaGreatDoorDkDb
/- A log in memory: rows of numbers, rows of records that lie elsewhere, the log's struct, and its disk. -/
namespace Go.Proofs.YtcodihgjfhoepaaGreatDoor
open Go Go.RowKit Crc Pk
set_option maxRecDepth 20000

/- rows of numbers -/
def uv (n : Nat) : Value := .int .u64 (n : Int)
def OwnU (w : World) (v : Value) (l : List Nat) : Prop := w.ownsRow 0 30 1 v l.length (l.map uv)
def Us (w : World) (A : Option Addr) (l : List Nat) : Prop := ∀ i, i < l.length → ∃ b off, A = some ⟨b, off, none⟩ ∧ w.cell? ⟨b, off + i, none⟩ = some (.int .u64 ((l.getD i 0 : Nat) : Int))
theorem Us.below {w w' : World} {A : Option Addr} {l : List Nat} (h : Us w A l) (hb : Below w.heap.size w w') : Us w' A l := fun i hi => by
  obtain ⟨b, off, e, hc⟩ := h i hi
  exact ⟨b, off, e, (hb.cell (World.block_lt_of_cell? _ _ hc)).trans hc⟩
theorem Us.keep {w w' : World} {A : Option Addr} {l : List Nat} {F : Nat → Prop} (h : Us w A l) (hk : Keep F w w') (hF : ∀ x, A = some x → ¬ F x.block) : Us w' A l := fun i hi => by
  obtain ⟨b, off, e, hc⟩ := h i hi
  exact ⟨b, off, e, hk.cell hc (hF ⟨b, off, none⟩ e)⟩
theorem Us.nil (w : World) (A : Option Addr) : Us w A [] := fun i hi => absurd hi (by simp)
theorem OwnU.form {w : World} {v : Value} {l : List Nat} (h : OwnU w v l) : ∃ A c, v = .slice A l.length c ∧ Us w A l ∧ l.length ≤ c ∧ (A = none → c = 0) ∧ (∀ x, A = some x → x.block < w.heap.size ∧ v.ownBlock = some x.block) := by
  have hlt := World.ownsRow.lt h
  rcases h.2 with ⟨rfl, h0⟩ | ⟨g0, cap, cur, rfl, hg, hh, hc, _⟩
  · have : l = [] := List.eq_nil_of_length_eq_zero h0
    subst this
    exact ⟨none, 0, rfl, Us.nil _ _, Nat.le_refl _, fun _ => rfl, fun x e => by cases e⟩
  · refine ⟨_, _, rfl, fun i hi => ⟨g0, 0, rfl, ?_⟩, hc, fun e => (by cases e), fun x e => by injection e with e; subst e; exact ⟨(hlt g0 rfl).2, rfl⟩⟩
    have := World.ownsRow.cells h (g := g0) rfl i (uv (l.getD i 0)) (by simp [List.getD_eq_getElem?_getD, List.getElem?_eq_getElem hi])
    rwa [add_plain] at this
theorem OwnU.same {w w' : World} {v : Value} {l : List Nat} (h : OwnU w v l) (hb : ∀ k, v.ownBlock = some k → w'.heap[k]? = w.heap[k]?) : OwnU w' v l := by
  refine ⟨h.1, ?_⟩
  rcases h.2 with h0 | ⟨g0, cap, cur, rfl, hg, hh, r⟩
  · exact .inl h0
  · exact .inr ⟨g0, cap, cur, rfl, hg, by rw [hb g0 rfl]; exact hh, r⟩
theorem OwnU.lt {w : World} {v : Value} {l : List Nat} (h : OwnU w v l) : ∀ k, v.ownBlock = some k → k < w.heap.size := fun k hk => (World.ownsRow.lt h k hk).2
theorem OwnU.is {w : World} {v : Value} {l : List Nat} (h : OwnU w v l) {k : Nat} (hk : v.ownBlock = some k) : ∃ cur, w.heap[k]? = some (.cells cur 30 (0, 0)) := by
  rcases h.2 with ⟨rfl, _⟩ | ⟨g0, cap, cur, rfl, _, hh, _⟩
  · cases hk
  · have e : g0 = k := by simpa [Value.ownBlock] using hk
    subst e
    exact ⟨cur, hh⟩
theorem OwnU.nil (w : World) : OwnU w (.slice none 0 0) [] := World.ownsRow_nil w 0 30 1
theorem infoU : ∃ i, Tryz.prog.info? 30 = some i ∧ i.zero = some (.int .u64 0) ∧ i.size = 1 ∧ i.bytes = 8 :=
  ⟨(Tryz.prog.info? 30).get (by kernel_rfl), by kernel_rfl, by kernel_rfl, by kernel_rfl, by kernel_rfl⟩
theorem run_appu (w : World) (ty : TypeId) (v : Value) (l : List Nat) (ho : OwnU w v l) (A : Option Addr) (m c : Nat) (r : List Nat) (hm : r.length = m) (hb : Us w A r) (hc : A = none → c = 0) (hlen : l.length + m ≤ 100000) :
    ∃ v' w', (Builtin.append_ #[39, 39] ty #[v, .slice A m c]).run Tryz.prog w = .ok v' w' ∧ OwnU w' v' (l ++ r) ∧ w.grownBy w' v.ownBlock ∧ (v'.ownBlock = v.ownBlock ∨ v'.ownBlock = some w.heap.size) := by
  obtain ⟨i, hi, hz, hs, hy⟩ := infoU
  rcases A with _ | ad
  · obtain rfl := hc rfl
    have hl : r = [] := by
      rcases r with _ | ⟨x, r⟩
      · rfl
      · obtain ⟨b, off, h, _⟩ := hb 0 (by simp)
        cases h
    subst hl
    subst hm
    exact ⟨v, w, run_append_owned_none (P := Tryz.prog) (w := w) 0 39 ty 30 i 1 Tryz.underlying39 hi v _ _ ho, by rw [List.append_nil]; exact ho, ⟨rfl, rfl, rfl, Nat.le_refl _, fun _ _ _ => rfl⟩, .inl rfl⟩
  · obtain ⟨v', w', h1, h2, h3, _, h5⟩ := run_append_own_at (P := Tryz.prog) w 0 39 ty 30 i (.int .u64 0) 1 8 Tryz.underlying39 hi hz hs hy rfl (by omega) v l.length (l.map uv) ho ad m c (r.map uv)
      (by simp [hm])
      (fun j u hj => by
        have hjl : j < r.length := by
          rcases Nat.lt_or_ge j r.length with h | h
          · exact h
          · rw [List.getElem?_eq_none (by simpa using h)] at hj; cases hj
        obtain ⟨b, off, h, hcell⟩ := hb j hjl
        injection h with h
        subst h
        rw [add_plain, hcell]
        simp [List.getElem?_eq_getElem hjl] at hj
        rw [← hj]
        simp [List.getD_eq_getElem?_getD, List.getElem?_eq_getElem hjl, uv])
      (fun u hu => by
        obtain ⟨x, _, rfl⟩ := List.mem_map.1 hu
        rfl)
      (by unfold maxLen; omega) (by omega) (Nat.zero_le _)
    refine ⟨v', w', h1, ?_, h3, h5⟩
    have : (l ++ r).length = l.length + m := by rw [List.length_append, hm]
    unfold OwnU
    rw [this, List.map_append]
    exact h2
/- rows of records: the row is the log's own, the records' bytes lie in some blocks -/
def RP (w : World) (P : Nat → Prop) (L : List (List Int)) (cs : List Value) : Prop :=
  cs.length = L.length ∧ ∀ i, i < L.length → ∃ A C, cs[i]? = some (.slice A (g0 L i).length C) ∧ Byt w A (g0 L i) ∧ (A = none → C = 0) ∧ ∀ x, A = some x → P x.block
def OwnP (w : World) (P : Nat → Prop) (v : Value) (L : List (List Int)) : Prop := ∃ cs, w.ownsRow 0 29 1 v L.length cs ∧ RP w P L cs
theorem OwnP.lt {w : World} {P : Nat → Prop} {v : Value} {L : List (List Int)} (h : OwnP w P v L) : ∀ k, v.ownBlock = some k → k < w.heap.size := fun k hk => by
  obtain ⟨cs, h1, _⟩ := h
  exact (World.ownsRow.lt h1 k hk).2
theorem OwnP.is {w : World} {P : Nat → Prop} {v : Value} {L : List (List Int)} (h : OwnP w P v L) {k : Nat} (hk : v.ownBlock = some k) : ∃ cur, w.heap[k]? = some (.cells cur 29 (0, 0)) := by
  obtain ⟨cs, h, _⟩ := h
  rcases h.2 with ⟨rfl, _⟩ | ⟨g0, cap, cur, rfl, _, hh, _⟩
  · cases hk
  · have e : g0 = k := by simpa [Value.ownBlock] using hk
    subst e
    exact ⟨cur, hh⟩
theorem RP.keep {w w' : World} {P F : Nat → Prop} {L : List (List Int)} {cs : List Value} (h : RP w P L cs) (hk : Keep F w w') (hF : ∀ x, P x → ¬ F x) : RP w' P L cs :=
  ⟨h.1, fun i hi => by
    obtain ⟨A, C, e, hb, hz, hp⟩ := h.2 i hi
    exact ⟨A, C, e, hb.keep hk (fun x hx => hF _ (hp x hx)), hz, hp⟩⟩
theorem OwnP.keep {w w' : World} {P F : Nat → Prop} {v : Value} {L : List (List Int)} (h : OwnP w P v L) (hk : Keep F w w') (hF : ∀ x, P x → ¬ F x) (hv : ∀ x, v.ownBlock = some x → ¬ F x) : OwnP w' P v L := by
  obtain ⟨cs, h1, h2⟩ := h
  refine ⟨cs, ⟨h1.1, ?_⟩, h2.keep hk hF⟩
  have hlt := World.ownsRow.lt h1
  rcases h1.2 with h0 | ⟨g0, cap, cur, rfl, hg, hh, r⟩
  · exact .inl h0
  · exact .inr ⟨g0, cap, cur, rfl, hg, by rw [hk.block g0 (hlt g0 rfl).2 (hv g0 rfl)]; exact hh, r⟩
theorem OwnP.wide {w : World} {P P' : Nat → Prop} {v : Value} {L : List (List Int)} (h : OwnP w P v L) (hP : ∀ x, P x → P' x) : OwnP w P' v L := by
  obtain ⟨cs, h1, h2, h3⟩ := h
  exact ⟨cs, h1, h2, fun i hi => by
    obtain ⟨A, C, e, hb, hz, hp⟩ := h3 i hi
    exact ⟨A, C, e, hb, hz, fun x hx => hP _ (hp x hx)⟩⟩
theorem OwnP.nil (w : World) (P : Nat → Prop) : OwnP w P (.slice none 0 0) [] := ⟨[], World.ownsRow_nil w 0 29 1, rfl, fun i hi => absurd hi (by simp)⟩
/- rows of records where they lie -/
def RQ (w : World) (P : Nat → Prop) (A : Option Addr) (L : List (List Int)) : Prop :=
  ∀ i, i < L.length → ∃ b off A' C, A = some ⟨b, off, none⟩ ∧ w.cell? ⟨b, off + i, none⟩ = some (.slice A' (g0 L i).length C) ∧ Byt w A' (g0 L i) ∧ (A' = none → C = 0) ∧ ∀ x, A' = some x → P x.block
theorem RQ.rws {w : World} {P : Nat → Prop} {A : Option Addr} {L : List (List Int)} (h : RQ w P A L) : Rws w A L := fun i hi => by
  obtain ⟨b, off, A', C, e, hc, hb, _⟩ := h i hi
  exact ⟨b, off, A', C, e, hc, hb⟩
theorem RQ.keep {w w' : World} {P F : Nat → Prop} {A : Option Addr} {L : List (List Int)} (h : RQ w P A L) (hk : Keep F w w') (hA : ∀ x, A = some x → ¬ F x.block) (hF : ∀ x, P x → ¬ F x) : RQ w' P A L := fun i hi => by
  obtain ⟨b, off, A', C, e, hc, hb, hz, hp⟩ := h i hi
  exact ⟨b, off, A', C, e, hk.cell hc (hA ⟨b, off, none⟩ e), hb.keep hk (fun x hx => hF _ (hp x hx)), hz, hp⟩
theorem RQ.below {w w' : World} {P : Nat → Prop} {A : Option Addr} {L : List (List Int)} (h : RQ w P A L) (hb : Below w.heap.size w w') : RQ w' P A L := fun i hi => by
  obtain ⟨b, off, A', C, e, hc, hy, hz, hp⟩ := h i hi
  exact ⟨b, off, A', C, e, (hb.cell (p := ⟨b, off + i, none⟩) (World.block_lt_of_cell? _ _ hc)).trans hc, hy.below hb, hz, hp⟩
theorem g0_drop (L : List (List Int)) (k i : Nat) : g0 (L.drop k) i = g0 L (k + i) := by simp [g0, List.getD_eq_getElem?_getD, List.getElem?_drop]
theorem OwnP.form {w : World} {P : Nat → Prop} {v : Value} {L : List (List Int)} (h : OwnP w P v L) : ∃ A c, v = .slice A L.length c ∧ RQ w P A L ∧ L.length ≤ c ∧ (A = none → c = 0) ∧ (∀ x, A = some x → x.block < w.heap.size ∧ v.ownBlock = some x.block) := by
  obtain ⟨cs, h1, h2, h3⟩ := h
  have hlt := World.ownsRow.lt h1
  rcases h1.2 with ⟨rfl, h0⟩ | ⟨g, cap, cur, rfl, hg, hh, hc, _⟩
  · have : L = [] := List.eq_nil_of_length_eq_zero h0
    subst this
    exact ⟨none, 0, rfl, fun i hi => absurd hi (by simp), Nat.le_refl _, fun _ => rfl, fun x e => by cases e⟩
  · refine ⟨_, _, rfl, fun i hi => ?_, hc, fun e => (by cases e), fun x e => by injection e with e; subst e; exact ⟨(hlt g rfl).2, rfl⟩⟩
    obtain ⟨A, C, e, o, z, p⟩ := h3 i hi
    have := World.ownsRow.cells h1 (g := g) rfl i _ e
    rw [add_plain] at this
    exact ⟨g, 0, A, C, rfl, this, o, z, p⟩
theorem g0_appL (L M : List (List Int)) (i : Nat) (h : i < L.length) : g0 (L ++ M) i = g0 L i := by
  simp [g0, List.getD_eq_getElem?_getD, List.getElem?_append_left h]
theorem g0_appR (L M : List (List Int)) (i : Nat) (h : L.length ≤ i) : g0 (L ++ M) i = g0 M (i - L.length) := by
  simp [g0, List.getD_eq_getElem?_getD, List.getElem?_append_right h]
theorem run_appr (w : World) (ty : TypeId) (P Q : Nat → Prop) (v : Value) (L : List (List Int)) (ho : OwnP w P v L) (A : Option Addr) (m c : Nat) (M : List (List Int)) (hm : M.length = m) (hb : RQ w Q A M) (hc : A = none → c = 0) (hlen : L.length + m ≤ 100000)
    (hP : ∀ x, P x ∨ Q x → v.ownBlock ≠ some x) :
    ∃ v' w', (Builtin.append_ #[40, 40] ty #[v, .slice A m c]).run Tryz.prog w = .ok v' w' ∧ OwnP w' (fun x => P x ∨ Q x) v' (L ++ M) ∧ w.grownBy w' v.ownBlock ∧ (v'.ownBlock = v.ownBlock ∨ v'.ownBlock = some w.heap.size) := by
  obtain ⟨i, hi, hz, hs, hy⟩ := infoS
  rcases A with _ | ad
  · obtain rfl := hc rfl
    have hl : M = [] := by
      rcases M with _ | ⟨x, r⟩
      · rfl
      · obtain ⟨b, off, _, _, h, _⟩ := hb 0 (by simp)
        cases h
    subst hl
    subst hm
    obtain ⟨cs, h1, h2⟩ := ho
    refine ⟨v, w, run_append_owned_none (P := Tryz.prog) (w := w) 0 40 ty 29 i 1 Tryz.underlying40 hi v _ _ h1, ?_, ⟨rfl, rfl, rfl, Nat.le_refl _, fun _ _ _ => rfl⟩, .inl rfl⟩
    rw [List.append_nil]
    exact OwnP.wide ⟨cs, h1, h2⟩ (fun x hx => .inl hx)
  · obtain ⟨cs, h1, h2, h3⟩ := ho
    have hch : ∀ j, ∃ u, j < m → (∃ b off, ad = ⟨b, off, none⟩ ∧ w.cell? ⟨b, off + j, none⟩ = some u) ∧ ∃ A' C, u = .slice A' (g0 M j).length C ∧ Byt w A' (g0 M j) ∧ (A' = none → C = 0) ∧ ∀ x, A' = some x → Q x.block := fun j => by
      by_cases hj : j < m
      · obtain ⟨b, off, A', C, e, hcell, r⟩ := hb j (by omega)
        injection e with e
        exact ⟨_, fun _ => ⟨⟨b, off, e, hcell⟩, A', C, rfl, r⟩⟩
      · exact ⟨.int .u8 0, fun h => absurd h hj⟩
    obtain ⟨f, hf⟩ : ∃ f : Nat → Value, ∀ j, j < m → (∃ b off, ad = ⟨b, off, none⟩ ∧ w.cell? ⟨b, off + j, none⟩ = some (f j)) ∧ ∃ A' C, f j = .slice A' (g0 M j).length C ∧ Byt w A' (g0 M j) ∧ (A' = none → C = 0) ∧ ∀ x, A' = some x → Q x.block :=
      ⟨fun j => Classical.choose (hch j), fun j => Classical.choose_spec (hch j)⟩
    obtain ⟨v', w', hrun, r2, r3, _, r5⟩ := run_append_own_at (P := Tryz.prog) w 0 40 ty 29 i (.slice none 0 0) 1 24 Tryz.underlying40 hi hz hs hy rfl (by omega) v L.length cs h1 ad m c ((List.range m).map f) (by simp)
      (fun j u hj => by
        have hjl : j < m := by
          rcases Nat.lt_or_ge j m with h | h
          · exact h
          · rw [List.getElem?_eq_none (by simpa using h)] at hj; cases hj
        obtain ⟨⟨b, off, e, hcell⟩, _⟩ := hf j hjl
        subst e
        rw [add_plain, hcell]
        simpa [hjl] using hj)
      (fun u hu => by
        obtain ⟨j, hj, rfl⟩ := List.mem_map.1 hu
        obtain ⟨_, A', C, e, _⟩ := hf j (List.mem_range.1 hj)
        rw [e]; rfl)
      (by unfold maxLen; omega) (by omega) (Nat.zero_le _)
    have K : Keep (fun x => v.ownBlock = some x) w w' := Keep.grown r3 (fun k e => e)
    refine ⟨v', w', hrun, ⟨cs ++ (List.range m).map f, by rw [List.length_append, hm]; exact r2, by simp [h2, hm], fun j hj => ?_⟩, r3, r5⟩
    rw [List.length_append, hm] at hj
    by_cases hjl : j < L.length
    · obtain ⟨A', C, e, y, z, p⟩ := h3 j hjl
      rw [g0_appL L M j hjl]
      exact ⟨A', C, by rw [List.getElem?_append_left (by omega)]; exact e, y.keep K (fun x hx => hP _ (.inl (p x hx))), z, fun x hx => .inl (p x hx)⟩
    · obtain ⟨_, A', C, e, y, z, p⟩ := hf (j - L.length) (by omega)
      rw [g0_appR L M j (by omega)]
      refine ⟨A', C, ?_, y.keep K (fun x hx => hP _ (.inr (p x hx))), z, fun x hx => .inr (p x hx)⟩
      rw [List.getElem?_append_right (by omega), h2, ← e]
      simp [show j - L.length < m by omega]
end Go.Proofs.YtcodihgjfhoepaaGreatDoor

/- The log's struct, its disk and its rows, as one object; what a step of it may change. -/
namespace Go.Proofs.YtcodihgjfhoepaaGreatDoor
open Go Go.RowKit Crc Pk
set_option maxRecDepth 20000

structure Wf (L : Lg) : Prop where
  ne : L.st ≠ []
  up : L.st.Pairwise (· < ·)
  lst : L.lst ≤ L.fin
  sz : L.sz ≤ 70000 * (L.fin - L.lst)
  sf : L.sf ≤ L.fin
  recs : ∀ r ∈ L.rc, Rng r ∧ r.length ≤ 65536
  few : L.fin ≤ 1000
structure Cf (nm : ByteArray) (most : Nat) : Prop where
  nm : nm.size ≤ 8
  lo : 1 ≤ most
  hi : most ≤ 16777216
abbrev lcs (d : Nat) (nm : ByteArray) (most : Nat) (sv rv : Value) (L : Lg) : Array Value := #[ptr d, .string nm, .int .i64 (most : Int), sv, rv, .int .i64 (L.sz : Int), .int .u64 (L.sf : Int), .bool L.gn]
def Mu (d m : Nat) (V : ByteArray → Value) (l : List Fl) (g : Nat) (rv : Value) (x : Nat) : Prop := Fp d m V l x ∨ x = g ∨ rv.ownBlock = some x
structure Lo (Q : Lg → Prop) (B : Nat) (w : World) (d m : Nat) (V : ByteArray → Value) (S : St) (g : Nat) (nm : ByteArray) (most : Nat) (sv rv : Value) (P : Nat → Prop) (L : Lg) : Prop where
  dk : Dk w d m V S
  blk : w.heap[g]? = some (.cells (lcs d nm most sv rv L) 77 (0, 0))
  st : OwnU w sv L.st
  rc : OwnP w P rv L.rc
  far : ∀ x, P x → ¬ Mu d m V S.fs g rv x ∧ x < w.heap.size
  wf : Q L
  cf : Cf nm most
  from_ : ∀ x, Mu d m V S.fs g rv x → B ≤ x
  tb : Tb w
  gl : 4 ≤ B
  bw : B ≤ w.heap.size
theorem Tb.keep {w w' : World} {F : Nat → Prop} (h : Tb w) (hk : Keep F w w') (hF : ∀ x, F x → 4 ≤ x) : Tb w' := by
  have lt : ∀ x, x < 4 → ¬ F x := fun x hx e => by have := hF x e; omega
  refine ⟨fun i hi => hk.cell (h.crc i hi) (lt 0 (by decide)), ?_⟩
  have hp := h.pow
  have hl := h.lt
  unfold Lib.TabIs World.var? at *
  simp only [gPow, Option.bind_some] at hp ⊢
  rw [hk.block _ hl (lt 1 (by decide))]
  exact hp
theorem Dk.tag {w : World} {d m : Nat} {V : ByteArray → Value} {S : St} (h : Dk w d m V S) {x : Nat} (hx : Fp d m V S.fs x) :
    (∃ cur, w.heap[x]? = some (.cells cur 83 (0, 0))) ∨ (∃ es c, w.heap[x]? = some (.map es c)) ∨ ∃ cur, w.heap[x]? = some (.cells cur 5 (0, 0)) := by
  rcases hx with rfl | rfl | ⟨f, hf, e⟩
  · exact .inl ⟨_, h.blk⟩
  · exact .inr (.inl h.mp.is)
  · exact .inr (.inr ((h.row f hf).is e))
theorem Dk.no {w : World} {d m : Nat} {V : ByteArray → Value} {S : St} (h : Dk w d m V S) {x : Nat} {cur : Array Value} {t : TypeId} (hx : w.heap[x]? = some (.cells cur t (0, 0))) (h1 : t ≠ 83) (h2 : t ≠ 5) : ¬ Fp d m V S.fs x := fun e => by
  rcases h.tag e with ⟨c, e⟩ | ⟨es, c, e⟩ | ⟨c, e⟩
  · rw [hx] at e
    injection e with e
    injection e with _ e
    exact h1 e
  · rw [hx] at e; injection e with e; cases e
  · rw [hx] at e
    injection e with e
    injection e with _ e
    exact h2 e
theorem cells_ne {w : World} {x y : Nat} {c c' : Array Value} {t t' : TypeId} (h : w.heap[x]? = some (.cells c t (0, 0))) (h' : w.heap[y]? = some (.cells c' t' (0, 0))) (ht : t ≠ t') : x ≠ y := fun e => by
  subst e
  rw [h] at h'
  injection h' with e
  injection e with _ e
  exact ht e
section
variable {Q : Lg → Prop} {B : Nat} {w w' : World} {d m : Nat} {V V' : ByteArray → Value} {S T : St} {g : Nat} {nm : ByteArray} {most : Nat} {sv rv sv' rv' : Value} {P P' : Nat → Prop} {L L' : Lg}
theorem Lo.gd (h : Lo Q B w d m V S g nm most sv rv P L) : ¬ Fp d m V S.fs g := h.dk.no h.blk (by decide) (by decide)
theorem Lo.rd (h : Lo Q B w d m V S g nm most sv rv P L) {x : Nat} (hx : rv.ownBlock = some x) : ¬ Fp d m V S.fs x := by
  obtain ⟨c, e⟩ := h.rc.is hx
  exact h.dk.no e (by decide) (by decide)
theorem Lo.rg (h : Lo Q B w d m V S g nm most sv rv P L) {x : Nat} (hx : rv.ownBlock = some x) : x ≠ g := by
  obtain ⟨c, e⟩ := h.rc.is hx
  exact cells_ne e h.blk (by decide)
theorem Lo.sM (h : Lo Q B w d m V S g nm most sv rv P L) {x : Nat} {l : List Nat} {v : Value} (hs : OwnU w v l) (hx : v.ownBlock = some x) : ¬ Mu d m V S.fs g rv x := fun e => by
  obtain ⟨c, e1⟩ := hs.is hx
  rcases e with e | rfl | e
  · exact h.dk.no e1 (by decide) (by decide) e
  · exact cells_ne e1 h.blk (by decide) rfl
  · obtain ⟨c', e2⟩ := h.rc.is e
    exact cells_ne e1 e2 (by decide) rfl
theorem Lo.glt (h : Lo Q B w d m V S g nm most sv rv P L) : g < w.heap.size := (Array.getElem?_eq_some_iff.1 h.blk).1
theorem Lo.mlt (h : Lo Q B w d m V S g nm most sv rv P L) : ∀ x, Mu d m V S.fs g rv x → x < w.heap.size := fun x hx => by
  rcases hx with e | rfl | e
  · exact h.dk.lt x e
  · exact h.glt
  · exact h.rc.lt x e
theorem Lo.below (h : Lo Q B w d m V S g nm most sv rv P L) (hb : Below w.heap.size w w') : Lo Q B w' d m V S g nm most sv rv P L :=
  ⟨h.dk.below hb, (hb.block g h.glt).trans h.blk, h.st.same (fun k hk => hb.block k (h.st.lt k hk)), h.rc.keep (Keep.of_below (fun _ => False) hb) (fun _ _ e => e) (fun _ _ e => e),
    fun x hx => ⟨(h.far x hx).1, Nat.lt_of_lt_of_le (h.far x hx).2 hb.size⟩, h.wf, h.cf, h.from_, h.tb.up hb, h.gl, Nat.le_trans h.bw hb.size⟩
theorem Lo.keep {F : Nat → Prop} (h : Lo Q B w d m V S g nm most sv rv P L) (hk : Keep F w w') (hM : ∀ x, Mu d m V S.fs g rv x → ¬ F x) (hP : ∀ x, P x → ¬ F x) (hs : ∀ x, sv.ownBlock = some x → ¬ F x) (hg : ∀ x, F x → 4 ≤ x) : Lo Q B w' d m V S g nm most sv rv P L :=
  ⟨h.dk.keep hk (fun k hk => hM k (.inl hk)), (hk.block g h.glt (hM g (.inr (.inl rfl)))).trans h.blk, h.st.same (fun k e => hk.block k (h.st.lt k e) (hs k e)), h.rc.keep hk hP (fun x e => hM x (.inr (.inr e))),
    fun x hx => ⟨(h.far x hx).1, Nat.lt_of_lt_of_le (h.far x hx).2 hk.size⟩, h.wf, h.cf, h.from_, h.tb.keep hk hg, h.gl, Nat.le_trans h.bw hk.size⟩
theorem Lo.c0 (h : Lo Q B w d m V S g nm most sv rv P L) : w.cell? ⟨g, 0, none⟩ = some (ptr d) := by simp [World.cell?, h.blk]
theorem Lo.c1 (h : Lo Q B w d m V S g nm most sv rv P L) : w.cell? ⟨g, 1, none⟩ = some (.string nm) := by simp [World.cell?, h.blk]
theorem Lo.c2 (h : Lo Q B w d m V S g nm most sv rv P L) : w.cell? ⟨g, 2, none⟩ = some (.int .i64 (most : Int)) := by simp [World.cell?, h.blk]
theorem Lo.c3 (h : Lo Q B w d m V S g nm most sv rv P L) : w.cell? ⟨g, 3, none⟩ = some sv := by simp [World.cell?, h.blk]
theorem Lo.c4 (h : Lo Q B w d m V S g nm most sv rv P L) : w.cell? ⟨g, 4, none⟩ = some rv := by simp [World.cell?, h.blk]
theorem Lo.c5 (h : Lo Q B w d m V S g nm most sv rv P L) : w.cell? ⟨g, 5, none⟩ = some (.int .i64 (L.sz : Int)) := by simp [World.cell?, h.blk]
theorem Lo.c6 (h : Lo Q B w d m V S g nm most sv rv P L) : w.cell? ⟨g, 6, none⟩ = some (.int .u64 (L.sf : Int)) := by simp [World.cell?, h.blk]
theorem Lo.c7 (h : Lo Q B w d m V S g nm most sv rv P L) : w.cell? ⟨g, 7, none⟩ = some (.bool L.gn) := by simp [World.cell?, h.blk]
theorem Lo.free (h : Lo Q B w d m V S g nm most sv rv P L) (o : Nat) : w.frozen? ⟨g, o, none⟩ = false := by simp [World.frozen?, h.blk]
/- the struct is another one -/
theorem Lo.turn (h : Lo Q B w d m V S g nm most sv rv P L) (hk : Keep (fun x => x = g) w w') (hb : w'.heap[g]? = some (.cells (lcs d nm most sv' rv' L') 77 (0, 0)))
    (hst : OwnU w sv' L'.st) (hrc : OwnP w P' rv' L'.rc) (hfar : ∀ x, P' x → ¬ Mu d m V S.fs g rv' x ∧ x < w.heap.size) (hwf : Q L') (hfr : ∀ x, rv'.ownBlock = some x → B ≤ x) : Lo Q B w' d m V S g nm most sv' rv' P' L' := by
  refine ⟨h.dk.keep hk (fun k hk e => h.gd (e ▸ hk)), hb, hst.same (fun k e => hk.block k (hst.lt k e) (fun e1 => ?_)), hrc.keep hk (fun x hx e => (hfar x hx).1 (.inr (.inl e))) (fun x e e1 => ?_), fun x hx => ⟨(hfar x hx).1, Nat.lt_of_lt_of_le (hfar x hx).2 hk.size⟩, hwf, h.cf, fun x hx => ?_, h.tb.keep hk (fun x e => e ▸ Nat.le_trans h.gl (h.from_ g (.inr (.inl rfl)))), h.gl, Nat.le_trans h.bw hk.size⟩
  · obtain ⟨c, e2⟩ := hst.is e
    exact cells_ne e2 h.blk (by decide) e1
  · obtain ⟨c, e2⟩ := hrc.is e
    exact cells_ne e2 h.blk (by decide) e1
  · rcases hx with e | e | e
    · exact h.from_ x (.inl e)
    · exact h.from_ x (.inr (.inl e))
    · exact hfr x e
abbrev Lp := Lo Wf
/- a step -/
def Lstep (B : Nat) (w : World) (d m : Nat) (V : ByteArray → Value) (S : St) (g : Nat) (nm : ByteArray) (most : Nat) (rv : Value) (P : Nat → Prop) (T : St) (L' : Lg) (w' : World) : Prop :=
  ∃ V' sv' rv' P', Lp B w' d m V' T g nm most sv' rv' P' L' ∧ Keep (Mu d m V S.fs g rv) w w' ∧ (∀ x, Mu d m V' T.fs g rv' x → Mu d m V S.fs g rv x ∨ w.heap.size ≤ x) ∧ ∀ x, P' x → P x ∨ w.heap.size ≤ x
def LAct (B : Nat) (w : World) (d m : Nat) (V : ByteArray → Value) (S : St) (g : Nat) (nm : ByteArray) (most : Nat) (rv : Value) (P : Nat → Prop) (R : Rs3) (e : Ending) (w' : World) : Prop :=
  e = .returned (.int .i64 (R.e : Int)) ∧ Lstep B w d m V S g nm most rv P R.s R.l w'
theorem Lo.stay (h : Lp B w d m V S g nm most sv rv P L) (hb : Below w.heap.size w w') : Lstep B w d m V S g nm most rv P S L w' :=
  ⟨V, sv, rv, P, h.below hb, Keep.of_below _ hb, fun x hx => .inl hx, fun x hx => .inl hx⟩
theorem Lstep.trans {w1 w2 : World} {V1 : ByteArray → Value} {S1 S2 : St} {L2 : Lg} {rv1 : Value} {P1 : Nat → Prop}
    (hk : Keep (Mu d m V S.fs g rv) w w1) (hm : ∀ x, Mu d m V1 S1.fs g rv1 x → Mu d m V S.fs g rv x ∨ w.heap.size ≤ x) (hp : ∀ x, P1 x → P x ∨ w.heap.size ≤ x)
    (h2 : Lstep B w1 d m V1 S1 g nm most rv1 P1 S2 L2 w2) : Lstep B w d m V S g nm most rv P S2 L2 w2 := by
  obtain ⟨V', sv', rv', P', a, b, c, e⟩ := h2
  have hs := hk.size
  refine ⟨V', sv', rv', P', a, hk.trans b (fun i hi h => ?_), fun x hx => ?_, fun x hx => ?_⟩
  · rcases hm i h with h | h
    · exact h
    · omega
  · rcases c x hx with h | h
    · exact hm x h
    · exact .inr (Nat.le_trans hs h)
  · rcases e x hx with h | h
    · exact hp x h
    · exact .inr (Nat.le_trans hs h)
/- an act of the disk's -/
theorem Lo.acted {n : Nat} {e : Ending} (h : Lo Q B w d m V S g nm most sv rv P L) (ha : Acted w d m V S n T e w') :
    e = .returned (.int .i64 (n : Int)) ∧ ∃ V', Lo Q B w' d m V' T g nm most sv rv P L ∧ Keep (Mu d m V S.fs g rv) w w' ∧ ∀ x, Mu d m V' T.fs g rv x → Mu d m V S.fs g rv x ∨ w.heap.size ≤ x := by
  obtain ⟨e1, V', h1, h2, h3⟩ := ha
  refine ⟨e1, V', ⟨h1, (h2.block g h.glt h.gd).trans h.blk, h.st.same (fun k e => h2.block k (h.st.lt k e) (fun f => h.sM h.st e (.inl f))), h.rc.keep h2 (fun x hx f => (h.far x hx).1 (.inl f)) (fun x e => h.rd e), fun x hx => ⟨fun e => ?_, Nat.lt_of_lt_of_le (h.far x hx).2 h2.size⟩, h.wf, h.cf, fun x hx => ?_, h.tb.keep h2 (fun x f => Nat.le_trans h.gl (h.from_ x (.inl f))), h.gl, Nat.le_trans h.bw h2.size⟩, h2.wide (fun i _ f => .inl f), fun x hx => ?_⟩
  · have := h.far x hx
    rcases e with e | e
    · rcases h3 x e with e | e
      · exact this.1 (.inl e)
      · omega
    · exact this.1 (.inr e)
  · rcases hx with e | e
    · rcases h3 x e with e | e
      · exact h.from_ x (.inl e)
      · exact Nat.le_trans h.bw e
    · exact h.from_ x (.inr e)
  · rcases hx with e | e
    · rcases h3 x e with e | e
      · exact .inl (.inl e)
      · exact .inr e
    · exact .inl (.inr e)
end
end Go.Proofs.YtcodihgjfhoepaaGreatDoor
