/- The document's files in memory: rows of them, found, counted, left out, put in their place. -/
import Derived.Test.YtahjodpaikhhmaaDkOps
namespace Go.Proofs.Ytahjodpaikhhmaa
open Go Go.RowKit
set_option maxRecDepth 20000

/- a file, and where its bytes lie -/
structure RF where
  f : Fl
  A : Option Addr
  c : Nat
def rz : RF := ⟨fz, none, 0⟩
abbrev fls (L : List RF) : List Fl := L.map RF.f
theorem fls_get (L : List RF) (i : Nat) (hi : i < L.length) : (fls L).getD i fz = (L.getD i rz).f := by
  simp [fls, List.getD_eq_getElem?_getD, List.getElem?_map, List.getElem?_eq_getElem hi]
def rcl (r : RF) : List Value := [.string r.f.nm, .slice r.A r.f.bs.length r.c, .int .i64 (r.f.sf : Int)]
def rcls (L : List RF) : List Value := L.flatMap rcl
theorem rcls_len (L : List RF) : (rcls L).length = L.length * 3 := by
  induction L with
  | nil => rfl
  | cons v L ih => show (rcl v ++ rcls L).length = _; rw [List.length_append, ih, List.length_cons]; simp [rcl]; omega
theorem rcls_app (L M : List RF) : rcls (L ++ M) = rcls L ++ rcls M := by unfold rcls; rw [List.flatMap_append]
theorem rcls_get (L : List RF) (i : Nat) (hi : i < L.length) (j : Nat) (hj : j < 3) : (rcls L)[i * 3 + j]? = (rcl (L.getD i rz))[j]? := by
  induction L generalizing i with
  | nil => simp at hi
  | cons v L ih =>
    show (rcl v ++ rcls L)[i * 3 + j]? = _
    have h4 : (rcl v).length = 3 := rfl
    rcases i with _ | i
    · rw [List.getElem?_append_left (by omega)]; simp
    · rw [List.getElem?_append_right (by omega), h4, show (i + 1) * 3 + j - 3 = i * 3 + j by omega, ih i (by simpa using hi)]; simp
theorem rcls_one (L : List RF) : ∀ u ∈ rcls L, u.oneCell' = true := by
  intro u hu
  obtain ⟨v, _, h⟩ := List.mem_flatMap.1 hu
  simp only [rcl, List.mem_cons, List.not_mem_nil, or_false] at h
  rcases h with rfl | rfl | rfl <;> rfl
def OwnF (w : World) (B : Nat) (v : Value) (L : List RF) : Prop := w.ownsRow B 43 3 v L.length (rcls L)
def Fls (w : World) (A : Option Addr) (L : List RF) : Prop := ∀ i, i < L.length → ∃ b off, A = some ⟨b, off, none⟩ ∧ w.cell? ⟨b, off + i * 3, none⟩ = some (.string (L.getD i rz).f.nm) ∧
  w.cell? ⟨b, off + i * 3 + 1, none⟩ = some (.slice (L.getD i rz).A (L.getD i rz).f.bs.length (L.getD i rz).c) ∧ w.cell? ⟨b, off + i * 3 + 2, none⟩ = some (.int .i64 ((L.getD i rz).f.sf : Int))
theorem Fls.nil (w : World) (A : Option Addr) : Fls w A [] := fun i hi => absurd hi (by simp)
theorem Fls.below {w w' : World} {A : Option Addr} {L : List RF} (h : Fls w A L) (hb : Below w.heap.size w w') : Fls w' A L := fun i hi => by
  obtain ⟨b, off, e, c0, c1, c2⟩ := h i hi
  exact ⟨b, off, e, (hb.cell (World.block_lt_of_cell? _ _ c0)).trans c0, (hb.cell (World.block_lt_of_cell? _ _ c1)).trans c1, (hb.cell (World.block_lt_of_cell? _ _ c2)).trans c2⟩
theorem Fls.keep {w w' : World} {A : Option Addr} {L : List RF} {F : Nat → Prop} (h : Fls w A L) (hk : Keep F w w') (hF : ∀ x, A = some x → ¬ F x.block) : Fls w' A L := fun i hi => by
  obtain ⟨b, off, e, c0, c1, c2⟩ := h i hi
  exact ⟨b, off, e, hk.cell c0 (hF ⟨b, off, none⟩ e), hk.cell c1 (hF ⟨b, off, none⟩ e), hk.cell c2 (hF ⟨b, off, none⟩ e)⟩
theorem OwnF.made (w : World) : OwnF (w.alloc (.cells #[] 43)) w.heap.size (.slice (some ⟨w.heap.size, 0, none⟩) 0 0) [] := World.ownsRow_made w #[] 0 (Nat.le_refl _) (by decide) rfl
theorem OwnF.form {w : World} {B : Nat} {v : Value} {L : List RF} (h : OwnF w B v L) : ∃ A c, v = .slice A L.length c ∧ Fls w A L ∧ L.length ≤ c ∧ ∀ x, A = some x → B ≤ x.block ∧ x.block < w.heap.size := by
  have hlt := World.ownsRow.lt h
  rcases h.2 with ⟨rfl, h0⟩ | ⟨g0, cap, cur, rfl, hg, hh, hc, _⟩
  · have : L = [] := List.eq_nil_of_length_eq_zero h0
    subst this
    exact ⟨none, 0, rfl, Fls.nil _ _, Nat.le_refl _, fun x e => by cases e⟩
  · refine ⟨_, _, rfl, fun i hi => ⟨g0, 0, rfl, ?_⟩, hc, fun x e => by injection e with e; subst e; exact ⟨hg, (hlt g0 rfl).2⟩⟩
    have key : ∀ j u, j < 3 → (rcl (L.getD i rz))[j]? = some u → w.cell? ⟨g0, 0 + i * 3 + j, none⟩ = some u := fun j u hj hu => by
      have := World.ownsRow.cells h (g := g0) rfl (i * 3 + j) u (by rw [rcls_get L i hi j hj]; exact hu)
      rwa [add_plain, ← Nat.add_assoc] at this
    exact ⟨key 0 _ (by omega) rfl, key 1 _ (by omega) rfl, key 2 _ (by omega) rfl⟩
theorem OwnF.below {w w' : World} {B : Nat} {v : Value} {L : List RF} (h : OwnF w B v L) (hb : Below w.heap.size w w') : OwnF w' B v L := by
  have hlt := World.ownsRow.lt h
  refine ⟨h.1, ?_⟩
  rcases h.2 with h0 | ⟨g0, cap, cur, rfl, hg, hh, r⟩
  · exact .inl h0
  · exact .inr ⟨g0, cap, cur, rfl, hg, by rw [hb.block g0 (hlt g0 rfl).2]; exact hh, r⟩
theorem OwnF.base {w : World} {B B' : Nat} {v : Value} {L : List RF} (h : OwnF w B v L) (hB : B' ≤ B) : OwnF w B' v L := by
  refine ⟨h.1, ?_⟩
  rcases h.2 with h0 | ⟨g0, cap, cur, rfl, hg, r⟩
  · exact .inl h0
  · exact .inr ⟨g0, cap, cur, rfl, Nat.le_trans hB hg, r⟩
theorem OwnF.set {w : World} {B : Nat} {v : Value} {L : List RF} (h : OwnF w B v L) (g j : Nat) (hg : g < B) (x : Value) : OwnF (w.setCell ⟨g, j, none⟩ x) B v L := by
  refine ⟨h.1, ?_⟩
  rcases h.2 with h0 | ⟨r, cap, cur, hv, hr, hh, t⟩
  · exact .inl h0
  · refine .inr ⟨r, cap, cur, hv, hr, ?_, t⟩
    rw [heap_setCell_other w ⟨g, j, none⟩ r x (by show r ≠ g; omega)]
    exact hh
theorem infoF : ∃ i, Try.prog.info? 43 = some i ∧ i.zero = some (.agg #[.string ⟨#[]⟩, .slice none 0 0, .int .i64 0]) ∧ i.size = 3 ∧ i.bytes = 48 :=
  ⟨(Try.prog.info? 43).get (by kernel_rfl), by kernel_rfl, by kernel_rfl, by kernel_rfl, by kernel_rfl⟩
theorem wp_appf {ops : Array Oper} {rest : List Oper} {o : Oper} {a : Act} {Q : Exit → Act → World → Prop} (w : World) (hgd : o.guard = none) (s x : Operand)
    (hop : o.op = .call { callee := .builtin .append, args := #[s, x], argTypes := #[29, 29] })
    (B : Nat) (v : Value) (L : List RF) (hs : a.eval s = v) (ho : OwnF w B v L) (b off c : Nat) (r : RF) (hx : a.eval x = .slice (some ⟨b, off, none⟩) 1 c)
    (c0 : w.cell? ⟨b, off, none⟩ = some (.string r.f.nm)) (c1 : w.cell? ⟨b, off + 1, none⟩ = some (.slice r.A r.f.bs.length r.c)) (c2 : w.cell? ⟨b, off + 2, none⟩ = some (.int .i64 (r.f.sf : Int)))
    (hlen : L.length ≤ 1000000) (hB : B ≤ w.heap.size) (n : Nat) (hn : L.length + 1 = n)
    (h : ∀ A' c' w', OwnF w' B (.slice A' n c') (L ++ [r]) → Below B w w' → wpList Try.prog ops Q rest (a.put o.dst (.slice A' n c')) w') : wpList Try.prog ops Q (o :: rest) a w := by
  refine wpList_plain hgd fun K hK => ?_
  obtain ⟨i, hi, hz, hs', hy⟩ := infoF
  obtain ⟨v', w', h1, h2, h3, _⟩ := run_append_own (P := Try.prog) w B 29 o.type 43 i _ 3 48 Try.underlying29 hi hz hs' hy rfl (by omega) v L.length (rcls L) ho ⟨b, off, none⟩ 1 c (rcl r) rfl
    (fun j u hj => by
      rw [add_plain]
      rcases j with _ | _ | _ | j
      · rw [Nat.add_zero, c0]; exact hj
      · rw [c1]; exact hj
      · rw [c2]; exact hj
      · simp [rcl] at hj)
    (fun u hu => rcls_one [r] u (by simpa [rcls] using hu))
    (by unfold maxLen; omega) (by omega) hB
  have h2' : OwnF w' B v' (L ++ [r]) := by
    unfold OwnF
    rw [List.length_append, rcls_app]
    simpa [rcls] using h2
  obtain ⟨A', c', rfl, _⟩ := h2'.form
  rw [show (L ++ [r]).length = n by simp; omega] at h2' h1
  unfold Oper.wp
  simp [execOp, hop, resolve, invoke, builtin, hs, hx, h1, Result.andThen]
  exact hK _ _ (h A' c' w' h2' ((Below.refl _ _).grown h3 hB (fun k hk => (World.ownsRow.lt ho k hk).1)))
/- the lists -/
def rwo : List RF → ByteArray → List RF
  | [], _ => []
  | r :: l, k => if r.f.nm = k then rwo l k else r :: rwo l k
def rins (r : RF) : List RF → List RF
  | [] => [r]
  | x :: l => if nl r.f.nm < nl x.f.nm then r :: x :: l else x :: rins r l
def rwi (L : List RF) (r : RF) : List RF := rins r (rwo L r.f.nm)
theorem fls_rwo (L : List RF) (k : ByteArray) : fls (rwo L k) = wo (fls L) k := by
  induction L with
  | nil => rfl
  | cons r L ih =>
    simp only [fls, List.map_cons, rwo, wo] at ih ⊢
    split
    · exact ih
    · rw [List.map_cons, ih]
theorem fls_rins (r : RF) (L : List RF) : fls (rins r L) = ins r.f (fls L) := by
  induction L with
  | nil => rfl
  | cons x L ih =>
    simp only [fls, List.map_cons, rins, ins] at ih ⊢
    split
    · rfl
    · rw [List.map_cons, ih]
theorem fls_rwi (L : List RF) (r : RF) : fls (rwi L r) = wi (fls L) r.f := by unfold rwi wi; rw [fls_rins, fls_rwo]
theorem mem_rwo {L : List RF} {k : ByteArray} {x : RF} (h : x ∈ rwo L k) : x ∈ L := by
  induction L with
  | nil => cases h
  | cons r L ih =>
    unfold rwo at h
    split at h
    · exact List.mem_cons_of_mem _ (ih h)
    · rcases List.mem_cons.1 h with rfl | h
      · exact List.mem_cons_self
      · exact List.mem_cons_of_mem _ (ih h)
theorem mem_rins {L : List RF} {r x : RF} (h : x ∈ rins r L) : x = r ∨ x ∈ L := by
  induction L with
  | nil => exact .inl (by simpa [rins] using h)
  | cons y L ih =>
    unfold rins at h
    split at h
    · rcases List.mem_cons.1 h with rfl | h
      · exact .inl rfl
      · exact .inr h
    · rcases List.mem_cons.1 h with rfl | h
      · exact .inr List.mem_cons_self
      · rcases ih h with e | e
        · exact .inl e
        · exact .inr (List.mem_cons_of_mem _ e)
theorem mem_rwi {L : List RF} {r x : RF} (h : x ∈ rwi L r) : x = r ∨ x ∈ L := by
  rcases mem_rins h with e | e
  · exact .inl e
  · exact .inr (mem_rwo e)
theorem rwo_snoc (L : List RF) (k : ByteArray) (r : RF) : rwo (L ++ [r]) k = rwo L k ++ if r.f.nm = k then [] else [r] := by
  induction L with
  | nil => simp [rwo]
  | cons y L ih =>
    simp only [List.cons_append, rwo]
    split
    · exact ih
    · rw [ih]; rfl
theorem rwo_len (L : List RF) (k : ByteArray) : (rwo L k).length ≤ L.length := by
  induction L with
  | nil => exact Nat.le_refl _
  | cons y L ih => unfold rwo; split <;> simp <;> omega
theorem rins_len (r : RF) (L : List RF) : (rins r L).length = L.length + 1 := by
  induction L with
  | nil => rfl
  | cons y L ih => unfold rins; split <;> simp [ih]
theorem take_snocR (L : List RF) (i : Nat) (hi : i < L.length) : L.take (i + 1) = L.take i ++ [L.getD i rz] := by
  rw [List.take_succ_eq_append_getElem hi, List.getD_eq_getElem?_getD, List.getElem?_eq_getElem hi]; rfl
theorem getD_inR (L : List RF) (i : Nat) (hi : i < L.length) : L.getD i rz ∈ L := by
  rw [List.getD_eq_getElem?_getD, List.getElem?_eq_getElem hi]; exact List.getElem_mem _
/- a disk of the document's -/
abbrev rv (R : Int) (A : Option Addr) (n c : Nat) (dn : Bool) (fl : Int) (lt : Bool) (ac pt : Int) : Value := .agg #[.int .i64 R, .slice A n c, .bool dn, .int .i64 fl, .bool lt, .int .i64 ac, .int .i64 pt]
abbrev rc (R : Int) (A : Option Addr) (n c : Nat) (dn : Bool) (fl : Int) (lt : Bool) (ac pt : Int) : Obj := .cells #[.int .i64 R, .slice A n c, .bool dn, .int .i64 fl, .bool lt, .int .i64 ac, .int .i64 pt] 31
theorem rbox (w : World) (R : Int) (A : Option Addr) (n c : Nat) (dn : Bool) (fl : Int) (lt : Bool) (ac pt : Int) : (w.alloc (rc R A n c dn fl lt ac pt)).cell? ⟨w.heap.size, 1, none⟩ = some (.slice A n c) := by simp [go_sem]
theorem bcells {w w' : World} (hb : Below w.heap.size w w') {p : Addr} {v : Value} (h : w.cell? p = some v) : w'.cell? p = some v := (hb.cell (World.block_lt_of_cell? _ _ h)).trans h
theorem rnamed_any (s : ByteArray) (w : World) (hs : s.size ≤ maxLen) : Calls Try.prog 41 #[.string s] w fun e w' => e = .returned (.bool (named s)) ∧ w = w' := by
  unfold maxLen at hs
  have E : Hid (named s = (decide ((0 : Int) < (s.size : Int)) && decide ((s.size : Int) ≤ 32))) := Lib.hid (by unfold named; congr 1 <;> (rw [decide_eq_decide]; omega))
  by_cases h1 : (0 : Int) < (s.size : Int)
  · by_cases h2 : (s.size : Int) ≤ 32
    · go_enter Try.func41, Try.ntmps41
      go_wp2
      go_ret
      exact ⟨by rw [E.out]; simp [h2]; omega, rfl⟩
    · go_enter Try.func41, Try.ntmps41
      go_wp2
      go_ret
      exact ⟨by rw [E.out]; simp [h2], rfl⟩
  · go_enter Try.func41, Try.ntmps41
    go_wp2
    go_ret
    exact ⟨by rw [E.out]; simp; omega, rfl⟩
set_option maxHeartbeats 1000000 in
theorem rused_any (w : World) (R : Int) (A : Option Addr) (n c : Nat) (dn : Bool) (fl : Int) (lt : Bool) (ac pt : Int) (L : List RF) (hl : L.length = n) (hf : Fls w A L) (hu : usd (fls L) ≤ 16777216) (hn : n ≤ 1000) :
    Calls Try.prog 42 #[rv R A n c dn fl lt ac pt] w fun e w' => e = .returned (.int .i64 (usd (fls L) : Int)) ∧ Below w.heap.size w w' := by
  have b0 := below_alloc w (rc R A n c dn fl lt ac pt)
  have F0 := Lib.hid (hf.below b0)
  have HL := Lib.hid hl
  have HU := Lib.hid hu
  have B0 := Lib.hid b0
  clear hf hl hu b0
  go_enter Try.func42, Try.ntmps42
  go_wp2_with fail
  go_loopw [8, 3] (fun s t wr => ∃ (i u : Nat), s = .int .i64 i ∧ t = .int .i64 u ∧ i ≤ n ∧ u ≤ 16777216 ∧ Hid (wr = w.alloc (rc R A n c dn fl lt ac pt) ∧ usd (fls (L.take i)) = u)) (fun s _ _ => n - (intOf s).toNat)
  case atStart => exact ⟨0, 0, rfl, rfl, by omega, by omega, rfl, rfl⟩
  case round =>
    obtain ⟨i, u, rfl, rfl, hi, hu, H0⟩ := hrel
    obtain ⟨rfl, h0⟩ := H0.out
    have H := Lib.hid h0
    clear H0 h0
    by_cases ci : i < n
    · obtain ⟨b, off, rfl, x0, x1, x2⟩ := F0.out i (by rw [HL.out]; exact ci)
      have ci' : (i : Int) < (n : Int) := by omega
      have ci0 : (0 : Int) ≤ (i : Int) := by omega
      have hT := take_snocR L i (by rw [HL.out]; exact ci)
      have hU : usd (fls (L.take (i + 1))) = u + (L.getD i rz).f.bs.length := by
        rw [hT, fls, List.map_append, usd_app, List.map_cons, usd_cons, ← H.out]; simp [usd]
      have hle : usd (fls (L.take (i + 1))) ≤ usd (fls L) := by
        have e : fls L = fls (L.take (i + 1)) ++ fls (L.drop (i + 1)) := by rw [fls, fls, fls, ← List.map_append, List.take_append_drop]
        rw [e, usd_app]; omega
      have hq : u + (L.getD i rz).f.bs.length ≤ 16777216 := by have := HU.out; omega
      have U1 := Lib.hid hU
      clear hT hU hle H
      generalize L.getD i rz = r at *
      generalize r.f.bs.length = q at *
      go_wp2_with fail
      go_roundw
      case rel => exact ⟨i + 1, u + q, by go_num, by go_num, by omega, hq, (by first | rfl | trivial), U1.out⟩
      case measure => simp [intOf]; omega
    · obtain rfl : i = n := by omega
      have E := Lib.hid (show u = usd (fls L) by rw [← H.out, List.take_of_length_le (by rw [HL.out]; exact Nat.le_refl _)])
      clear H ci
      go_wp2_with fail
      go_ret
      exact ⟨by rw [← E.out]; rfl, B0.out⟩
theorem eqb_true {a b : ByteArray} (h : a = b) : (a.toList == b.toList) = true := by rw [h]; simp
theorem eqb_false {a b : ByteArray} (h : a ≠ b) : (a.toList == b.toList) = false := by
  rw [ByteArray.toList_eq, ByteArray.toList_eq]
  simp only [beq_eq_false_iff_ne]
  exact fun e => h (nl_inj e)
theorem bytesLess_is : ∀ (x y : List UInt8), Op.bytesLess x y = decide (x < y)
  | [], [] => by simp [Op.bytesLess]
  | _ :: _, [] => by simp [Op.bytesLess]
  | [], _ :: _ => by simp [Op.bytesLess]
  | a :: x, b :: y => by
    rw [Op.bytesLess, bytesLess_is x y]
    simp only [List.cons_lt_cons_iff]
    by_cases h1 : a < b <;> by_cases h2 : a = b <;> by_cases h3 : x < y <;> simp [h1, h2, h3]
def RFound (n : Nat) (L : List RF) (k : ByteArray) (w : World) (e : Ending) (w' : World) : Prop :=
  ((∃ i : Nat, i < n ∧ e = .returned (.int .i64 (i : Int)) ∧ fnd (fls L) k = some (L.getD i rz).f) ∨ (e = .returned (.int .i64 (-1)) ∧ fnd (fls L) k = none)) ∧ Below w.heap.size w w'
set_option maxHeartbeats 1000000 in
theorem rfind_any (w : World) (R : Int) (A : Option Addr) (n c : Nat) (dn : Bool) (fl : Int) (lt : Bool) (ac pt : Int) (L : List RF) (k : ByteArray) (hl : L.length = n) (hf : Fls w A L) (hn : n ≤ 1000) :
    Calls Try.prog 31 #[rv R A n c dn fl lt ac pt, .string k] w (RFound n L k w) := by
  have b0 := below_alloc w (rc R A n c dn fl lt ac pt)
  have F0 := Lib.hid (hf.below b0)
  have HL := Lib.hid hl
  have B0 := Lib.hid b0
  clear hf hl b0
  go_enter Try.func31, Try.ntmps31
  go_wp2_with fail
  go_loopw [9] (fun s wr => ∃ (i : Nat), s = .int .i64 i ∧ i ≤ n ∧ Hid (wr = w.alloc (rc R A n c dn fl lt ac pt) ∧ fnd (fls L) k = fnd (fls (L.drop i)) k)) (fun s _ => n - (intOf s).toNat)
  case atStart => exact ⟨0, rfl, by omega, rfl, rfl⟩
  case round =>
    obtain ⟨i, rfl, hi, H0⟩ := hrel
    obtain ⟨rfl, h0⟩ := H0.out
    have H := Lib.hid h0
    clear H0 h0
    by_cases ci : i < n
    · obtain ⟨b, off, rfl, x0, x1, x2⟩ := F0.out i (by rw [HL.out]; exact ci)
      have ci' : (i : Int) < (n : Int) := by omega
      have ci0 : (0 : Int) ≤ (i : Int) := by omega
      have hD : L.drop i = L.getD i rz :: L.drop (i + 1) := by
        rw [List.drop_eq_getElem_cons (by rw [HL.out]; exact ci), List.getD_eq_getElem?_getD, List.getElem?_eq_getElem (by rw [HL.out]; exact ci)]; rfl
      have hF : fnd (fls L) k = if (L.getD i rz).f.nm = k then some (L.getD i rz).f else fnd (fls (L.drop (i + 1))) k := by rw [H.out, hD]; rfl
      clear hD H
      by_cases ce : (L.getD i rz).f.nm = k
      · rw [if_pos ce] at hF
        have HF := Lib.hid hF
        have eb := eqb_true ce
        clear hF ce
        generalize (L.getD i rz).f.nm = nm at *
        generalize (L.getD i rz).f.bs.length = q at *
        go_wp2_with fail
        go_ret
        exact ⟨.inl ⟨i, ci, rfl, HF.out⟩, B0.out⟩
      · rw [if_neg ce] at hF
        have HF := Lib.hid hF
        have eb := eqb_false ce
        clear hF ce
        generalize (L.getD i rz).f.nm = nm at *
        generalize (L.getD i rz).f.bs.length = q at *
        go_wp2_with fail
        go_roundw
        case rel => exact ⟨i + 1, by go_num, by omega, (by first | rfl | trivial), HF.out⟩
        case measure => simp [intOf]; omega
    · obtain rfl : i = n := by omega
      have E := Lib.hid (show fnd (fls L) k = none by rw [H.out, List.drop_of_length_le (by rw [HL.out]; exact Nat.le_refl _)]; rfl)
      clear H ci
      go_wp2_with fail
      go_ret
      exact ⟨.inr ⟨rfl, E.out⟩, B0.out⟩
/- a result: the disk with other files, in a row of its own -/
def RRow (w : World) (R : Int) (dn : Bool) (fl : Int) (lt : Bool) (ac pt : Int) (L : List RF) (e : Ending) (w' : World) : Prop :=
  ∃ A n c, e = .returned (.agg #[.int .i64 R, .slice A n c, .bool dn, .int .i64 fl, .bool lt, .int .i64 ac, .int .i64 pt]) ∧ L.length = n ∧ OwnF w' w.heap.size (.slice A n c) L ∧ Below w.heap.size w w'
/- two blocks that stay: a disk's copy, and where the answer is laid -/
abbrev rc0 : Obj := .cells #[.int .i64 0, .slice none 0 0, .bool false, .int .i64 0, .bool false, .int .i64 0, .int .i64 0] 31
structure Two (W : World) (g : Nat) (R : Int) (A : Option Addr) (n c : Nat) (dn : Bool) (fl : Int) (lt : Bool) (ac pt : Int) : Prop where
  b0 : W.heap[g]? = some (rc R A n c dn fl lt ac pt)
  b1 : W.heap[g + 1]? = some rc0
theorem cell_in {w : World} {g : Nat} {cs : Array Value} {t : TypeId} (h : w.heap[g]? = some (.cells cs t (0, 0))) (i : Nat) : w.cell? ⟨g, i, none⟩ = cs[i]? := by simp [World.cell?, h]
theorem free_in {w : World} {g : Nat} {cs : Array Value} {t : TypeId} (h : w.heap[g]? = some (.cells cs t (0, 0))) (i : Nat) : w.frozen? ⟨g, i, none⟩ = false := by simp [World.frozen?, h]
theorem two_start (w : World) (R : Int) (A : Option Addr) (n c : Nat) (dn : Bool) (fl : Int) (lt : Bool) (ac pt : Int) : Two ((w.alloc (rc R A n c dn fl lt ac pt)).alloc rc0) w.heap.size R A n c dn fl lt ac pt := by
  refine ⟨?_, ?_⟩
  · rw [Below.heap_alloc _ _ _ (by simp)]
    exact heap_alloc_new w _
  · have := heap_alloc_new (w.alloc (rc R A n c dn fl lt ac pt)) rc0
    rwa [World.size_alloc] at this
theorem Two.below {W W' : World} {g : Nat} {R : Int} {A : Option Addr} {n c : Nat} {dn : Bool} {fl : Int} {lt : Bool} {ac pt : Int} {B : Nat} (h : Two W g R A n c dn fl lt ac pt) (hb : Below B W W') (hB : g + 1 < B) : Two W' g R A n c dn fl lt ac pt :=
  ⟨(hb.block g (by omega)).trans h.b0, (hb.block (g + 1) hB).trans h.b1⟩
set_option maxHeartbeats 4000000 in
theorem rwithout_any (w : World) (R : Int) (A : Option Addr) (n c : Nat) (dn : Bool) (fl : Int) (lt : Bool) (ac pt : Int) (L : List RF) (k : ByteArray) (hl : L.length = n) (hf : Fls w A L) (hn : n ≤ 1000) :
    Calls Try.prog 44 #[rv R A n c dn fl lt ac pt, .string k] w (RRow w R dn fl lt ac pt (rwo L k)) := by
  have HL := Lib.hid hl
  have b0 := below_alloc w (rc R A n c dn fl lt ac pt)
  have b1 := below_go b0 (below_alloc (w.alloc (rc R A n c dn fl lt ac pt)) rc0)
  have T0 := two_start w R A n c dn fl lt ac pt
  have bb := below_alloc ((w.alloc (rc R A n c dn fl lt ac pt)).alloc rc0) (.cells #[] 43)
  have T1 := Lib.hid (T0.below bb (by simp))
  have B1 := Lib.hid (below_go b1 bb)
  have F0 := Lib.hid hf
  have O0 := Lib.hid (OwnF.made ((w.alloc (rc R A n c dn fl lt ac pt)).alloc rc0))
  simp only [World.size_alloc] at O0
  clear hl hf b0 b1 T0 bb
  go_enter Try.func44, Try.ntmps44
  go_wp2_with fail
  go_loopw [11, 5] (fun s t wr => ∃ (i : Nat) (T : Option Addr) (p q : Nat), s = .int .i64 i ∧ t = .slice T p q ∧ i ≤ n ∧ p ≤ i ∧ Hid (Two wr w.heap.size R A n c dn fl lt ac pt ∧ (rwo (L.take i) k).length = p ∧ OwnF wr (w.heap.size + 1 + 1) (.slice T p q) (rwo (L.take i) k) ∧ Below w.heap.size w wr ∧ w.heap.size + 1 + 1 ≤ wr.heap.size)) (fun s _ _ => n - (intOf s).toNat)
  case atStart => exact ⟨0, _, 0, 0, rfl, rfl, by omega, by omega, T1.out, rfl, O0.out, B1.out, by simp⟩
  case round =>
    obtain ⟨i, T, p, q, rfl, rfl, hi, hp, H⟩ := hrel
    clear T1 B1 O0
    obtain ⟨t2, l2, o2, b2, s2⟩ := H.out
    have f2 := F0.out.below b2
    by_cases ci : i < n
    · obtain ⟨b, off, rfl, x0, x1, x2⟩ := f2 i (by rw [HL.out]; exact ci)
      have y1 : wr.cell? ⟨w.heap.size, 1, none⟩ = some (.slice (some ⟨b, off, none⟩) n c) := by rw [cell_in t2.b0]; rfl
      have ci' : (i : Int) < (n : Int) := by omega
      have ci0 : (0 : Int) ≤ (i : Int) := by omega
      have hbl : b < wr.heap.size := World.block_lt_of_cell? _ _ x0
      have hgl : w.heap.size < wr.heap.size := by omega
      have hT := take_snocR L i (by rw [HL.out]; exact ci)
      have hR : rwo (L.take (i + 1)) k = rwo (L.take i) k ++ if (L.getD i rz).f.nm = k then [] else [L.getD i rz] := by rw [hT, rwo_snoc]
      by_cases ce : (L.getD i rz).f.nm = k
      · rw [if_pos ce, List.append_nil] at hR
        have HR := Lib.hid hR
        have eb : (!((L.getD i rz).f.nm.toList == k.toList)) = false := by rw [eqb_true ce]; rfl
        have R2 := Lib.hid (And.intro t2 (And.intro l2 (And.intro o2 (And.intro b2 s2))))
        clear hT hR ce H t2 f2 l2 o2 b2 s2
        obtain ⟨r, hr⟩ : ∃ r, L.getD i rz = r := ⟨_, rfl⟩
        rw [hr] at x0 x1 x2 eb
        clear hr
        go_wp2_with fail
        go_roundw
        case rel =>
          obtain ⟨t2, l2, o2, b2, s2⟩ := R2.out
          exact ⟨i + 1, T, p, q, by go_num, rfl, by omega, by omega, t2, by rw [HR.out]; exact l2, by rw [HR.out]; exact o2, b2, s2⟩
        case measure => simp [intOf]; omega
      · rw [if_neg ce] at hR
        have eb : (!((L.getD i rz).f.nm.toList == k.toList)) = true := by rw [eqb_false ce]; rfl
        obtain ⟨r, hr⟩ : ∃ r, L.getD i rz = r := ⟨_, rfl⟩
        rw [hr] at x0 x1 x2 eb hR
        have HR := Lib.hid hR
        have ba := below_alloc wr (.cells #[.string r.f.nm, .slice r.A r.f.bs.length r.c, .int .i64 (r.f.sf : Int)] 43)
        have R2 := Lib.hid (And.intro (t2.below ba (by omega)) (And.intro l2 (And.intro (o2.below ba) (And.intro (below_go b2 ba) (show w.heap.size + 1 + 1 ≤ (wr.alloc (.cells #[.string r.f.nm, .slice r.A r.f.bs.length r.c, .int .i64 (r.f.sf : Int)] 43)).heap.size by simp; omega)))))
        clear hT hR ce H t2 f2 l2 o2 b2 s2 hr ba
        go_wp2_with (at_builtin; refine wp_appf _ rfl _ _ rfl (w.heap.size + 1 + 1) _ (rwo (L.take i) k) rfl R2.out.2.2.1 wr.heap.size 0 1 r rfl (by simp [go_sem]) (by simp [go_sem]) (by simp [go_sem]) (by rw [R2.out.2.1]; omega) R2.out.2.2.2.2 (p + 1) (by rw [R2.out.2.1]) ?_; intro T' q' w2 hO2 hb2)
        have R3 := Lib.hid (And.intro hO2 hb2)
        clear hO2 hb2
        go_wp2_with fail
        go_roundw
        case rel =>
          obtain ⟨t2, l2, o2, b2, s2⟩ := R2.out
          obtain ⟨h1, h2⟩ := R3.out
          have hz := h2.size
          exact ⟨i + 1, T', p + 1, q', by go_num, rfl, by omega, by omega, t2.below h2 (by omega), by rw [HR.out, List.length_append, l2]; rfl, by rw [HR.out]; exact h1, b2.trans (h2.mono (by omega)), by omega⟩
        case measure => simp [intOf]; omega
    · obtain rfl : i = n := by omega
      have e0 : L.take i = L := List.take_of_length_le (by rw [HL.out]; exact Nat.le_refl _)
      rw [e0] at l2 o2
      have y0 : wr.cell? ⟨w.heap.size, 0, none⟩ = some (.int .i64 R) := by rw [cell_in t2.b0]; rfl
      have y1 : wr.cell? ⟨w.heap.size, 1, none⟩ = some (.slice A i c) := by rw [cell_in t2.b0]; rfl
      have y2 : wr.cell? ⟨w.heap.size, 2, none⟩ = some (.bool dn) := by rw [cell_in t2.b0]; rfl
      have y3 : wr.cell? ⟨w.heap.size, 3, none⟩ = some (.int .i64 fl) := by rw [cell_in t2.b0]; rfl
      have y4 : wr.cell? ⟨w.heap.size, 4, none⟩ = some (.bool lt) := by rw [cell_in t2.b0]; rfl
      have y5 : wr.cell? ⟨w.heap.size, 5, none⟩ = some (.int .i64 ac) := by rw [cell_in t2.b0]; rfl
      have y6 : wr.cell? ⟨w.heap.size, 6, none⟩ = some (.int .i64 pt) := by rw [cell_in t2.b0]; rfl
      have z0 : wr.cell? ⟨w.heap.size + 1, 0, none⟩ = some (.int .i64 0) := by rw [cell_in t2.b1]; rfl
      have z1 : wr.cell? ⟨w.heap.size + 1, 1, none⟩ = some (.slice none 0 0) := by rw [cell_in t2.b1]; rfl
      have z2 : wr.cell? ⟨w.heap.size + 1, 2, none⟩ = some (.bool false) := by rw [cell_in t2.b1]; rfl
      have z3 : wr.cell? ⟨w.heap.size + 1, 3, none⟩ = some (.int .i64 0) := by rw [cell_in t2.b1]; rfl
      have z4 : wr.cell? ⟨w.heap.size + 1, 4, none⟩ = some (.bool false) := by rw [cell_in t2.b1]; rfl
      have z5 : wr.cell? ⟨w.heap.size + 1, 5, none⟩ = some (.int .i64 0) := by rw [cell_in t2.b1]; rfl
      have z6 : wr.cell? ⟨w.heap.size + 1, 6, none⟩ = some (.int .i64 0) := by rw [cell_in t2.b1]; rfl
      have g1 : wr.frozen? ⟨w.heap.size, 1, none⟩ = false := free_in t2.b0 1
      have fr0 : wr.frozen? ⟨w.heap.size + 1, 0, none⟩ = false := free_in t2.b1 0
      have fr1 : wr.frozen? ⟨w.heap.size + 1, 1, none⟩ = false := free_in t2.b1 1
      have fr2 : wr.frozen? ⟨w.heap.size + 1, 2, none⟩ = false := free_in t2.b1 2
      have fr3 : wr.frozen? ⟨w.heap.size + 1, 3, none⟩ = false := free_in t2.b1 3
      have fr4 : wr.frozen? ⟨w.heap.size + 1, 4, none⟩ = false := free_in t2.b1 4
      have fr5 : wr.frozen? ⟨w.heap.size + 1, 5, none⟩ = false := free_in t2.b1 5
      have fr6 : wr.frozen? ⟨w.heap.size + 1, 6, none⟩ = false := free_in t2.b1 6
      have R2 := Lib.hid (And.intro l2 (And.intro o2 (And.intro b2 s2)))
      clear H t2 f2 l2 o2 b2 s2 e0 ci
      go_wp2_with fail
      obtain ⟨l2, o2, b2, s2⟩ := R2.out
      exact bodyPost_ret (v := rv R T p q dn fl lt ac pt) (by simp [results, Try.results44, go_sem, *]) rfl ⟨T, p, q, rfl, l2, ((((((((o2.set _ 1 (by omega) _).set _ 0 (by omega) _).set _ 1 (by omega) _).set _ 2 (by omega) _).set _ 3 (by omega) _).set _ 4 (by omega) _).set _ 5 (by omega) _).set _ 6 (by omega) _).base (by omega),
        (((((((b2.setCell (p := ⟨w.heap.size, 1, none⟩) (by show w.heap.size ≤ w.heap.size; omega) _).setCell (p := ⟨w.heap.size + 1, 0, none⟩) (by show w.heap.size ≤ w.heap.size + 1; omega) _).setCell (p := ⟨w.heap.size + 1, 1, none⟩) (by show w.heap.size ≤ w.heap.size + 1; omega) _).setCell (p := ⟨w.heap.size + 1, 2, none⟩) (by show w.heap.size ≤ w.heap.size + 1; omega) _).setCell (p := ⟨w.heap.size + 1, 3, none⟩) (by show w.heap.size ≤ w.heap.size + 1; omega) _).setCell (p := ⟨w.heap.size + 1, 4, none⟩) (by show w.heap.size ≤ w.heap.size + 1; omega) _).setCell (p := ⟨w.heap.size + 1, 5, none⟩) (by show w.heap.size ≤ w.heap.size + 1; omega) _).setCell (p := ⟨w.heap.size + 1, 6, none⟩) (by show w.heap.size ≤ w.heap.size + 1; omega) _⟩
end Go.Proofs.Ytahjodpaikhhmaa
