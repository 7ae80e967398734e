/- Bytes appended to a row of one's own, beside boxes of other types; a node's first byte, a question put. -/
import Derived.Test.YtilgoghnoeohnaaDoorMQ
import Derived.Test.YtilgoghnoeohnaaDoorPdRPut
namespace Go.Proofs.YtilgoghnoeohnaaDoor
open Go Go.RowKit Pk Rl
set_option maxRecDepth 20000

/- what isn't bytes stays -/
structure Uk (w w' : World) : Prop where
  z : w.heap.size ≤ w'.heap.size
  b : ∀ (x : Nat) (cur : Array Value) (ty : TypeId) (fr : Nat × Nat), ty ≠ 5 → w.heap[x]? = some (.cells cur ty fr) → w'.heap[x]? = some (.cells cur ty fr)
theorem Uk.of_below {w w' : World} (h : Below w.heap.size w w') : Uk w w' := ⟨h.size, fun x cur ty fr _ hx => by rw [h.block x (Array.getElem?_eq_some_iff.1 hx).1]; exact hx⟩
theorem Uk.trans {a b c : World} (h : Uk a b) (k : Uk b c) : Uk a c := ⟨Nat.le_trans h.z k.z, fun x cur ty fr ht hx => k.b x cur ty fr ht (h.b x cur ty fr ht hx)⟩
theorem run_app2 (w : World) (B : Nat) (ty : TypeId) (v : Value) (xs : List Int) (ho : Own w B v xs) (A : Option Addr) (m c : Nat) (l : List Int) (hm : l.length = m) (hb : Byt w A l) (hc : A = none → c = 0)
    (hlen : xs.length + m ≤ 1000000) (hB : B ≤ w.heap.size) :
    ∃ v' w', (Builtin.append_ #[32, 32] ty #[v, .slice A m c]).run Tryd.prog w = .ok v' w' ∧ Own w' B v' (xs ++ l) ∧ Below B w w' ∧ Uk w w' := by
  obtain ⟨i, hi, hz, hs, hy⟩ := info5
  rcases A with _ | ad
  · obtain rfl := hc rfl
    have hl : l = [] := by
      rcases l with _ | ⟨x, l⟩
      · rfl
      · obtain ⟨b, off, h, _⟩ := hb.1 0 (by simp)
        cases h
    subst hl
    subst hm
    exact ⟨v, w, run_append_owned_none (P := Tryd.prog) (w := w) B 32 ty 5 i 1 Tryd.underlying32 hi v _ _ ho, by rw [List.append_nil]; exact ho, Below.refl _ _, Nat.le_refl _, fun _ _ _ _ _ h => h⟩
  · obtain ⟨v', w', h1, h2, h3, _⟩ := run_append_own (P := Tryd.prog) w B 32 ty 5 i (.int .u8 0) 1 1 Tryd.underlying32 hi hz hs hy rfl (by omega) v xs.length (xs.map (Value.int .u8)) ho ad m c (l.map (Value.int .u8))
      (by simp [hm])
      (fun j u hj => by
        have hjl : j < l.length := by
          rcases Nat.lt_or_ge j l.length with h | h
          · exact h
          · rw [List.getElem?_eq_none (by simpa using h)] at hj; cases hj
        obtain ⟨b, off, h, hcell⟩ := hb.1 j hjl
        injection h with h
        subst h
        rw [add_plain, hcell]
        simp [List.getElem?_eq_getElem hjl] at hj
        rw [← hj]
        simp [List.getElem?_eq_getElem hjl])
      (fun u hu => by
        obtain ⟨x, _, rfl⟩ := List.mem_map.1 hu
        rfl)
      (by unfold maxLen; omega) (by omega) hB
    have hbl := (Below.refl B w).grown h3 hB (fun k hk => (World.ownsRow.lt ho k hk).1)
    refine ⟨v', w', h1, ?_, hbl, hbl.size, fun x cur ty' fr ht hx => ?_⟩
    · have : (xs ++ l).length = xs.length + m := by rw [List.length_append, hm]
      unfold Own
      rw [this, List.map_append]
      exact h2
    · rw [h3.block x (Array.getElem?_eq_some_iff.1 hx).1 (fun e => ?_)]
      · exact hx
      · rcases ho.2 with ⟨rfl, _⟩ | ⟨g', cap, cur', rfl, _, hh, _⟩
        · cases e
        · injection e with e
          have e : x = g' := e
          rw [← e, hx] at hh
          injection hh with hh
          injection hh with _ hh _
          exact ht hh
theorem wp_app2 {ops : Array Oper} {rest : List Oper} {o : Oper} {a : Act} {Q : Exit → Act → World → Prop} (s x : Operand) (w : World) (hgd : o.guard = none)
    (hop : o.op = .call { callee := .builtin .append, args := #[s, x], argTypes := #[32, 32] })
    (B : Nat) (v : Value) (xs : List Int) (hs : a.eval s = v) (ho : Own w B v xs) (A : Option Addr) (m c : Nat) (l : List Int) (hx : a.eval x = .slice A m c) (hm : l.length = m) (hb : Byt w A l) (hc : A = none → c = 0)
    (hr : ∀ c ∈ xs, 0 ≤ c ∧ c < 256) (k : Nat) (hk : (xs ++ l).length = k) (hlen : k ≤ 1000000) (hB : B ≤ w.heap.size)
    (h : ∀ A' c' w', Own w' B (.slice A' k c') (xs ++ l) → Below B w w' → Uk w w' → wpList Tryd.prog ops Q rest (a.put o.dst (.slice A' k c')) w') : wpList Tryd.prog ops Q (o :: rest) a w := by
  refine wpList_plain hgd fun K hK => ?_
  have hlen2 : xs.length + m ≤ 1000000 := by rw [List.length_append] at hk; omega
  obtain ⟨v', w', hrun, h2, h3, h4⟩ := run_app2 w B o.type v xs ho A m c l hm hb hc hlen2 hB
  obtain ⟨A', c', rfl, hby⟩ := h2.form (fun c hc => by
    rcases List.mem_append.1 hc with h | h
    · exact hr c h
    · exact hb.2 c h)
  rw [hk] at h2 hrun
  unfold Oper.wp
  simp [execOp, hop, resolve, invoke, builtin, hs, hx, hrun, Result.andThen]
  exact hK _ _ (h A' c' w' h2 h3 h4)
/- a node in a box of its own -/
def NB (w : World) (g : Nat) (nd : Nd) : Prop := w.heap[g]? = some (nobj nd)
theorem NB.uk {w w' : World} {g : Nat} {nd : Nd} (h : NB w g nd) (k : Uk w w') : NB w' g nd := k.b g _ _ _ (by decide) h
theorem NB.next {w w' : World} {g : Nat} {nd : Nd} (h : NB w g nd) (hb : Below w.heap.size w w') : NB w' g nd := h.uk (Uk.of_below hb)
theorem NB.alloc (w : World) (nd : Nd) : NB (w.alloc (nobj nd)) w.heap.size nd := heap_alloc_new w _
theorem NB.atn {w : World} {g : Nat} {nd : Nd} (h : NB w g nd) : Atn w g 0 nd := by
  unfold NB at h
  refine ⟨?_, ?_, ?_, ?_, ?_, ?_, ?_, ?_, ?_, ?_, ?_⟩ <;> (rw [cell_of_row w g _ _ _ _ h]; rfl)
/- bytes of one's own while a node is put -/
structure PN (w0 W : World) (g : Nat) (nd : Nd) (A : Option Addr) (k c : Nat) (ys : List Int) : Prop where
  own : Own W w0.heap.size (.slice A k c) ys
  len : ys.length = k
  box : NB W g nd
  bel : Below w0.heap.size w0 W
  rng : ∀ c ∈ ys, 0 ≤ c ∧ c < 256
theorem PN.next {w0 W W' : World} {g : Nat} {nd : Nd} {A : Option Addr} {k c : Nat} {ys : List Int} (h : PN w0 W g nd A k c ys) (hb : Below W.heap.size W W') : PN w0 W' g nd A k c ys :=
  ⟨h.own.below hb, h.len, h.box.next hb, below_go h.bel hb, h.rng⟩
def fb (nd : Nd) : Int := if nd.y then nd.k + 16 else nd.k
theorem first_any (nd : Nd) (w : World) (h0 : 0 ≤ nd.k) (h1 : nd.k ≤ 4) : Calls Tryd.prog 33 #[nOf nd] w fun e w' => e = .returned (.int .u8 (fb nd)) ∧ Below w.heap.size w w' := by
  have B0 := Lib.hid (below_alloc w (nobj nd))
  obtain ⟨k, ⟨px, pt, pa, pn, pc, pL⟩, y, ⟨gx, gt, ga, gn, gc, gL⟩, lo, hi, s⟩ := nd
  simp only at h0 h1
  unfold fb
  have hw : IntKind.u8.wrap (k + 16) = k + 16 := by rw [IntKind.wrap_u8]; omega
  cases y
  · go_enter Tryd.func33, Tryd.ntmps33
    go_wp2_with fail
    go_ret
    exact ⟨rfl, B0.out⟩
  · go_enter Tryd.func33, Tryd.ntmps33
    go_wp2_with fail
    go_ret
    exact ⟨rfl, B0.out⟩
theorem putq_any (b : Option Addr) (len cap : Nat) (l : List Int) (q : Qu) (w : World) (hl : l.length = len) (hlen : len ≤ 100000) (hcap : b = none → cap = 0) (hb : Byt w b l) (ht : 0 ≤ q.t ∧ q.t < 256) (hq : Qok w q) (hT : Tab w) (h : pmay q.x q.t q.L = true) :
    Calls Tryd.prog 34 #[.slice b len cap, pv q.x q.t q.a q.n q.c] w fun e w' => (∃ A' c', e = .returned (.slice A' (l ++ wpd q.x q.t q.L).length c') ∧ Own w' w.heap.size (.slice A' (l ++ wpd q.x q.t q.L).length c') (l ++ wpd q.x q.t q.L)) ∧ Below w.heap.size w w' := by
  have b0 := below_alloc w (pcells q.x q.t q.a q.n q.c)
  have B0 := Lib.hid b0
  have C := Lib.hid (pput_any b len cap l q.x q.t q.a q.n q.c q.L (w.alloc (pcells q.x q.t q.a q.n q.c)) hl hlen hcap (hb.below b0) ht hq.len (hq.row.below b0) hq.ok (hT.below b0) h)
  have SZ : Hid (w.heap.size ≤ (w.alloc (pcells q.x q.t q.a q.n q.c)).heap.size) := Lib.hid b0.size
  clear b0 hb hq hT h
  obtain ⟨Z, hZ⟩ : ∃ Z, l ++ wpd q.x q.t q.L = Z := ⟨_, rfl⟩
  rw [hZ] at C ⊢
  clear hZ
  obtain ⟨x, t, a, n, c, L⟩ := q
  go_enter Tryd.func34, Tryd.ntmps34
  go_wp2_with fail
  refine C.out.mono ?_
  rintro e w2 ⟨A', k', c', rfl, hk, ho, hbw⟩
  subst hk
  have O2 := Lib.hid (ho.mono SZ.out)
  have B2 := Lib.hid (below_go B0.out hbw)
  clear ho hbw C
  go_wp2_with fail
  go_ret
  exact ⟨⟨_, _, rfl, O2.out⟩, B2.out⟩
end Go.Proofs.YtilgoghnoeohnaaDoor
