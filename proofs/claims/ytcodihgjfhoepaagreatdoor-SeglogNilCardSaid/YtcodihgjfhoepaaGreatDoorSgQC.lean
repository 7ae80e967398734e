/- Contracts, joined: SgQ, SgC. -/
import Derived.Test.YtcodihgjfhoepaaGreatDoorSgMP
import Derived.BigQuiet
/- The log's readers, and its short calls of the disk. -/
namespace Go.Proofs.YtcodihgjfhoepaaGreatDoor
open Go Go.RowKit Crc Pk
set_option maxRecDepth 20000

theorem big_of {a : ByteArray} {n : Nat} (h : a.size ≤ n) (hn : n ≤ 1000) : a.size ≤ maxLen := by unfold maxLen; omega
section
variable {Q : Lg → Prop} {B : Nat} {w w' : World} {d m : Nat} {V V' : ByteArray → Value} {S T : St} {g : Nat} {nm : ByteArray} {most : Nat} {sv rv sv' rv' : Value} {P P' : Nat → Prop} {L L' : Lg}
theorem Lo.few (h : Lp B w d m V S g nm most sv rv P L) : L.bas ≤ 1000 ∧ L.rc.length ≤ 1000 ∧ L.bas + L.rc.length = L.fin ∧ L.lst ≤ 1000 := by
  have h1 := h.wf.few
  have h2 := h.wf.lst
  unfold Lg.fin at *
  omega
theorem up_len {l : List Nat} (h : l.Pairwise (· < ·)) (hn : ∀ n ∈ l, n ≤ 1000) : l.length ≤ 1001 := by
  have key : ∀ (l : List Nat) (k : Nat), l.Pairwise (· < ·) → (∀ n ∈ l, k ≤ n ∧ n ≤ 1000) → l.length + k ≤ 1001 ∨ l = [] := by
    intro l
    induction l with
    | nil => intro k _ _; exact .inr rfl
    | cons a t ih =>
      intro k hp hb
      have hp' := List.pairwise_cons.1 hp
      have ha := hb a List.mem_cons_self
      rcases ih (a + 1) hp'.2 (fun n hn => ⟨hp'.1 n hn, (hb n (List.mem_cons_of_mem _ hn)).2⟩) with e | e
      · refine .inl ?_
        rw [List.length_cons]; omega
      · subst e
        exact .inl (by simp; omega)
  rcases key l 0 h (fun n hn' => ⟨Nat.zero_le _, hn n hn'⟩) with e | e
  · omega
  · subst e; simp
theorem last_ge {l : List Nat} (h : l.Pairwise (· < ·)) : ∀ n ∈ l, n ≤ l.getLastD 0 := by
  induction l with
  | nil => intro n hn; cases hn
  | cons a t ih =>
    have h' := List.pairwise_cons.1 h
    intro n hn
    rcases t with _ | ⟨b, t⟩
    · simp at hn; subst hn; simp
    · have e : (a :: b :: t).getLastD 0 = (b :: t).getLastD 0 := by simp
      rw [e]
      rcases List.mem_cons.1 hn with rfl | hn
      · exact Nat.le_trans (Nat.le_of_lt (h'.1 b List.mem_cons_self)) (ih h'.2 b List.mem_cons_self)
      · exact ih h'.2 n hn
theorem Wf.st1000 (h : Wf L) : ∀ n ∈ L.st, n ≤ 1000 := fun n hn => by
  have h1 := last_ge h.up n hn
  have h2 := h.lst
  have h3 := h.few
  unfold Lg.lst at h2
  omega
theorem Wf.len (h : Wf L) : 1 ≤ L.st.length ∧ L.st.length ≤ 1001 :=
  ⟨by rcases hh : L.st with _ | ⟨a, t⟩; exact absurd hh h.ne; simp, up_len h.up h.st1000⟩
theorem headD_get (l : List Nat) : l.getD 0 0 = l.headD 0 := by rcases l with _ | ⟨a, t⟩ <;> rfl
theorem lastD_get (l : List Nat) (h : l ≠ []) : l.getD (l.length - 1) 0 = l.getLastD 0 := by
  rw [List.getD_eq_getElem?_getD, ← List.getLast?_eq_getElem?, List.getLastD_eq_getLast?]
set_option maxHeartbeats 1000000 in
theorem base_any (h : Lp B w d m V S g nm most sv rv P L) : Calls Tryz.prog 11 #[ptr g] w fun e w' => e = .returned (.int .u64 (L.bas : Int)) ∧ w = w' := by
  have c3 := h.c3
  obtain ⟨A, c, rfl, hu, hc, hz, hx⟩ := h.st.form
  have hl := h.wf.len
  obtain ⟨b, off, rfl, x0⟩ := hu 0 (by omega)
  rw [Nat.add_zero] at x0
  have hcc : (1 : Int) ≤ (c : Int) := by omega
  have hll : (0 : Int) < (L.st.length : Int) := by omega
  have E := Lib.hid (headD_get L.st)
  have E2 : Hid (L.bas = L.st.headD 0) := Lib.hid rfl
  generalize L.st.getD 0 0 = v0 at *
  generalize L.st.length = q at *
  clear hu hx h
  go_enter Tryz.func11, Tryz.ntmps11
  go_wp2
  go_ret
  exact ⟨by rw [E2.out, ← E.out]; rfl, rfl⟩
theorem base_q (h : Lp B w d m V S g nm most sv rv P L) (j : Nat) : Calls Tryz.prog 11 #[ptr g] (w.drewN j) fun e w' => e = .returned (.int .u64 (L.bas : Int)) ∧ w' = w.drewN j :=
  (base_any (h.below (below_drewN _ _ j))).mono fun e w' ⟨e1, e2⟩ => ⟨e1, e2.symm⟩
set_option maxHeartbeats 1000000 in
theorem end_any (h : Lp B w d m V S g nm most sv rv P L) : Calls Tryz.prog 13 #[ptr g] w fun e w' => e = .returned (.int .u64 (L.fin : Int)) ∧ ∃ j, w' = w.drewN j := by
  have c4 := h.c4
  have B := Lib.hid (base_q h)
  obtain ⟨f1, f2, f3, f4⟩ := h.few
  obtain ⟨A, c, rfl, hu, hc, hz, hx⟩ := h.rc.form
  have F : Hid (((L.fin : Nat) : Int) = (L.bas : Int) + (L.rc.length : Int)) := Lib.hid (by omega)
  generalize L.fin = fin at *
  generalize L.bas = bas at *
  generalize L.rc.length = q at *
  clear hu hx h f3
  have w1 : IntKind.u64.wrap (q : Int) = (q : Int) := by rw [IntKind.wrap_u64]; omega
  have w2 : IntKind.u64.wrap ((bas : Int) + (q : Int)) = (bas : Int) + (q : Int) := by rw [IntKind.wrap_u64]; omega
  go_enter Tryz.func13, Tryz.ntmps13
  go_wp2_with fail
  go_quiet (first | (go_at_call 11; refine Calls.quiet_of_same (B.out _)))
  go_wp2_with fail
  go_ret
  exact ⟨by rw [F.out]; rfl, _, rfl⟩
theorem end_q (h : Lp B w d m V S g nm most sv rv P L) (j : Nat) : Calls Tryz.prog 13 #[ptr g] (w.drewN j) fun e w' => e = .returned (.int .u64 (L.fin : Int)) ∧ ∃ k, w' = w.drewN k :=
  (end_any (h.below (below_drewN _ _ j))).mono fun e w' ⟨e1, k, e2⟩ => ⟨e1, j + k, by rw [e2, World.drewN_drewN]⟩
set_option maxHeartbeats 1000000 in
theorem lsafe_any (h : Lp B w d m V S g nm most sv rv P L) : Calls Tryz.prog 12 #[ptr g] w fun e w' => e = .returned (.int .u64 (L.sf : Int)) ∧ w = w' := by
  have c6 := h.c6
  clear h
  go_enter Tryz.func12, Tryz.ntmps12
  go_wp2
  go_ret
  exact ⟨rfl, rfl⟩
set_option maxHeartbeats 1000000 in
theorem file_any (h : Lo Q B w d m V S g nm most sv rv P L) (t : ByteArray) (ht : t.size ≤ 100) : Calls Tryz.prog 64 #[ptr g, .string t] w fun e w' => e = .returned (.string (fn nm t)) ∧ w = w' := by
  have c1 := h.c1
  have hn := h.cf.nm
  have E := Lib.hid (app_dot nm t)
  have s1 : (nm ++ ⟨#[46]⟩).size = nm.size + 1 := by rw [ByteArray.size_append]; rfl
  clear h
  go_enter Tryz.func64, Tryz.ntmps64
  go_wp2
  go_ret
  exact ⟨by rw [← E.out]; rfl, rfl⟩
set_option maxHeartbeats 1000000 in
theorem seg_any (h : Lo Q B w d m V S g nm most sv rv P L) (n : Nat) (hn : n < 18446744073709551616) : Calls Tryz.prog 68 #[ptr g, .int .u64 (n : Int)] w fun e w' => e = .returned (.string (fS nm n)) ∧ Below w.heap.size w w' := by
  have C := Lib.hid (fmtu_any n hn w h.tb)
  have D := Lib.hid (fun w1 (hb : Below w.heap.size w w1) => file_any (h.below hb) (dc n) (by rw [size_dc]; have := dec_len n hn; omega))
  clear h
  go_enter Tryz.func68, Tryz.ntmps68
  go_wp2_with fail
  refine C.out.mono ?_
  rintro e w1 ⟨rfl, hb⟩
  have HB := Lib.hid hb
  have D1 := Lib.hid (D.out w1 hb)
  clear hb D C
  go_wp2_with fail
  refine D1.out.mono ?_
  rintro e w2 ⟨rfl, rfl⟩
  go_wp2_with fail
  go_ret
  exact ⟨rfl, HB.out⟩
set_option maxHeartbeats 1000000 in
theorem last_any (h : Lp B w d m V S g nm most sv rv P L) : Calls Tryz.prog 76 #[ptr g] w fun e w' => e = .returned (.string (fS nm L.lst)) ∧ Below w.heap.size w w' := by
  have c3 := h.c3
  obtain ⟨f1, f2, f3, f4⟩ := h.few
  have D := Lib.hid (fun W (hb : Below w.heap.size w W) => seg_any (h.below hb) L.lst (by omega))
  obtain ⟨A, c, rfl, hu, hc, hz, hx⟩ := h.st.form
  have hl := h.wf.len
  obtain ⟨b, off, rfl, x0⟩ := hu (L.st.length - 1) (by omega)
  rw [lastD_get L.st h.wf.ne] at x0
  have x0' : w.cell? ⟨b, off + (L.st.length - 1), none⟩ = some (.int .u64 (L.lst : Int)) := x0
  generalize L.lst = v0 at *
  obtain ⟨q, hq⟩ : ∃ q, L.st.length = q + 1 := ⟨L.st.length - 1, by omega⟩
  rw [hq] at x0' c3 hc hl
  simp only [Nat.add_sub_cancel] at x0'
  obtain ⟨hl1, hl2⟩ := hl
  have hq0 : (0 : Int) ≤ (q : Int) ∧ (q : Int) ≤ 1001 := by omega
  obtain ⟨hq1, hq2⟩ := hq0
  have hqc : (q : Int) + 1 ≤ (c : Int) := by omega
  have w1 : IntKind.i64.wrap (q : Int) = (q : Int) := by rw [IntKind.wrap_i64]; omega
  have hlt : (q : Int) < (q : Int) + 1 := by omega
  clear hu hx h x0 hq f1 f2 f3 hl1 hl2
  go_enter Tryz.func76, Tryz.ntmps76
  go_wp2_with fail
  go_region_law (go_simp; go_at_call 68; refine (D.out _ (below_drewN _ _ _)).mono ?_; rintro e w1 ⟨rfl, hb⟩)
  all_goals
    go_wp2_with fail
    go_ret
    exact ⟨rfl, (below_drewN _ _ _).trans hb⟩
/- what a call of the disk's leaves -/
def LAo (Q : Lg → Prop) (B : Nat) (w : World) (d m : Nat) (V : ByteArray → Value) (S : St) (g : Nat) (nm : ByteArray) (most : Nat) (sv rv : Value) (P : Nat → Prop) (n : Nat) (T : St) (L' : Lg) (e : Ending) (w' : World) : Prop :=
  e = .returned (.int .i64 (n : Int)) ∧ ∃ V', Lo Q B w' d m V' T g nm most sv rv P L' ∧ Keep (Mu d m V S.fs g rv) w w' ∧ ∀ x, Mu d m V' T.fs g rv x → Mu d m V S.fs g rv x ∨ w.heap.size ≤ x
abbrev LA := LAo Wf
set_option maxHeartbeats 1000000 in
theorem drop_any (h : Lo Q B w d m V S g nm most sv rv P L) (f : ByteArray) (hf : f.size ≤ 100) : Calls Tryz.prog 63 #[ptr g, .string f] w (LAo Q B w d m V S g nm most sv rv P (drp S f) (delS S f) L) := by
  have c0 := h.c0
  have C := Lib.hid (delete_any h.dk f (big_of hf (by omega)))
  have D := Lib.hid (fun e w1 (ha : Acted w d m V S (delE S f) (delS S f) e w1) => h.acted ha)
  obtain ⟨n, hn⟩ : ∃ n, delE S f = n := ⟨_, rfl⟩
  have E : Hid (drp S f = if n = 8 then 0 else n) := Lib.hid (by unfold drp; rw [hn])
  rw [hn] at C D
  clear h hn
  by_cases c : n = 8
  · subst c
    go_enter Tryz.func63, Tryz.ntmps63
    go_wp2_with fail
    refine C.out.mono ?_
    intro e w1 ha
    obtain ⟨rfl, hq⟩ := D.out e w1 ha
    have HA := Lib.hid hq
    clear hq ha D C
    go_wp2_with fail
    go_ret
    exact ⟨by rw [E.out]; rfl, HA.out⟩
  · have c' : ¬ ((n : Int) = 8) := by omega
    go_enter Tryz.func63, Tryz.ntmps63
    go_wp2_with fail
    refine C.out.mono ?_
    intro e w1 ha
    obtain ⟨rfl, hq⟩ := D.out e w1 ha
    have HA := Lib.hid hq
    clear hq ha D C
    go_wp2_with fail
    go_ret
    exact ⟨by rw [E.out, if_neg c]; rfl, HA.out⟩
theorem Wf.go (h : Wf L) (b : Bool) : Wf (L.go b) := ⟨h.ne, h.up, h.lst, h.sz, h.sf, h.recs, h.few⟩
/- the struct's flag -/
theorem Lo.flag (h : Lo Q B w d m V S g nm most sv rv P L) (b : Bool) (hq : Q (L.go b)) : Lo Q B (w.setCell ⟨g, 7, none⟩ (.bool b)) d m V S g nm most sv rv P (L.go b) ∧ Keep (Mu d m V S.fs g rv) w (w.setCell ⟨g, 7, none⟩ (.bool b)) :=
  ⟨h.turn (Keep.set _ _ _ _ rfl) (block_set w g 7 (.bool b) _ _ _ h.blk) h.st h.rc h.far hq (fun x e => h.from_ x (.inr (.inr e))), Keep.set _ _ _ _ (.inr (.inl rfl))⟩
set_option maxHeartbeats 1000000 in
theorem msafe_o (h : Lo Q B w d m V S g nm most sv rv P L) (f : ByteArray) (hf : f.size ≤ 100) (hq : Q (L.go true)) :
    Calls Tryz.prog 77 #[ptr g, .string f] w (LAo Q B w d m V S g nm most sv rv P (synE S f) (synS S f) (if synE S f = 0 then L else L.go true)) := by
  have c0 := h.c0
  have C := Lib.hid (sync_any h.dk f (big_of hf (by omega)))
  have D := Lib.hid (fun e w1 (ha : Acted w d m V S (synE S f) (synS S f) e w1) => h.acted ha)
  obtain ⟨n, hn⟩ : ∃ n, synE S f = n := ⟨_, rfl⟩
  rw [hn] at C D ⊢
  have HQ := Lib.hid hq
  clear h hn hq
  by_cases c : n = 0
  · subst c
    go_enter Tryz.func77, Tryz.ntmps77
    go_wp2_with fail
    refine C.out.mono ?_
    intro e w1 ha
    obtain ⟨rfl, hq⟩ := D.out e w1 ha
    have HA := Lib.hid hq
    clear hq ha D C
    go_wp2_with fail
    go_ret
    exact ⟨rfl, HA.out⟩
  · have c' : ¬ ((n : Int) = 0) := by omega
    rw [if_neg c]
    go_enter Tryz.func77, Tryz.ntmps77
    go_wp2_with fail
    refine C.out.mono ?_
    intro e w1 ha
    obtain ⟨rfl, V1, h1, k1, m1⟩ := D.out e w1 ha
    have c7 := h1.c7
    have f7 := h1.free 7
    have H1 := Lib.hid h1
    have K1 := Lib.hid k1
    have M1 := Lib.hid m1
    clear ha D C h1 k1 m1
    go_wp2_with fail
    go_ret
    obtain ⟨q1, q2⟩ := H1.out.flag true HQ.out
    exact ⟨rfl, V1, q1, K1.out.trans q2 (fun i hi e => (M1.out i e).resolve_right (by omega)), fun x hx => M1.out x hx⟩
theorem msafe_any (h : Lp B w d m V S g nm most sv rv P L) (f : ByteArray) (hf : f.size ≤ 100) :
    Calls Tryz.prog 77 #[ptr g, .string f] w (LA B w d m V S g nm most sv rv P (synE S f) (synS S f) (if synE S f = 0 then L else L.go true)) := msafe_o h f hf (h.wf.go true)
end
end Go.Proofs.YtcodihgjfhoepaaGreatDoor

/- Copies: of bytes, of rows of numbers, of rows of records; append as an operation of a walk. -/
namespace Go.Proofs.YtcodihgjfhoepaaGreatDoor
open Go Go.RowKit Crc Pk
set_option maxRecDepth 20000

theorem OwnU.empty (w : World) : OwnU (w.alloc (.cells #[] 30)) (.slice (some ⟨w.heap.size, 0, none⟩) 0 0) [] := by
  have h := World.ownsRow_made w #[] 0 (Nat.le_refl _) (by decide) rfl (e := 30) (size := 1)
  refine ⟨h.1, ?_⟩
  rcases h.2 with h0 | ⟨g, cap, cur, hv, hg, r⟩
  · exact .inl h0
  · exact .inr ⟨g, cap, cur, hv, Nat.zero_le _, r⟩
theorem OwnP.empty (w : World) (P : Nat → Prop) : OwnP (w.alloc (.cells #[] 29)) P (.slice (some ⟨w.heap.size, 0, none⟩) 0 0) [] := by
  have h := World.ownsRow_made w #[] 0 (Nat.le_refl _) (by decide) rfl (e := 29) (size := 1)
  refine ⟨[], ⟨h.1, ?_⟩, rfl, fun i hi => absurd hi (by simp)⟩
  rcases h.2 with h0 | ⟨g, cap, cur, hv, hg, r⟩
  · exact .inl h0
  · exact .inr ⟨g, cap, cur, hv, Nat.zero_le _, r⟩
theorem wp_appu1 {o : Oper} {a : Act} {K : Act → World → Prop} {Q : Exit → Act → World → Prop} (w : World) (s x : Operand)
    (hop : o.op = .call { callee := .builtin .append, args := #[s, x], argTypes := #[39, 39] })
    (v : Value) (l : List Nat) (hs : a.eval s = v) (ho : OwnU w v l) (A : Option Addr) (m c : Nat) (r : List Nat) (hx : a.eval x = .slice A m c) (hm : r.length = m) (hb : Us w A r) (hc : A = none → c = 0)
    (hlen : l.length + m ≤ 100000)
    (h : ∀ v' w', OwnU w' v' (l ++ r) → w.grownBy w' v.ownBlock → (v'.ownBlock = v.ownBlock ∨ v'.ownBlock = some w.heap.size) → K (a.put o.dst v') w') : Oper.wp Tryz.prog o a w K Q := by
  obtain ⟨v', w', hrun, h2, h3, h4⟩ := run_appu w o.type v l ho A m c r hm hb hc hlen
  unfold Oper.wp
  simp [execOp, hop, resolve, invoke, builtin, hs, hx, hrun, Result.andThen]
  exact h v' w' h2 h3 h4
theorem wp_appu {ops : Array Oper} {rest : List Oper} {o : Oper} {a : Act} {Q : Exit → Act → World → Prop} (w : World) (hgd : o.guard = none) (s x : Operand)
    (hop : o.op = .call { callee := .builtin .append, args := #[s, x], argTypes := #[39, 39] })
    (v : Value) (l : List Nat) (hs : a.eval s = v) (ho : OwnU w v l) (A : Option Addr) (m c : Nat) (r : List Nat) (hx : a.eval x = .slice A m c) (hm : r.length = m) (hb : Us w A r) (hc : A = none → c = 0)
    (hlen : l.length + m ≤ 100000)
    (h : ∀ v' w', OwnU w' v' (l ++ r) → w.grownBy w' v.ownBlock → (v'.ownBlock = v.ownBlock ∨ v'.ownBlock = some w.heap.size) → wpList Tryz.prog ops Q rest (a.put o.dst v') w') : wpList Tryz.prog ops Q (o :: rest) a w := by
  refine wpList_plain hgd fun K hK => ?_
  exact wp_appu1 w s x hop v l hs ho A m c r hx hm hb hc hlen fun v' w' h2 h3 h4 => hK _ _ (h v' w' h2 h3 h4)
theorem wp_apprs1 {o : Oper} {a : Act} {K : Act → World → Prop} {Q : Exit → Act → World → Prop} (w : World) (s x : Operand)
    (hop : o.op = .call { callee := .builtin .append, args := #[s, x], argTypes := #[40, 40] })
    (P P2 : Nat → Prop) (v : Value) (L : List (List Int)) (hs : a.eval s = v) (ho : OwnP w P v L) (A : Option Addr) (m c : Nat) (M : List (List Int)) (hx : a.eval x = .slice A m c) (hm : M.length = m) (hb : RQ w P2 A M) (hc : A = none → c = 0)
    (hlen : L.length + m ≤ 100000) (hP : ∀ x, P x ∨ P2 x → v.ownBlock ≠ some x)
    (h : ∀ v' w', OwnP w' (fun x => P x ∨ P2 x) v' (L ++ M) → w.grownBy w' v.ownBlock → (v'.ownBlock = v.ownBlock ∨ v'.ownBlock = some w.heap.size) → K (a.put o.dst v') w') : Oper.wp Tryz.prog o a w K Q := by
  obtain ⟨v', w', hrun, h2, h3, h4⟩ := run_appr w o.type P P2 v L ho A m c M hm hb hc hlen hP
  unfold Oper.wp
  simp [execOp, hop, resolve, invoke, builtin, hs, hx, hrun, Result.andThen]
  exact h v' w' h2 h3 h4
theorem wp_apprs {ops : Array Oper} {rest : List Oper} {o : Oper} {a : Act} {Q : Exit → Act → World → Prop} (w : World) (hgd : o.guard = none) (s x : Operand)
    (hop : o.op = .call { callee := .builtin .append, args := #[s, x], argTypes := #[40, 40] })
    (P P2 : Nat → Prop) (v : Value) (L : List (List Int)) (hs : a.eval s = v) (ho : OwnP w P v L) (A : Option Addr) (m c : Nat) (M : List (List Int)) (hx : a.eval x = .slice A m c) (hm : M.length = m) (hb : RQ w P2 A M) (hc : A = none → c = 0)
    (hlen : L.length + m ≤ 100000) (hP : ∀ x, P x ∨ P2 x → v.ownBlock ≠ some x)
    (h : ∀ v' w', OwnP w' (fun x => P x ∨ P2 x) v' (L ++ M) → w.grownBy w' v.ownBlock → (v'.ownBlock = v.ownBlock ∨ v'.ownBlock = some w.heap.size) → wpList Tryz.prog ops Q rest (a.put o.dst v') w') : wpList Tryz.prog ops Q (o :: rest) a w := by
  refine wpList_plain hgd fun K hK => ?_
  exact wp_apprs1 w s x hop P P2 v L hs ho A m c M hx hm hb hc hlen hP fun v' w' h2 h3 h4 => hK _ _ (h v' w' h2 h3 h4)
theorem step_apprs {ops : Array Oper} {o : Oper} {a : Act} {K : Act → World → Prop} {Q : Exit → Act → World → Prop} {E : Prop} (w : World) (hgd : o.guard = none) (s x : Operand)
    (hop : o.op = .call { callee := .builtin .append, args := #[s, x], argTypes := #[40, 40] })
    (P P2 : Nat → Prop) (v : Value) (L : List (List Int)) (hs : a.eval s = v) (ho : OwnP w P v L) (A : Option Addr) (m c : Nat) (M : List (List Int)) (hx : a.eval x = .slice A m c) (hm : M.length = m) (hb : RQ w P2 A M) (hc : A = none → c = 0)
    (hlen : L.length + m ≤ 100000) (hP : ∀ x, P x ∨ P2 x → v.ownBlock ≠ some x)
    (h : ∀ v' w', OwnP w' (fun x => P x ∨ P2 x) v' (L ++ M) → w.grownBy w' v.ownBlock → (v'.ownBlock = v.ownBlock ∨ v'.ownBlock = some w.heap.size) → K (a.put o.dst v') w') :
    if Region.wanted o (yielded ops a.tmps) = true then Oper.wp Tryz.prog o a w K Q else E := by
  have hw : Region.wanted o (yielded ops a.tmps) = true := by simp [Region.wanted, hgd]
  rw [if_pos hw]
  exact wp_apprs1 w s x hop P P2 v L hs ho A m c M hx hm hb hc hlen hP h
/- one record in a block of its own -/
theorem RQ.one (w : World) (P : Nat → Prop) (A : Option Addr) (l : List Int) (C : Nat) (hy : Byt w A l) (hz : A = none → C = 0) (hp : ∀ x, A = some x → P x.block) :
    RQ (w.alloc (.cells #[.slice A l.length C] 29)) P (some ⟨w.heap.size, 0, none⟩) [l] := fun i hi => by
  have : i = 0 := by simpa using hi
  subst this
  refine ⟨w.heap.size, 0, A, C, rfl, by simp [go_sem, g0], hy.below (below_alloc _ _), hz, hp⟩
set_option maxHeartbeats 1000000 in
theorem bclone_any (w : World) (A : Option Addr) (q c : Nat) (l : List Int) (hl : l.length = q) (hb : Byt w A l) (hz : A = none → c = 0) (hq : q ≤ 100000000) :
    Calls Tryz.prog 37 #[.slice A q c] w fun e w' => ∃ A' c', e = .returned (.slice A' q c') ∧ Own w' w.heap.size (.slice A' q c') l ∧ Below w.heap.size w w' := by
  rcases A with _ | ad
  · have hl0 : l = [] := none_nil hb
    subst hl0
    subst hl
    have en : ∀ w, (binOp .eql 29 (.slice none 0 c) (.slice none 0 0)).run Tryz.prog w = .ok (.bool true) w := fun w => Lib.run_eql_slice_nil w 29 5 none 0 c 0 0 Tryz.underlying29
    clear hb hz
    go_enter Tryz.func37, Tryz.ntmps37
    go_wp2
    go_ret
    exact ⟨none, 0, rfl, Own.nil _ _, Below.refl _ _⟩
  · have HN := Lib.hid hl
    have B0 := Lib.hid (below_alloc w (.cells #[] 5))
    have HV := Lib.hid (hb.below B0.out)
    have O0 := Lib.hid (Own.empty w)
    have HK := Lib.hid (show ([] ++ l).length = q by simpa using hl)
    have en : ∀ w, (binOp .eql 29 (.slice (some ad) q c) (.slice none 0 0)).run Tryz.prog w = .ok (.bool false) w := fun w => Lib.run_eql_slice_nil w 29 5 (some ad) q c 0 0 Tryz.underlying29
    clear hl hb hz
    go_enter Tryz.func37, Tryz.ntmps37
    go_wp2_with (at_builtin; refine wp_appb _ rfl _ _ rfl w.heap.size _ [] rfl O0.out (some ad) q c l rfl HN.out HV.out (by intro h; cases h) (by simp) q HK.out (by omega) B0.out.size ?_; intro A' c' w1 hO1 hg1 hw1)
    have R := Lib.hid (And.intro hO1 (B0.out.trans ((Below.refl w.heap.size _).grown hg1 B0.out.size (fun k hk => (O0.out.lt k hk).1))))
    clear hO1 hg1 hw1
    go_wp2_with fail
    go_ret
    exact ⟨A', c', rfl, by simpa using R.out.1, R.out.2⟩
theorem us_none {w : World} {l : List Nat} (h : Us w none l) : l = [] := by
  rcases l with _ | ⟨x, l⟩
  · rfl
  · obtain ⟨b, off, e, _⟩ := h 0 (by simp)
    cases e
theorem rq_none {w : World} {P : Nat → Prop} {L : List (List Int)} (h : RQ w P none L) : L = [] := by
  rcases L with _ | ⟨x, l⟩
  · rfl
  · obtain ⟨b, off, _, _, e, _⟩ := h 0 (by simp)
    cases e
set_option maxHeartbeats 1000000 in
theorem uclone_any (w : World) (A : Option Addr) (q c : Nat) (l : List Nat) (hl : l.length = q) (hb : Us w A l) (hz : A = none → c = 0) (hq : q ≤ 90000) :
    Calls Tryz.prog 45 #[.slice A q c] w fun e w' => ∃ v, e = .returned v ∧ OwnU w' v l ∧ (∀ x, v.ownBlock = some x → w.heap.size ≤ x) ∧ Below w.heap.size w w' := by
  rcases A with _ | ad
  · have hl0 : l = [] := us_none hb
    subst hl0
    subst hl
    have en : ∀ w, (binOp .eql 39 (.slice none 0 c) (.slice none 0 0)).run Tryz.prog w = .ok (.bool true) w := fun w => Lib.run_eql_slice_nil w 39 30 none 0 c 0 0 Tryz.underlying39
    clear hb hz
    go_enter Tryz.func45, Tryz.ntmps45
    go_wp2
    go_ret
    exact ⟨_, rfl, OwnU.nil _, fun x e => (by cases e), Below.refl _ _⟩
  · have HN := Lib.hid hl
    have B0 := Lib.hid (below_alloc w (.cells #[] 30))
    have HV := Lib.hid (hb.below B0.out)
    have O0 := Lib.hid (OwnU.empty w)
    have en : ∀ w, (binOp .eql 39 (.slice (some ad) q c) (.slice none 0 0)).run Tryz.prog w = .ok (.bool false) w := fun w => Lib.run_eql_slice_nil w 39 30 (some ad) q c 0 0 Tryz.underlying39
    clear hl hb hz
    go_enter Tryz.func45, Tryz.ntmps45
    go_wp2_with (at_builtin; refine wp_appu _ rfl _ _ rfl _ [] rfl O0.out (some ad) q c l rfl HN.out HV.out (by intro h; cases h) (by simp; omega) ?_; intro v w1 hO1 hg1 hw1)
    have R := Lib.hid (And.intro hO1 (And.intro (B0.out.trans ((Below.refl w.heap.size _).grown hg1 B0.out.size (fun k hk => by
      have e : some w.heap.size = some k := hk
      injection e with e; omega))) hw1))
    clear hO1 hg1 hw1
    go_wp2_with fail
    go_ret
    refine ⟨v, rfl, by simpa using R.out.1, fun x e => ?_, R.out.2.1⟩
    rcases R.out.2.2 with h | h
    · rw [h] at e
      have e : some w.heap.size = some x := e
      injection e with e; omega
    · rw [h] at e; injection e with e; subst e; exact B0.out.size
set_option maxHeartbeats 1000000 in
theorem rclone_any (w : World) (P : Nat → Prop) (A : Option Addr) (q c : Nat) (L : List (List Int)) (hl : L.length = q) (hb : RQ w P A L) (hz : A = none → c = 0) (hq : q ≤ 90000) (hP : ∀ x, P x → x < w.heap.size) :
    Calls Tryz.prog 78 #[.slice A q c] w fun e w' => ∃ v, e = .returned v ∧ OwnP w' P v L ∧ (∀ x, v.ownBlock = some x → w.heap.size ≤ x) ∧ Below w.heap.size w w' := by
  rcases A with _ | ad
  · have hl0 : L = [] := rq_none hb
    subst hl0
    subst hl
    have en : ∀ w, (binOp .eql 40 (.slice none 0 c) (.slice none 0 0)).run Tryz.prog w = .ok (.bool true) w := fun w => Lib.run_eql_slice_nil w 40 29 none 0 c 0 0 Tryz.underlying40
    clear hb hz
    go_enter Tryz.func78, Tryz.ntmps78
    go_wp2
    go_ret
    exact ⟨_, rfl, OwnP.nil _ _, fun x e => (by cases e), Below.refl _ _⟩
  · have HN := Lib.hid hl
    have B0 := Lib.hid (below_alloc w (.cells #[] 29))
    have HV := Lib.hid (hb.below B0.out)
    have O0 := Lib.hid (OwnP.empty w (fun _ => False))
    have HP := Lib.hid hP
    have en : ∀ w, (binOp .eql 40 (.slice (some ad) q c) (.slice none 0 0)).run Tryz.prog w = .ok (.bool false) w := fun w => Lib.run_eql_slice_nil w 40 29 (some ad) q c 0 0 Tryz.underlying40
    clear hl hb hz hP
    go_enter Tryz.func78, Tryz.ntmps78
    go_wp2_with (at_builtin; refine wp_apprs _ rfl _ _ rfl (fun _ => False) P _ [] rfl O0.out (some ad) q c L rfl HN.out HV.out (by intro h; cases h) (by simp; omega) (by intro x hx e; have e : some w.heap.size = some x := e; injection e with e; have := HP.out x (hx.resolve_left id); omega) ?_; intro v w1 hO1 hg1 hw1)
    have R := Lib.hid (And.intro hO1 (And.intro (B0.out.trans ((Below.refl w.heap.size _).grown hg1 B0.out.size (fun k hk => by
      have e : some w.heap.size = some k := hk
      injection e with e; omega))) hw1))
    clear hO1 hg1 hw1
    go_wp2_with fail
    go_ret
    refine ⟨v, rfl, by simpa using R.out.1.wide (fun x hx => hx.resolve_left id), fun x e => ?_, R.out.2.1⟩
    rcases R.out.2.2 with h | h
    · rw [h] at e
      have e : some w.heap.size = some x := e
      injection e with e; omega
    · rw [h] at e; injection e with e; subst e; exact B0.out.size
end Go.Proofs.YtcodihgjfhoepaaGreatDoor
