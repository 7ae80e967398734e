/- A segment is read. -/
import Derived.Test.YtcodihgjfhoepaaGreatDoorSgGH
namespace Go.Proofs.YtcodihgjfhoepaaGreatDoor
open Go Go.RowKit Crc Pk
set_option maxRecDepth 20000

def fitB (st : List Nat) (i cnt : Nat) (more : Bool) : Bool := if i + 1 = st.length then true else (!more && decide (cnt = st.getD (i + 1) 0 - st.getD i 0))
section
variable {B : Nat} {w w' : World} {d m : Nat} {V V' : ByteArray → Value} {S T : St} {g : Nat} {nm : ByteArray} {most : Nat} {sv rv sv' rv' : Value} {P P' : Nat → Prop} {L L' : Lg}
theorem Lo.addQ {w4 w5 : World} {Q : Lg → Prop} (h : Lo Q B w4 d m V S g nm most sv rv P L) (v5 : Value) (hg : w4.grownBy w5 rv.ownBlock) (hv : v5.ownBlock = rv.ownBlock ∨ v5.ownBlock = some w4.heap.size)
    (M : List (List Int)) (hrc : OwnP w5 P' v5 M) (hP : ∀ x, P' x → P x ∨ (¬ Mu d m V S.fs g rv x ∧ x < w4.heap.size)) (z : Nat) (hwf : Q ⟨L.st, M, z, L.sf, L.gn⟩) :
    Lo Q B ((w5.setCell ⟨g, 4, none⟩ v5).setCell ⟨g, 5, none⟩ (.int .i64 (z : Int))) d m V S g nm most sv v5 P' ⟨L.st, M, z, L.sf, L.gn⟩ := by
  have hsz : w4.heap.size ≤ w5.heap.size := hg.size
  have k1 : Keep (fun x => rv.ownBlock = some x) w4 w5 := Keep.grown hg (fun k e => e)
  have k2 : Keep (fun x => x = g) w5 ((w5.setCell ⟨g, 4, none⟩ v5).setCell ⟨g, 5, none⟩ (.int .i64 (z : Int))) := (Keep.set (fun x => x = g) _ ⟨g, 4, none⟩ _ rfl).tr (Keep.set (fun x => x = g) _ ⟨g, 5, none⟩ _ rfl)
  have kk : Keep (fun x => rv.ownBlock = some x ∨ x = g) w4 ((w5.setCell ⟨g, 4, none⟩ v5).setCell ⟨g, 5, none⟩ (.int .i64 (z : Int))) := (k1.wide (fun i _ e => .inl e)).tr (k2.wide (fun i _ e => .inr e))
  have hb5 : w5.heap[g]? = some (.cells (lcs d nm most sv rv L) 77 (0, 0)) := (k1.block g h.glt (fun e => h.rg e rfl)).trans h.blk
  have hb1 := block_set (w5.setCell ⟨g, 4, none⟩ v5) g 5 (.int .i64 (z : Int)) _ _ _ (block_set w5 g 4 v5 _ _ _ hb5)
  have fr : ∀ x, v5.ownBlock = some x → rv.ownBlock = some x ∨ w4.heap.size ≤ x := fun x e => by
    rcases hv with h1 | h1
    · rw [h1] at e; exact .inl e
    · rw [h1] at e; injection e with e; exact .inr (by omega)
  have nf : ∀ x, Mu d m V S.fs g v5 x → Mu d m V S.fs g rv x ∨ w4.heap.size ≤ x := fun x e => by
    rcases e with e | e | e
    · exact .inl (.inl e)
    · exact .inl (.inr (.inl e))
    · exact (fr x e).imp (fun e => .inr (.inr e)) id
  refine ⟨h.dk.keep kk (fun k hk e => ?_), ?_, h.st.same (fun k e => kk.block k (h.st.lt k e) (fun e1 => h.sM h.st e (e1.elim (fun e => .inr (.inr e)) (fun e => .inr (.inl e))))), hrc.keep k2 (fun x hx e => ?_) (fun x e e1 => ?_), fun x hx => ⟨fun e => ?_, ?_⟩, hwf, h.cf, fun x hx => ?_, h.tb.keep kk (fun x e => Nat.le_trans h.gl (h.from_ x (e.elim (fun e => .inr (.inr e)) (fun e => .inr (.inl e))))), h.gl, Nat.le_trans h.bw kk.size⟩
  · rcases e with e | e
    · exact h.rd e hk
    · exact h.gd (e ▸ hk)
  · rw [hb1]; rfl
  · rcases hP x hx with h1 | h1
    · exact (h.far x h1).1 (.inr (.inl e))
    · exact h1.1 (.inr (.inl e))
  · obtain ⟨c, e2⟩ := hrc.is e
    exact cells_ne e2 hb5 (by decide) e1
  · rcases nf x e with e | e
    · rcases hP x hx with h1 | h1
      · exact (h.far x h1).1 e
      · exact h1.1 e
    · rcases hP x hx with h1 | h1
      · have := (h.far x h1).2; omega
      · omega
  · have := kk.size
    rcases hP x hx with h1 | h1
    · have := (h.far x h1).2; omega
    · omega
  · rcases nf x hx with e | e
    · exact h.from_ x e
    · exact Nat.le_trans h.bw e
theorem OwnR.ownP {w : World} {B : Nat} {v : Value} {L : List (List Int)} (h : OwnR w B v L) (hr : ∀ l ∈ L, Rng l) : OwnP w (fun x => B ≤ x ∧ x < w.heap.size) v L ∧ ∀ x, v.ownBlock = some x → B ≤ x := by
  obtain ⟨cs, h1, h2, h3⟩ := h
  refine ⟨⟨cs, ⟨h1.1, ?_⟩, h2, fun i hi => ?_⟩, fun x e => (World.ownsRow.lt h1 x e).1⟩
  · rcases h1.2 with h0 | ⟨g, cap, cur, hv, hg, r⟩
    · exact .inl h0
    · exact .inr ⟨g, cap, cur, hv, Nat.zero_le _, r⟩
  · obtain ⟨A, C, e, o⟩ := h3 i hi
    refine ⟨A, C, e, o.byt (hr _ (g0_mem L i hi)), fun e => by subst e; exact Own.capz o rfl, fun x e => by subst e; exact o.lt x.block rfl⟩
set_option maxHeartbeats 2000000 in
theorem fits_any {Q : Lg → Prop} (h : Lo Q B w d m V S g nm most sv rv P L) (hn : ∀ n ∈ L.st, n ≤ 1000) (hup : L.st.Pairwise (· < ·)) (i cnt : Nat) (hi : i < L.st.length) (hl : L.st.length ≤ 1002) (hc : cnt ≤ 100000) (more : Bool) :
    Calls Tryz.prog 107 #[ptr g, .int .i64 (i : Int), .int .u64 (cnt : Int), .bool more] w fun e w' => e = .returned (.bool (fitB L.st i cnt more)) ∧ Below w.heap.size w w' := by
  have c3 := h.c3
  obtain ⟨A, c, hsv, hu, hcp, hz, hx⟩ := h.st.form
  obtain ⟨b, off, rfl, x0⟩ := hu i hi
  rw [hsv] at c3
  have v0 := hn _ (getD_mem L.st i hi)
  obtain ⟨q, hq⟩ : ∃ q, L.st.length = q := ⟨_, rfl⟩
  have CX := Lib.hid (fun (hlt : i + 1 < q) => (hu (i + 1) (by omega)))
  have UP := Lib.hid (fun (hlt : i + 1 < q) => up_at hup i (by omega))
  have V1 := Lib.hid (fun (hlt : i + 1 < q) => hn _ (getD_mem L.st (i + 1) (by omega)))
  have FB : Hid (fitB L.st i cnt more = if i + 1 = q then true else (!more && decide (cnt = L.st.getD (i + 1) 0 - L.st.getD i 0))) := Lib.hid (by unfold fitB; rw [hq])
  rw [hq] at c3 hcp hi hl
  obtain ⟨a, ha⟩ : ∃ a, L.st.getD i 0 = a := ⟨_, rfl⟩
  rw [ha] at x0 v0 UP FB
  have ci0 : (0 : Int) ≤ (i : Int) := by omega
  have ci1 : (i : Int) < (q : Int) := by omega
  have cic : (i : Int) ≤ (c : Int) := by omega
  clear h hsv hu hz hx hn hup hq ha
  by_cases cl : i + 1 = q
  · have cl' : ((i : Int) + 1 = (q : Int)) := by omega
    have ws : IntKind.u64.wrap (18446744073709551615 - (a : Int)) = 18446744073709551615 - (a : Int) := by rw [IntKind.wrap_u64]; omega
    have le : ((cnt : Int) ≤ 18446744073709551615 - (a : Int)) := by omega
    have FB' : Hid (fitB L.st i cnt more = true) := Lib.hid (by rw [FB.out, if_pos cl])
    clear FB CX UP V1
    go_enter Tryz.func107, Tryz.ntmps107
    go_wp2_with fail
    go_ret
    exact ⟨by rw [FB'.out]; rfl, Below.refl _ _⟩
  · have cl' : ¬ ((i : Int) + 1 = (q : Int)) := by omega
    have cn1 : (i : Int) + 1 < (q : Int) := by omega
    have cnc : (i : Int) + 1 ≤ (c : Int) := by omega
    have cn0 : (0 : Int) ≤ (i : Int) + 1 := by omega
    obtain ⟨b', off', e, x1⟩ := CX.out (by omega)
    injection e with e
    cases e
    have u1 := UP.out (by omega)
    have v1 := V1.out (by omega)
    obtain ⟨a1, ha1⟩ : ∃ a1, L.st.getD (i + 1) 0 = a1 := ⟨_, rfl⟩
    rw [ha1] at x1 u1 v1 FB
    have x1' : w.cell? ⟨b, off + (i + 1), none⟩ = some (.int .u64 (a1 : Int)) := x1
    have ws : IntKind.u64.wrap ((a1 : Int) - (a : Int)) = (a1 : Int) - (a : Int) := by rw [IntKind.wrap_u64]; omega
    have FB' : Hid (fitB L.st i cnt more = (!more && decide (cnt = a1 - a))) := Lib.hid (by rw [FB.out, if_neg cl])
    have nt : ((i : Int) + 1).toNat = i + 1 := by omega
    clear FB CX UP V1 ha1 x1
    cases more
    · by_cases ce : cnt = a1 - a
      · have ce' : ((cnt : Int) = (a1 : Int) - (a : Int)) := by omega
        have FB2 : Hid (fitB L.st i cnt false = true) := Lib.hid (by rw [FB'.out, decide_eq_true ce]; rfl)
        clear FB' ce
        go_enter Tryz.func107, Tryz.ntmps107
        go_wp2_with fail
        go_ret
        exact ⟨by rw [FB2.out]; rfl, Below.refl _ _⟩
      · have ce' : ¬ ((cnt : Int) = (a1 : Int) - (a : Int)) := by omega
        have ce2 : ((cnt : Int) == (a1 : Int) - (a : Int)) = false := by simpa using ce'
        have FB2 : Hid (fitB L.st i cnt false = false) := Lib.hid (by rw [FB'.out, decide_eq_false ce]; rfl)
        clear FB' ce
        go_enter Tryz.func107, Tryz.ntmps107
        go_wp2_with fail
        go_ret
        exact ⟨by rw [FB2.out]; rfl, Below.refl _ _⟩
    · have FB2 : Hid (fitB L.st i cnt true = false) := Lib.hid (by rw [FB'.out]; rfl)
      clear FB'
      go_enter Tryz.func107, Tryz.ntmps107
      go_wp2_with fail
      go_ret
      exact ⟨by rw [FB2.out]; rfl, Below.refl _ _⟩
theorem old_some {S : St} {s : ByteArray} {f : Fl} (hf : fnd S.fs s = some f) : old S s = f := by unfold old; rw [hf]; rfl
theorem old_none {S : St} {s : ByteArray} (hf : fnd S.fs s = none) : old S s = ⟨s, [], 0⟩ := by unfold old; rw [hf]; rfl
theorem read_o {w : World} {d m : Nat} {V : ByteArray → Value} {S : St} (h : Dk w d m V S) (s : ByteArray) (hs : s.size ≤ maxLen) (hu : S.up = true) :
    Calls Tryz.prog 65 #[ptr d, .string s] w fun e w' => ∃ (A : Option Addr) (c e0 : Nat), (e0 = 0 ∨ e0 = 8) ∧ e = .returned (.tuple #[.slice A (old S s).bs.length c, .int .i64 (e0 : Int)]) ∧ Own w' w.heap.size (.slice A (old S s).bs.length c) (old S s).bs ∧ Below w.heap.size w w' := by
  cases hf : fnd S.fs s with
  | none =>
    rw [old_none hf]
    refine (read_none h s hs hu hf).mono ?_
    rintro e w1 ⟨rfl, hb⟩
    exact ⟨none, 0, 8, .inr rfl, rfl, Own.nil _ _, hb⟩
  | some f =>
    rw [old_some hf]
    refine (read_some h s hs hu f hf).mono ?_
    rintro e w1 ⟨A, c, rfl, ho, hb⟩
    exact ⟨A, c, 0, .inl rfl, rfl, ho, hb⟩
set_option maxHeartbeats 1000000 in
theorem safe_none {w : World} {d m : Nat} {V : ByteArray → Value} {S : St} (h : Dk w d m V S) (s : ByteArray) (hs : s.size ≤ maxLen) (hf : fnd S.fs s = none) :
    Calls Tryz.prog 109 #[ptr d, .string s] w fun e w' => e = .returned (.int .i64 0) ∧ w = w' := by
  have c1 := h.c1
  have L1 := h.mp.look1 hs
  rw [tell_none hf] at L1
  unfold zf at L1
  simp only [Option.getD_none] at L1
  have hfs := field_safe (.slice none 0 0) 0
  clear h hf
  go_enter Tryz.func109, Tryz.ntmps109
  go_wp2
  go_ret
  exact ⟨rfl, rfl⟩
theorem safe_o {w : World} {d m : Nat} {V : ByteArray → Value} {S : St} (h : Dk w d m V S) (s : ByteArray) (hs : s.size ≤ maxLen) :
    Calls Tryz.prog 109 #[ptr d, .string s] w fun e w' => e = .returned (.int .i64 ((old S s).sf : Int)) ∧ w = w' := by
  cases hf : fnd S.fs s with
  | none => rw [old_none hf]; exact safe_none h s hs hf
  | some f => rw [old_some hf]; exact safe_any h s f hf hs
end
end Go.Proofs.YtcodihgjfhoepaaGreatDoor
